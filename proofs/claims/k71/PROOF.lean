import PyProof.Rows.All
import Wide.All
import OpenK.AllK
import Wide.FinOn
import Lean
import PyProof.EqAt
import PyProof.EqKinds
import PyProof.TupleCall
import PySem.Challenge.RW_feastwheel_k71_dates_as_texts
set_option Elab.async false
set_option linter.all false
set_option maxRecDepth 100000
namespace L2
open PySem PySem.Spec PyProof.Rows

/-- a key: an int or a str -/
abbrev Key := Sum Int Str
def keyIs : Key → Value → Bool
  | .inl k, v => Value.isInt k v
  | .inr x, v => Value.isStrOf x v
def keyH (w : World) : Key → Int
  | .inl k => hashInt k
  | .inr x => hashStr w x
theorem keyIs_shape : ∀ {k : Key} {v : Value}, keyIs k v = true → (∃ i t, k = Sum.inl i ∧ v = Value.int i t) ∨ (∃ x t, k = Sum.inr x ∧ v = Value.str x t)
  | .inl i, v, h => by
    obtain ⟨t, e⟩ := Value.isInt_shape (k := i) (v := v) h
    exact .inl ⟨i, t, rfl, e⟩
  | .inr x, v, h => by
    obtain ⟨t, e⟩ := Value.isStrOf_shape (x := x) (v := v) h
    exact .inr ⟨x, t, rfl, e⟩
theorem key_ll (a b : Int) : decide ((Sum.inl a : Key) = Sum.inl b) = (a == b) := by
  by_cases e : a = b
  · subst e; simp
  · have h : ¬ (Sum.inl a : Key) = Sum.inl b := fun q => e (Sum.inl.inj q)
    rw [decide_eq_false h]
    exact (beq_eq_false_iff_ne.mpr e).symm
theorem key_rr (a b : Str) : decide ((Sum.inr a : Key) = Sum.inr b) = decide (a = b) := by
  by_cases e : a = b
  · subst e; simp
  · have h : ¬ (Sum.inr a : Key) = Sum.inr b := fun q => e (Sum.inr.inj q)
    rw [decide_eq_false h, decide_eq_false e]
theorem key_lr (a : Int) (b : Str) : decide ((Sum.inl a : Key) = Sum.inr b) = false := decide_eq_false (fun q => nomatch q)
theorem key_rl (a : Str) (b : Int) : decide ((Sum.inr a : Key) = Sum.inl b) = false := decide_eq_false (fun q => nomatch q)

def mixKind (prog : Program) (w : World) : PySem.KeyKind prog w Key where
  is := keyIs
  hash := keyH w
  inj := fun v a b ha hb => by
    rcases keyIs_shape ha with ⟨i, t, rfl, rfl⟩ | ⟨x, t, rfl, rfl⟩
    · rcases keyIs_shape hb with ⟨j, u, rfl, e⟩ | ⟨y, u, rfl, e⟩
      · injection e with e1 _; rw [e1]
      · exact nomatch e
    · rcases keyIs_shape hb with ⟨j, u, rfl, e⟩ | ⟨y, u, rfl, e⟩
      · exact nomatch e
      · injection e with e1 _; rw [e1]
  byValue := fun k v h => by
    rcases keyIs_shape h with ⟨i, t, rfl, rfl⟩ | ⟨x, t, rfl, rfl⟩ <;> rfl
  pyHash := fun hv h => by
    rcases keyIs_shape hv with ⟨i, t, rfl, rfl⟩ | ⟨x, t, rfl, rfl⟩
    · exact wpAny_pyHash_int h
    · exact wpAny_pyHash_str h
  eqBool := fun hu hv h => by
    rcases keyIs_shape hu with ⟨i, t, rfl, rfl⟩ | ⟨x, t, rfl, rfl⟩
    · rcases keyIs_shape hv with ⟨j, u, rfl, rfl⟩ | ⟨y, u, rfl, rfl⟩
      · rw [key_ll] at h; exact wpAny_eqBool_int h
      · rw [key_lr] at h; exact SeqAt.EqAt.int_str i t y u _ _ _ _ h
    · rcases keyIs_shape hv with ⟨j, u, rfl, rfl⟩ | ⟨y, u, rfl, rfl⟩
      · rw [key_rl] at h; exact SeqAt.EqAt.str_int x t j u _ _ _ _ h
      · rw [key_rr] at h; exact wpAny_eqBool_str h
  «strs» := fun k x t v h => by
    rcases keyIs_shape h with ⟨i, u, rfl, e⟩ | ⟨y, u, rfl, e⟩
    · exact nomatch e
    · injection e with e1 _
      subst e1
      cases v <;> rfl

end L2

namespace L2
open PySem PySem.Spec PyProof.Rows

/-- a value, without the heap -/
inductive V where
  | non | bl (b : Bool) | int (i : Int) | str (x : Str) | byt (b : Array UInt8) | flt (b : UInt64) | ref (a : Addr) | ty (n : String)
  deriving DecidableEq

def RelV : V → Value → Prop
  | .non, u => u = Value.none
  | .bl b, u => u = Value.bool b
  | .int i, u => ∃ t, u = Value.int i t
  | .str x, u => ∃ t, u = Value.str x t
  | .byt b, u => ∃ t, u = Value.bytes b t
  | .flt b, u => ∃ t, u = Value.float b t
  | .ref a, u => u = Value.ref a
  | .ty n, u => u = Value.type n

abbrev Vals : List V → List Value → Prop := Paired RelV
theorem Vals.length {xs : List V} {us : List Value} (r : Vals xs us) : xs.length = us.length := Paired.length r
theorem Vals.get : ∀ {xs : List V} {us : List Value} {i : Nat} {x : V}, Vals xs us → xs[i]? = some x → ∃ u, us[i]? = some u ∧ RelV x u
  | _, _, _, _, .nil, e => by simp at e
  | _, _, 0, _, .cons r _, e => by simp at e; subst e; exact ⟨_, rfl, r⟩
  | _, _, i + 1, x, .cons _ t, e => by
    obtain ⟨u, h1, h2⟩ := Vals.get (i := i) (x := x) t (by simpa using e)
    exact ⟨u, by simpa using h1, h2⟩
theorem Vals.set {x : V} {u : Value} (r : RelV x u) : ∀ {xs : List V} {us : List Value} (i : Nat), Vals xs us → Vals (xs.set i x) (us.set i u)
  | _, _, _, .nil => .nil
  | _, _, 0, .cons _ t => .cons r t
  | _, _, i + 1, .cons q t => .cons q (Vals.set r i t)
theorem Vals.append : ∀ {xs ys : List V} {us ws : List Value}, Vals xs us → Vals ys ws → Vals (xs ++ ys) (us ++ ws)
  | _, _, _, _, .nil, s => s
  | _, _, _, _, .cons r t, s => .cons r (Vals.append t s)
theorem Vals.take : ∀ {xs : List V} {us : List Value} (n : Nat), Vals xs us → Vals (xs.take n) (us.take n)
  | _, _, 0, _ => .nil
  | _, _, _ + 1, .nil => .nil
  | _, _, n + 1, .cons r t => .cons r (Vals.take n t)
theorem Vals.drop : ∀ {xs : List V} {us : List Value} (n : Nat), Vals xs us → Vals (xs.drop n) (us.drop n)
  | _, _, 0, r => r
  | _, _, _ + 1, .nil => .nil
  | _, _, n + 1, .cons _ t => Vals.drop n t
def RelO : Option V → Option Value → Prop
  | some v, some u => RelV v u
  | none, none => True
  | _, _ => False
def KV {κ : Type} : List (κ × V) → List (κ × Value) → Prop := Paired fun (p : κ × V) (q : κ × Value) => p.1 = q.1 ∧ RelV p.2 q.2

/-- a key of a dict (00_mix): an int or a text -/
def kV : Key → V
  | .inl i => .int i
  | .inr x => .str x

/-- what stands at a tracked address -/
inductive HO where
  /-- a list -/
  | lst (xs : List V)
  /-- a tuple (never changes) -/
  | tup (xs : List V)
  /-- a dict whose keys are ints and texts; one whose keys are tuples of ints and texts (the empty one is both) -/
  | dK (kvs : List (Key × V)) | dT (kvs : List (List Key × V))
  /-- a set of ints: its members, its size -/
  | set (S : Int → Bool) (n : Nat)
  /-- an instance of the class at C, its dict at dx, its attributes -/
  | ins (C dx : Addr) (fs : List (Str × V))
  /-- the dict of the instance at x -/
  | own (x : Addr)
  /-- the dict of an exception -/
  | xd (fs : List (Str × V))
  /-- a bound method, f of x -/
  | met (f x : Addr)
  /-- a range object lo, lo + 1, .. below hi -/
  | rng (lo hi : Int)
  /-- a thing that is known to the object (the script; a dict while a loop walks it): read, never written while it is so -/
  | frz (o : Obj) (u : HO)
  /-- a code object's table -/
  | tbl (ps : Array Value)
  /-- any other thing, by what is true of its one object (a def of one's own: SetO a S n := HO.ext fun h => ..) -/
  | ext (φ : Heap → Prop)

abbrev Hp := Addr → Option HO
def upd (H : Hp) (a : Addr) (o : HO) : Hp := fun b => if b = a then some o else H b
theorem upd_same {H : Hp} {a : Addr} {o : HO} : upd H a o a = some o := by unfold upd; rw [if_pos rfl]
theorem upd_ne {H : Hp} {a b : Addr} {o : HO} (h : b ≠ a) : upd H a o b = H b := by unfold upd; rw [if_neg h]
theorem upd_upd {H : Hp} {a : Addr} {o u : HO} : upd (upd H a o) a u = upd H a u := by
  funext b; unfold upd; split <;> rfl
theorem ne_of_none {H : Hp} {a b : Addr} {o : HO} (h : H a = some o) (h' : H b = none) : a ≠ b := by
  intro e; subst e; rw [h] at h'; cases h'

section
variable (P : Program) (w : World)
def ObjOk (H : Hp) (h : Heap) (a : Addr) : HO → Prop
  | .lst xs => xs.length ≤ sizeLine ∧ ∃ (its : List Value) (n : Nat), Vals xs its ∧ h.get? a = some { cls := .type "list", data := .seq its.toArray n }
  | .tup xs => xs.length ≤ sizeLine ∧ ∃ its : List Value, Vals xs its ∧ IsTup h a its.toArray
  | .dK kvs => kvs.length ≤ sizeLine ∧ (a == sysModules) = false ∧ ∃ vs, KV kvs vs ∧ h.DictOf (mixKind P w) a vs
  | .dT kvs => kvs.length ≤ sizeLine ∧ (a == sysModules) = false ∧ ∃ xs : List (List Key × Addr × Value),
      Paired (fun (p : List Key × V) (q : List Key × Addr × Value) => p.1 = q.1 ∧ H q.2.1 = some (.tup (p.1.map kV)) ∧ RelV p.2 q.2.2) kvs xs ∧
      ∃ o es ep, h.get? a = some o ∧ o.ExactDict ∧ o.data = .dict es ep ∧ es.toList = xs.map (entryOfKey (tupleKind (mixKind P w))) ∧ (xs.map (·.1)).Nodup
  | .set S n => h.SetOf (intKind P w) a S n
  | .ins C dx fs => H dx = some (.own a) ∧ fs.length ≤ 1000 ∧ dx ≠ a ∧ h.get? a = some (PySem.W.instObj C dx) ∧
      ∃ mA, h.Ns1 dx mA ∧ (∀ f, RelO (fs.lookup f) (mA f)) ∧ PySem.Within mA (fs.map (·.1))
  | .own _ => ∃ o, h.get? a = some o
  | .xd fs => ∃ mA, h.Ns1 a mA ∧ ∀ f, RelO (fs.lookup f) (mA f)
  | .rng lo hi => ∃ t u v, h.get? a = some { cls := .type "range", data := .fields #[.int lo t, .int hi u, .int 1 v] }
  | .frz o u => h.get? a = some o ∧ ObjOk H h a u
  | .tbl ps => h.get? a = some { cls := .none, data := .fields ps }
  | .met f x => h.get? a = some (PySem.W.methodObj (.ref f) (.ref x))
  | .ext φ => φ h ∧ (∃ o, h.get? a = some o) ∧ ∀ h1 h2 : Heap, φ h1 → (∀ o, h1.get? a = some o → h2.get? a = some o) → φ h2
/-- the abstract heap is held -/
def HOk (H : Hp) (h : Heap) : Prop := ∀ a o, H a = some o → ObjOk P w H h a o
end

section
variable {P : Program} {w : World} {H H' : Hp} {h h' : Heap} {a : Addr} {o : HO}
theorem ObjOk.lt (x : ObjOk P w H h a o) : a < h.objs.size := by
  cases o with
  | lst xs => obtain ⟨_, _, _, _, e⟩ := x; exact Heap.lt_size e
  | tup xs => obtain ⟨_, _, _, p⟩ := x; exact p.lt
  | dK kvs => obtain ⟨_, _, _, _, o, _, _, e, _⟩ := x; exact Heap.lt_size e
  | dT kvs => obtain ⟨_, _, _, _, o, _, _, e, _⟩ := x; exact Heap.lt_size e
  | set S n => obtain ⟨o, _, _, _, e, _⟩ := x; exact Heap.lt_size e
  | ins C dx fs => obtain ⟨_, _, _, e, _⟩ := x; exact Heap.lt_size e
  | own y => obtain ⟨_, e⟩ := x; exact Heap.lt_size e
  | xd fs => obtain ⟨_, ⟨_, _, _, e, _⟩, _⟩ := x; exact Heap.lt_size e
  | rng lo hi => obtain ⟨_, _, _, e⟩ := x; exact Heap.lt_size e
  | frz ob u => obtain ⟨e, _⟩ := x; exact Heap.lt_size e
  | tbl ps => exact Heap.lt_size (show h.get? a = some _ from x)
  | met f y => exact Heap.lt_size (show h.get? a = some _ from x)
  | ext φ => obtain ⟨_, ⟨_, e⟩, _⟩ := x; exact Heap.lt_size e
theorem Paired.mapP {α β : Type} {F G : α → β → Prop} : ∀ {l₁ : List α} {l₂ : List β}, Paired F l₁ l₂ → (∀ a b, F a b → G a b) → Paired G l₁ l₂
  | _, _, .nil, _ => .nil
  | _, _, .cons r t, f => .cons (f _ _ r) (Paired.mapP t f)
/-- what an object's description leans on: its own object, its own dict, the tuples -/
theorem ObjOk.stay (x : ObjOk P w H h a o) (k : ∀ b u, (b = a ∨ H b = some (.own a)) → h.get? b = some u → h'.get? b = some u)
    (ho : ∀ b, H b = some (.own a) → H' b = some (.own a)) (ht : ∀ b xs, H b = some (.tup xs) → H' b = some (.tup xs)) : ObjOk P w H' h' a o := by
  induction o with
  | lst xs => obtain ⟨z, its, n, r, e⟩ := x; exact ⟨z, its, n, r, k _ _ (.inl rfl) e⟩
  | tup xs => obtain ⟨z, its, r, ob, e, c⟩ := x; exact ⟨z, its, r, ob, k _ _ (.inl rfl) e, c⟩
  | dK kvs => obtain ⟨z, y, vs, r, ob, es, ep, e, c⟩ := x; exact ⟨z, y, vs, r, ob, es, ep, k _ _ (.inl rfl) e, c⟩
  | dT kvs =>
    obtain ⟨z, y, xs, r, ob, es, ep, e, c⟩ := x
    exact ⟨z, y, xs, Paired.mapP r fun p q z => ⟨z.1, ht _ _ z.2.1, z.2.2⟩, ob, es, ep, k _ _ (.inl rfl) e, c⟩
  | set S n => obtain ⟨ob, es, ep, t, e, c⟩ := x; exact ⟨ob, es, ep, t, k _ _ (.inl rfl) e, c⟩
  | ins C dx fs =>
    obtain ⟨d, z, ne, e, mA, ⟨od, es, ep, e2, c⟩, r⟩ := x
    exact ⟨ho _ d, z, ne, k _ _ (.inl rfl) e, mA, ⟨od, es, ep, k _ _ (.inr d) e2, c⟩, r⟩
  | own y => obtain ⟨ob, e⟩ := x; exact ⟨ob, k _ _ (.inl rfl) e⟩
  | xd fs => obtain ⟨mA, ⟨od, es, ep, e, c⟩, r⟩ := x; exact ⟨mA, ⟨od, es, ep, k _ _ (.inl rfl) e, c⟩, r⟩
  | rng lo hi => obtain ⟨t, u, v, e⟩ := x; exact ⟨t, u, v, k _ _ (.inl rfl) e⟩
  | frz ob u ih => obtain ⟨e, q⟩ := x; exact ⟨k _ _ (.inl rfl) e, ih q⟩
  | tbl ps =>
    have e : h.get? a = some { cls := .none, data := .fields ps } := x
    show h'.get? a = some { cls := .none, data := .fields ps }
    exact k a _ (.inl rfl) e
  | met f y =>
    have e : h.get? a = some (PySem.W.methodObj (.ref f) (.ref y)) := x
    show h'.get? a = some (PySem.W.methodObj (.ref f) (.ref y))
    exact k a _ (.inl rfl) e
  | ext φ => obtain ⟨p, ⟨o, e⟩, st⟩ := x; exact ⟨st _ _ p fun o q => k _ _ (.inl rfl) q, ⟨o, k _ _ (.inl rfl) e⟩, st⟩
theorem HOk.lt (x : HOk P w H h) (e : H a = some o) : a < h.objs.size := (x a o e).lt
theorem HOk.fresh (x : HOk P w H h) (e : h.objs.size ≤ a) : H a = none := by
  cases q : H a with
  | none => rfl
  | some u => exact absurd (Nat.lt_of_lt_of_le (x.lt q) e) (Nat.lt_irrefl _)
/-- every object of the heap is kept -/
theorem HOk.kept (x : HOk P w H h) (k : ∀ b u, h.get? b = some u → h'.get? b = some u) : HOk P w H h' := fun a o e =>
  (x a o e).stay (fun b u _ q => k b u q) (fun _ q => q) fun _ _ q => q
/-- a new object is laid and tracked -/
theorem HOk.laid (x : HOk P w H h) (k : ∀ b u, h.get? b = some u → h'.get? b = some u) (hp : h.objs.size ≤ a) (new : ObjOk P w (upd H a o) h' a o) : HOk P w (upd H a o) h' := fun b u e => by
  have hn := x.fresh hp
  by_cases hb : b = a
  · subst hb; rw [upd_same] at e; cases e; exact new
  · rw [upd_ne hb] at e
    exact (x b u e).stay (fun c v _ q => k c v q) (fun c q => by rw [upd_ne (ne_of_none q hn)]; exact q) fun c xs q => by rw [upd_ne (ne_of_none q hn)]; exact q
end

/-- what may be read as u: it is u, or a known u -/
def Rd (H : Hp) (a : Addr) (u : HO) : Prop := H a = some u ∨ ∃ o, H a = some (.frz o u)
theorem Rd.of {H : Hp} {a : Addr} {u : HO} (h : H a = some u) : Rd H a u := .inl h
theorem Rd.ok {P : Program} {w : World} {H : Hp} {h : Heap} {a : Addr} {u : HO} (r : Rd H a u) (x : HOk P w H h) : ObjOk P w H h a u := by
  rcases r with r | ⟨o, r⟩
  · exact x a u r
  · obtain ⟨_, q⟩ := x a _ r
    exact q
/-- what may be written -/
def Mut : Option HO → Prop
  | some (.lst _) => True
  | some (.dK _) => True
  | some (.dT _) => True
  | some (.set _ _) => True
  | some (.ins _ _ _) => True
  | some (.ext _) => True
  | _ => False
section
variable {P : Program} {w : World} {H : Hp} {h h' : Heap} {x e : Addr} {o' : HO}
/-- the object at e is changed: x itself, or the dict of the instance x -/
theorem HOk.write (ok : HOk P w H h) (mu : Mut (H x)) (he : e = x ∨ H e = some (.own x)) (k : ∀ b u, b ≠ e → h.get? b = some u → h'.get? b = some u) (heo : ∃ u, h'.get? e = some u)
    (new : ObjOk P w (upd H x o') h' x o') : HOk P w (upd H x o') h' := fun b u q => by
  have nown : ∀ c y, H c = some (.own y) → c ≠ x := fun c y r z => by subst z; rw [r] at mu; exact mu
  have ntup : ∀ c xs, H c = some (.tup xs) → c ≠ x := fun c xs r z => by subst z; rw [r] at mu; exact mu
  by_cases hb : b = x
  · subst hb; rw [upd_same] at q; cases q; exact new
  · rw [upd_ne hb] at q
    by_cases hbe : b = e
    · have q' : H b = some (.own x) := by
        rcases he with z | z
        · exact absurd (hbe.trans z) hb
        · rw [hbe]; exact z
      rw [q] at q'; cases q'
      obtain ⟨v, hv⟩ := heo
      exact ⟨v, by rw [hbe]; exact hv⟩
    · refine (ok b u q).stay (fun c v hc r => k c v ?_ r) (fun c r => by rw [upd_ne (nown c b r)]; exact r) fun c xs r => by rw [upd_ne (ntup c xs r)]; exact r
      rcases hc with rfl | hc
      · exact hbe
      · rintro rfl
        rcases he with z | z
        · exact nown c b hc z
        · rw [hc] at z; cases z; exact hb rfl
end

structure Un (fs ex : List Addr) (H H' : Hp) (h h' : Heap) : Prop where
  keep : ∀ b o, h.get? b = some o → H b = none → b ∉ fs → b ∉ ex → h'.get? b = some o
  slot : ∀ b o, h.get? b = some o → H b = none → b ∈ fs → b ∉ ex → ∃ sl, h'.get? b = some { o with slots := sl }
  free : ∀ b o, h.get? b = some o → H b = none → b ∉ ex → H' b = none
  there : ∀ b o, h.get? b = some o → b ∉ ex → ∃ o', h'.get? b = some o'
  tups : ∀ b xs, H b = some (.tup xs) → H' b = some (.tup xs)
  frzs : ∀ b o u, H b = some (.frz o u) → H' b = some (.frz o u)
  tbls : ∀ b ps, H b = some (.tbl ps) → ∃ more, H' b = some (.tbl (ps ++ more))
section
variable {fs fs' ex ex' : List Addr} {H H1 H2 : Hp} {h h1 h2 h' : Heap} {a x e : Addr} {o : HO}
theorem Un.any (u : Un fs ex H H1 h h1) {b : Addr} {ob : Obj} (q : h.get? b = some ob) (n : H b = none) (hx : b ∉ ex) : ∃ sl, h1.get? b = some { ob with slots := sl } := by
  by_cases hb : b ∈ fs
  · exact u.slot b ob q n hb hx
  · exact ⟨ob.slots, u.keep b ob q n hb hx⟩
theorem Un.trans (a : Un fs ex H H1 h h1) (b : Un fs ex H1 H2 h1 h2) : Un fs ex H H2 h h2 where
  keep := fun c ob q n hc hx => b.keep c ob (a.keep c ob q n hc hx) (a.free c ob q n hx) hc hx
  slot := fun c ob q n hc hx => by
    obtain ⟨sl, e1⟩ := a.slot c ob q n hc hx
    obtain ⟨sl', e2⟩ := b.slot c _ e1 (a.free c ob q n hx) hc hx
    exact ⟨sl', e2⟩
  free := fun c ob q n hx => by
    obtain ⟨o', e1⟩ := a.there c ob q hx
    exact b.free c o' e1 (a.free c ob q n hx) hx
  there := fun c ob q hx => by
    obtain ⟨o', e1⟩ := a.there c ob q hx
    exact b.there c o' e1 hx
  tups := fun c xs q => b.tups c xs (a.tups c xs q)
  frzs := fun c ob xs q => b.frzs c ob xs (a.frzs c ob xs q)
  tbls := fun c ps q => by
    obtain ⟨m1, e1⟩ := a.tbls c ps q
    obtain ⟨m2, e2⟩ := b.tbls c _ e1
    exact ⟨m1 ++ m2, by rw [e2, Array.append_assoc]⟩
theorem Un.kept (k : ∀ b u, h.get? b = some u → h'.get? b = some u) : Un fs ex H H h h' :=
  ⟨fun b ob q _ _ _ => k b ob q, fun b ob q _ _ _ => ⟨ob.slots, k b ob q⟩, fun _ _ _ n _ => n, fun b ob q _ => ⟨ob, k b ob q⟩, fun _ _ q => q, fun _ _ _ q => q, fun _ ps q => ⟨#[], by rw [q]; simp⟩⟩
theorem Un.refl : Un fs ex H H h h := Un.kept fun _ _ q => q
theorem Un.laid (k : ∀ b u, h.get? b = some u → h'.get? b = some u) (hp : h.objs.size ≤ a) (hn : H a = none) : Un fs ex H (upd H a o) h h' where
  keep := fun b u q _ _ _ => k b u q
  slot := fun b u q _ _ _ => ⟨u.slots, k b u q⟩
  free := fun b u q n _ => by rw [upd_ne (Nat.ne_of_lt (Nat.lt_of_lt_of_le (Heap.lt_size q) hp))]; exact n
  there := fun b u q _ => ⟨u, k b u q⟩
  tups := fun b xs q => by rw [upd_ne (ne_of_none q hn)]; exact q
  frzs := fun b u xs q => by rw [upd_ne (ne_of_none q hn)]; exact q
  tbls := fun b ps q => ⟨#[], by rw [upd_ne (ne_of_none q hn), q]; simp⟩
theorem Un.write (mu : Mut (H x)) (he : e = x ∨ H e = some (.own x)) (k : ∀ b u, b ≠ e → h.get? b = some u → h'.get? b = some u) (heo : ∃ u, h'.get? e = some u) : Un fs ex H (upd H x o) h h' := by
  have hx : ∀ b, H b = none → b ≠ x := fun b n z => by subst z; rw [n] at mu; exact mu
  have hb : ∀ b, H b = none → b ≠ e := fun b n z => by
    subst z
    rcases he with r | r
    · exact hx b n r
    · rw [n] at r; cases r
  have hm : ∀ b u, H b = some u → ¬ Mut (some u) → b ≠ x := fun b u q nm z => by subst z; rw [q] at mu; exact nm mu
  refine ⟨fun b u q n _ _ => k b u (hb b n) q, fun b u q n _ _ => ⟨u.slots, k b u (hb b n) q⟩, fun b u q n _ => by rw [upd_ne (hx b n)]; exact n, fun b u q _ => ?_,
    fun b xs q => by rw [upd_ne (hm b _ q fun z => z)]; exact q, fun b u xs q => by rw [upd_ne (hm b _ q fun z => z)]; exact q, fun b ps q => ⟨#[], by rw [upd_ne (hm b _ q fun z => z), q]; simp⟩⟩
  by_cases hbe : b = e
  · subst hbe; exact heo
  · exact ⟨u, k b u hbe q⟩
theorem Un.mono (u : Un fs ex H H1 h h1) (hs : ∀ b ∈ fs, b ∈ fs') (hx : ∀ b ∈ ex, b ∈ ex') : Un fs' ex' H H1 h h1 :=
  ⟨fun b ob q n hb he => u.keep b ob q n (fun z => hb (hs b z)) fun z => he (hx b z), fun _ _ q n _ he => u.any q n fun z => he (hx _ z), fun b ob q n he => u.free b ob q n fun z => he (hx b z), fun b ob q he => u.there b ob q fun z => he (hx b z), u.tups, u.frzs, u.tbls⟩
end

def trk (h : Heap) (H : Hp) : List Addr := (List.range h.objs.size).filter fun a => (H a).isSome
def hidT (h : Heap) (H : Hp) : Heap := PySem.W.hideAll h (trk h H)
theorem hidT_size (h : Heap) (H : Hp) : (hidT h H).objs.size = h.objs.size := PySem.W.hideAll_size _ _
theorem hidT_get {h : Heap} {H : Hp} {b : Addr} {o : Obj} (e : h.get? b = some o) (n : H b = none) : (hidT h H).get? b = some o :=
  PySem.W.hideAll_get _ e fun hm => by
    have q : (H b).isSome = true := (List.mem_filter.mp hm).2
    rw [n] at q; simp at q
theorem of_hidT {h : Heap} {H : Hp} {b : Addr} {o : Obj} (e : (hidT h H).get? b = some o) : h.get? b = some o ∧ H b = none := by
  have e' : h.get? b = some o := PySem.W.of_hideAll (trk h H) e
  refine ⟨e', ?_⟩
  cases q : H b with
  | none => rfl
  | some x =>
    have hm : b ∈ trk h H := List.mem_filter.mpr ⟨List.mem_range.mpr (Heap.lt_size e'), by simp [q]⟩
    have z : (hidT h H).get? b = none := PySem.W.hideAll_none (trk h H) hm
    rw [z] at e; cases e

def allNews (g h : Heap) (L : Addr) : List (Addr × Obj) := (List.range h.objs.size).filterMap fun a => if a = L ∨ (g.get? a).isSome = true then none else (h.get? a).map fun o => (a, o)
def rest (g h : Heap) (L d : Addr) : List (Addr × Obj) := (allNews g h L).filter fun p => decide (p.1 ≠ d)
end L2

namespace L2
open PySem PySem.Spec PyProof.Rows

/-- the module's facts, over the base: the heap at the law's entry without what is tracked there -/
structure Mod (K : PySem.W.Frag) (mg : Str → Option Value) (base : Heap) : Prop where
  kin : K.In base
  glob : base.Ns mainGlobals mg
  blt : ∃ mb, base.Ns builtinsNs mb ∧ ∀ x : Str, x ≠ "__name__" → mb x = bootBuiltins x
  nolimit : base.NoLimit

/-- the context: a def's body (or a comprehension's block) running. base: fixed through the whole law; s₀, H₀: the entry; outer: the frames whose slots others may change (a def's callers); stack: all frames that run;
   ex: iterators that were made ahead of the entry and are walked here (a comprehension's); fn: the names whose cells were made at the entry (a def: all; a comprehension's block: its own); calm: not within an except suite; pn: pins that every state bears; xe: what is wanted of an exception that leaves the code -/
structure Cx where
  prog : Program
  w : World
  K : PySem.W.Frag
  mg : Str → Option Value
  base : Heap
  A : Around
  N : List Str
  s₀ : Shared
  H₀ : Hp
  env : Env
  outer : List Env
  stack : List Env
  ex : List Addr
  fn : Str → Bool
  calm : Bool
  pn : List (Addr × Obj)
  xe : Value → Shared → Prop
/-- the callers' frames -/
def frs (l : List Env) : List Addr := l.filterMap (·.frame)
abbrev Cx.fs (X : Cx) : List Addr := frs X.outer

def Vis (sc : Scope) (x : Str) : Prop := sc.names.lookup x = some .local ∨ sc.names.lookup x = some .cell ∨ sc.names.lookup x = some .free
def Loc (sc : Scope) (x : Str) : Prop := sc.names.lookup x = some .local ∨ sc.names.lookup x = some .cell
def Look (env : Env) (h : Heap) (m : Str → Option Value) (x : Str) (u : Value) : Prop :=
  (env.kindOf x = some .local ∧ m x = some u) ∨ ((env.kindOf x = some .cell ∨ env.kindOf x = some .free) ∧ ∃ c, env.cells.lookup x = some c ∧ h.IsCell c (some u))

structure Cx.Ok (X : Cx) : Prop where
  mod : Mod X.K X.mg X.base
  kind : X.env.scope.kind = .function
  glob : X.env.globals = mainGlobals
  blt : X.env.builtins = builtinsNs
  above : X.s₀.heap.objs.size ≤ X.env.locals
  inj : ∀ x y c, X.env.cells.lookup x = some c → X.env.cells.lookup y = some c → x = y
  has : ∀ x, (X.env.kindOf x = some .cell ∨ X.env.kindOf x = some .free) → ∃ c, X.env.cells.lookup x = some c
  cab : ∀ x c, X.fn x = true → X.env.cells.lookup x = some c → X.s₀.heap.objs.size ≤ c
  hd : X.calm = true → X.A.handled = none
  frames : X.A.frames = some X.stack
  stk : X.stack = X.outer ∨ (X.stack = X.env :: X.outer ∧ X.env.frame = some X.env.locals)
  exf : ∀ b ∈ X.ex, b ≠ X.env.locals ∧ ∀ x c, X.env.cells.lookup x = some c → c ≠ b
  bs : ∀ b o, X.base.get? b = some o → X.s₀.heap.get? b = some o ∧ X.H₀ b = none
  bsz : X.base.objs.size ≤ X.s₀.heap.objs.size
  noex : ∀ b o, X.base.get? b = some o → b ∉ X.ex
  exfs : ∀ b ∈ X.ex, b ∉ X.fs
  funs : X.s₀.heap.FunFrames X.base X.outer
  frf : ∀ b ∈ X.fs, X.H₀ b = none

structure Inv (X : Cx) (pins : List (Addr × Obj)) (σ : List (Option V)) (H : Hp) (s : Shared) : Prop where
  ok : X.Ok
  os : s.os = X.s₀.os
  bare : AllBare s.gens
  base : Un X.fs X.ex X.H₀ H X.s₀.heap s.heap
  loc : ∃ m, s.heap.Ns X.env.locals m ∧ ∀ (i : Nat) (x : Str) (v : V), X.N[i]? = some x → σ[i]? = some (some v) → Vis X.env.scope x → ∃ u, RelV v u ∧ Look X.env s.heap m x u
  cell : ∀ x c, X.env.cells.lookup x = some c → ∃ v, s.heap.IsCell c v
  free : H X.env.locals = none
  freeC : ∀ x c, X.env.cells.lookup x = some c → H c = none
  pin : ∀ p ∈ X.pn ++ pins, s.heap.get? p.1 = some p.2 ∧ H p.1 = none ∧ p.1 ≠ X.env.locals ∧ p.1 ∉ X.fs ∧ ∀ v, p.2.data ≠ .cell v
  hok : HOk X.prog X.w H s.heap
  len : σ.length = X.N.length

section
variable {X : Cx} {pins : List (Addr × Obj)} {σ : List (Option V)} {H H' : Hp} {s : Shared} {h' : Heap}

theorem Cx.Ok.nofr (ok : X.Ok) {b : Addr} {o : Obj} (e : X.base.get? b = some o) : b ∉ X.fs := fun hb => by
  have := (ok.funs.mem hb).1
  rw [e] at this; cases this
theorem Inv.bs (I : Inv X pins σ H s) : ∀ b o, X.base.get? b = some o → s.heap.get? b = some o ∧ H b = none := fun b o e =>
  ⟨I.base.keep b o (I.ok.bs b o e).1 (I.ok.bs b o e).2 (I.ok.nofr e) (I.ok.noex b o e), I.base.free b o (I.ok.bs b o e).1 (I.ok.bs b o e).2 (I.ok.noex b o e)⟩
theorem Inv.bk (I : Inv X pins σ H s) : ∀ b o, X.base.get? b = some o → s.heap.get? b = some o := fun b o e => (I.bs b o e).1
theorem Inv.mod (I : Inv X pins σ H s) : Mod X.K X.mg X.base := I.ok.mod
theorem Inv.kIn (I : Inv X pins σ H s) : X.K.In s.heap := I.ok.mod.kin.keeps I.bk
theorem Inv.nolimit (I : Inv X pins σ H s) : s.heap.NoLimit := I.ok.mod.nolimit.keeps I.bk
/-- the frame over the base: for OpenK's rules (K.In X.base is I.mod.kin) -/
theorem Inv.fr (I : Inv X pins σ H s) : ∃ m, Fr X.base X.env.locals s.heap m :=
  let ⟨m, hn, _⟩ := I.loc
  ⟨m, hn, I.bk, Nat.le_trans I.ok.bsz I.ok.above⟩
theorem Inv.lt (I : Inv X pins σ H s) : X.env.locals < s.heap.objs.size := let ⟨_, hn, _⟩ := I.loc; hn.lt
theorem Inv.sz (I : Inv X pins σ H s) : X.s₀.heap.objs.size ≤ s.heap.objs.size := Nat.le_trans I.ok.above (Nat.le_of_lt I.lt)
theorem Inv.nofs (I : Inv X pins σ H s) {a : Addr} (h : s.heap.objs.size ≤ a) : a ∉ X.fs := fun hb => by
  obtain ⟨_, o, ho, _⟩ := I.ok.funs.mem hb
  exact absurd (Nat.lt_of_lt_of_le (Heap.lt_size ho) (Nat.le_trans I.sz h)) (Nat.lt_irrefl _)
theorem Inv.cne (I : Inv X pins σ H s) : ∀ x c, X.env.cells.lookup x = some c → c ≠ X.env.locals := fun x c e z => by
  obtain ⟨v, o, ho, hd⟩ := I.cell x c e
  obtain ⟨m, ⟨o', es, ep, ho', hd', _⟩, _⟩ := I.loc
  rw [z, ho'] at ho; cases ho; rw [hd'] at hd; cases hd
theorem Inv.funs (I : Inv X pins σ H s) : s.heap.FunFrames X.base X.outer := by
  have all : ∀ (l : List Env), (∀ b ∈ frs l, b ∈ X.fs) → X.s₀.heap.FunFrames X.base l → s.heap.FunFrames X.base l := by
    intro l
    induction l with
    | nil => intro _ _; trivial
    | cons env r ih =>
      intro hs hl
      obtain ⟨hk, ⟨L, o, hf, hn, ho, hd⟩, hr⟩ := hl
      have hL : L ∈ X.fs := hs L (by unfold frs; rw [List.filterMap_cons, hf]; exact List.mem_cons_self)
      obtain ⟨sl, e⟩ := I.base.slot L o ho (I.ok.frf L hL) hL fun z => I.ok.exfs L z hL
      exact ⟨hk, ⟨L, _, hf, hn, e, hd⟩, ih (fun b hb => hs b (by unfold frs; rw [List.filterMap_cons, hf]; exact List.mem_cons_of_mem _ hb)) hr⟩
  exact all X.outer (fun _ hb => hb) I.ok.funs

/-- the frames that run, for a call -/
theorem Inv.stack (I : Inv X pins σ H s) : s.heap.FunFrames X.base X.stack := by
  rcases I.ok.stk with e | ⟨e, hf⟩
  · rw [e]; exact I.funs
  · rw [e]
    obtain ⟨m, hn, _⟩ := I.loc
    refine .cons (by rw [I.ok.kind]; decide) hf hn ?_ I.funs
    exact Heap.get?_none_of_le (Nat.le_trans I.ok.bsz I.ok.above)
theorem Inv.stkSub (I : Inv X pins σ H s) : ∀ b ∈ frs X.stack, b ∈ X.env.locals :: X.fs := fun b hb => by
  rcases I.ok.stk with e | ⟨e, hf⟩
  · rw [e] at hb; exact List.mem_cons_of_mem _ hb
  · rw [e] at hb
    unfold frs at hb
    rw [List.filterMap_cons, hf] at hb
    exact hb
theorem Inv.stkFree (I : Inv X pins σ H s) : ∀ b ∈ frs X.stack, H b = none := fun b hb => by
  rcases List.mem_cons.mp (I.stkSub b hb) with e | hb
  · rw [e]; exact I.free
  · obtain ⟨_, o, ho, _⟩ := I.ok.funs.mem hb
    exact I.base.free b o ho (I.ok.frf b hb) fun z => I.ok.exfs b z hb

/-- THE STEP: the untracked objects but the frame and the records at ch are kept (the callers' frames up to slots), the frame's map is kept, the new abstract heap is held -/
theorem Inv.step {g' : Array GenState} {t' : Nat} {d' : Drawn} {ch : List Addr} (I : Inv X pins σ H s)
    (hch : ∀ b ∈ ch, (b ∈ X.ex ∨ X.s₀.heap.objs.size ≤ b) ∧ b ≠ X.env.locals ∧ (∀ x c, X.env.cells.lookup x = some c → c ≠ b) ∧ ∀ p ∈ X.pn ++ pins, p.1 ≠ b)
    (keep : ∀ b o, b ≠ X.env.locals → b ∉ X.fs → b ∉ ch → s.heap.get? b = some o → H b = none → h'.get? b = some o)
    (slot : ∀ b o, b ≠ X.env.locals → b ∈ X.fs → b ∉ ch → s.heap.get? b = some o → H b = none → ∃ sl, h'.get? b = some { o with slots := sl }) (free : ∀ b o, b ∉ ch → s.heap.get? b = some o → H b = none → H' b = none)
    (there : ∀ b o, b ∉ ch → s.heap.get? b = some o → ∃ o', h'.get? b = some o')
    (tups : ∀ b xs, H b = some (.tup xs) → H' b = some (.tup xs)) (frzs : ∀ b o u, H b = some (.frz o u) → H' b = some (.frz o u)) (tbls : ∀ b ps, H b = some (.tbl ps) → ∃ more, H' b = some (.tbl (ps ++ more)))
    (ns : ∀ m, s.heap.Ns X.env.locals m → h'.Ns X.env.locals m) (hok : HOk X.prog X.w H' h') (hg : AllBare g') :
    Inv X pins σ H' { s with heap := h', gens := g', drawn := d', toks := t' } := by
  have neL : ∀ b o, X.s₀.heap.get? b = some o → b ≠ X.env.locals := fun b o e => Nat.ne_of_lt (Nat.lt_of_lt_of_le (Heap.lt_size e) I.ok.above)
  have neC : ∀ b o, X.s₀.heap.get? b = some o → b ∉ X.ex → b ∉ ch := fun b o e hx hb => by
    rcases (hch b hb).1 with z | z
    · exact hx z
    · exact absurd (Nat.lt_of_lt_of_le (Heap.lt_size e) z) (Nat.lt_irrefl _)
  have cellK : ∀ x c, X.env.cells.lookup x = some c → ∀ v, s.heap.IsCell c v → h'.IsCell c v := fun x c e v ⟨o, ho, hd⟩ => by
    have nch : c ∉ ch := fun z => (hch c z).2.2.1 x c e rfl
    by_cases hc : c ∈ X.fs
    · obtain ⟨sl, q⟩ := slot c o (I.cne x c e) hc nch ho (I.freeC x c e)
      exact ⟨_, q, hd⟩
    · exact ⟨o, keep c o (I.cne x c e) hc nch ho (I.freeC x c e), hd⟩
  refine ⟨I.ok, I.os, hg, ⟨fun b o e n hb hx => ?_, fun b o e n hb hx => ?_, fun b o e n hx => ?_, fun b o e hx => ?_, fun b xs e => tups b xs (I.base.tups b xs e), fun b o xs e => frzs b o xs (I.base.frzs b o xs e), fun b ps e => ?_⟩, ?_, fun x c e => ?_, ?_, fun x c e => ?_, fun p hp => ?_, hok, I.len⟩
  · exact keep b o (neL b o e) hb (neC b o e hx) (I.base.keep b o e n hb hx) (I.base.free b o e n hx)
  · obtain ⟨sl, e1⟩ := I.base.slot b o e n hb hx
    obtain ⟨sl', e2⟩ := slot b _ (neL b o e) hb (neC b o e hx) e1 (I.base.free b o e n hx)
    exact ⟨sl', e2⟩
  · obtain ⟨o', e1⟩ := I.base.there b o e hx
    exact free b o' (neC b o e hx) e1 (I.base.free b o e n hx)
  · obtain ⟨o', e1⟩ := I.base.there b o e hx
    exact there b o' (neC b o e hx) e1
  · obtain ⟨m1, e1⟩ := I.base.tbls b ps e
    obtain ⟨m2, e2⟩ := tbls b _ e1
    exact ⟨m1 ++ m2, by rw [e2, Array.append_assoc]⟩
  · obtain ⟨m, hn, hl⟩ := I.loc
    refine ⟨m, ns m hn, fun i x v e1 e2 e3 => ?_⟩
    obtain ⟨u, r, l⟩ := hl i x v e1 e2 e3
    refine ⟨u, r, ?_⟩
    rcases l with l | ⟨k, c, e, z⟩
    · exact .inl l
    · exact .inr ⟨k, c, e, cellK x c e _ z⟩
  · obtain ⟨v, z⟩ := I.cell x c e
    exact ⟨v, cellK x c e v z⟩
  · obtain ⟨m, ⟨o, _, _, ho, _⟩, _⟩ := I.loc
    exact free _ o (fun z => (hch _ z).2.1 rfl) ho I.free
  · obtain ⟨v, o, ho, hd⟩ := I.cell x c e
    exact free c o (fun z => (hch c z).2.2.1 x c e rfl) ho (I.freeC x c e)
  · obtain ⟨e, n, ne, nf, d⟩ := I.pin p hp
    have nch : p.1 ∉ ch := fun z => (hch p.1 z).2.2.2 p hp rfl
    exact ⟨keep p.1 p.2 ne nf nch e n, free p.1 p.2 nch e n, ne, nf, d⟩
/-- .. where the frame's own object is kept too -/
theorem Inv.un {t' : Nat} (I : Inv X pins σ H s) (u : Un X.fs [] H H' s.heap h') (hok : HOk X.prog X.w H' h') : Inv X pins σ H' { s with heap := h', toks := t' } := by
  obtain ⟨m, ⟨o, es, ep, ho, r⟩, _⟩ := id I.loc
  obtain ⟨sl, hL⟩ := u.any ho I.free (by simp)
  exact I.step (g' := s.gens) (d' := s.drawn) (ch := []) (fun _ z => nomatch z) (fun b o _ hb _ e n => u.keep b o e n hb (by simp)) (fun b o _ hb _ e n => u.slot b o e n hb (by simp)) (fun b o _ e n => u.free b o e n (by simp)) (fun b o _ e => u.there b o e (by simp)) u.tups u.frzs u.tbls (fun m' hm => by
    obtain ⟨o', es', ep', ho', r'⟩ := hm
    rw [ho] at ho'; cases ho'
    exact ⟨_, es', ep', hL, r'⟩) hok I.bare
/-- behind a call (or a comprehension's block): the slots of this frame may have changed too, the records at ch may have turned -/
theorem Inv.call {g' : Array GenState} {t' : Nat} {d' : Drawn} {ch : List Addr} (I : Inv X pins σ H s) (u : Un (frs X.stack) ch H H' s.heap h') (hok : HOk X.prog X.w H' h') (hg : AllBare g')
    (hch : ∀ b ∈ ch, (b ∈ X.ex ∨ X.s₀.heap.objs.size ≤ b) ∧ b ≠ X.env.locals ∧ (∀ x c, X.env.cells.lookup x = some c → c ≠ b) ∧ ∀ p ∈ X.pn ++ pins, p.1 ≠ b) :
    Inv X pins σ H' { s with heap := h', gens := g', drawn := d', toks := t' } := by
  obtain ⟨m, ⟨o, es, ep, ho, r⟩, _⟩ := id I.loc
  obtain ⟨sl, hL⟩ := u.any ho I.free fun z => (hch _ z).2.1 rfl
  exact I.step (ch := ch) hch (fun b o hL hb hc e n => u.keep b o e n (fun z => (List.mem_cons.mp (I.stkSub b z)).elim hL hb) hc) (fun b o _ _ hc e n => u.any e n hc) (fun b o hc e n => u.free b o e n hc) (fun b o hc e => u.there b o e hc) u.tups u.frzs u.tbls (fun m' hm => by
    obtain ⟨o', es', ep', ho', r'⟩ := hm
    rw [ho] at ho'; cases ho'
    exact ⟨_, es', ep', hL, r'⟩) hok hg
/-- an untracked record of ours (an iterator) has turned -/
theorem Inv.turned {t' : Nat} {it : Addr} (I : Inv X pins σ H s) (k : ∀ b o, b ≠ it → s.heap.get? b = some o → h'.get? b = some o) (hn : H it = none) (hL : it ≠ X.env.locals)
    (h1 : it ∈ X.ex ∨ X.s₀.heap.objs.size ≤ it) (h2 : ∀ x c, X.env.cells.lookup x = some c → c ≠ it) (h3 : ∀ p ∈ X.pn ++ pins, p.1 ≠ it) : Inv X pins σ H { s with heap := h', toks := t' } := by
  have nit : ∀ b u, H b = some u → b ≠ it := fun b u e z => by rw [z, hn] at e; cases e
  refine I.step (g' := s.gens) (d' := s.drawn) (ch := [it]) (fun b hb => ?_) (fun b o _ _ hc e _ => k b o (fun z => hc (by simp [z])) e) (fun b o _ _ hc e _ => ⟨o.slots, k b o (fun z => hc (by simp [z])) e⟩) (fun _ _ _ _ n => n)
    (fun b o hc e => ⟨o, k b o (fun z => hc (by simp [z])) e⟩) (fun _ _ e => e) (fun _ _ _ e => e) (fun b ps e => ⟨#[], by rw [e]; simp⟩) (fun m hm => ?_) (fun b u e => ?_) I.bare
  · have e : b = it := by simpa using hb
    subst e
    exact ⟨h1, hL, h2, h3⟩
  · obtain ⟨o, es, ep, ho, r⟩ := hm
    exact ⟨o, es, ep, k _ o (Ne.symm hL) ho, r⟩
  · refine (I.hok b u e).stay (fun c v hc q => k c v ?_ q) (fun _ q => q) fun _ _ q => q
    rcases hc with z | z
    · rw [z]; exact nit b u e
    · exact nit c _ z
theorem Inv.tok (I : Inv X pins σ H s) (t : Nat) : Inv X pins σ H { s with toks := t } := I.un (h' := s.heap) (t' := t) Un.refl I.hok
/-- all objects kept -/
theorem Inv.kept {t' : Nat} (I : Inv X pins σ H s) (k : ∀ b u, s.heap.get? b = some u → h'.get? b = some u) : Inv X pins σ H { s with heap := h', toks := t' } := I.un (Un.kept k) (I.hok.kept k)
/-- a new object laid and tracked -/
theorem Inv.laid {a : Addr} {o : HO} {t' : Nat} (I : Inv X pins σ H s) (k : ∀ b u, s.heap.get? b = some u → h'.get? b = some u) (hp : s.heap.objs.size ≤ a) (new : ObjOk X.prog X.w (upd H a o) h' a o) :
    Inv X pins σ (upd H a o) { s with heap := h', toks := t' } := I.un (Un.laid k hp (I.hok.fresh hp)) (I.hok.laid k hp new)
/-- an object written -/
theorem Inv.write {x e : Addr} {o : HO} {t' : Nat} (I : Inv X pins σ H s) (mu : Mut (H x)) (he : e = x ∨ H e = some (.own x)) (k : ∀ b u, b ≠ e → s.heap.get? b = some u → h'.get? b = some u) (heo : ∃ u, h'.get? e = some u)
    (new : ObjOk X.prog X.w (upd H x o) h' x o) : Inv X pins σ (upd H x o) { s with heap := h', toks := t' } := I.un (Un.write mu he k heo) (I.hok.write mu he k heo new)
theorem Inv.pins_of {pins' : List (Addr × Obj)} (I : Inv X pins σ H s) (h : ∀ p ∈ pins', s.heap.get? p.1 = some p.2 ∧ H p.1 = none ∧ p.1 ≠ X.env.locals ∧ p.1 ∉ X.fs ∧ ∀ v, p.2.data ≠ .cell v) : Inv X pins' σ H s :=
  ⟨I.ok, I.os, I.bare, I.base, I.loc, I.cell, I.free, I.freeC, fun p hp => (List.mem_append.mp hp).elim (fun z => I.pin p (List.mem_append_left _ z)) (h p), I.hok, I.len⟩

theorem nodup_ix {N : List Str} (hN : N.Nodup) {i j : Nat} {x : Str} (a : N[i]? = some x) (b : N[j]? = some x) : i = j := by
  obtain ⟨h1, e1⟩ := List.getElem?_eq_some_iff.mp a
  obtain ⟨h2, e2⟩ := List.getElem?_eq_some_iff.mp b
  exact (List.getElem_inj hN).mp (e1.trans e2.symm)

/-- a name is stored; what changed -/
theorem store_ok2 {M : Model} {A : Around} {E : Value → Shared → Prop} {i : Nat} {x : Str} {v : V} {u : Value} {Q : Unit → Shared → Prop} (I : Inv X pins σ H s) (hN : X.N.Nodup) (hi : X.N[i]? = some x) (hx : Loc X.env.scope x) (r : RelV v u)
    (h : ∀ s', Inv X pins (σ.set i (some v)) H s' → (∃ a, Heap.SameBut a s.heap s'.heap ∧ (a = X.env.locals ∨ X.env.cells.lookup x = some a)) → Q () s') (hf : X.fn x = true ∨ X.env.scope.names.lookup x = some .local := by first | exact .inl rfl | exact .inr rfl | assumption) : wpAny M A (storeName X.env x u) Q E s := by
  obtain ⟨m, hn, hl⟩ := id I.loc
  have hcls : (X.env.scope.kind == .class || (X.env.scope.kind == .module && X.env.locals != X.env.globals)) = false := by rw [I.ok.kind]; rfl
  have hiσ : i < σ.length := by rw [I.len]; exact (List.getElem?_eq_some_iff.mp hi).1
  have cne := I.cne
  have tracked : ∀ {a : Addr} {h' : Heap}, (∃ o, s.heap.get? a = some o ∧ H a = none) → Heap.SameBut a s.heap h' → HOk X.prog X.w H h' := fun {a h'} ha hs b ob e => by
    obtain ⟨_, _, hfree⟩ := ha
    refine (I.hok b ob e).stay (fun c w' hc q => (hs.2 c ?_).trans q) (fun _ q => q) fun _ _ q => q
    rintro rfl
    rcases hc with rfl | hc
    · rw [hfree] at e; cases e
    · rw [hfree] at hc; cases hc
  rcases hx with hk | hk
  · refine wpAny_storeName_local hk hn (fun h' hn' hs => ?_) hcls
    obtain ⟨oL, _, _, hoL, _⟩ := id hn
    refine h _ ⟨I.ok, I.os, I.bare, ⟨fun b o e n hb hx => ?_, fun b o e n hb hx => ?_, I.base.free, fun b o e hx => ?_, I.base.tups, I.base.frzs, I.base.tbls⟩, ⟨_, hn', fun j y v' e1 e2 e3 => ?_⟩, fun y c e => ?_, I.free, I.freeC, fun p hp => ?_, tracked ⟨oL, hoL, I.free⟩ hs, by simpa using I.len⟩ ⟨_, hs, .inl rfl⟩
    · exact (hs.2 b (Nat.ne_of_lt (Nat.lt_of_lt_of_le (Heap.lt_size e) I.ok.above))).trans (I.base.keep b o e n hb hx)
    · obtain ⟨sl, e1⟩ := I.base.slot b o e n hb hx
      exact ⟨sl, (hs.2 b (Nat.ne_of_lt (Nat.lt_of_lt_of_le (Heap.lt_size e) I.ok.above))).trans e1⟩
    · obtain ⟨o', e1⟩ := I.base.there b o e hx
      exact ⟨o', (hs.2 b (Nat.ne_of_lt (Nat.lt_of_lt_of_le (Heap.lt_size e) I.ok.above))).trans e1⟩
    · by_cases hj : j = i
      · subst hj
        rw [hi] at e1; cases e1
        rw [List.getElem?_set_self hiσ] at e2
        cases e2
        exact ⟨u, r, .inl ⟨hk, by simp⟩⟩
      · rw [List.getElem?_set_ne (Ne.symm hj)] at e2
        obtain ⟨u', r', q⟩ := hl j y v' e1 e2 e3
        refine ⟨u', r', ?_⟩
        rcases q with ⟨k, e⟩ | ⟨k, c, e, z⟩
        · refine .inl ⟨k, ?_⟩
          have : y ≠ x := fun e => hj (nodup_ix hN e1 (e ▸ hi))
          simp [this, e]
        · exact .inr ⟨k, c, e, z.sameBut hs (cne y c e)⟩
    · obtain ⟨w', z⟩ := I.cell y c e
      exact ⟨w', z.sameBut hs (cne y c e)⟩
    · obtain ⟨e, n, ne, nf, d⟩ := I.pin p hp
      exact ⟨(hs.2 p.1 ne).trans e, n, ne, nf, d⟩
  · have hfn : X.fn x = true := by
      rcases hf with z | z
      · exact z
      · rw [z] at hk; cases hk
    obtain ⟨c, hc⟩ := I.ok.has x (.inl hk)
    obtain ⟨w', z⟩ := I.cell x c hc
    refine wpAny_storeName_cell I.ok.kind hk hc z (fun h' hc' hs => ?_)
    obtain ⟨oc, hoc, hocd⟩ := id z
    refine h { s with heap := h' } ⟨I.ok, I.os, I.bare, ⟨fun b o e n hb hx => ?_, fun b o e n hb hx => ?_, I.base.free, fun b o e hx => ?_, I.base.tups, I.base.frzs, I.base.tbls⟩, ⟨m, hn.sameBut hs (Ne.symm (cne x c hc)), fun j y v' e1 e2 e3 => ?_⟩, fun y c' e => ?_, I.free, I.freeC, fun p hp => ?_, tracked ⟨oc, hoc, I.freeC x c hc⟩ hs, by simpa using I.len⟩ ⟨c, hs, .inr hc⟩
    · exact (hs.2 b (Nat.ne_of_lt (Nat.lt_of_lt_of_le (Heap.lt_size e) (I.ok.cab x c hfn hc)))).trans (I.base.keep b o e n hb hx)
    · obtain ⟨sl, e1⟩ := I.base.slot b o e n hb hx
      exact ⟨sl, (hs.2 b (Nat.ne_of_lt (Nat.lt_of_lt_of_le (Heap.lt_size e) (I.ok.cab x c hfn hc)))).trans e1⟩
    · obtain ⟨o', e1⟩ := I.base.there b o e hx
      exact ⟨o', (hs.2 b (Nat.ne_of_lt (Nat.lt_of_lt_of_le (Heap.lt_size e) (I.ok.cab x c hfn hc)))).trans e1⟩
    · by_cases hj : j = i
      · subst hj
        rw [hi] at e1; cases e1
        rw [List.getElem?_set_self hiσ] at e2
        cases e2
        exact ⟨u, r, .inr ⟨.inl hk, c, hc, hc'⟩⟩
      · rw [List.getElem?_set_ne (Ne.symm hj)] at e2
        obtain ⟨u', r', q⟩ := hl j y v' e1 e2 e3
        refine ⟨u', r', ?_⟩
        rcases q with q | ⟨k, c', e, z'⟩
        · exact .inl q
        · refine .inr ⟨k, c', e, z'.sameBut hs ?_⟩
          rintro rfl
          exact hj (nodup_ix hN e1 (I.ok.inj _ _ _ e hc ▸ hi))
    · by_cases hcc : c' = c
      · subst hcc; exact ⟨_, hc'⟩
      · obtain ⟨w2, z2⟩ := I.cell y c' e
        exact ⟨w2, z2.sameBut hs hcc⟩
    · obtain ⟨e, n, ne, nf, d⟩ := I.pin p hp
      refine ⟨(hs.2 p.1 ?_).trans e, n, ne, nf, d⟩
      intro q
      rw [q, hoc] at e
      have q' : oc = p.2 := Option.some.inj e
      exact d w' (by rw [← q']; exact hocd)
theorem store_ok {M : Model} {A : Around} {E : Value → Shared → Prop} {i : Nat} {x : Str} {v : V} {u : Value} {Q : Unit → Shared → Prop} (I : Inv X pins σ H s) (hN : X.N.Nodup) (hi : X.N[i]? = some x) (hx : Loc X.env.scope x) (r : RelV v u)
    (h : ∀ s', Inv X pins (σ.set i (some v)) H s' → Q () s') (hf : X.fn x = true ∨ X.env.scope.names.lookup x = some .local := by first | exact .inl rfl | exact .inr rfl | assumption) : wpAny M A (storeName X.env x u) Q E s :=
  store_ok2 I hN hi hx r (fun s' I' _ => h s' I') hf
/-- behind a call or a block, the state as it is -/
theorem Inv.call' {s' : Shared} {ch : List Addr} (I : Inv X pins σ H s) (ho : s'.os = s.os) (u : Un (frs X.stack) ch H H' s.heap s'.heap) (hok : HOk X.prog X.w H' s'.heap) (hg : AllBare s'.gens)
    (hch : ∀ b ∈ ch, (b ∈ X.ex ∨ X.s₀.heap.objs.size ≤ b) ∧ b ≠ X.env.locals ∧ (∀ x c, X.env.cells.lookup x = some c → c ≠ b) ∧ ∀ p ∈ X.pn ++ pins, p.1 ≠ b) : Inv X pins σ H' s' := by
  obtain ⟨h', g', d', t', o'⟩ := s'
  have e : o' = s.os := ho
  subst e
  exact I.call (g' := g') (t' := t') (d' := d') u hok hg hch
end

/-- an exception: its class, its own dict's address (where it has one), the abstract heap behind it -/
abbrev XK := Value → Option Addr → Hp → Prop
abbrev St := List (Option V)
abbrev VK := V → Hp → Prop
/-- an expression's reading; a test's; an argument list's -/
abbrev TE := St → Hp → VK → Prop
abbrev TT := St → Hp → (Bool → Hp → Prop) → Prop
abbrev TA := St → Hp → (List V → Hp → Prop) → Prop
/-- what is wanted behind a statement -/
structure Ends where
  nx : St → Hp → Prop
  rt : VK
  bk : St → Hp → Prop := fun _ _ => False
  ct : St → Hp → Prop := fun _ _ => False
abbrev TS := Ends → St → Hp → Prop

def EP (X : Cx) (pins : List (Addr × Obj)) (σ : St) (Q : VK) (u : Value) (s' : Shared) : Prop := ∃ v H', Inv X pins σ H' s' ∧ RelV v u ∧ Q v H'
def TP (X : Cx) (pins : List (Addr × Obj)) (σ : St) (Q : Bool → Hp → Prop) (b : Bool) (s' : Shared) : Prop := ∃ H', Inv X pins σ H' s' ∧ Q b H'
def AP (X : Cx) (pins : List (Addr × Obj)) (σ : St) (Q : List V → Hp → Prop) (us : List Value) (s' : Shared) : Prop := ∃ vs H', Inv X pins σ H' s' ∧ Vals vs us ∧ Q vs H'
def SP (X : Cx) (pins : List (Addr × Obj)) (D : Ends) (f : Flow) (s' : Shared) : Prop :=
  match f with
  | .next => ∃ σ' H', Inv X pins σ' H' s' ∧ D.nx σ' H'
  | .brk => ∃ σ' H', Inv X pins σ' H' s' ∧ D.bk σ' H'
  | .cont => ∃ σ' H', Inv X pins σ' H' s' ∧ D.ct σ' H'
  | .ret u => ∃ v σ' H', Inv X pins σ' H' s' ∧ RelV v u ∧ D.rt v H'

def PE (X : Cx) (e : Expr) (t : TE) : Prop :=
  ∀ (pins : List (Addr × Obj)) (s : Shared) (σ : St) (H : Hp) (Q : VK), Inv X pins σ H s → t σ H Q → wpAny (model X.prog X.w) X.A (eval e X.env) (EP X pins σ Q) X.xe s
def PT (X : Cx) (e : Expr) (t : TT) : Prop :=
  ∀ (pins : List (Addr × Obj)) (s : Shared) (σ : St) (H : Hp) (Q : Bool → Hp → Prop), Inv X pins σ H s → t σ H Q → wpAny (model X.prog X.w) X.A (isTrue e X.env (eval e X.env)) (TP X pins σ Q) X.xe s
/-- a test whatever its 'whole' is (and, or) -/
def PW (X : Cx) (e : Expr) (t : TT) : Prop :=
  ∀ (whole : Sem Value) (pins : List (Addr × Obj)) (s : Shared) (σ : St) (H : Hp) (Q : Bool → Hp → Prop), Inv X pins σ H s → t σ H Q → wpAny (model X.prog X.w) X.A (isTrue e X.env whole) (TP X pins σ Q) X.xe s
theorem PW.pt {X : Cx} {e : Expr} {t : TT} (h : PW X e t) : PT X e t := h _
/-- an argument list (no star), from the left -/
def PA (X : Cx) (es : List Expr) (t : TA) : Prop :=
  ∀ (pos : Pos) (pins : List (Addr × Obj)) (s : Shared) (σ : St) (H : Hp) (Q : List V → Hp → Prop), Inv X pins σ H s → t σ H Q → wpAny (model X.prog X.w) X.A (spliced (backTo pos (starEach es X.env))) (AP X pins σ Q) X.xe s
def PS (X : Cx) (st : Stmt) (t : TS) : Prop :=
  ∀ (pins : List (Addr × Obj)) (s : Shared) (σ : St) (H : Hp) (D : Ends), Inv X pins σ H s → t D σ H → wpAny (model X.prog X.w) X.A (exec st X.env) (SP X pins D) X.xe s
def PSs (X : Cx) (st : List Stmt) (t : TS) : Prop :=
  ∀ (pins : List (Addr × Obj)) (s : Shared) (σ : St) (H : Hp) (D : Ends), Inv X pins σ H s → t D σ H → wpAny (model X.prog X.w) X.A (execs st X.env) (SP X pins D) X.xe s
/-- weaken the end -/
theorem thn {α : Type} {t : Sem α} {Q Q' : α → Shared → Prop} {M : Model} {A : Around} {E : Value → Shared → Prop} {s : Shared} (h : wpAny M A t Q E s) (hQ : ∀ a s, Q a s → Q' a s) : wpAny M A t Q' E s := wpAny_mono h hQ fun _ _ x => x
end L2

namespace L2
open PySem PySem.Spec PyProof.Rows
section
variable {X : Cx}

def tVar (i : Nat) : TE := fun σ H Q => ∃ v, σ[i]? = some (some v) ∧ Q v H
def tC (v : V) : TE := fun _ H Q => Q v H
theorem pe_var {i : Nat} {x : Str} {pos : Pos} (hN : X.N[i]? = some x) (hv : Vis X.env.scope x) (hd : (x == ("__debug__" : Str)) = false := by decide) (hcd : (x == ("__classdict__" : Str)) = false := by decide) : PE X (.Name x pos) (tVar i) := by
  intro pins s σ H Q I h
  obtain ⟨v, e, h⟩ := h
  obtain ⟨m, hn, hl⟩ := I.loc
  obtain ⟨u, r, l⟩ := hl i x v hN e hv
  have fin : EP X pins σ Q u s := ⟨v, H, I, r, h⟩
  rcases l with ⟨hk, hm⟩ | ⟨hk, c, hc, hcell⟩
  · exact wpAny_Name (wpAny_loadName_local I.ok.kind hk hn hm fin) hd
  · rcases hk with hk | hk
    · exact wpAny_Name (wpAny_loadName_cell I.ok.kind hk hc hcell fin) hd
    · exact wpAny_Name (wpAny_loadName_free I.ok.kind hk hc hcell fin hcd) hd
theorem pe_int {i j pos} : PE X (.Constant (.int i) j pos) (tC (.int i)) := fun _ _ _ H _ I h => wpAny_Constant_int ⟨.int i, H, I.tok _, ⟨_, rfl⟩, h⟩
theorem pe_bl {b j pos} : PE X (.Constant (.bool b) j pos) (tC (.bl b)) := fun _ _ _ H _ I h => Constant_bool ⟨.bl b, H, I, rfl, h⟩
theorem pe_non {j pos} : PE X (.Constant .none j pos) (tC .non) := fun _ _ _ H _ I h => Constant_none ⟨.non, H, I, rfl, h⟩
theorem pe_str {x j pos} : PE X (.Constant (.str x) j pos) (tC (.str x)) := fun _ _ _ H _ I h => Calls.Constant_str ⟨.str x, H, I.tok _, ⟨_, rfl⟩, h⟩

/-- a global name of the def -/
def Gl (X : Cx) (x : Str) : Prop := X.env.kindOf x = some .globalImplicit
theorem ld_glob {E : Value → Shared → Prop} {pins : List (Addr × Obj)} {s : Shared} {σ : St} {H : Hp} {x : Str} {u : Value} {pos : Pos} {Q : Value → Shared → Prop} (I : Inv X pins σ H s) (hg : Gl X x) (hm : X.mg x = some u) (h : Q u s)
    (hd : (x == ("__debug__" : Str)) = false := by decide) : wpAny (model X.prog X.w) X.A (eval (.Name x pos) X.env) Q E s :=
  Calls.Name_function_global I.ok.kind hg (Calls.loadGlobal_global (by rw [I.ok.glob]; exact I.mod.glob.keeps I.bk) hm h) hd
theorem ld_blt {E : Value → Shared → Prop} {pins : List (Addr × Obj)} {s : Shared} {σ : St} {H : Hp} {x : Str} {u : Value} {pos : Pos} {Q : Value → Shared → Prop} (I : Inv X pins σ H s) (hg : Gl X x) (hm : X.mg x = none) (hv : bootBuiltins x = some u) (h : Q u s)
    (hn : x ≠ "__name__" := by decide) (hd : (x == ("__debug__" : Str)) = false := by decide) : wpAny (model X.prog X.w) X.A (eval (.Name x pos) X.env) Q E s := by
  obtain ⟨mb, h1, h2⟩ := I.mod.blt
  exact Calls.Name_function_global I.ok.kind hg (Calls.loadGlobal_builtin (by rw [I.ok.glob]; exact I.mod.glob.keeps I.bk) hm (by rw [I.ok.blt]; exact h1.keeps I.bk) ((h2 x hn).trans hv) h) hd
/-- a module's constant, a class, a function, as a value -/
theorem pe_glob {x : Str} {v : V} {u : Value} {pos : Pos} (hg : Gl X x) (hm : X.mg x = some u) (r : RelV v u) (hd : (x == ("__debug__" : Str)) = false := by decide) : PE X (.Name x pos) (tC v) :=
  fun _ _ _ H _ I h => ld_glob I hg hm ⟨v, H, I, r, h⟩ hd
theorem pe_bltn {x : Str} {v : V} {u : Value} {pos : Pos} (hg : Gl X x) (hm : X.mg x = none) (hv : bootBuiltins x = some u) (r : RelV v u) (hn : x ≠ "__name__" := by decide) (hd : (x == ("__debug__" : Str)) = false := by decide) : PE X (.Name x pos) (tC v) :=
  fun _ _ _ H _ I h => ld_blt I hg hm hv ⟨v, H, I, r, h⟩ hn hd

variable {a b : Expr} {ta tb : TE} {pos : Pos}
/-- a comparison as a value, as a test -/
def tB (t : TE) : TT := fun σ H Q => t σ H fun x H1 => ∃ c, x = .bl c ∧ Q c H1
/-- an expression whose value is a bool, as a test -/
theorem pt_val {e : Expr} {t : TE} (h : PE X e t) (he : ∀ whole, isTrue e X.env whole = (do let v ← whole; standAt e.pos; holding [v] (truthy v)) := by intro _; rfl) : PT X e (tB t) := by
  intro pins s σ H Q I hw
  refine isTrue_plain (thn (h pins s σ H _ I hw) fun v s1 ⟨x, H1, I1, r1, q1⟩ => ?_) (he _)
  obtain ⟨d, rfl, q⟩ := q1
  cases r1
  exact wpAny_truthy_bool ⟨H1, I1, q⟩

variable {tA tB' : TT} {rest : List Expr}
def tAnd (t u : TT) : TT := fun σ H Q => t σ H fun c H1 => if c = true then u σ H1 Q else Q false H1
def tOr (t u : TT) : TT := fun σ H Q => t σ H fun c H1 => if c = true then Q true H1 else u σ H1 Q
def tNot (t : TT) : TT := fun σ H Q => t σ H fun c H1 => Q (!c) H1
theorem pw_and1 (ha : PT X a tA) : PW X (.BoolOp .And [a] pos) tA := by
  intro wh pins s σ H Q I h
  refine isTrue_and (thn (ha pins s σ H Q I h) fun c s1 e => ?_)
  cases c with
  | true => exact isTrue_and_nil e
  | false => exact e
theorem pw_or1 (ha : PT X a tA) : PW X (.BoolOp .Or [a] pos) tA := by
  intro wh pins s σ H Q I h
  refine isTrue_or (thn (ha pins s σ H Q I h) fun c s1 e => ?_)
  cases c with
  | false => exact isTrue_or_nil e
  | true => exact e
theorem pw_and (ha : PT X a tA) (hb : PW X (.BoolOp .And (b :: rest) pos) tB') : PW X (.BoolOp .And (a :: b :: rest) pos) (tAnd tA tB') := by
  intro wh pins s σ H Q I h
  refine isTrue_and (thn (ha pins s σ H _ I h) fun c s1 ⟨H1, I1, q1⟩ => ?_)
  cases c with
  | true => exact hb wh pins s1 σ H1 Q I1 q1
  | false => exact ⟨H1, I1, q1⟩
theorem pw_or (ha : PT X a tA) (hb : PW X (.BoolOp .Or (b :: rest) pos) tB') : PW X (.BoolOp .Or (a :: b :: rest) pos) (tOr tA tB') := by
  intro wh pins s σ H Q I h
  refine isTrue_or (thn (ha pins s σ H _ I h) fun c s1 ⟨H1, I1, q1⟩ => ?_)
  cases c with
  | true => exact ⟨H1, I1, q1⟩
  | false => exact hb wh pins s1 σ H1 Q I1 q1
theorem pt_not (ha : PT X a tA) : PT X (.UnaryOp .Not a pos) (tNot tA) := by
  intro pins s σ H Q I h
  exact isTrue_not (ha pins s σ H (fun c H1 => Q (!c) H1) I h)
/-- .. as values (bools) -/
def tAndV (ta tb : TE) : TE := fun σ H Q => ta σ H fun x H1 => ∃ c, x = .bl c ∧ if c = true then tb σ H1 Q else Q (.bl false) H1
def tOrV (ta tb : TE) : TE := fun σ H Q => ta σ H fun x H1 => ∃ c, x = .bl c ∧ if c = true then Q (.bl true) H1 else tb σ H1 Q
def tNotV (ta : TE) : TE := fun σ H Q => ta σ H fun x H1 => ∃ c, x = .bl c ∧ Q (.bl (!c)) H1
theorem pe_one {op} {t : TE} (h : PE X a t) : PE X (.BoolOp op [a] pos) t := fun pins s σ H Q I hw => BoolOp_one (h pins s σ H Q I hw)
theorem pe_and (ha : PE X a ta) (hb : PE X (.BoolOp .And (b :: rest) pos) tb) : PE X (.BoolOp .And (a :: b :: rest) pos) (tAndV ta tb) := by
  intro pins s σ H Q I h
  refine BoolOp_and (thn (ha pins s σ H _ I h) fun v s1 ⟨x, H1, I1, r1, q1⟩ => ?_)
  obtain ⟨c, rfl, q1⟩ := q1
  cases r1
  refine wpAny_truthy_bool ?_
  cases c with
  | true => exact hb pins s1 σ H1 Q I1 q1
  | false => exact ⟨.bl false, H1, I1, rfl, q1⟩
theorem pe_not (ha : PE X a ta) : PE X (.UnaryOp .Not a pos) (tNotV ta) := by
  intro pins s σ H Q I h
  refine UnaryOp_ (thn (ha pins s σ H _ I h) fun v s1 ⟨x, H1, I1, r1, q1⟩ => ?_)
  obtain ⟨c, rfl, q1⟩ := q1
  cases r1
  exact not_of (wpAny_truthy_bool ⟨.bl (!c), H1, I1, rfl, q1⟩)
/-- a if t else b -/
def tIf (t : TT) (ta tb : TE) : TE := fun σ H Q => t σ H fun c H1 => if c = true then ta σ H1 Q else tb σ H1 Q
theorem pe_ifExp {c : Expr} (hc : PT X c tA) (ha : PE X a ta) (hb : PE X b tb) : PE X (.IfExp c a b pos) (tIf tA ta tb) := by
  intro pins s σ H Q I h
  refine wpAny_IfExp (thn (hc pins s σ H _ I h) fun d s1 ⟨H1, I1, q1⟩ => ?_)
  cases d with
  | true => exact ha pins s1 σ H1 Q I1 q1
  | false => exact hb pins s1 σ H1 Q I1 q1
end
end L2

namespace L2
open PySem PySem.Spec PyProof.Rows

def SqL (K : PySem.W.Frag) (H : Hp) (a : Addr) (xs : List V) : Prop :=
  Rd H a (.lst xs) ∨
    ∃ (o : Obj) (its : Array Value) (n : Nat), K.lookup a = some o ∧ o.cls = .type "list" ∧ o.dict = none ∧ o.data = .seq its n ∧ its.size ≤ sizeLine ∧ Vals xs its.toList
def SqT (K : PySem.W.Frag) (H : Hp) (a : Addr) (xs : List V) : Prop :=
  Rd H a (.tup xs) ∨
    ∃ (o : Obj) (its : Array Value) (n : Nat), K.lookup a = some o ∧ o.cls = .type "tuple" ∧ o.data = .seq its n ∧ its.size ≤ sizeLine ∧ Vals xs its.toList
def absV : Value → Option V
  | .none => some .non
  | .bool b => some (.bl b)
  | .int i _ => some (.int i)
  | .str x _ => some (.str x)
  | .bytes b _ => some (.byt b)
  | .float b _ => some (.flt b)
  | .ref a => some (.ref a)
  | .type n => some (.ty n)
  | _ => none
theorem RelV.abs {x : V} {u : Value} (r : RelV x u) : absV u = some x := by
  cases x with
  | non => cases r; rfl
  | bl _ => cases r; rfl
  | int _ => obtain ⟨t, rfl⟩ := r; rfl
  | str _ => obtain ⟨t, rfl⟩ := r; rfl
  | byt _ => obtain ⟨t, rfl⟩ := r; rfl
  | flt _ => obtain ⟨t, rfl⟩ := r; rfl
  | ref _ => cases r; rfl
  | ty _ => cases r; rfl
theorem RelV.inj {x y : V} {u : Value} (r : RelV x u) (q : RelV y u) : x = y := Option.some.inj (r.abs.symm.trans q.abs)
theorem Vals.inj : ∀ {xs ys : List V} {us : List Value}, Vals xs us → Vals ys us → xs = ys
  | _, _, _, .nil, .nil => rfl
  | _, _, _, .cons r t, .cons r' t' => by rw [r.inj r', Vals.inj t t']
section
variable {X : Cx} {pins : List (Addr × Obj)} {σ : St} {H : Hp} {s : Shared} {a : Addr} {xs ys : List V}
theorem SqL.of {K : PySem.W.Frag} (h : H a = some (.lst xs)) : SqL K H a xs := .inl (.inl h)
theorem SqT.of {K : PySem.W.Frag} (h : H a = some (.tup xs)) : SqT K H a xs := .inl (.inl h)
theorem Inv.list (I : Inv X pins σ H s) (h : SqL X.K H a xs) : ∃ its : List Value, Vals xs its ∧ PlainL s.heap a its.toArray ∧ xs.length ≤ sizeLine := by
  rcases h with h | ⟨o, its, n, hk, hc, hd, hs, hz, r⟩
  · obtain ⟨z, its, n, r, e⟩ := h.ok I.hok
    exact ⟨its, r, ⟨_, n, e, rfl, rfl, rfl⟩, z⟩
  · refine ⟨its.toList, r, ⟨o, n, I.kIn a o hk, hc, hd, by simpa using hs⟩, ?_⟩
    have e := r.length
    simp only [Array.length_toList] at e
    omega
theorem Inv.tuple (I : Inv X pins σ H s) (h : SqT X.K H a xs) : ∃ its : List Value, Vals xs its ∧ IsTup s.heap a its.toArray ∧ xs.length ≤ sizeLine := by
  rcases h with h | ⟨o, its, n, hk, hc, hs, hz, r⟩
  · obtain ⟨z, its, r, p⟩ := h.ok I.hok
    exact ⟨its, r, p, z⟩
  · refine ⟨its.toList, r, ⟨o, I.kIn a o hk, hc, n, by simpa using hs⟩, ?_⟩
    have e := r.length
    simp only [Array.length_toList] at e
    omega
theorem Inv.list_inj (I : Inv X pins σ H s) (h : SqL X.K H a xs) (h' : SqL X.K H a ys) : xs = ys := by
  obtain ⟨its, r, ⟨o, n, e, _, _, d⟩, _⟩ := I.list h
  obtain ⟨its', r', ⟨o', n', e', _, _, d'⟩, _⟩ := I.list h'
  rw [e] at e'; cases e'
  rw [d] at d'
  injection d' with d1 _
  have : its = its' := by simpa using congrArg Array.toList d1
  subst this
  exact r.inj r'
theorem Inv.tuple_inj (I : Inv X pins σ H s) (h : SqT X.K H a xs) (h' : SqT X.K H a ys) : xs = ys := by
  obtain ⟨its, r, ⟨o, e, _, n, d⟩, _⟩ := I.tuple h
  obtain ⟨its', r', ⟨o', e', _, n', d'⟩, _⟩ := I.tuple h'
  rw [e] at e'; cases e'
  rw [d] at d'
  injection d' with d1 _
  have : its = its' := by simpa using congrArg Array.toList d1
  subst this
  exact r.inj r'
end

abbrev Cx.wish (X : Cx) (E : Value → Shared → Prop) : Cx := { X with xe := E }
/-- no exception leaves -/
abbrev Cx.nox (X : Cx) : Cx := X.wish fun _ _ => False
theorem Cx.Ok.wish {X : Cx} (ok : X.Ok) (E : Value → Shared → Prop) : (X.wish E).Ok :=
  ⟨ok.mod, ok.kind, ok.glob, ok.blt, ok.above, ok.inj, ok.has, ok.cab, ok.hd, ok.frames, ok.stk, ok.exf, ok.bs, ok.bsz, ok.noex, ok.exfs, ok.funs, ok.frf⟩
theorem Cx.Ok.unwish {X : Cx} {E : Value → Shared → Prop} (ok : (X.wish E).Ok) : X.Ok :=
  ⟨ok.mod, ok.kind, ok.glob, ok.blt, ok.above, ok.inj, ok.has, ok.cab, ok.hd, ok.frames, ok.stk, ok.exf, ok.bs, ok.bsz, ok.noex, ok.exfs, ok.funs, ok.frf⟩
section
variable {X : Cx} {pins : List (Addr × Obj)} {σ : St} {H : Hp} {s : Shared} {E : Value → Shared → Prop}
theorem Inv.wish (I : Inv X pins σ H s) (E : Value → Shared → Prop) : Inv (X.wish E) pins σ H s := ⟨I.ok.wish E, I.os, I.bare, I.base, I.loc, I.cell, I.free, I.freeC, I.pin, I.hok, I.len⟩
theorem Inv.unwish (I : Inv (X.wish E) pins σ H s) : Inv X pins σ H s := ⟨I.ok.unwish, I.os, I.bare, I.base, I.loc, I.cell, I.free, I.freeC, I.pin, I.hok, I.len⟩
theorem SP.unwish {D : Ends} {f : Flow} {s' : Shared} (h : SP (X.wish E) pins D f s') : SP X pins D f s' := by
  cases f with
  | next => obtain ⟨σ', H', I, q⟩ := h; exact ⟨σ', H', I.unwish, q⟩
  | brk => obtain ⟨σ', H', I, q⟩ := h; exact ⟨σ', H', I.unwish, q⟩
  | cont => obtain ⟨σ', H', I, q⟩ := h; exact ⟨σ', H', I.unwish, q⟩
  | ret u => obtain ⟨v, σ', H', I, r, q⟩ := h; exact ⟨v, σ', H', I.unwish, r, q⟩
theorem PE.nox {e : Expr} {t : TE} (h : PE X.nox e t) : PE X e t := fun pins s σ H Q I hw =>
  wpAny_mono (h pins s σ H Q (I.wish _) hw) (fun _ _ ⟨v, H', I', r, q⟩ => ⟨v, H', I'.unwish, r, q⟩) fun _ _ z => False.elim z
theorem PT.nox {e : Expr} {t : TT} (h : PT X.nox e t) : PT X e t := fun pins s σ H Q I hw =>
  wpAny_mono (h pins s σ H Q (I.wish _) hw) (fun _ _ ⟨H', I', q⟩ => ⟨H', I'.unwish, q⟩) fun _ _ z => False.elim z
theorem PSs.nox {st : List Stmt} {t : TS} (h : PSs X.nox st t) : PSs X st t := fun pins s σ H D I hw =>
  wpAny_mono (h pins s σ H D (I.wish _) hw) (fun _ _ q => q.unwish) fun _ _ z => False.elim z
end

section
variable {X : Cx} {st : Stmt} {rest : List Stmt} {t u : TS} {e : Expr} {te : TE} {pos : Pos}
def tNext : TS := fun D σ H => D.nx σ H
def tSeq (t u : TS) : TS := fun D σ H => t { D with nx := u D } σ H
theorem pss_nil : PSs X [] tNext := fun _ _ σ H _ I h => wpAny_execs_nil ⟨σ, H, I, h⟩
theorem pss_cons (h1 : PS X st t) (h2 : PSs X rest u) : PSs X (st :: rest) (tSeq t u) := by
  intro pins s σ H D I h
  refine wpAny_execs_cons (thn (h1 pins s σ H { D with nx := u D } I h) fun f s1 q => ?_)
  cases f with
  | next =>
    obtain ⟨σ', H', I', q⟩ := q
    exact h2 pins s1 σ' H' D I' q
  | ret v => exact q
  | brk => exact q
  | cont => exact q
theorem pss_one (h1 : PS X st t) : PSs X [st] t := by
  intro pins s σ H D I h
  refine wpAny_execs_cons (thn (h1 pins s σ H D I h) fun f s1 q => ?_)
  cases f with
  | next => exact wpAny_execs_nil q
  | ret v => exact q
  | brk => exact q
  | cont => exact q
/-- an expression whose value is dropped -/
def tDrop (te : TE) : TS := fun D σ H => te σ H fun _ H1 => D.nx σ H1
def tRet (te : TE) : TS := fun D σ H => te σ H D.rt
theorem ps_ret (he : PE X e te) : PS X (.Return (some e) pos) (tRet te) := by
  intro pins s σ H D I h
  exact wpAny_Return_some (thn (he pins s σ H _ I h) fun v s1 ⟨x, H1, I1, r1, q1⟩ => ⟨x, σ, H1, I1, r1, q1⟩)
def tIfS (c : TT) (t u : TS) : TS := fun D σ H => c σ H fun b H1 => if b = true then t D σ H1 else u D σ H1
theorem ps_if {c : Expr} {a b : List Stmt} {tc : TT} (hc : PT X c tc) (ha : PSs X a t) (hb : PSs X b u) : PS X (.If c a b pos) (tIfS tc t u) := by
  intro pins s σ H D I h
  refine wpAny_If (thn (hc pins s σ H _ I h) fun d s1 ⟨H1, I1, q1⟩ => ?_)
  cases d with
  | true => exact ha pins s1 σ H1 D I1 q1
  | false => exact hb pins s1 σ H1 D I1 q1
end

abbrev TG := V → St → Hp → (St → Hp → Prop) → Prop
abbrev TGs := List V → St → Hp → (St → Hp → Prop) → Prop
def PG (X : Cx) (target : Expr) (t : TG) : Prop :=
  ∀ (pins : List (Addr × Obj)) (s : Shared) (σ : St) (H : Hp) (v : V) (u : Value) (Q : St → Hp → Prop), Inv X pins σ H s → RelV v u → t v σ H Q →
    wpAny (model X.prog X.w) X.A (assign target X.env u) (fun _ s' => ∃ σ' H', Inv X pins σ' H' s' ∧ Q σ' H') X.xe s
/-- o[i] = v, by values -/
abbrev TSet := V → V → V → Hp → (Hp → Prop) → Prop
def PSet (X : Cx) (t : TSet) : Prop :=
  ∀ (pins : List (Addr × Obj)) (s : Shared) (σ : St) (H : Hp) (o i v : V) (ov iv u : Value) (Q : Hp → Prop), Inv X pins σ H s → RelV o ov → RelV i iv → RelV v u → t o i v H Q →
    wpAny (model X.prog X.w) X.A (setItem ov iv u) (fun _ s' => ∃ H', Inv X pins σ H' s' ∧ Q H') X.xe s
section
variable {X : Cx} {pos : Pos}
def gName (i : Nat) : TG := fun v σ H Q => Q (σ.set i (some v)) H
theorem pg_name {i : Nat} {x : Str} (hN : X.N.Nodup) (hi : X.N[i]? = some x) (hx : Loc X.env.scope x) (hf : X.fn x = true ∨ X.env.scope.names.lookup x = some .local := by first | exact .inl rfl | exact .inr rfl | assumption) : PG X (.Name x pos) (gName i) := by
  intro pins s σ H v u Q I r h
  exact wpAny_assign_Name (store_ok I hN hi hx r (fun s' I' => ⟨_, H, I', h⟩) hf)
def gNil : TGs := fun vs σ H Q => vs = [] ∧ Q σ H
def gCons (t : TG) (u : TGs) : TGs := fun vs σ H Q => ∃ v r, vs = v :: r ∧ t v σ H fun σ' H' => u r σ' H' Q
/-- o[i] = .. -/
def gSub (to ti : TE) (t : TSet) : TG := fun v σ H Q => to σ H fun o H1 => ti σ H1 fun i H2 => t o i v H2 fun H3 => Q σ H3
theorem pg_sub {o i : Expr} {to ti : TE} {t : TSet} (ho : PE X o to) (hi : PE X i ti) (hs : PSet X t)
    (ha : ∀ v, assign (.Subscript o i pos) X.env v = (do
      let ov ← holding [v] (eval o X.env)
      let iv ← holding [v, ov] (eval i X.env)
      standAt pos
      holding [v, ov, iv] (setItem ov iv v)
      release [v, ov, iv] []) := by intro _; rfl) : PG X (.Subscript o i pos) (gSub to ti t) := by
  intro pins s σ H v u Q I r h
  rw [ha]
  refine wpAny_bind (wpAny_holding (thn (ho pins s σ H _ I h) fun ov s1 ⟨x, H1, I1, r1, q1⟩ => ?_))
  refine wpAny_bind (wpAny_holding (thn (hi pins s1 σ H1 _ I1 q1) fun iv s2 ⟨y, H2, I2, r2, q2⟩ => ?_))
  refine wpAny_bind (wpAny_standAt (wpAny_bind (wpAny_holding (thn (hs pins s2 σ H2 x y v ov iv u _ I2 r1 r2 r q2) fun _ s3 ⟨H3, I3, q3⟩ => ?_))))
  exact wpAny_release ⟨σ, H3, I3, q3⟩
/-- target = value -/
def tAsg (te : TE) (g : TG) : TS := fun D σ H => te σ H fun x H1 => g x σ H1 D.nx
theorem ps_asg {tg e : Expr} {te : TE} {g : TG} (he : PE X e te) (hg : PG X tg g) (hs : swapsWithSole [tg] e pos.line X.env = pure false := by rfl) (hw : swappedStores [tg] e X.env = pure none := by rfl)
    (h1 : (assignEach [tg] X.env).map (·.2) = [assign tg X.env] := by rfl) : PS X (.Assign [tg] e pos) (tAsg te g) := by
  intro pins s σ H D I h
  refine wpAny_Assign_stores (thn (he pins s σ H _ I h) fun v s1 ⟨x, H1, I1, r1, q1⟩ => ?_) hs hw
  rw [h1]
  exact thn (hg pins s1 σ H1 x v _ I1 r1 q1) fun _ s2 q => q
/-- name = value -/
theorem ps_set {i : Nat} {x : Str} {e : Expr} {te : TE} {pos' : Pos} (hN : X.N.Nodup) (hi : X.N[i]? = some x) (hx : Loc X.env.scope x) (he : PE X e te) (hs : swapsWith e (some (.Name x pos')) pos.line X.env = pure false := by rfl) (hf : X.fn x = true ∨ X.env.scope.names.lookup x = some .local := by first | exact .inl rfl | exact .inr rfl | assumption) :
    PS X (.Assign [.Name x pos'] e pos) (tAsg te (gName i)) := by
  intro pins s σ H D I h
  refine wpAny_Assign_Name (thn (he pins s σ H _ I h) fun v s1 ⟨y, H1, I1, r1, q1⟩ => ?_) hs
  exact store_ok I1 hN hi hx r1 (fun s2 I2 => ⟨_, H1, I2, q1⟩) hf
/-- a, b = x, y with plain local names: stored from the right; the pair itself is not tracked (the opening rows as in PyProof/Rows/TupAssign.lean:23) -/
def tPar (i j : Nat) (ta : TA) : TS := fun D σ H => ta σ H fun vs H1 => ∃ v w, vs = [v, w] ∧ D.nx ((σ.set i (some v)).set j (some w)) H1
end

section
variable {X : Cx} {pos : Pos}
end

/-- at turn i: it yields x (the heap may grow), or it stops -/
structure It where
  go : Nat → Hp → Prop
  yld : Nat → Hp → V → Hp → Prop
  stop : Nat → Hp → Prop
/-- the iterator's own objects may turn: they are not the frame's, not pinned, younger than the entry (or a comprehension's own) -/
def FpOk (X : Cx) (pins : List (Addr × Obj)) (H : Hp) (b : Addr) : Prop :=
  H b = none ∧ b ≠ X.env.locals ∧ b ∉ X.fs ∧ (b ∈ X.ex ∨ X.s₀.heap.objs.size ≤ b) ∧ (∀ x c, X.env.cells.lookup x = some c → c ≠ b) ∧ ∀ p ∈ X.pn ++ pins, p.1 ≠ b
theorem Inv.fpOk {X : Cx} {pins : List (Addr × Obj)} {σ : St} {H H' : Hp} {s : Shared} {b : Addr} (I : Inv X pins σ H s) (hb : s.heap.objs.size ≤ b) (hn : H' b = none) : FpOk X pins H' b := by
  refine ⟨hn, Nat.ne_of_gt (Nat.lt_of_lt_of_le I.lt hb), I.nofs hb, .inr (Nat.le_trans I.sz hb), fun x c e z => ?_, fun p hp z => ?_⟩
  · obtain ⟨v, q⟩ := I.cell x c e
    exact absurd (Nat.lt_of_lt_of_le q.lt (by rw [z]; exact hb)) (Nat.lt_irrefl _)
  · exact absurd (Nat.lt_of_lt_of_le (Heap.lt_size (I.pin p hp).1) (by rw [z]; exact hb)) (Nat.lt_irrefl _)
structure Turn (P : Program) (w : World) (K : PySem.W.Frag) (tg : Expr) (J : It) (fp : List Addr) (it : Addr) (tn : Nat → Heap → Prop) : Prop where
  mem : it ∈ fp
  obj : ∀ i h, tn i h → ∀ b ∈ fp, ∃ o, h.get? b = some o ∧ ∀ v, o.data ≠ .cell v
  keep : ∀ i h h', tn i h → (∀ b ∈ fp, ∀ o, h.get? b = some o → h'.get? b = some o) → tn i h'
  item : ∀ (X : Cx), X.prog = P → X.w = w → X.K = K → X.calm = true → ∀ (i : Nat) (pins : List (Addr × Obj)) (s : Shared) (σ : St) (H : Hp) (E : Value → Shared → Prop), Inv X pins σ H s → (∀ b ∈ fp, FpOk X pins H b) → tn i s.heap → J.go i H →
    wpAny (model P w) X.A (pyNext (.ref it)) (fun r s1 => ∃ u, r = some u ∧
      wpAny (model P w) X.A (letOwnedTupleGo tg (.ref it) u) (fun _ s2 => ∃ x H', Inv X pins σ H' s2 ∧ RelV x u ∧ J.yld i H x H' ∧ tn (i + 1) s2.heap ∧ ∀ b ∈ fp, H' b = none) E s1) E s
  done : ∀ (X : Cx), X.prog = P → X.w = w → X.K = K → X.calm = true → ∀ (i : Nat) (pins : List (Addr × Obj)) (s : Shared) (σ : St) (H : Hp) (E : Value → Shared → Prop), Inv X pins σ H s → (∀ b ∈ fp, FpOk X pins H b) → tn i s.heap → J.stop i H →
    wpAny (model P w) X.A (pyNext (.ref it)) (fun r s1 => r = none ∧ Inv X pins σ H s1) E s
  self : ∀ (A : Around) (i : Nat) (s : Shared) (Q : Value → Shared → Prop) (E : Value → Shared → Prop), tn i s.heap → Q (.ref it) s → wpAny (model P w) A (pyIter (.ref it)) Q E s
abbrev TI := St → Hp → (It → Hp → Prop) → Prop
/-- an iterator has come -/
def PIE (X : Cx) (pins : List (Addr × Obj)) (σ : St) (tg : Expr) (R : It → Hp → Prop) (itv : Value) (s2 : Shared) : Prop :=
  ∃ (it : Addr) (fp : List Addr) (tn : Nat → Heap → Prop) (J : It) (H' : Hp), itv = .ref it ∧ Inv X pins σ H' s2 ∧ Turn X.prog X.w X.K tg J fp it tn ∧ tn 0 s2.heap ∧ (∀ b ∈ fp, FpOk X pins H' b) ∧ R J H'
def PI (X : Cx) (tg iter : Expr) (wi : TI) : Prop :=
  ∀ (pins : List (Addr × Obj)) (s : Shared) (σ : St) (H : Hp) (R : It → Hp → Prop), Inv X pins σ H s → wi σ H R →
    wpAny (model X.prog X.w) X.A (eval iter X.env) (fun v s1 => wpAny (model X.prog X.w) X.A (pyIter v) (PIE X pins σ tg R) X.xe s1) X.xe s

/-- the step ahead of the store is nothing for an iterator that keeps no tuple -/
theorem go_of {M : Model} {A : Around} {E : Value → Shared → Prop} {s : Shared} {tg : Expr} {it : Addr} {u : Value} {o : Obj} {n : String} {vs : Array Value} {Q : Unit → Shared → Prop} (ho : s.heap.get? it = some o) (hc : o.cls = .type n) (hd : o.data = .fields vs)
    (hn : ["enumerate", "zip", "dict_itemiterator", "dict_reverseitemiterator", "odict_iterator", "itertools.zip_longest", "itertools.pairwise"].contains n = false) (hQ : Q () s) : wpAny M A (letOwnedTupleGo tg (.ref it) u) Q E s := by
  unfold letOwnedTupleGo
  cases tg <;> first
    | exact wpAny_pure hQ
    | (cases u <;> first
        | exact wpAny_pure hQ
        | (refine wpAny_bind (wpAny_load ho ?_)
           rw [hc, hd]
           show wpAny M A (if (["enumerate", "zip", "dict_itemiterator", "dict_reverseitemiterator", "odict_iterator", "itertools.zip_longest", "itertools.pairwise"].contains n && vs[0]? == some (rawInt _)) = true then _ else _) Q E s
           rw [if_neg (by intro h; rw [hn, Bool.false_and] at h; cases h)]
           exact wpAny_pure hQ))

/-- the list at a, as it stands at each turn (a loop may append to it) -/
def Itl (K : PySem.W.Frag) (a : Addr) : It :=
  ⟨fun i H => ∃ xs x, SqL K H a xs ∧ xs[i]? = some x, fun i H x H' => H' = H ∧ ∀ xs, SqL K H a xs → xs[i]? = some x, fun i H => ∃ xs, SqL K H a xs ∧ xs.length ≤ i⟩
def Itt (K : PySem.W.Frag) (a : Addr) : It :=
  ⟨fun i H => ∃ xs x, SqT K H a xs ∧ xs[i]? = some x, fun i H x H' => H' = H ∧ ∀ xs, SqT K H a xs → xs[i]? = some x, fun i H => ∃ xs, SqT K H a xs ∧ xs.length ≤ i⟩
/-- lo, lo + 1, .. (n of them) -/
def Itr (lo : Int) (n : Nat) : It := ⟨fun i _ => i < n, fun i H x H' => H' = H ∧ x = .int (lo + i), fun i _ => n ≤ i⟩
theorem turn_list {P : Program} {w : World} {K : PySem.W.Frag} {tg : Expr} (a it : Addr) : Turn P w K tg (Itl K a) [it] it (fun i h => h.IsListIter it a i) where
  mem := by simp
  obj := fun i h st b hb => by
    have e : b = it := by simpa using hb
    subst e
    obtain ⟨o, e, c, d⟩ := st
    exact ⟨o, e, fun v z => by rw [d] at z; cases z⟩
  keep := fun i h h' st k => st.at fun o e => k it (by simp) o e
  item := by
    intro X hP hw hK hc i pins s σ H E I hf st hg
    subst hP hw hK
    obtain ⟨xs, x, hq, hx⟩ := hg
    obtain ⟨its, rv, p, hz⟩ := I.list hq
    obtain ⟨u, hu, ru⟩ := rv.get hx
    obtain ⟨f0, f1, f2, f3, f4, f5⟩ := hf it (by simp)
    refine wpAny_pyNext_list_item st p.isList (x := u) (by simpa using hu) fun h' st' sb => ?_
    have I1 : Inv X pins σ H { s with heap := h' } := I.turned (t' := s.toks) (fun b o hb e => (sb.2 b hb).trans e) f0 f1 f3 f4 f5
    obtain ⟨o, e, c, d⟩ := id st'
    exact ⟨u, rfl, go_of (s := { s with heap := h' }) e c d (by decide) ⟨x, H, I1, ru, ⟨rfl, fun ys hy => by rw [I.list_inj hy hq]; exact hx⟩, st', fun b hb => (hf b hb).1⟩⟩
  done := by
    intro X hP hw hK hc i pins s σ H E I hf st hg
    subst hP hw hK
    obtain ⟨xs, hq, hx⟩ := hg
    obtain ⟨its, rv, p, hz⟩ := I.list hq
    obtain ⟨f0, f1, f2, f3, f4, f5⟩ := hf it (by simp)
    have hl := rv.length
    exact wpAny_pyNext_list_end (I.ok.hd hc) st p.isList (by simp; omega) fun h' eb => ⟨rfl, I.turned (t' := s.toks) (fun b o hb e => eb b o hb e) f0 f1 f3 f4 f5⟩
  self := fun _ _ _ _ _ st h => wpAny_pyIter_listiter st h
theorem turn_tuple {P : Program} {w : World} {K : PySem.W.Frag} {tg : Expr} (a it : Addr) : Turn P w K tg (Itt K a) [it] it (fun i h => h.IsTupleIter it a i) where
  mem := by simp
  obj := fun i h st b hb => by
    have e : b = it := by simpa using hb
    subst e
    obtain ⟨o, e, c, d⟩ := st
    exact ⟨o, e, fun v z => by rw [d] at z; cases z⟩
  keep := fun i h h' st k => st.at fun o e => k it (by simp) o e
  item := by
    intro X hP hw hK hc i pins s σ H E I hf st hg
    subst hP hw hK
    obtain ⟨xs, x, hq, hx⟩ := hg
    obtain ⟨its, rv, p, hz⟩ := I.tuple hq
    obtain ⟨u, hu, ru⟩ := rv.get hx
    obtain ⟨f0, f1, f2, f3, f4, f5⟩ := hf it (by simp)
    refine wpAny_pyNext_tuple_item st (show s.heap.IsTuple a its.toArray from p) (x := u) (by simpa using hu) fun h' st' sb => ?_
    have I1 : Inv X pins σ H { s with heap := h' } := I.turned (t' := s.toks) (fun b o hb e => (sb.2 b hb).trans e) f0 f1 f3 f4 f5
    obtain ⟨o, e, c, d⟩ := id st'
    exact ⟨u, rfl, go_of (s := { s with heap := h' }) e c d (by decide) ⟨x, H, I1, ru, ⟨rfl, fun ys hy => by rw [I.tuple_inj hy hq]; exact hx⟩, st', fun b hb => (hf b hb).1⟩⟩
  done := by
    intro X hP hw hK hc i pins s σ H E I hf st hg
    subst hP hw hK
    obtain ⟨xs, hq, hx⟩ := hg
    obtain ⟨its, rv, p, hz⟩ := I.tuple hq
    obtain ⟨f0, f1, f2, f3, f4, f5⟩ := hf it (by simp)
    have hl := rv.length
    exact wpAny_pyNext_tuple_end (I.ok.hd hc) st (show s.heap.IsTuple a its.toArray from p) (by simp; omega) fun h' eb => ⟨rfl, I.turned (t' := s.toks) (fun b o hb e => eb b o hb e) f0 f1 f3 f4 f5⟩
  self := fun _ _ _ _ _ st h => wpAny_pyIter_tupleiter st h
theorem turn_range {P : Program} {w : World} {K : PySem.W.Frag} {tg : Expr} (it : Addr) (lo : Int) (n : Nat) : Turn P w K tg (Itr lo n) [it] it (fun i h => IsRangeIter h it (lo + (i : Nat) * 1) ((n : Int) - (i : Nat)) 1) where
  mem := by simp
  obj := fun i h st b hb => by
    have e : b = it := by simpa using hb
    subst e
    exact ⟨_, st, fun v z => by
      have z' : Data.fields _ = Data.cell v := z
      cases z'⟩
  keep := fun i h h' st k => k it (by simp) _ st
  item := by
    intro X hP hw hK hc i pins s σ H E I hf st hg
    subst hP hw hK
    obtain ⟨f0, f1, f2, f3, f4, f5⟩ := hf it (by simp)
    have W := Walks.range (prog := X.prog) (w := X.w) (I.ok.hd hc) it lo 1 n
    refine W.item i s _ _ hg st fun v h' tk hv st' kk => ?_
    obtain ⟨t, rfl⟩ := hv
    have I1 : Inv X pins σ H { s with heap := h', toks := tk } := I.turned (fun b o hb e => kk b o (by simpa using hb) e) f0 f1 f3 f4 f5
    refine ⟨_, rfl, go_of (s := { s with heap := h', toks := tk }) (n := "range_iterator") st' rfl rfl (by decide) ⟨.int (lo + i), H, I1, ⟨t, ?_⟩, ⟨rfl, rfl⟩, st', fun b hb => (hf b hb).1⟩⟩
    rw [Int.mul_one]
  done := by
    intro X hP hw hK hc i pins s σ H E I hf st hg
    subst hP hw hK
    obtain ⟨f0, f1, f2, f3, f4, f5⟩ := hf it (by simp)
    exact wpAny_pyNext_range_end (I.ok.hd hc) st (by have : n ≤ i := hg; omega) fun h' eb => ⟨rfl, I.turned (t' := s.toks) (fun b o hb e => eb b o hb e) f0 f1 f3 f4 f5⟩
  self := fun _ _ _ _ _ st h => wpAny_pyIter_rangeiter st h
end L2

namespace L2
open PySem PySem.Spec PyProof.Rows
section
variable {X : Cx} {tg : Expr}
def iList (K : PySem.W.Frag) (tl : TE) : TI := fun σ H R => tl σ H fun x H1 => ∃ a, x = .ref a ∧ (∃ xs, SqL K H1 a xs) ∧ R (Itl K a) H1
def iTup (K : PySem.W.Frag) (tl : TE) : TI := fun σ H R => tl σ H fun x H1 => ∃ a, x = .ref a ∧ (∃ xs, SqT K H1 a xs) ∧ R (Itt K a) H1
theorem pi_list {l : Expr} {tl : TE} (hl : PE X l tl) : PI X tg l (iList X.K tl) := by
  intro pins s σ H R I h
  refine thn (hl pins s σ H _ I h) fun v s1 ⟨x, H1, I1, r1, q1⟩ => ?_
  obtain ⟨a, e, ⟨xs, hq⟩, q⟩ := q1
  subst e
  cases r1
  obtain ⟨its, rv, p, hz⟩ := I1.list hq
  refine wpAny_pyIter_list p.isList ?_
  refine ⟨s1.heap.objs.size, [s1.heap.objs.size], _, _, H1, rfl, I1.kept (t' := s1.toks) fun b o e => Heap.get?_push_of_some _ e, turn_list a _, ⟨_, Heap.get?_push_size _ rfl, rfl, rfl⟩, fun b hb => ?_, q⟩
  have e : b = s1.heap.objs.size := by simpa using hb
  subst e
  exact I1.fpOk (Nat.le_refl _) (I1.hok.fresh (Nat.le_refl _))
theorem pi_tup {l : Expr} {tl : TE} (hl : PE X l tl) : PI X tg l (iTup X.K tl) := by
  intro pins s σ H R I h
  refine thn (hl pins s σ H _ I h) fun v s1 ⟨x, H1, I1, r1, q1⟩ => ?_
  obtain ⟨a, e, ⟨xs, hq⟩, q⟩ := q1
  subst e
  cases r1
  obtain ⟨its, rv, p, hz⟩ := I1.tuple hq
  refine wpAny_pyIter_tuple (show s1.heap.IsTuple a its.toArray from p) ?_
  refine ⟨s1.heap.objs.size, [s1.heap.objs.size], _, _, H1, rfl, I1.kept (t' := s1.toks) fun b o e => Heap.get?_push_of_some _ e, turn_tuple a _, ⟨_, Heap.get?_push_size _ rfl, rfl, rfl⟩, fun b hb => ?_, q⟩
  have e : b = s1.heap.objs.size := by simpa using hb
  subst e
  exact I1.fpOk (Nat.le_refl _) (I1.hok.fresh (Nat.le_refl _))
/-- a range object just made, walked -/
theorem range_it {pins : List (Addr × Obj)} {σ : St} {H : Hp} {s : Shared} {R : It → Hp → Prop} {E : Value → Shared → Prop} {lo hi : Int} {t u v : Tok} {tk : Nat} (I : Inv X pins σ H s) (h1 : -(2 ^ 62) ≤ lo) (h2 : lo < 2 ^ 62) (h3 : -(2 ^ 62) ≤ hi) (h4 : hi < 2 ^ 62)
    (q : R (Itr lo (hi - lo).toNat) H) : wpAny (model X.prog X.w) X.A (pyIter (.ref s.heap.objs.size)) (PIE X pins σ tg R) E { s with heap := s.heap.push { cls := .type "range", data := .fields #[.int lo t, .int hi u, .int 1 v] }, toks := tk } := by
  refine wpAny_pyIter_range (IsRange.new ..) (small_one h1 h2 h3 h4) ?_
  have I1 : Inv X pins σ H { s with heap := s.heap.push { cls := .type "range", data := .fields #[.int lo t, .int hi u, .int 1 v] }, toks := tk } := I.kept fun b o e => Heap.get?_push_of_some _ e
  refine ⟨(s.heap.push { cls := .type "range", data := .fields #[.int lo t, .int hi u, .int 1 v] }).objs.size, [(s.heap.push { cls := .type "range", data := .fields #[.int lo t, .int hi u, .int 1 v] }).objs.size], _, _, H, rfl,
    I1.kept (t' := tk) fun b o e => Heap.get?_push_of_some _ e, turn_range _ lo (hi - lo).toNat, ?_, fun b hb => ?_, q⟩
  · have e1 : lo + ((0 : Nat) : Int) * 1 = lo := by simp
    have e2 : (((hi - lo).toNat : Nat) : Int) - ((0 : Nat) : Int) = Builtin.Range.rangeSize lo hi 1 := by rw [rangeSize_one]; split <;> omega
    show IsRangeIter _ _ (lo + ((0 : Nat) : Int) * 1) ((((hi - lo).toNat : Nat) : Int) - ((0 : Nat) : Int)) 1
    rw [e1, e2]
    exact Heap.get?_push_size _ rfl
  · have e : b = (s.heap.push { cls := .type "range", data := .fields #[.int lo t, .int hi u, .int 1 v] }).objs.size := by simpa using hb
    subst e
    exact I1.fpOk (Nat.le_refl _) (I1.hok.fresh (Nat.le_refl _))
def iRng1 (ta : TA) : TI := fun σ H R => ta σ H fun vs H1 => ∃ j : Int, vs = [.int j] ∧ -(2 ^ 62) ≤ j ∧ j < 2 ^ 62 ∧ R (Itr 0 j.toNat) H1
def iRng2 (ta : TA) : TI := fun σ H R => ta σ H fun vs H1 => ∃ i j : Int, vs = [.int i, .int j] ∧ (-(2 ^ 62) ≤ i ∧ i < 2 ^ 62 ∧ -(2 ^ 62) ≤ j ∧ j < 2 ^ 62) ∧ R (Itr i (j - i).toNat) H1
theorem pi_range1 {a : Expr} {ta : TA} {p pos : Pos} (hg : Gl X "range") (hm : X.mg "range" = none) (ha : PA X [a] ta) (hs : starEach [a] X.env = [(false, eval a X.env)] := by rfl) : PI X tg (.Call (.Name "range" p) [a] [] pos) (iRng1 ta) := by
  intro pins s σ H R I h
  refine Call_ (ld_blt I hg hm boot_range (PyProof.Rows.callWith_type1 (thn (ha pos pins s σ H _ I h) fun us s1 ⟨vs, H1, I1, r1, q1⟩ => ?_) hs rfl))
  obtain ⟨j, e, q1, q2, q⟩ := q1
  subst e
  cases r1 with
  | cons r rr =>
    cases rr
    obtain ⟨t, rfl⟩ := r
    exact call_range_1 (range_it I1 (by omega) (by omega) q1 q2 (by simpa using q))
/-- W: the invariant by the turn and a measure; N: what the body is to reach -/
def tFor (wi : TI) (g : TG) (tb : TS) : TS := fun D σ H => wi σ H fun J H1 => ∃ W : Nat → Nat → St → Hp → Prop, (∃ m, W 0 m σ H1) ∧ ∀ i m σ H, W i m σ H →
  (J.stop i H ∧ D.nx σ H) ∨ (J.go i H ∧ ∃ N : St → Hp → Prop, (∀ σ' H', N σ' H' → ∃ m', m' < m ∧ W (i + 1) m' σ' H') ∧ ∀ x H', J.yld i H x H' → g x σ H' fun σ2 H2 => tb { D with nx := N, ct := N, bk := D.nx } σ2 H2)
/-- the records at fp as they stand -/
def pinsAt (fp : List Addr) (h : Heap) : List (Addr × Obj) := fp.filterMap fun b => (h.get? b).map fun o => (b, o)
theorem mem_pinsAt {fp : List Addr} {h : Heap} {b : Addr} {o : Obj} (hb : b ∈ fp) (e : h.get? b = some o) : (b, o) ∈ pinsAt fp h := List.mem_filterMap.mpr ⟨b, hb, by rw [e]; rfl⟩
theorem of_pinsAt {fp : List Addr} {h : Heap} {p : Addr × Obj} (hp : p ∈ pinsAt fp h) : p.1 ∈ fp ∧ h.get? p.1 = some p.2 := by
  obtain ⟨b, hb, e⟩ := List.mem_filterMap.mp hp
  cases q : h.get? b with
  | none => rw [q] at e; cases e
  | some o =>
    rw [q] at e
    have e' : (b, o) = p := Option.some.inj e
    subst e'
    exact ⟨hb, q⟩
theorem Inv.pinned {pins : List (Addr × Obj)} {σ : St} {H : Hp} {s : Shared} {fp : List Addr} (I : Inv X pins σ H s) (hf : ∀ b ∈ fp, FpOk X pins H b) (ho : ∀ b ∈ fp, ∃ o, s.heap.get? b = some o ∧ ∀ v, o.data ≠ .cell v) : Inv X (pins ++ pinsAt fp s.heap) σ H s :=
  I.pins_of fun p hp => (List.mem_append.mp hp).elim (fun z => I.pin p (List.mem_append_right _ z)) fun z => by
    obtain ⟨hb, e⟩ := of_pinsAt z
    obtain ⟨f0, f1, f2, _⟩ := hf p.1 hb
    obtain ⟨o, e', d⟩ := ho p.1 hb
    rw [e] at e'; cases e'
    exact ⟨e, f0, f1, f2, d⟩
theorem Inv.unpinned {pins pl : List (Addr × Obj)} {σ : St} {H : Hp} {s : Shared} (I : Inv X (pins ++ pl) σ H s) : Inv X pins σ H s := I.pins_of fun p hp => I.pin p (List.mem_append_right _ (List.mem_append_left _ hp))
theorem ps_for {iter : Expr} {body : List Stmt} {wi : TI} {g : TG} {tb : TS} {pos : Pos} (hp : PassesOwn (model X.prog X.w) X.A X.env X.xe) (hc : X.calm = true) (hi : PI X tg iter wi) (hg : PG X tg g) (hb : PSs X body tb)
    (hs : ∀ x, foldedSetIterable iter X.env x = pure x := by intro _; rfl) : PS X (.For tg iter body [] pos) (tFor wi g tb) := by
  intro pins s σ H D I h
  refine wpAny_For (thn (hi pins s σ H _ I h) fun v s1 h1 => thn h1 fun itv s2 h2 => ?_) hs
  obtain ⟨it, fp, tn, J, H2, e, I2, T, st2, f2, W, ⟨m0, w0⟩, turn⟩ := h2
  subst e
  -- what stays true of the iterator's objects through the loop
  have stat : ∀ {H' : Hp}, (∀ b ∈ fp, H' b = none) → ∀ b ∈ fp, FpOk X pins H' b := fun hn b hb => ⟨hn b hb, (f2 b hb).2⟩
  refine codeAny_forLoop_any (fun n s' => ∃ i σ' H', Inv X pins σ' H' s' ∧ tn i s'.heap ∧ (∀ b ∈ fp, H' b = none) ∧ W i n σ' H') ?_ m0 ⟨0, σ, H2, I2, st2, fun b hb => (f2 b hb).1, w0⟩
  rintro n s3 ⟨i, σ3, H3, I3, st3, fr3, w3⟩
  rcases turn i n σ3 H3 w3 with ⟨stop, qn⟩ | ⟨go, N, hN, step⟩
  · refine wpAny_passesOwn hp (thn (T.done X rfl rfl rfl hc i pins s3 σ3 H3 X.xe I3 (stat fr3) st3 stop) fun r s4 ⟨hr, I4⟩ => ?_)
    subst hr
    exact wpAny_execs_nil ⟨σ3, H3, I4, qn⟩
  · refine wpAny_passesOwn hp (thn (T.item X rfl rfl rfl hc i pins s3 σ3 H3 X.xe I3 (stat fr3) st3 go) fun r s4 ⟨u, hr, h4⟩ => ?_)
    subst hr
    refine wpAny_passesOwn hp (thn h4 fun _ s5 ⟨x, H5, I5, r5, y5, st5, fr5⟩ => ?_)
    have I5' := I5.pinned (stat fr5) (T.obj _ _ st5)
    refine wpAny_passesOwn hp (thn (hg _ s5 σ3 H5 x u _ I5' r5 (step x H5 y5)) fun _ s6 ⟨σ6, H6, I6, q6⟩ => ?_)
    refine wpAny_passesOwn hp (thn (hb _ s6 σ6 H6 _ I6 q6) fun f s7 q7 => ?_)
    have again : ∀ {σ7 : St} {H7 : Hp}, Inv X (pins ++ pinsAt fp s5.heap) σ7 H7 s7 → N σ7 H7 → ∃ m, m < n ∧ ∃ i σ' H', Inv X pins σ' H' s7 ∧ tn i s7.heap ∧ (∀ b ∈ fp, H' b = none) ∧ W i m σ' H' := fun {σ7 H7} I7 n7 => by
      obtain ⟨m', hm, w7⟩ := hN σ7 H7 n7
      refine ⟨m', hm, i + 1, σ7, H7, I7.unpinned, T.keep _ _ _ st5 fun b hb o e => (I7.pin (b, o) (List.mem_append_right _ (List.mem_append_right _ (mem_pinsAt hb e)))).1, fun b hb => ?_, w7⟩
      obtain ⟨o, e, d⟩ := T.obj _ _ st5 b hb
      exact (I7.pin (b, o) (List.mem_append_right _ (List.mem_append_right _ (mem_pinsAt hb e)))).2.1
    cases f with
    | next => obtain ⟨σ7, H7, I7, n7⟩ := q7; exact again I7 n7
    | cont => obtain ⟨σ7, H7, I7, n7⟩ := q7; exact again I7 n7
    | brk => obtain ⟨σ7, H7, I7, q7⟩ := q7; exact ⟨σ7, H7, I7.unpinned, q7⟩
    | ret v => obtain ⟨x7, σ7, H7, I7, r7, q7⟩ := q7; exact ⟨x7, σ7, H7, I7.unpinned, r7, q7⟩
end

/-- over a list that the body leaves as it is -/
theorem for_list {K : PySem.W.Frag} {a : Addr} {xs : List V} {g : TG} {tb : TS} {D : Ends} {σ : St} {H : Hp} (Pv : Nat → St → Hp → Prop) (h0 : Pv 0 σ H) (hl : ∀ i σ H, i ≤ xs.length → Pv i σ H → SqL K H a xs)
    (hs : ∀ i x σ H, xs[i]? = some x → Pv i σ H → g x σ H fun σ2 H2 => tb { D with nx := Pv (i + 1), ct := Pv (i + 1), bk := D.nx } σ2 H2) (hd : ∀ σ H, Pv xs.length σ H → D.nx σ H) :
    ∃ W : Nat → Nat → St → Hp → Prop, (∃ m, W 0 m σ H) ∧ ∀ i m σ H, W i m σ H →
      ((Itl K a).stop i H ∧ D.nx σ H) ∨ ((Itl K a).go i H ∧ ∃ N : St → Hp → Prop, (∀ σ' H', N σ' H' → ∃ m', m' < m ∧ W (i + 1) m' σ' H') ∧ ∀ x H', (Itl K a).yld i H x H' → g x σ H' fun σ2 H2 => tb { D with nx := N, ct := N, bk := D.nx } σ2 H2) := by
  refine ⟨fun i m σ H => m = xs.length - i ∧ i ≤ xs.length ∧ Pv i σ H, ⟨xs.length, by simp, Nat.zero_le _, h0⟩, ?_⟩
  rintro i m σ H ⟨rfl, hi, p⟩
  have q := hl i σ H hi p
  by_cases hlt : i < xs.length
  · refine .inr ⟨⟨xs, xs[i], q, by simp [hlt]⟩, Pv (i + 1), fun σ' H' p' => ⟨xs.length - (i + 1), by omega, rfl, hlt, p'⟩, fun x H' y => ?_⟩
    obtain ⟨e, y⟩ := y
    subst e
    exact hs i x σ _ (y xs q) p
  · have e : i = xs.length := by omega
    subst e
    exact .inl ⟨⟨xs, q, Nat.le_refl _⟩, hd σ H p⟩
theorem for_range {lo : Int} {n : Nat} {g : TG} {tb : TS} {D : Ends} {σ : St} {H : Hp} (Pv : Nat → St → Hp → Prop) (h0 : Pv 0 σ H)
    (hs : ∀ i σ H, i < n → Pv i σ H → g (.int (lo + i)) σ H fun σ2 H2 => tb { D with nx := Pv (i + 1), ct := Pv (i + 1), bk := D.nx } σ2 H2) (hd : ∀ σ H, Pv n σ H → D.nx σ H) :
    ∃ W : Nat → Nat → St → Hp → Prop, (∃ m, W 0 m σ H) ∧ ∀ i m σ H, W i m σ H →
      ((Itr lo n).stop i H ∧ D.nx σ H) ∨ ((Itr lo n).go i H ∧ ∃ N : St → Hp → Prop, (∀ σ' H', N σ' H' → ∃ m', m' < m ∧ W (i + 1) m' σ' H') ∧ ∀ x H', (Itr lo n).yld i H x H' → g x σ H' fun σ2 H2 => tb { D with nx := N, ct := N, bk := D.nx } σ2 H2) := by
  refine ⟨fun i m σ H => m = n - i ∧ i ≤ n ∧ Pv i σ H, ⟨n, by simp, Nat.zero_le _, h0⟩, ?_⟩
  rintro i m σ H ⟨rfl, hi, p⟩
  by_cases hlt : i < n
  · refine .inr ⟨hlt, Pv (i + 1), fun σ' H' p' => ⟨n - (i + 1), by omega, rfl, hlt, p'⟩, fun x H' y => ?_⟩
    obtain ⟨e, y⟩ := y
    subst e y
    exact hs i σ _ hlt p
  · have e : i = n := by omega
    subst e
    exact .inl ⟨Nat.le_refl _, hd σ H p⟩
end L2

namespace L2
open PySem PySem.Spec PyProof.Rows

abbrev R2 := V → V → Hp → VK → Prop
/-- a two-place operation on values: f is binaryOp op, inplaceOp op or compareOp op -/
def OpR (X : Cx) (f : Value → Value → Sem Value) (r : R2) : Prop :=
  ∀ (pins : List (Addr × Obj)) (s : Shared) (σ : St) (H : Hp) (x y : V) (v u : Value) (Q : VK), Inv X pins σ H s → RelV x v → RelV y u → r x y H Q →
    wpAny (model X.prog X.w) X.A (f v u) (EP X pins σ Q) X.xe s
/-- a one-place operation -/
def UnR (X : Cx) (f : Value → Sem Value) (r : V → Hp → VK → Prop) : Prop :=
  ∀ (pins : List (Addr × Obj)) (s : Shared) (σ : St) (H : Hp) (x : V) (v : Value) (Q : VK), Inv X pins σ H s → RelV x v → r x H Q →
    wpAny (model X.prog X.w) X.A (f v) (EP X pins σ Q) X.xe s
/-- a call of a value that is known (a builtin, a type) with values -/
def CallR (X : Cx) (f : Value) (r : List V → Hp → VK → Prop) : Prop :=
  ∀ (pins : List (Addr × Obj)) (s : Shared) (σ : St) (H : Hp) (xs : List V) (us : List Value) (Q : VK), Inv X pins σ H s → Vals xs us → r xs H Q →
    wpAny (model X.prog X.w) X.A (call f us) (EP X pins σ Q) X.xe s
def tOp (r : R2) (ta tb : TE) : TE := fun σ H Q => ta σ H fun x H1 => tb σ H1 fun y H2 => r x y H2 Q
def tUn (r : V → Hp → VK → Prop) (ta : TE) : TE := fun σ H Q => ta σ H fun x H1 => r x H1 Q
/-- ints in, under C, and a value out -/
def rI (C : Int → Int → Prop) (g : Int → Int → V) : R2 := fun x y H Q => ∃ i j, x = .int i ∧ y = .int j ∧ C i j ∧ Q (g i j) H
def rI0 (g : Int → Int → V) : R2 := fun x y H Q => ∃ i j, x = .int i ∧ y = .int j ∧ Q (g i j) H
def rU (g : Int → V) : V → Hp → VK → Prop := fun x H Q => ∃ i, x = .int i ∧ Q (g i) H

section
variable {X : Cx} {a b c : Expr} {ta tb tc : TE} {pos : Pos}

theorem binT (ha : PE X a ta) (hb : PE X b tb) {pins : List (Addr × Obj)} {s : Shared} {σ : St} {H : Hp} {R : V → V → Hp → Prop} (I : Inv X pins σ H s)
    (h : ta σ H fun x H1 => tb σ H1 fun y H2 => R x y H2) {Q : Value → Shared → Prop} {f : Value → Value → Sem Value}
    (hf : ∀ v u s2 x y H2, Inv X pins σ H2 s2 → RelV x v → RelV y u → R x y H2 → wpAny (model X.prog X.w) X.A (f v u) Q X.xe s2) :
    wpAny (model X.prog X.w) X.A (eval a X.env) (fun v s₁ => wpAny (model X.prog X.w) X.A (eval b X.env) (fun u s₂ => wpAny (model X.prog X.w) X.A (f v u) Q X.xe s₂) X.xe s₁) X.xe s := by
  refine thn (ha pins s σ H _ I h) fun v s1 ⟨x, H1, I1, r1, q1⟩ => ?_
  refine thn (hb pins s1 σ H1 _ I1 q1) fun u s2 ⟨y, H2, I2, r2, q2⟩ => ?_
  exact hf v u s2 x y H2 I2 r1 r2 q2

theorem pe_op {op : Operator} {r : R2} (ho : OpR X (binaryOp op) r) (ha : PE X a ta) (hb : PE X b tb) : PE X (.BinOp a op b pos) (tOp r ta tb) := by
  intro pins s σ H Q I h
  exact wpAny_BinOp (binT ha hb I h fun v u s2 x y H2 I2 rx ry q => ho pins s2 σ H2 x y v u Q I2 rx ry q)
theorem pe_un {op : UnaryOp} {r : V → Hp → VK → Prop} (ho : UnR X (unaryOp op) r) (ha : PE X a ta) : PE X (.UnaryOp op a pos) (tUn r ta) := by
  intro pins s σ H Q I h
  exact UnaryOp_ (thn (ha pins s σ H _ I h) fun v s1 ⟨x, H1, I1, r1, q1⟩ => ho pins s1 σ H1 x v Q I1 r1 q1)
theorem opI {f : Value → Value → Sem Value} {C : Int → Int → Prop} {g : Int → Int → Int}
    (rule : ∀ (i j : Int) (t u : Tok) (s : Shared) (Q : Value → Shared → Prop) (E : Value → Shared → Prop), C i j → Q (.int (g i j) s.toks) { s with toks := s.toks + 1 } → wpAny (model X.prog X.w) X.A (f (.int i t) (.int j u)) Q E s) :
    OpR X f (rI C fun i j => .int (g i j)) := by
  intro pins s σ H x y v u Q I rx ry h
  obtain ⟨i, j, rfl, rfl, hc, q⟩ := h
  obtain ⟨t, rfl⟩ := rx
  obtain ⟨t', rfl⟩ := ry
  exact rule i j t t' s _ _ hc ⟨.int (g i j), H, I.tok _, ⟨_, rfl⟩, q⟩
theorem opI0 {f : Value → Value → Sem Value} {g : Int → Int → Int}
    (rule : ∀ (i j : Int) (t u : Tok) (s : Shared) (Q : Value → Shared → Prop) (E : Value → Shared → Prop), Q (.int (g i j) s.toks) { s with toks := s.toks + 1 } → wpAny (model X.prog X.w) X.A (f (.int i t) (.int j u)) Q E s) :
    OpR X f (rI0 fun i j => .int (g i j)) := by
  intro pins s σ H x y v u Q I rx ry h
  obtain ⟨i, j, rfl, rfl, q⟩ := h
  obtain ⟨t, rfl⟩ := rx
  obtain ⟨t', rfl⟩ := ry
  exact rule i j t t' s _ _ ⟨.int (g i j), H, I.tok _, ⟨_, rfl⟩, q⟩
theorem opB0 {f : Value → Value → Sem Value} {g : Int → Int → Bool}
    (rule : ∀ (i j : Int) (t u : Tok) (s : Shared) (Q : Value → Shared → Prop) (E : Value → Shared → Prop), Q (.bool (g i j)) s → wpAny (model X.prog X.w) X.A (f (.int i t) (.int j u)) Q E s) :
    OpR X f (rI0 fun i j => .bl (g i j)) := by
  intro pins s σ H x y v u Q I rx ry h
  obtain ⟨i, j, rfl, rfl, q⟩ := h
  obtain ⟨t, rfl⟩ := rx
  obtain ⟨t', rfl⟩ := ry
  exact rule i j t t' s _ _ ⟨.bl (g i j), H, I, rfl, q⟩

def CPow (i j : Int) : Prop := 0 ≤ j ∧ j ≤ 1000000 ∧ i.natAbs < 2 ^ 64
def CMul (i j : Int) : Prop := (-(2 ^ 64) < i ∧ i < 2 ^ 64) ∨ (-(2 ^ 64) < j ∧ j < 2 ^ 64)
theorem CMul.ok {i j : Int} (h : CMul i j) : IntMulOk i j := by
  rcases h with ⟨h1, h2⟩ | ⟨h1, h2⟩
  · exact .of_left (intBits_le_64 h1 h2)
  · exact .of_right (intBits_le_64 h1 h2)
theorem op_add : OpR X (binaryOp .Add) (rI0 fun i j => .int (i + j)) := opI0 fun _ _ _ _ _ _ _ q => add_int q
theorem op_sub : OpR X (binaryOp .Sub) (rI0 fun i j => .int (i - j)) := opI0 fun _ _ _ _ _ _ _ q => sub_int q
/-- % by a positive divisor of any size -/
theorem op_mod : OpR X (binaryOp .Mod) (rI (fun _ j => 0 < j) fun i j => .int (i % j)) := opI fun i j _ _ _ _ _ hc q => by
  have h1 : (0 : Int) < j := hc
  exact mod_int' (by omega) (by rw [Int.fmod_eq_emod_of_nonneg i (by omega)]; exact q)
theorem op_pow : OpR X (binaryOp .Pow) (rI CPow fun i j => .int (i ^ j.toNat)) := opI fun _ _ _ _ _ _ _ hc q => pow_int_small hc.1 hc.2.1 hc.2.2 q
theorem unI {f : Value → Sem Value} {g : Int → Int}
    (rule : ∀ (i : Int) (t : Tok) (s : Shared) (Q : Value → Shared → Prop) (E : Value → Shared → Prop), Q (.int (g i) s.toks) { s with toks := s.toks + 1 } → wpAny (model X.prog X.w) X.A (f (.int i t)) Q E s) :
    UnR X f (rU fun i => .int (g i)) := by
  intro pins s σ H x v Q I rx h
  obtain ⟨i, rfl, q⟩ := h
  obtain ⟨t, rfl⟩ := rx
  exact rule i t s _ _ ⟨.int (g i), H, I.tok _, ⟨_, rfl⟩, q⟩
theorem un_neg : UnR X (unaryOp .USub) (rU fun i => .int (-i)) := unI fun _ _ _ _ _ q => neg_int q
end

/-- the scalars that == tells apart as data does -/
def scal : V → V → Bool
  | .non, .non => true | .non, .int _ => true | .int _, .non => true | .non, .bl _ => true | .bl _, .non => true | .non, .str _ => true | .str _, .non => true
  | .int _, .int _ => true | .bl _, .bl _ => true | .str _, .str _ => true | .byt _, .byt _ => true
  | .int _, .str _ => true | .str _, .int _ => true | .bl _, .str _ => true | .str _, .bl _ => true
  | _, _ => false
def rEq : R2 := fun x y H Q => scal x y = true ∧ Q (.bl (decide (x = y))) H
def rNe : R2 := fun x y H Q => scal x y = true ∧ Q (.bl (!decide (x = y))) H

theorem dec_int {i j : Int} : decide (V.int i = V.int j) = (i == j) := by
  rw [Bool.eq_iff_iff]
  simp
theorem dec_bl {i j : Bool} : decide (V.bl i = V.bl j) = (i == j) := by
  rw [Bool.eq_iff_iff]
  simp
theorem dec_str {i j : Str} : decide (V.str i = V.str j) = (i == j) := by
  rw [Bool.eq_iff_iff]
  simp
theorem dec_byt {i j : Array UInt8} : decide (V.byt i = V.byt j) = (i.toList == j.toList) := by
  rw [Bool.eq_iff_iff]
  cases i
  cases j
  simp

section
variable {X : Cx} {a b c : Expr} {ta tb tc : TE} {pos : Pos}
theorem fin_bl {pins : List (Addr × Obj)} {σ : St} {H : Hp} {s : Shared} {Q : VK} {k k' : Bool} (I : Inv X pins σ H s) (q : Q (.bl k) H) (e : k = k') : EP X pins σ Q (.bool k') s := by
  subst e
  exact ⟨.bl k, H, I, rfl, q⟩
theorem op_eq : OpR X (compareOp .Eq) rEq := by
  intro pins s σ H x y v u Q I rx ry h
  obtain ⟨hs, q⟩ := h
  cases x with
  | non =>
    cases rx
    cases y with
    | non => cases ry; exact PySem.EqNone.eq_none_none (fin_bl I q (by simp))
    | bl j => cases ry; exact PySem.EqNone.eq_none_bool (fin_bl I q (by simp))
    | int j => obtain ⟨t', rfl⟩ := ry; exact PySem.EqNone.eq_none_int (fin_bl I q (by simp))
    | str j => obtain ⟨t', rfl⟩ := ry; exact PySem.EqNone.eq_none_str (fin_bl I q (by simp))
    | _ => exact absurd (show false = true from hs) Bool.false_ne_true
  | bl i =>
    cases rx
    cases y with
    | non => cases ry; exact PySem.EqNone.eq_bool_none (fin_bl I q (by simp))
    | bl j => cases ry; exact eq_bool (fin_bl I q dec_bl)
    | str j => obtain ⟨t', rfl⟩ := ry; exact PySem.EqMixed.eq_bool_str (fin_bl I q (by simp))
    | _ => exact absurd (show false = true from hs) Bool.false_ne_true
  | int i =>
    obtain ⟨t, rfl⟩ := rx
    cases y with
    | non => cases ry; exact PySem.EqNone.eq_int_none (fin_bl I q (by simp))
    | int j => obtain ⟨t', rfl⟩ := ry; exact eq_int (fin_bl I q dec_int)
    | str j => obtain ⟨t', rfl⟩ := ry; exact PySem.EqMixed.eq_int_str (fin_bl I q (by simp))
    | _ => exact absurd (show false = true from hs) Bool.false_ne_true
  | str i =>
    obtain ⟨t, rfl⟩ := rx
    cases y with
    | non => cases ry; exact PySem.EqNone.eq_str_none (fin_bl I q (by simp))
    | bl j => cases ry; exact PySem.EqMixed.eq_str_bool (fin_bl I q (by simp))
    | int j => obtain ⟨t', rfl⟩ := ry; exact PySem.EqMixed.eq_str_int (fin_bl I q (by simp))
    | str j => obtain ⟨t', rfl⟩ := ry; exact eq_str (fin_bl I q dec_str)
    | _ => exact absurd (show false = true from hs) Bool.false_ne_true
  | byt i =>
    obtain ⟨t, rfl⟩ := rx
    cases y with
    | byt j => obtain ⟨t', rfl⟩ := ry; exact PySem.W.eq_bytes (fin_bl I q dec_byt)
    | _ => exact absurd (show false = true from hs) Bool.false_ne_true
  | _ => cases y <;> exact absurd (show false = true from hs) Bool.false_ne_true
theorem op_ne : OpR X (compareOp .NotEq) rNe := by
  intro pins s σ H x y v u Q I rx ry h
  obtain ⟨hs, q⟩ := h
  cases x with
  | non =>
    cases rx
    cases y with
    | non => cases ry; exact PySem.EqNone.ne_none_none (fin_bl I q (by simp))
    | bl j => cases ry; exact PySem.EqNone.ne_none_bool (fin_bl I q (by simp))
    | int j => obtain ⟨t', rfl⟩ := ry; exact PySem.EqNone.ne_none_int (fin_bl I q (by simp))
    | str j => obtain ⟨t', rfl⟩ := ry; exact PySem.EqNone.ne_none_str (fin_bl I q (by simp))
    | _ => exact absurd (show false = true from hs) Bool.false_ne_true
  | bl i =>
    cases rx
    cases y with
    | non => cases ry; exact PySem.EqNone.ne_bool_none (fin_bl I q (by simp))
    | bl j => cases ry; exact ne_bool (fin_bl I q (congrArg not dec_bl))
    | str j => obtain ⟨t', rfl⟩ := ry; exact PySem.EqMixed.ne_bool_str (fin_bl I q (by simp))
    | _ => exact absurd (show false = true from hs) Bool.false_ne_true
  | int i =>
    obtain ⟨t, rfl⟩ := rx
    cases y with
    | non => cases ry; exact PySem.EqNone.ne_int_none (fin_bl I q (by simp))
    | int j => obtain ⟨t', rfl⟩ := ry; exact ne_int (fin_bl I q (congrArg not dec_int))
    | str j => obtain ⟨t', rfl⟩ := ry; exact PySem.EqMixed.ne_int_str (fin_bl I q (by simp))
    | _ => exact absurd (show false = true from hs) Bool.false_ne_true
  | str i =>
    obtain ⟨t, rfl⟩ := rx
    cases y with
    | non => cases ry; exact PySem.EqNone.ne_str_none (fin_bl I q (by simp))
    | bl j => cases ry; exact PySem.EqMixed.ne_str_bool (fin_bl I q (by simp))
    | int j => obtain ⟨t', rfl⟩ := ry; exact PySem.EqMixed.ne_str_int (fin_bl I q (by simp))
    | str j => obtain ⟨t', rfl⟩ := ry; exact ne_str (fin_bl I q (congrArg not dec_str))
    | _ => exact absurd (show false = true from hs) Bool.false_ne_true
  | byt i =>
    obtain ⟨t, rfl⟩ := rx
    cases y with
    | byt j => obtain ⟨t', rfl⟩ := ry; exact PySem.W.ne_bytes (fin_bl I q (congrArg not dec_byt))
    | _ => exact absurd (show false = true from hs) Bool.false_ne_true
  | _ => cases y <;> exact absurd (show false = true from hs) Bool.false_ne_true

theorem op_lt : OpR X (compareOp .Lt) (rI0 fun i j => .bl (decide (i < j))) := opB0 fun _ _ _ _ _ _ _ q => lt_int q
theorem op_gt : OpR X (compareOp .Gt) (rI0 fun i j => .bl (decide (j < i))) := opB0 fun _ _ _ _ _ _ _ q => gt_int q
/-- the one string within the other -/
theorem op_in_str : OpR X (compareOp .In) (fun x y H Q => ∃ i j, x = .str i ∧ y = .str j ∧ Q (.bl (!(Builtin.Str.occurrences j i 0 j.length 1).isEmpty)) H) := by
  intro pins s σ H x y v u Q I rx ry h
  obtain ⟨i, j, rfl, rfl, q⟩ := h
  obtain ⟨t, rfl⟩ := rx
  obtain ⟨t', rfl⟩ := ry
  exact in_str (fin_bl I q rfl)

theorem op_notin_str : OpR X (compareOp .NotIn) (fun x y H Q => ∃ i j, x = .str i ∧ y = .str j ∧ Q (.bl (!(!(Builtin.Str.occurrences j i 0 j.length 1).isEmpty))) H) := by
  intro pins s σ H x y v u Q I rx ry h
  obtain ⟨i, j, rfl, rfl, q⟩ := h
  obtain ⟨t, rfl⟩ := rx
  obtain ⟨t', rfl⟩ := ry
  exact notIn_str (fin_bl I q rfl)
/-- two rules for one operation: by cases -/
theorem OpR.or {f : Value → Value → Sem Value} {r r' : R2} (h : OpR X f r) (h' : OpR X f r') : OpR X f (fun x y H Q => r x y H Q ∨ r' x y H Q) := by
  intro pins s σ H x y v u Q I rx ry q
  rcases q with q | q
  · exact h pins s σ H x y v u Q I rx ry q
  · exact h' pins s σ H x y v u Q I rx ry q

theorem nomark (b : Expr) {op : CmpOp} (h : op ≠ .In := by decide) (h2 : op ≠ .NotIn := by decide) : behindInMarks op b = false := by
  have e1 : (op == CmpOp.In) = false := by cases op <;> first | rfl | exact absurd rfl h
  have e2 : (op == CmpOp.NotIn) = false := by cases op <;> first | rfl | exact absurd rfl h2
  cases b <;> simp [behindInMarks, e1, e2]
/-- a comparison as a value; hm: nomark b, or (for in, not in) by with_unfolding_all rfl -/
theorem pe_cmpR {op : CmpOp} {r : R2} (ho : OpR X (compareOp op) r) (ha : PE X a ta) (hb : PE X b tb) (hm : behindInMarks op b = false) : PE X (.Compare a [op] [b] pos) (tOp r ta tb) := by
  intro pins s σ H Q I h
  exact wpAny_Compare1 (binT ha hb I h fun v u s2 x y H2 I2 rx ry q => ho pins s2 σ H2 x y v u Q I2 rx ry q) hm
/-- a reading of a value as a test -/
def tTest (t : TE) : TT := fun σ H Q => t σ H fun x H' => ∃ k, x = .bl k ∧ Q k H'
theorem pt_cmpR {op : CmpOp} {r : R2} (ho : OpR X (compareOp op) r) (ha : PE X a ta) (hb : PE X b tb) (hm : behindInMarks op b = false) : PT X (.Compare a [op] [b] pos) (tTest (tOp r ta tb)) := by
  intro pins s σ H Q I h
  refine wpAny_isTrue_Compare1 (thn (ha pins s σ H _ I h) fun v s1 ⟨x, H1, I1, r1, q1⟩ => thn (hb pins s1 σ H1 _ I1 q1) fun u s2 ⟨y, H2, I2, r2, q2⟩ =>
    thn (ho pins s2 σ H2 x y v u _ I2 r1 r2 q2) fun c s3 ⟨z, H3, I3, r3, k, e, q3⟩ => ?_) hm
  subst e
  cases r3
  exact wpAny_truthy_bool ⟨H3, I3, q3⟩
/-- a op1 b op2 c -/
def tChain (r r' : R2) (ta tb tc : TE) : TE := fun σ H Q => ta σ H fun x H1 => tb σ H1 fun y H2 => r x y H2 fun z H3 => ∃ k, z = .bl k ∧
  (if k = true then tc σ H3 fun w' H4 => r' y w' H4 Q else Q (.bl false) H3)
theorem line63 : (sizeLine : Nat) < 2 ^ 63 := by rw [sizeLine_eq]; decide
theorem op_add_str : OpR X (binaryOp .Add) (fun x y H Q => ∃ i j, x = .str i ∧ y = .str j ∧ i.length + j.length ≤ sizeLine ∧ Q (.str (i ++ j)) H) := by
  intro pins s σ H x y v u Q I rx ry h
  obtain ⟨i, j, rfl, rfl, hz, q⟩ := h
  obtain ⟨t, rfl⟩ := rx
  obtain ⟨t', rfl⟩ := ry
  exact add_str (fun t' tk => ⟨.str (i ++ j), H, I.tok _, ⟨_, rfl⟩, q⟩) hz
theorem vals1 {x : V} {us : List Value} (r : Vals [x] us) : ∃ u, us = [u] ∧ RelV x u := by
  cases r with
  | cons r1 r2 => cases r2; exact ⟨_, rfl, r1⟩
theorem vals2 {x y : V} {us : List Value} (r : Vals [x, y] us) : ∃ u w', us = [u, w'] ∧ RelV x u ∧ RelV y w' := by
  cases r with
  | cons r1 r2 =>
    cases r2 with
    | cons r3 r4 => cases r4; exact ⟨_, _, rfl, r1, r3⟩
theorem call_str_int : CallR X (.type "str") (fun xs H Q => ∃ i, xs = [.int i] ∧ i.natAbs.log2 < 1920 ∧ Q (.str (toString i)) H) := by
  intro pins s σ H xs us Q I r h
  obtain ⟨i, rfl, hz, q⟩ := h
  obtain ⟨u, rfl, t, rfl⟩ := vals1 r
  exact PySem.P.str_of_int hz ⟨.str _, H, I.tok _, ⟨_, rfl⟩, q⟩
end
end L2

namespace L2
open PySem PySem.Spec PyProof.Rows

structure ObjM (h : Heap) (x dx C : Addr) (mA : Str → Option Value) : Prop where
  obj : h.get? x = some (PySem.W.instObj C dx)
  ns : h.Ns1 dx mA
  ne : dx ≠ x

theorem lookIn_ns {h : Heap} {dx : Addr} {mA : Str → Option Value} (n : h.Ns1 dx mA) : ∃ od, h.get? dx = some od ∧ ∀ name, PySem.W.lookIn name od = some (mA name) := by
  obtain ⟨o, es, ep, ho, hd, hk, _, hm⟩ := n
  refine ⟨o, ho, fun name => ?_⟩
  have e := hm name
  unfold nsFind findBy at e
  rw [← Array.find?_toList] at e
  unfold PySem.W.lookIn
  rw [hd]
  dsimp only
  split
  · rename_i y q
    rw [q] at e
    exact congrArg some e
  · rename_i q
    rw [q] at e
    have a : es.toList.any (·.refKey) = false := by
      rw [List.any_eq_false]
      intro y hy
      obtain ⟨z, t, hkey⟩ := hk y (Array.mem_toList_iff.mp hy)
      simp [DictEntry.refKey, hkey]
    have a' : ¬ es.toList.any (·.refKey) = true := by rw [a]; exact Bool.false_ne_true
    rw [if_neg a']
    exact congrArg some e

theorem ObjM.look {h : Heap} {x dx C : Addr} {mA : Str → Option Value} (I : ObjM h x dx C mA) : ∃ od, PySem.W.InstAt h x (PySem.W.instObj C dx) C (some od) ∧ ∀ name, PySem.W.lookIn name od = some (mA name) :=
  let ⟨od, ho, hl⟩ := lookIn_ns I.ns
  ⟨od, ⟨I.obj, rfl, rfl, ho⟩, hl⟩

section
variable {prog : Program} {w : World} {A : Around} {E : Value → Shared → Prop} {s : Shared} {K : PySem.W.Frag} {x dx C f : Addr} {mA : Str → Option Value} {name : Str} {v : Value}

end

def putF (f : Str) (v : V) : List (Str × V) → List (Str × V)
  | [] => [(f, v)]
  | (g, x) :: r => if g = f then (g, v) :: r else (g, x) :: putF f v r
section
variable {P : Program} {w : World} {H H' : Hp} {h h' : Heap} {a C dx : Addr} {fs fs' : List (Str × V)}
theorem ins_get (hok : HOk P w H h) (e : H a = some (.ins C dx fs)) : ∃ mA, ObjM h a dx C mA ∧ (∀ f, RelO (fs.lookup f) (mA f)) ∧ PySem.Within mA (fs.map (·.1)) ∧ fs.length ≤ 1000 ∧ H dx = some (.own a) := by
  obtain ⟨d, z, ne, ob, mA, n, r, q⟩ := (show ObjOk P w H h a (.ins C dx fs) from hok a _ e)
  exact ⟨mA, ⟨ob, n, ne⟩, r, q, z, d⟩
end

structure Cls (K : PySem.W.Frag) (C : Addr) : Prop where
  pg : PySem.W.plainGet K C Str.empty = true
  hd : PySem.W.hasDictIn K C = true
  po : PySem.W.plainOver K C = true
  sa : PySem.W.findIn K (.ref C) "__setattr__" = some (some (.builtin "object.__setattr__"))
theorem Cls.get {K : PySem.W.Frag} {C : Addr} (c : Cls K C) (f : Str) : PySem.W.plainGet K C f = true := c.pg
/-- no class of it has the name -/
def NoAttr (K : PySem.W.Frag) (C : Addr) (f : Str) : Prop := PySem.W.findIn K (.ref C) f = some none
/-- a method: a plain def of the class or of one above it -/
structure Meth (K : PySem.W.Frag) (C : Addr) (m : Str) (f : Addr) : Prop where
  at_ : PySem.W.findIn K (.ref C) m = some (some (.ref f))
  fn : PySem.W.isFn K (.ref f) = true
  kp : PySem.W.keepIn K (.ref f) = true

section
variable {X : Cx} {pins : List (Addr × Obj)} {σ : St} {H : Hp} {s : Shared} {a C dx : Addr} {fs : List (Str × V)} {f : Str} {v : V} {A : Around} {E : Value → Shared → Prop}

/-- a new instance, tracked, without attributes -/
theorem Inv.made (I : Inv X pins σ H s) : Inv X pins σ (upd (upd H s.heap.objs.size (.own (s.heap.objs.size + 1))) (s.heap.objs.size + 1) (.ins C s.heap.objs.size []))
    { s with heap := (s.heap.push PySem.W.emptyDict).push (PySem.W.instObj C s.heap.objs.size) } := by
  have e1 : (s.heap.push PySem.W.emptyDict).get? s.heap.objs.size = some PySem.W.emptyDict := Heap.get?_push_size s.heap rfl
  have e2 : ((s.heap.push PySem.W.emptyDict).push (PySem.W.instObj C s.heap.objs.size)).get? (s.heap.objs.size + 1) = some (PySem.W.instObj C s.heap.objs.size) := by
    have := Heap.get?_push_size (s.heap.push PySem.W.emptyDict) (o := PySem.W.instObj C s.heap.objs.size) rfl
    rwa [Heap.size_push] at this
  have e3 : (s.heap.push PySem.W.emptyDict).Ns s.heap.objs.size (fun _ => none) := ⟨PySem.W.emptyDict, #[], _, e1, rfl, (fun e he => absurd he (by simp)), fun _ => rfl⟩
  have I1 := I.laid (a := s.heap.objs.size) (o := .own (s.heap.objs.size + 1)) (h' := s.heap.push PySem.W.emptyDict) (t' := s.toks) (fun b u q => Heap.get?_push_of_some _ q) (Nat.le_refl _) ⟨_, e1⟩
  refine I1.laid (a := s.heap.objs.size + 1) (o := .ins C s.heap.objs.size []) (t' := s.toks) (fun b u q => Heap.get?_push_of_some _ q) (Nat.le_of_eq (Heap.size_push _ _)) ?_
  have ne : s.heap.objs.size ≠ s.heap.objs.size + 1 := Nat.ne_of_lt (Nat.lt_succ_self _)
  refine ⟨by rw [upd_ne ne, upd_same], Nat.zero_le _, ne, e2, fun _ => none, (Heap.Ns1.of_empty e3).at fun o q => Heap.get?_push_of_some _ q, fun _ => True.intro, fun y hy => absurd rfl hy⟩

end

/-- e.f, an attribute of the instance -/
def tFld (K : PySem.W.Frag) (ta : TE) (f : Str) : TE := fun σ H Q => ta σ H fun x H1 => ∃ a C dx fs v, x = .ref a ∧ H1 a = some (.ins C dx fs) ∧ Cls K C ∧ NoAttr K C f ∧ fs.lookup f = some v ∧ Q v H1
/-- e.f = value -/
def sFld (K : PySem.W.Frag) (ta tv : TE) (f : Str) : TS := fun D σ H => tv σ H fun y H1 => ta σ H1 fun x H2 => ∃ a C dx fs, x = .ref a ∧ H2 a = some (.ins C dx fs) ∧ Cls K C ∧ NoAttr K C f ∧ fs.length < 1000 ∧
  D.nx σ (upd H2 a (.ins C dx (putF f y fs)))
section
variable {X : Cx} {o e value : Expr} {f : Str} {pos pos' tpos : Pos} {ta tv : TE}
end

section
variable {X : Cx} {pins : List (Addr × Obj)} {σ : St} {H : Hp} {s : Shared} {A : Around} {E : Value → Shared → Prop} {Q : Value → Shared → Prop} {c : Value} {b : Bool}
/-- the type of a value, as the fragment's deciders take it; for an instance its class -/
inductive TyOf (K : PySem.W.Frag) (H : Hp) : V → Value → Prop where
  | non : TyOf K H .non (.type "NoneType")
  | bl (x : Bool) : TyOf K H (.bl x) (.type "bool")
  | int (i : Int) : TyOf K H (.int i) (.type "int")
  | str (x : Str) : TyOf K H (.str x) (.type "str")
  | flt (x : UInt64) : TyOf K H (.flt x) (.type "float")
  | lst {a : Addr} {xs : List V} (e : H a = some (.lst xs)) : TyOf K H (.ref a) (.type "list")
  | frz {a : Addr} {o : Obj} {xs : List V} (e : H a = some (.frz o (.lst xs))) : TyOf K H (.ref a) (.type "list")
  | tup {a : Addr} {xs : List V} (e : H a = some (.tup xs)) : TyOf K H (.ref a) (.type "tuple")
  | dK {a : Addr} {kvs : List (Key × V)} (e : H a = some (.dK kvs)) : TyOf K H (.ref a) (.type "dict")
  | dT {a : Addr} {kvs : List (List Key × V)} (e : H a = some (.dT kvs)) : TyOf K H (.ref a) (.type "dict")
  | ins {a C dx : Addr} {fs : List (Str × V)} (e : H a = some (.ins C dx fs)) (cl : Cls K C) (ha : PySem.W.findIn K (.ref C) "__class__" = some (some (.builtin "object.__class__")))
      (hn : PySem.W.specialIn K (.builtin "object.__class__") "__get__" = some (some (.builtin "getset_descriptor.__get__"))) (htk : PySem.W.takesIn K (.builtin "object.__class__") = some true)
      (hm : PySem.W.mroIn K C (.type "object") = some true) : TyOf K H (.ref a) (.ref C)
/-- isinstance(x, c) for one class c, a built-in or an own one: kitOne's answer -/
theorem isinst_ok {x : V} {u t : Value} (I : Inv X pins σ H s) (rx : RelV x u) (ty : TyOf X.K H x t) (e : PySem.W.kitOne X.K t c = some b) (h : ∀ tk, Q (.bool b) { s with toks := tk }) :
    wpAny (model X.prog X.w) A (call (.builtin "isinstance") [u, c]) Q E s := by
  cases ty with
  | non => cases (show u = Value.none from rx); exact PySem.W.kia_one PySem.W.kitx_none I.kIn True.intro e (fun z => nomatch z) h
  | bl y => cases (show u = Value.bool y from rx); exact PySem.W.kia_one PySem.W.kitx_bool I.kIn True.intro e (fun z => nomatch z) h
  | int i => obtain ⟨t, q⟩ := (show ∃ t, u = Value.int i t from rx); cases q; exact PySem.W.kia_one PySem.W.kitx_int I.kIn True.intro e (fun z => nomatch z) h
  | str y => obtain ⟨t, q⟩ := (show ∃ t, u = Value.str y t from rx); cases q; exact PySem.W.kia_one PySem.W.kitx_str I.kIn True.intro e (fun z => nomatch z) h
  | flt y => obtain ⟨t, q⟩ := (show ∃ t, u = Value.float y t from rx); cases q; exact PySem.W.kia_one PySem.W.kitx_float I.kIn True.intro e (fun z => nomatch z) h
  | @lst a xs ea =>
    cases (show u = Value.ref a from rx)
    obtain ⟨_, _, n, _, h1⟩ := (show ObjOk X.prog X.w H s.heap a (.lst xs) from I.hok a _ ea)
    exact PySem.W.kia_one PySem.W.kitx_list I.kIn ⟨_, h1, rfl⟩ e (fun z => nomatch z) h
  | @frz a ob xs ea =>
    cases (show u = Value.ref a from rx)
    obtain ⟨_, _, _, n, _, h1⟩ := (show ObjOk X.prog X.w H s.heap a (.frz ob (.lst xs)) from I.hok a _ ea)
    exact PySem.W.kia_one PySem.W.kitx_list I.kIn ⟨_, h1, rfl⟩ e (fun z => nomatch z) h
  | @tup a xs ea =>
    cases (show u = Value.ref a from rx)
    obtain ⟨_, _, _, p⟩ := (show ObjOk X.prog X.w H s.heap a (.tup xs) from I.hok a _ ea)
    obtain ⟨o, h1, h2, _⟩ := p
    exact PySem.W.kia_one PySem.W.kitx_tuple I.kIn ⟨o, h1, h2⟩ e (fun z => nomatch z) h
  | @dK a kvs ea =>
    cases (show u = Value.ref a from rx)
    obtain ⟨_, _, vs, _, p⟩ := (show ObjOk X.prog X.w H s.heap a (.dK kvs) from I.hok a _ ea)
    obtain ⟨o, es, ep, h1, h2, _⟩ := p
    exact PySem.W.kia_one PySem.W.kitx_dict I.kIn ⟨o, h1, h2.1⟩ e (fun z => nomatch z) h
  | @dT a kvs ea =>
    cases (show u = Value.ref a from rx)
    obtain ⟨_, _, xs, _, o, es, ep, h1, h2, _⟩ := (show ObjOk X.prog X.w H s.heap a (.dT kvs) from I.hok a _ ea)
    exact PySem.W.kia_one PySem.W.kitx_dict I.kIn ⟨o, h1, h2.1⟩ e (fun z => nomatch z) h
  | @ins a C dx fs ea cl ha hn htk hm =>
    cases (show u = Value.ref a from rx)
    obtain ⟨mA, O, _⟩ := ins_get I.hok ea
    obtain ⟨od, J, _⟩ := O.look
    exact PySem.W.kia_one (PySem.W.kitx_own (cl.get _) cl.hd ha hn htk hm) I.kIn J e (fun z => nomatch z) h
end
end L2

namespace L2
open PySem PySem.Spec PyProof.Rows

structure Room (k : Nat) (A : Around) : Prop where
  hd : A.handled = none
  dp : A.depth + 3 * k + 5 < recursionLimit
  un : A.units + 16 * k + 200 < cLine
  gd : A.guards = some []
theorem Room.mono {j k : Nat} {A : Around} (r : Room k A) (h : j ≤ k) : Room j A := ⟨r.hd, by have := r.dp; omega, by have := r.un; omega, r.gd⟩
theorem Room.deeper {k : Nat} {A : Around} (r : Room (k + 1) A) (env : Env) : Room k (A.deeper env) :=
  ⟨r.hd, by have := r.dp; show A.depth + 1 + 3 * k + 5 < _; omega, by have := r.un; show A.units + 3 + 16 * k + 200 < _; omega, r.gd⟩
theorem Room.in1 {k : Nat} {A : Around} (r : Room (k + 1) A) : Room k A.in1 :=
  ⟨r.hd, by have := r.dp; show A.depth + 3 * k + 5 < _; omega, by have := r.un; show A.units + 1 + 16 * k + 200 < _; omega, r.gd⟩
theorem Room.depth {k : Nat} {A : Around} (r : Room k A) : A.depth < recursionLimit := by have := r.dp; omega
theorem Room.units {k : Nat} {A : Around} (r : Room k A) : A.units + 64 < cLine := by have := r.un; omega
theorem Room.units0 {k : Nat} {A : Around} (r : Room k A) : A.units < cLine := by have := r.un; omega

def tNil : TA := fun _ H Q => Q [] H
def tCons (ta : TE) (tr : TA) : TA := fun σ H Q => ta σ H fun x H1 => tr σ H1 fun xs H2 => Q (x :: xs) H2
section
variable {X : Cx} {e : Expr} {es : List Expr} {te : TE} {t : TA} {pos : Pos}
theorem pa_nil : PA X [] tNil := fun _ _ _ _ H Q I h => Calls.spliced_nil ⟨[], H, I, .nil, h⟩
theorem pa_cons (ha : PE X e te) (hr : PA X es t) (hs : starEach (e :: es) X.env = (false, eval e X.env) :: starEach es X.env := by rfl) : PA X (e :: es) (tCons te t) := by
  intro pos pins s σ H Q I h
  rw [hs]
  show wpAny _ _ (spliced ((false, eval e X.env) :: backTo pos (starEach es X.env))) _ _ s
  refine Calls.spliced_cons (thn (ha pins s σ H _ I h) fun u s1 ⟨x, H1, I1, r1, q1⟩ => ?_)
  exact thn (hr pos pins s1 σ H1 _ I1 q1) fun us s2 ⟨xs, H2, I2, r2, q2⟩ => ⟨x :: xs, H2, I2, .cons r1 r2, q2⟩

/-- a tuple, a list of written items -/
def tTup (t : TA) : TE := fun σ H Q => t σ H fun xs H1 => xs.length ≤ sizeLine ∧ ∀ p, H1 p = none → Q (.ref p) (upd H1 p (.tup xs))
def tLst (t : TA) : TE := fun σ H Q => t σ H fun xs H1 => xs.length ≤ sizeLine ∧ ∀ p, H1 p = none → Q (.ref p) (upd H1 p (.lst xs))
theorem pe_tup {x1} (h : PA X es t) : PE X (.Tuple es x1 pos) (tTup t) := by
  intro pins s σ H Q I hq
  refine wpAny_Tuple_spliced (thn (h pos pins s σ H _ I hq) fun us s1 ⟨xs, H1, I1, r, z, q⟩ => ⟨by rw [← r.length]; exact z, ?_⟩)
  have hf : H1 s1.heap.objs.size = none := I1.hok.fresh (Nat.le_refl _)
  refine ⟨.ref s1.heap.objs.size, upd H1 s1.heap.objs.size (.tup xs), I1.laid (t' := s1.toks) (fun b u e => Heap.get?_push_of_some _ e) (Nat.le_refl _) ?_, rfl, q _ hf⟩
  exact ⟨z, us, r, ⟨_, Heap.get?_push_size _ rfl, rfl, _, rfl⟩⟩
theorem pe_lst (h : PA X es t) : PE X (.List es pos) (tLst t) := by
  intro pins s σ H Q I hq
  refine wpAny_List_spliced (thn (h pos pins s σ H _ I hq) fun us s1 ⟨xs, H1, I1, r, z, q⟩ => ⟨by rw [← r.length]; exact z, ?_⟩)
  have hf : H1 s1.heap.objs.size = none := I1.hok.fresh (Nat.le_refl _)
  refine ⟨.ref s1.heap.objs.size, upd H1 s1.heap.objs.size (.lst xs), I1.laid (t' := s1.toks) (fun b u e => Heap.get?_push_of_some _ e) (Nat.le_refl _) ?_, rfl, q _ hf⟩
  exact ⟨z, us, 0, r, Heap.get?_push_size _ rfl⟩
end

/-- a def's promise: the bound arguments in the parameters' order, the heap, the wanted end, the wanted exception -/
abbrev Sp := List V → Hp → VK → XK → Prop
/-- how an exception lies behind a call (file 08 gives it): the callers' frames, abstract heap and state ahead of the call, the wish, the exception, the state -/
abbrev CXT := List Env → Hp → Shared → XK → Value → Shared → Prop

/-- the state at a call -/
structure Env0 (P : Program) (w : World) (K : PySem.W.Frag) (mg : Str → Option Value) (base : Heap) (A : Around) (outer : List Env) (s : Shared) (H : Hp) : Prop where
  frames : A.frames = some outer
  mod : Mod K mg base
  bs : ∀ b o, base.get? b = some o → s.heap.get? b = some o ∧ H b = none
  bsz : base.objs.size ≤ s.heap.objs.size
  funs : s.heap.FunFrames base outer
  frf : ∀ b ∈ frs outer, H b = none
  hok : HOk P w H s.heap
  bare : AllBare s.gens
/-- a call's end -/
def CE (outer : List Env) (P : Program) (w : World) (H : Hp) (s : Shared) (Q : VK) (u : Value) (s' : Shared) : Prop :=
  ∃ v H', s'.os = s.os ∧ AllBare s'.gens ∧ Un (frs outer) [] H H' s.heap s'.heap ∧ HOk P w H' s'.heap ∧ RelV v u ∧ Q v H'
def CR (CX : CXT) (outer : List Env) (P : Program) (w : World) (H : Hp) (s : Shared) (Q : VK) (E : XK) (r : Result) (s' : Shared) : Prop :=
  match r with
  | .ok (.ret u) => CE outer P w H s Q u s'
  | .ok _ => False
  | .error e => CX outer H s E e s'
structure FnOk (P : Program) (w : World) (K : PySem.W.Frag) (mg : Str → Option Value) (base : Heap) (CX : CXT) (k : Nat) (f : Addr) (fd : FuncData) (ps : List Str) (sp : Sp) : Prop where
  len : ∀ vs H Q E, sp vs H Q E → vs.length = ps.length
  run : ∀ (A : Around) (outer : List Env) (s : Shared) (H : Hp) (args : Args) (us : List Value) (vs : List V) (Q : VK) (E : XK), Room k A → Env0 P w K mg base A outer s H → BindsTo s fd args (ps.zip us) → Vals vs us → sp vs H Q E →
    codeAny (model P w) A (.call (.ref f) args) (CR CX outer P w H s Q E) s
theorem FnOk.mono {P : Program} {w : World} {K : PySem.W.Frag} {mg : Str → Option Value} {base : Heap} {CX : CXT} {j k : Nat} {f : Addr} {fd : FuncData} {ps : List Str} {sp : Sp} (F : FnOk P w K mg base CX j f fd ps sp) (h : j ≤ k) :
    FnOk P w K mg base CX k f fd ps sp := ⟨F.len, fun A outer s H args us vs Q E hr => F.run A outer s H args us vs Q E (hr.mono h)⟩
theorem Env0.in1 {P : Program} {w : World} {K : PySem.W.Frag} {mg : Str → Option Value} {base : Heap} {A : Around} {outer : List Env} {s : Shared} {H : Hp} (e : Env0 P w K mg base A outer s H) :
    Env0 P w K mg base A.in1 outer s H := ⟨e.frames, e.mod, e.bs, e.bsz, e.funs, e.frf, e.hok, e.bare⟩

section
variable {X : Cx} {pins : List (Addr × Obj)} {σ : St} {H : Hp} {s s' : Shared}
/-- from a body: what a callee wants -/
theorem Inv.env0 (I : Inv X pins σ H s) : Env0 X.prog X.w X.K X.mg X.base X.A X.stack s H :=
  ⟨I.ok.frames, I.ok.mod, I.bs, Nat.le_trans I.ok.bsz I.sz, I.stack, I.stkFree, I.hok, I.bare⟩
/-- behind a call -/
theorem Inv.after {Q : VK} {u : Value} (I : Inv X pins σ H s) (h : CE X.stack X.prog X.w H s Q u s') : EP X pins σ Q u s' := by
  obtain ⟨v, H', os, bare, un, hok, r, q⟩ := h
  obtain ⟨hh, g, d, t, os'⟩ := s'
  obtain rfl : os' = s.os := os
  exact ⟨v, H', I.call (h' := hh) (g' := g) (d' := d) (t' := t) (ch := []) un hok bare (fun b z => absurd z (by simp)), r, q⟩
end

/-- f(..): the written arguments, then the defaults dvs; E: what is wanted of an exception -/
def tCall (sp : Sp) (dvs : List V) (E : XK) (t : TA) : TE := fun σ H Q => t σ H fun vs H1 => sp (vs ++ dvs) H1 Q E
/-- o.m(..) of an instance of the class at C -/
def tMeth (C : Addr) (m : Str) (sp : Sp) (dvs : List V) (E : XK) (ta : TE) (t : TA) : TE := fun σ H Q => ta σ H fun x H1 => ∃ a dx fs, x = .ref a ∧ H1 a = some (.ins C dx fs) ∧ fs.lookup m = none ∧
  t σ H1 fun vs H2 => sp (x :: (vs ++ dvs)) H2 Q E
/-- C(..): a new instance and its dict, then __init__ -/
def tMake (C : Addr) (sp : Sp) (dvs : List V) (E : XK) (t : TA) : TE := fun σ H Q => t σ H fun vs H1 => ∀ x dx, H1 x = none → H1 dx = none → dx ≠ x →
  sp (.ref x :: (vs ++ dvs)) (upd (upd H1 dx (.own x)) x (.ins C dx [])) (fun v H2 => v = .non ∧ Q (.ref x) H2) E

/-- how the parameters are bound: us the positional arguments, kw the keywords' values by name, ds the defaults that fill up -/
def Binds (K : PySem.W.Frag) (fd : FuncData) (ps : List Str) (ds : List Value) : Prop :=
  ∀ (s : Shared) (us : List Value), K.In s.heap → (us ++ ds).length = ps.length → BindsTo s fd ⟨us, []⟩ (ps.zip (us ++ ds))
/-- every parameter is given -/
theorem Binds.all {K : PySem.W.Frag} {fd : FuncData} {ps : List Str} (h : ∀ us : List Value, us.length = ps.length → bindArgs fd ⟨us, []⟩ = pure (ps.zip us)) : Binds K fd ps [] := fun s us _ hl => by
  rw [List.append_nil] at hl ⊢
  exact .of_eq (h us hl)

/-- an exception of a callee reaches what this body wants of exceptions -/
def Passes (CX : CXT) (X : Cx) (E : XK) : Prop := ∀ (pins : List (Addr × Obj)) (σ : St) (H : Hp) (s : Shared) (e : Value) (s' : Shared), Inv X pins σ H s → CX X.stack H s E e s' → X.xe e s'

section
variable {X : Cx} {CX : CXT} {k : Nat} {f C : Addr} {fd : FuncData} {ps : List Str} {sp : Sp} {dvs : List V} {ds : List Value} {E : XK} {x m : Str} {p pos apos : Pos} {e o : Expr} {es : List Expr} {ta : TE} {t : TA}

/-- the callee runs -/
theorem run_fn {pins : List (Addr × Obj)} {σ : St} {H : Hp} {s : Shared} {Q : VK} {us : List Value} {vs : List V} (F : FnOk X.prog X.w X.K X.mg X.base CX k f fd ps sp) (hr : Room k X.A) (hb : Binds X.K fd ps ds) (hd : Vals dvs ds) (hx : Passes CX X E)
    (I : Inv X pins σ H s) (r : Vals vs us) (h : sp (vs ++ dvs) H Q E) : wpAny (model X.prog X.w) X.A (call (.ref f) us) (EP X pins σ Q) X.xe s := by
  have r2 : Vals (vs ++ dvs) (us ++ ds) := r.append hd
  have hl : (us ++ ds).length = ps.length := by rw [← r2.length]; exact F.len _ _ _ _ h
  refine wpAny_call (codeAny_mono (F.run X.A X.stack s H ⟨us, []⟩ (us ++ ds) (vs ++ dvs) Q E hr I.env0 (hb s us I.kIn hl) r2 h) fun r s' hq => ?_)
  cases r with
  | error e => exact hx pins σ H s e s' I hq
  | ok fl =>
    cases fl with
    | ret u => exact I.after hq
    | next => exact False.elim hq
    | brk => exact False.elim hq
    | cont => exact False.elim hq

theorem pe_call (F : FnOk X.prog X.w X.K X.mg X.base CX k f fd ps sp) (hr : Room k X.A) (hg : Gl X x) (hm : X.mg x = some (.ref f)) (hk : PySem.W.keepIn X.K (.ref f) = true) (hb : Binds X.K fd ps ds) (hd : Vals dvs ds) (hx : Passes CX X E)
    (ha : PA X (e :: es) t) (hdb : (x == ("__debug__" : Str)) = false := by decide) (he : starEach (e :: es) X.env = (false, eval e X.env) :: starEach es X.env := by rfl) (hpl : (backTo pos (starEach es X.env)).any (·.1) = false := by rfl) :
    PE X (.Call (.Name x p) (e :: es) [] pos) (tCall sp dvs E t) := by
  intro pins s σ H Q I h
  refine wpAny_Call_Name_kw (ld_glob I hg hm ?_ hdb)
  refine PySem.W.callWith_K (h₀ := X.base) I.ok.mod.kin hk (thn (ha pos pins s σ H _ I h) fun us s1 ⟨vs, H1, I1, r, q⟩ => ⟨I1.kIn, ?_⟩) he hpl
  exact run_fn F hr hb hd hx I1 r q
end

section
variable {X : Cx} {CX : CXT} {k : Nat} {f C : Addr} {fd : FuncData} {ps ks : List Str} {sp : Sp} {E : XK} {x m : Str} {p pos apos kpos : Pos} {e o : Expr} {es : List Expr} {kws : List Keyword} {te ta : TE} {t tk : TA} {nm : Option Str}
variable {g : List Value → List Value → List Value} {gV : List V → List V → List V}
end

/-- names: the parameters first -/
structure FnScope (N P : List Str) (sc : Scope) : Prop where
  kind : sc.kind = .function
  co : sc.isCoroutine = false
  gen : sc.isGenerator = false
  nd : N.Nodup
  pre : N.take P.length = P
  par : ∀ x ∈ P, sc.names.lookup x = some .local ∨ sc.names.lookup x = some .cell
  nofree : ∀ y ∈ sc.names, y.2 ≠ .free

theorem bindL_out {kindOf : Str → Option NameKind} {x : Str} : ∀ {binds : List (Str × Value)} {m : Str → Option Value}, (∀ v, (x, v) ∉ binds) → bindL kindOf binds m x = m x
  | [], _, _ => rfl
  | (n, v) :: r, m, h => by
    unfold bindL
    rw [bindL_out fun w hw => h w (List.mem_cons_of_mem _ hw)]
    split
    · have : x ≠ n := by rintro rfl; exact h v List.mem_cons_self
      simp [this]
    · rfl
theorem bindC_out {kindOf : Str → Option NameKind} {x : Str} : ∀ {binds : List (Str × Value)} {m : Str → Option Value}, (∀ v, (x, v) ∉ binds) → bindC kindOf binds m x = m x
  | [], _, _ => rfl
  | (n, v) :: r, m, h => by
    unfold bindC
    rw [bindC_out fun w hw => h w (List.mem_cons_of_mem _ hw)]
    split
    · rfl
    · have : x ≠ n := by rintro rfl; exact h v List.mem_cons_self
      simp [this]
theorem bindL_get {kindOf : Str → Option NameKind} {x : Str} {v : Value} : ∀ {P : List Str} {vs : List Value} {i : Nat} {m : Str → Option Value}, P.Nodup → P[i]? = some x → vs[i]? = some v → kindOf x = some .local →
    bindL kindOf (P.zip vs) m x = some v
  | [], _, _, _, _, h, _, _ => by simp at h
  | _ :: _, [], _, _, _, _, h, _ => by simp at h
  | p :: P, w :: vs, 0, m, nd, h1, h2, hk => by
    simp at h1 h2; subst h1; subst h2
    show bindL kindOf ((p, w) :: P.zip vs) m p = _
    unfold bindL
    rw [bindL_out fun v hv => (List.nodup_cons.mp nd).1 (List.of_mem_zip hv).1, if_pos hk]
    simp
  | p :: P, w :: vs, i + 1, m, nd, h1, h2, hk => by
    show bindL kindOf ((p, w) :: P.zip vs) m x = _
    unfold bindL
    exact bindL_get (i := i) (List.nodup_cons.mp nd).2 (by simpa using h1) (by simpa using h2) hk
theorem bindC_get {kindOf : Str → Option NameKind} {x : Str} {v : Value} : ∀ {P : List Str} {vs : List Value} {i : Nat} {m : Str → Option Value}, P.Nodup → P[i]? = some x → vs[i]? = some v → kindOf x ≠ some .local →
    bindC kindOf (P.zip vs) m x = some v
  | [], _, _, _, _, h, _, _ => by simp at h
  | _ :: _, [], _, _, _, _, h, _ => by simp at h
  | p :: P, w :: vs, 0, m, nd, h1, h2, hk => by
    simp at h1 h2; subst h1; subst h2
    show bindC kindOf ((p, w) :: P.zip vs) m p = _
    unfold bindC
    rw [bindC_out fun v hv => (List.nodup_cons.mp nd).1 (List.of_mem_zip hv).1, if_neg hk]
    simp
  | p :: P, w :: vs, i + 1, m, nd, h1, h2, hk => by
    show bindC kindOf ((p, w) :: P.zip vs) m x = _
    unfold bindC
    exact bindC_get (i := i) (List.nodup_cons.mp nd).2 (by simpa using h1) (by simpa using h2) hk

/-- the names' values at the entry -/
def start (N : List Str) (vs : List V) : St := vs.map some ++ List.replicate (N.length - vs.length) none

/-- the context of a def's body, at its entry; an exception leaves the frame, then lies as CX says -/
def cxOf (CX : CXT) (P : Program) (w : World) (K : PySem.W.Frag) (mg : Str → Option Value) (base : Heap) (N : List Str) (qual : Str) (scope : Scope) (f : Addr) (cd : Value) (A : Around) (outer : List Env) (s : Shared) (H : Hp) (E : XK) : Cx where
  prog := P
  w := w
  K := K
  mg := mg
  base := base
  A := A.deeper (envOfC qual scope s.heap.objs.size f cd)
  N := N
  s₀ := s
  H₀ := H
  env := envOfC qual scope s.heap.objs.size f cd
  outer := outer
  stack := envOfC qual scope s.heap.objs.size f cd :: outer
  ex := []
  calm := true
  fn := fun _ => true
  pn := []
  xe := fun e s' => wpAny (model P w) (A.deeper (envOfC qual scope s.heap.objs.size f cd)) (leaving (envOfC qual scope s.heap.objs.size f cd) e) (fun _ s'' => CX outer H s E e s'') (fun e' s'' => CX outer H s E e' s'') s'

theorem cell_has {sc : Scope} {n : Nat} {x : Str} (h : sc.names.lookup x = some .cell) : ∃ c, (cellsFrom n sc.names []).lookup x = some c := by
  have q := PySem.W.cellsFrom_some sc.names n [] (.inl h)
  exact Option.isSome_iff_exists.mp q

theorem inv_start {CX : CXT} {P : Program} {w : World} {K : PySem.W.Frag} {mg : Str → Option Value} {base : Heap} {N ps : List Str} {qual : Str} {scope : Scope} {f : Addr} {cd : Value} {A : Around} {outer : List Env} {s s1 : Shared} {H : Hp} {E : XK} {us : List Value} {vs : List V}
    (S : FnScope N ps scope) (hd : A.handled = none) (e0 : Env0 P w K mg base A outer s H) (hl : vs.length = ps.length) (r : Vals vs us)
    (x : InCallC s s.heap.objs.size (bindL (envOfC qual scope s.heap.objs.size f cd).kindOf (ps.zip us) fun _ => none) (cellsFrom (s.heap.objs.size + 1) scope.names []) (bindC (envOfC qual scope s.heap.objs.size f cd).kindOf (ps.zip us) fun _ => none) s1) :
    Inv (cxOf CX P w K mg base N qual scope f cd A outer s H E) [] (start N vs) H s1 := by
  have hpl : ps.length ≤ N.length := by have := congrArg List.length S.pre; rw [List.length_take] at this; omega
  obtain ⟨h1, tk, rfl, hk⟩ := x.done
  have noA : ∀ b : Addr, b ∉ (cxOf CX P w K mg base N qual scope f cd A outer s H E).ex := fun b z => absurd (show b ∈ ([] : List Addr) from z) (by simp)
  refine ⟨⟨e0.mod, S.kind, rfl, rfl, Nat.le_refl _, fun y z c h1 h2 => ?_, fun y hy => ?_, fun y c _ h => ?_, fun _ => hd, Around.frames_deeper e0.frames, .inr ⟨rfl, rfl⟩, fun b z => absurd z (noA b), e0.bs, e0.bsz, fun b _ _ => noA b, fun b z => absurd z (noA b), e0.funs, e0.frf⟩,
    rfl, e0.bare, Un.kept hk, ⟨_, x.toInCall.ns, fun i y v h1 h2 h3 => ?_⟩, fun y c h => ⟨_, x.cell y c h⟩, e0.hok.fresh (Nat.le_refl _), fun y c h => ?_, fun p hp => absurd (show p ∈ ([] : List (Addr × Obj)) from hp) (by simp), e0.hok.kept hk, ?_⟩
  · exact name_of_addr x.apart (PySem.mem_of_lookup h1) (PySem.mem_of_lookup h2)
  · have hy : scope.names.lookup y = some .cell ∨ scope.names.lookup y = some .free := hy
    rcases hy with hy | hy
    · exact cell_has hy
    · exact absurd rfl (S.nofree _ (PySem.mem_of_lookup hy))
  · exact Nat.le_of_lt (x.above y c (PySem.mem_of_lookup h))
  · have hi : i < vs.length := by
      unfold start at h2
      by_cases hi : i < vs.length
      · exact hi
      · rw [List.getElem?_append_right (by simpa using hi)] at h2
        rw [List.getElem?_replicate] at h2
        split at h2 <;> cases h2
    have ha : vs[i]? = some v := by
      unfold start at h2
      rw [List.getElem?_append_left (by simpa using hi), List.getElem?_map] at h2
      cases e : vs[i]? with
      | none => rw [e] at h2; cases h2
      | some a => rw [e] at h2; cases h2; rfl
    obtain ⟨u, hu, rv⟩ := r.get ha
    have hp : ps[i]? = some y := by
      rw [← S.pre, List.getElem?_take_of_lt (by omega)]; exact h1
    have ndP : ps.Nodup := by rw [← S.pre]; exact S.nd.sublist (List.take_sublist _ _)
    refine ⟨u, rv, ?_⟩
    rcases S.par y (List.mem_of_getElem? hp) with k | k
    · exact .inl ⟨k, bindL_get ndP hp hu k⟩
    · obtain ⟨c, e⟩ := cell_has (n := s.heap.objs.size + 1) k
      refine .inr ⟨.inl k, c, e, ?_⟩
      have q := x.cell y c e
      rw [bindC_get ndP hp hu (by show scope.names.lookup y ≠ _; rw [k]; decide)] at q
      exact q
  · exact e0.hok.fresh (Nat.le_of_lt (x.above y c (PySem.mem_of_lookup h)))
  · unfold start
    show _ = N.length
    rw [List.length_append, List.length_map, List.length_replicate]
    omega

/-- THE RULE: a def (or a method) of the text, by its body. The body's reading t is chosen for each entry; it is run at the parameters' values -/
theorem fn_of {CX : CXT} {P : Program} {w : World} {K : PySem.W.Frag} {mg : Str → Option Value} {base : Heap} {k : Nat} {f : Addr} {name qual : Str} {params : Arguments} {body : List Stmt} {scope : Scope} {dV kV doc pm cdv ct oc : Value} {an od : Option Addr}
    {osl : Array (Option Value)} {N ps : List Str} {sp : Sp} (lk : K.lookup f = some ⟨oc, od, .func (PySem.W.fnOf name qual params body scope dV kV doc pm an cdv ct), osl⟩) (hcd : PySem.W.codeIn K cdv qual = true) (S : FnScope N ps scope)
    (len : ∀ vs H Q E, sp vs H Q E → vs.length = ps.length)
    (hbody : ∀ (A : Around) (outer : List Env) (s : Shared) (H : Hp) (vs : List V) (Q : VK) (E : XK), Room k (A.deeper (envOfC qual scope s.heap.objs.size f cdv)) → sp vs H Q E →
      ∃ t, PSs (cxOf CX P w K mg base N qual scope f cdv A outer s H E) body t ∧ t { nx := fun _ H' => Q .non H', rt := Q } (start N vs) H) :
    FnOk P w K mg base CX (k + 1) f (PySem.W.fnOf name qual params body scope dV kV doc pm an cdv ct) ps sp := by
  refine ⟨len, fun A outer s H args us vs Q E hr e0 hb r hsp => ?_⟩
  have hl := len _ _ _ _ hsp
  have KX : K.In s.heap := e0.mod.kin.keeps fun b o e => (e0.bs b o e).1
  have lim : s.heap.NoLimit := e0.mod.nolimit.keeps fun b o e => (e0.bs b o e).1
  have hkind : ∀ y ∈ ps.zip us, scope.names.lookup y.1 = some .local ∨ (scope.names.lookup y.1 = some .cell ∧ ((cellsFrom (s.heap.objs.size + 1) scope.names []).lookup y.1).isSome = true) := fun ⟨n, v⟩ hy => by
    rcases S.par n (List.of_mem_zip hy).1 with q | q
    · exact .inl q
    · exact .inr ⟨q, PySem.W.cellsFrom_some _ _ _ (.inl q)⟩
  refine codeAny_call_function hr.depth (KX _ _ lk) rfl S.co S.gen rfl (PySem.W.codeRec_of KX hcd) (hb _ _ _ _ ?_)
  refine wpAny_newFunctionEnv_cells S.kind hkind fun env he s1 x => ?_
  subst he
  refine ⟨lim.keeps x.toInCall.keep, codeAny_func ?_⟩
  obtain ⟨t, ht, hq⟩ := hbody A outer s H vs Q E (hr.deeper _) hsp
  have I : Inv (cxOf CX P w K mg base N qual scope f cdv A outer s H E) [] (start N vs) H s1 := inv_start S hr.hd e0 hl r x
  refine wpAny_mono (ht [] s1 (start N vs) H _ I hq) (fun fl s' hs => ?_) fun e s' hs => hs
  have fin : ∀ {σ' : St} {H' : Hp} {v : V} {u : Value}, Inv (cxOf CX P w K mg base N qual scope f cdv A outer s H E) [] σ' H' s' → RelV v u → Q v H' → CE outer P w H s Q u s' :=
    fun {σ' H' v u} J rv q => ⟨v, H', J.os, J.bare, J.base, J.hok, rv, q⟩
  cases fl with
  | ret u =>
    obtain ⟨v, σ', H', J, rv, q⟩ := hs
    exact fin J rv q
  | next =>
    obtain ⟨σ', H', J, q⟩ := hs
    exact fin (v := V.non) (u := Value.none) J rfl q
  | brk =>
    obtain ⟨_, _, _, q⟩ := hs
    exact False.elim q
  | cont =>
    obtain ⟨_, _, _, q⟩ := hs
    exact False.elim q
end L2

namespace L2
open PySem PySem.Spec PyProof.Rows
section
variable {X : Cx} {x : Str} {p pos : Pos} {e : Expr} {es : List Expr} {t : TA} {id T : String} {r : List V → Hp → VK → Prop}

def tCB (r : List V → Hp → VK → Prop) (t : TA) : TE := fun σ H Q => t σ H fun vs H1 => r vs H1 Q
/-- f(e, ..), f a built-in function -/
theorem pe_callB (hc : CallR X (.builtin id) r) (hg : Gl X x) (hm : X.mg x = none) (hv : bootBuiltins x = some (.builtin id)) (ha : PA X (e :: es) t) (hn : x ≠ "__name__" := by decide) (hdb : (x == ("__debug__" : Str)) = false := by decide)
    (he : starEach (e :: es) X.env = (false, eval e X.env) :: starEach es X.env := by rfl) (hpl : (backTo pos (starEach es X.env)).any (·.1) = false := by rfl) : PE X (.Call (.Name x p) (e :: es) [] pos) (tCB r t) := by
  intro pins s σ H Q I h
  refine wpAny_Call_Name_kw (ld_blt I hg hm hv ?_ hn hdb)
  exact PyProof.Rows.callWith_builtin1 (thn (ha pos pins s σ H _ I h) fun us s1 ⟨vs, H1, I1, r1, q1⟩ => hc pins s1 σ H1 vs us Q I1 r1 q1) he hpl
/-- T(e, ..), T a built-in type -/
theorem pe_callTy (hc : CallR X (.type T) r) (hg : Gl X x) (hm : X.mg x = none) (hv : bootBuiltins x = some (.type T)) (ha : PA X (e :: es) t) (hn : x ≠ "__name__" := by decide) (hdb : (x == ("__debug__" : Str)) = false := by decide)
    (he : starEach (e :: es) X.env = (false, eval e X.env) :: starEach es X.env := by rfl) (hpl : (backTo pos (starEach es X.env)).any (·.1) = false := by rfl) : PE X (.Call (.Name x p) (e :: es) [] pos) (tCB r t) := by
  intro pins s σ H Q I h
  refine wpAny_Call_Name_kw (ld_blt I hg hm hv ?_ hn hdb)
  exact PyProof.Rows.callWith_type1 (thn (ha pos pins s σ H _ I h) fun us s1 ⟨vs, H1, I1, r1, q1⟩ => hc pins s1 σ H1 vs us Q I1 r1 q1) he hpl
end
end L2

namespace HT
open PySem PyProof.Rows

section
open PySem.SeqAt
open PySem.AutoSeq1 (wpAny_loadPart')
open PySem.MeetsSeq PySem.MeetsSeq2 PySem.MeetsSeq3

end

section
variable {prog : Program} {w : World} {A : Around} {E : Value → Shared → Prop} {s : Shared}

end
end HT

namespace L2
open PySem PySem.Spec PyProof.Rows

abbrev TO := St → Hp → (Option Int → Hp → Prop) → Prop
/-- a slice's part (left out, or an int) -/
def PO (X : Cx) (e : Option Expr) (t : TO) : Prop :=
  ∀ (pins : List (Addr × Obj)) (s : Shared) (σ : St) (H : Hp) (Q : Option Int → Hp → Prop), Inv X pins σ H s → t σ H Q →
    wpAny (model X.prog X.w) X.A (evalPart e X.env) (fun u s' => ∃ o H', Inv X pins σ H' s' ∧ IsPart u o ∧ Q o H') X.xe s
def tNoPart : TO := fun _ H Q => Q none H
def tPart (t : TE) : TO := fun σ H Q => t σ H fun x H1 => ∃ i, x = .int i ∧ Q (some i) H1

section
variable {X : Cx} {e : Expr} {te : TE} {lo hi : Option Expr} {tl th : TO} {pos p2 : Pos}

theorem po_none : PO X none tNoPart := by
  intro pins s σ H Q I h
  rw [evalPart_none]
  exact wpAny_pure ⟨none, H, I, .none, h⟩
theorem po_some (h : PE X e te) : PO X (some e) (tPart te) := by
  intro pins s σ H Q I hw
  rw [evalPart_some]
  refine thn (h pins s σ H _ I hw) fun u s1 ⟨x, H1, I1, r1, q1⟩ => ?_
  obtain ⟨i, rfl, q⟩ := q1
  obtain ⟨t, rfl⟩ := r1
  exact ⟨some i, H1, I1, .int i t, q⟩

/-- what a slice of a value is, by values: the slice object stands at sl -/
def SlR (X : Cx) (r : V → Option Int → Option Int → Hp → VK → Prop) : Prop :=
  ∀ (pins : List (Addr × Obj)) (s : Shared) (σ : St) (H : Hp) (x : V) (v vl vu : Value) (lo hi : Option Int) (sl : Addr) (Q : VK), Inv X pins σ H s → RelV x v → s.heap.IsSliceOf sl vl vu .none → IsPart vl lo → IsPart vu hi → r x lo hi H Q →
    ∃ T id, typeLookup (.type T) "__getitem__" = pure (some (.builtin id)) ∧ s.TypeIs v T ∧ wpAny (model X.prog X.w) X.A (getItem v (.ref sl)) (EP X pins σ Q) X.xe s
theorem SlR.or {r r' : V → Option Int → Option Int → Hp → VK → Prop} (h : SlR X r) (h' : SlR X r') : SlR X (fun x lo hi H Q => r x lo hi H Q ∨ r' x lo hi H Q) := by
  intro pins s σ H x v vl vu lo hi sl Q I rx hs pl pu q
  rcases q with q | q
  · exact h pins s σ H x v vl vu lo hi sl Q I rx hs pl pu q
  · exact h' pins s σ H x v vl vu lo hi sl Q I rx hs pl pu q
def tSl (r : V → Option Int → Option Int → Hp → VK → Prop) (te : TE) (tl th : TO) : TE := fun σ H Q => te σ H fun x H1 => tl σ H1 fun l H2 => th σ H2 fun u H3 => r x l u H3 Q
/-- a[lo:hi], any a -/
theorem pe_slice {r : V → Option Int → Option Int → Hp → VK → Prop} (hr : SlR X r) (he : PE X e te) (hl : PO X lo tl) (hu : PO X hi th) : PE X (.Subscript e (.Slice lo hi none p2) pos) (tSl r te tl th) := by
  intro pins s σ H Q I h
  refine Subscript_ (thn (he pins s σ H _ I h) fun v s1 ⟨x, H1, I1, r1, q1⟩ => ?_)
  refine wpAny_Slice (thn (hl pins s1 σ H1 _ I1 q1) fun vl s2 ⟨l, H2, I2, pl, q2⟩ => thn (hu pins s2 σ H2 _ I2 q2) fun vu s3 ⟨u, H3, I3, pu, q3⟩ => ?_)
  rw [evalPart_none]
  refine wpAny_pure ?_
  have I4 : Inv X pins σ H3 { s3 with heap := s3.heap.push { cls := .type "slice", data := .fields #[vl, vu, .none] } } := I3.kept (t' := s3.toks) fun b ob q => Heap.get?_push_of_some _ q
  obtain ⟨T, id, hT, ht, hg⟩ := hr pins { s3 with heap := s3.heap.push { cls := .type "slice", data := .fields #[vl, vu, .none] } } σ H3 x v vl vu l u s3.heap.objs.size Q I4 r1 (Heap.IsSliceOf.new ..) pl pu q3
  show wpAny (model X.prog X.w) X.A (subscriptTail e (.Slice lo hi none p2) v (.ref s3.heap.objs.size)) (EP X pins σ Q) X.xe { s3 with heap := s3.heap.push { cls := .type "slice", data := .fields #[vl, vu, .none] } }
  exact tail_any (ops := [.ref s3.heap.objs.size, v]) ht hT hg (by with_unfolding_all rfl)

end
end L2

namespace L2
open PySem PySem.Spec PyProof.Rows

/-- the place that an index of any sign means -/
def ixN (n : Nat) (i : Int) : Option Nat := if 0 ≤ i then (if i < n then some i.toNat else none) else if -(n : Int) ≤ i then some (i + n).toNat else none
def atI {α : Type} (xs : List α) (i : Int) : Option α := (ixN xs.length i).bind fun j => xs[j]?
theorem ixN_seq {n : Nat} {i : Int} {j : Nat} (h : ixN n i = some j) : seqIndex? i n = some j ∧ j < n ∧ -(n : Int) ≤ i ∧ i < n := by
  unfold ixN at h
  by_cases h0 : 0 ≤ i
  · rw [if_pos h0] at h
    by_cases h1 : i < n
    · rw [if_pos h1] at h
      have e : i.toNat = j := Option.some.inj h
      exact ⟨by rw [seqIndex_of h0 h1, e], by omega, by omega, h1⟩
    · rw [if_neg h1] at h; cases h
  · rw [if_neg h0] at h
    by_cases h1 : -(n : Int) ≤ i
    · rw [if_pos h1] at h
      have e : (i + n).toNat = j := Option.some.inj h
      exact ⟨by rw [seqIndex_neg (by omega) h1, e], by omega, h1, by omega⟩
    · rw [if_neg h1] at h; cases h
theorem atI_get {α : Type} {xs : List α} {i : Int} {v : α} (h : atI xs i = some v) : ∃ j, seqIndex? i xs.length = some j ∧ xs[j]? = some v ∧ j < xs.length ∧ -(xs.length : Int) ≤ i ∧ i < xs.length := by
  unfold atI at h
  cases e : ixN xs.length i with
  | none => rw [e] at h; cases h
  | some j =>
    rw [e] at h
    obtain ⟨h1, h2, h3, h4⟩ := ixN_seq e
    exact ⟨j, h1, h, h2, h3, h4⟩
theorem atI_nat {α : Type} {xs : List α} {j : Nat} {v : α} (h : xs[j]? = some v) : atI xs (j : Int) = some v := by
  have hj : j < xs.length := (List.getElem?_eq_some_iff.mp h).1
  have e : ixN xs.length (j : Int) = some j := by
    unfold ixN
    rw [if_pos (by omega), if_pos (by omega)]; simp
  unfold atI; rw [e]; exact h
/-- what stands as an index of a plain subscript -/
def PlainIx (b : Expr) : Prop := ∀ o i, subscripted b false o i = operate [o, i] (getItem o i)
/-- a subscript by values -/
def IxR (X : Cx) (r : R2) : Prop :=
  ∀ (value slice : Expr) (pins : List (Addr × Obj)) (s : Shared) (σ : St) (H : Hp) (x y : V) (v u : Value) (Q : VK), Inv X pins σ H s → RelV x v → RelV y u → r x y H Q →
    subscripted slice false v u = operate [v, u] (getItem v u) → wpAny (model X.prog X.w) X.A (subscriptTail value slice v u) (EP X pins σ Q) X.xe s
/-- a call of a builtin's method by values: the receiver, the arguments -/
def MtR (X : Cx) (id : String) (r : V → List V → Hp → VK → Prop) : Prop :=
  ∀ (pins : List (Addr × Obj)) (s : Shared) (σ : St) (H : Hp) (x : V) (xs : List V) (v : Value) (us : List Value) (Q : VK), Inv X pins σ H s → RelV x v → Vals xs us → r x xs H Q →
    wpAny (model X.prog X.w) X.A (call (.builtin id) (v :: us)) (EP X pins σ Q) X.xe s
section
variable {X : Cx} {a b : Expr} {ta tb : TE} {pos : Pos}
theorem IxR.or {r r' : R2} (h : IxR X r) (h' : IxR X r') : IxR X (fun x y H Q => r x y H Q ∨ r' x y H Q) := by
  intro value slice pins s σ H x y v u Q I rx ry q hs
  rcases q with q | q
  · exact h value slice pins s σ H x y v u Q I rx ry q hs
  · exact h' value slice pins s σ H x y v u Q I rx ry q hs
theorem MtR.or {id : String} {r r' : V → List V → Hp → VK → Prop} (h : MtR X id r) (h' : MtR X id r') : MtR X id (fun x xs H Q => r x xs H Q ∨ r' x xs H Q) := by
  intro pins s σ H x xs v us Q I rx rs q
  rcases q with q | q
  · exact h pins s σ H x xs v us Q I rx rs q
  · exact h' pins s σ H x xs v us Q I rx rs q
/-- a[b] -/
theorem pe_ix {r : R2} (hr : IxR X r) (ha : PE X a ta) (hb : PE X b tb) (hs : PlainIx b) : PE X (.Subscript a b pos) (tOp r ta tb) := by
  intro pins s σ H Q I h
  exact Subscript_ (binT ha hb I h fun v u s2 x y H2 I2 rx ry q => hr a b pins s2 σ H2 x y v u Q I2 rx ry q (hs _ _))

def rIxL (K : PySem.W.Frag) : R2 := fun x y H Q => ∃ p xs i v, x = .ref p ∧ y = .int i ∧ SqL K H p xs ∧ atI xs i = some v ∧ Q v H
def rIxT (K : PySem.W.Frag) : R2 := fun x y H Q => ∃ p xs i v, x = .ref p ∧ y = .int i ∧ SqT K H p xs ∧ atI xs i = some v ∧ Q v H
def rIxS : R2 := fun x y H Q => ∃ z i c, x = .str z ∧ y = .int i ∧ z.length ≤ sizeLine ∧ atI z.cps.toList i = some c ∧ Q (.str ⟨#[c]⟩) H
theorem ix_list : IxR X (rIxL X.K) := by
  intro value slice pins s σ H x y v u Q I rx ry h hs
  obtain ⟨p, xs, i, z, rfl, rfl, hq, he, q⟩ := h
  cases rx
  obtain ⟨t, rfl⟩ := ry
  obtain ⟨its, r, pl, hz⟩ := I.list hq
  obtain ⟨j, h1, h2, h3, h4, h5⟩ := atI_get he
  obtain ⟨w, ew, rw'⟩ := r.get h2
  have hl := r.length
  have hn := line63
  have fin : EP X pins σ Q w s := ⟨z, H, I, rw', q⟩
  by_cases h0 : 0 ≤ i
  · have hj : i.toNat = j := by
      rw [seqIndex_of h0 h5] at h1
      exact Option.some.inj h1
    exact item_listR pl.isList h0 (by omega) (by rw [hj]; simpa using ew) fin hs
  · have hj : (i + (its.toArray.size : Int)).toNat = j := by
      rw [seqIndex_neg (by omega) h4] at h1
      rw [List.size_toArray, ← hl]
      exact Option.some.inj h1
    exact subscriptTail_builtinR (x := w) pl.isList.typeIs slot_list_getitem.lookup
      (wpAny_getItem_list_neg (Q := fun r s' => r = w ∧ EP X pins σ Q r s') pl.isList (by omega) (by rw [List.size_toArray] <;> omega) (by omega) (by rw [hj]; simpa using ew) ⟨rfl, fin⟩) hs
theorem ix_tup : IxR X (rIxT X.K) := by
  intro value slice pins s σ H x y v u Q I rx ry h hs
  obtain ⟨p, xs, i, z, rfl, rfl, hq, he, q⟩ := h
  cases rx
  obtain ⟨t, rfl⟩ := ry
  obtain ⟨its, r, pl, hz⟩ := I.tuple hq
  obtain ⟨j, h1, h2, h3, h4, h5⟩ := atI_get he
  obtain ⟨w, ew, rw'⟩ := r.get h2
  have hl := r.length
  have hn := line63
  have fin : EP X pins σ Q w s := ⟨z, H, I, rw', q⟩
  exact subscriptTail_builtinR (x := w) pl.typeIs slot_tuple_getitem.lookup
    (getItem_tuple (j := j) (Q := fun r s' => r = w ∧ EP X pins σ Q r s') pl (by omega) (by omega) (by rw [List.size_toArray, ← hl]; exact h1) (by simpa using ew) ⟨rfl, fin⟩) hs
theorem ix_str : IxR X rIxS := by
  intro value slice pins s σ H x y v u Q I rx ry h hs
  obtain ⟨z, i, c, rfl, rfl, hz, he, q⟩ := h
  obtain ⟨t, rfl⟩ := rx
  obtain ⟨t', rfl⟩ := ry
  obtain ⟨j, h1, h2, h3, h4, h5⟩ := atI_get he
  have hl : z.cps.toList.length = z.length := by simp [Str.length]
  rw [hl] at h1 h4 h5
  have hn := line63
  exact tail_any (typeIs_str s z t) slot_str_getitem.lookup (getItem_str (c := c) (by
    have e1 : decide (i < -(2 ^ 63 : Int)) = false := decide_eq_false (by omega)
    have e2 : decide (i ≥ 2 ^ 63) = false := decide_eq_false (by omega)
    rw [e1, e2, Bool.or_false]) (by rw [h1]; simpa using h2) ⟨.str ⟨#[c]⟩, H, I.tok _, ⟨_, rfl⟩, q⟩) hs
/-- the list's object behind a store -/
theorem mapSeq_set (its : List Value) (n j : Nat) (u : Value) : Obj.mapSeq (·.setIfInBounds j u) { cls := .type "list", data := .seq its.toArray n } = { cls := .type "list", data := .seq (its.set j u).toArray n } := by
  simp [Obj.mapSeq]
theorem Inv.lst {pins : List (Addr × Obj)} {σ : St} {H : Hp} {s : Shared} {p : Addr} {xs : List V} (I : Inv X pins σ H s) (h : H p = some (.lst xs)) :
    ∃ (its : List Value) (n : Nat), Vals xs its ∧ s.heap.get? p = some { cls := .type "list", data := .seq its.toArray n } ∧ xs.length ≤ sizeLine := by
  obtain ⟨z, its, n, r, e⟩ := I.hok p _ h
  exact ⟨its, n, r, e, z⟩
/-- the list at p is written by an update of its object -/
theorem Inv.lstUpd {pins : List (Addr × Obj)} {σ : St} {H : Hp} {s : Shared} {p : Addr} {xs ys : List V} {its its' : List Value} {n n' : Nat} {f : Obj → Obj} (I : Inv X pins σ H s) (h : H p = some (.lst xs))
    (ho : s.heap.get? p = some { cls := .type "list", data := .seq its.toArray n }) (hf : f { cls := .type "list", data := .seq its.toArray n } = { cls := .type "list", data := .seq its'.toArray n' }) (r : Vals ys its') (hz : ys.length ≤ sizeLine) (t : Nat) :
    Inv X pins σ (upd H p (.lst ys)) { s with heap := s.heap.update p f, toks := t } := by
  have e : (s.heap.update p f).get? p = some { cls := .type "list", data := .seq its'.toArray n' } := by
    rw [Heap.get?_update_self f ho (by rw [hf] <;> rfl), hf]
  refine I.write (x := p) (e := p) (by rw [h]; trivial) (.inl rfl) (fun b u hb q => (Heap.get?_update_other _ _ (Ne.symm hb)).trans q) ⟨_, e⟩ ?_
  exact ⟨hz, its', n', r, e⟩
def rSetL : V → V → V → Hp → (Hp → Prop) → Prop := fun o i v H Q => ∃ p xs k j, o = .ref p ∧ i = .int k ∧ H p = some (.lst xs) ∧ ixN xs.length k = some j ∧ Q (upd H p (.lst (xs.set j v)))
theorem set_list : PSet X rSetL := by
  intro pins s σ H o i v ov iv u Q I ro ri rv h
  obtain ⟨p, xs, k, j, rfl, rfl, hp, hj, q⟩ := h
  cases ro
  obtain ⟨t, rfl⟩ := ri
  obtain ⟨its, n, r, ho, hz⟩ := I.lst hp
  obtain ⟨h1, h2, h3, h4⟩ := ixN_seq hj
  have hl := r.length
  have hn := line63
  have I' : Inv X pins σ (upd H p (.lst (xs.set j v))) { s with heap := s.heap.update p (Obj.mapSeq (·.setIfInBounds j u)) } :=
    I.lstUpd hp ho (mapSeq_set its n j u) (r.set rv j) (by rw [List.length_set]; exact hz) s.toks
  by_cases h0 : 0 ≤ k
  · have hk : k.toNat = j := by
      rw [seqIndex_of h0 h4] at h1
      exact Option.some.inj h1
    exact PySem.W.ki_setAt ho h0 (by omega) (by rw [List.size_toArray, ← hl]; exact h4) (by rw [hk]; exact ⟨_, I', q⟩)
  · have hk : (k + (its.toArray.size : Int)).toNat = j := by
      rw [seqIndex_neg (by omega) h3] at h1
      rw [List.size_toArray, ← hl]
      exact Option.some.inj h1
    exact PySem.W.ki_setBack ho (by omega) (by rw [List.size_toArray, ← hl]; exact h3) (by omega) (by rw [hk]; exact ⟨_, I', q⟩)

def flatV : V → Bool
  | .non => true
  | .bl _ => true
  | .int _ => true
  | .str _ => true
  | _ => false
/-- == of flat values -/
def eqV : V → V → Bool
  | .non, .non => true
  | .bl a, .bl b => a == b
  | .bl a, .int b => (if a then 1 else 0) == b
  | .int a, .bl b => a == (if b then 1 else 0)
  | .int a, .int b => a == b
  | .str a, .str b => a == b
  | _, _ => false
theorem eqAt_V {A : Around} {s : Shared} {y x : V} {u v : Value} (ry : RelV y u) (rx : RelV x v) (fy : flatV y = true) (fx : flatV x = true) : SeqAt.EqAt A s u v (eqV y x) := by
  cases y with
  | non =>
    cases ry
    cases x with
    | non => cases rx; exact SeqAt.EqAt.same _
    | bl b => cases rx; exact SeqAt.EqAt.none_bool b
    | int b => obtain ⟨t, rfl⟩ := rx; exact SeqAt.EqAt.none_int b t
    | str b => obtain ⟨t, rfl⟩ := rx; exact SeqAt.EqAt.none_str b t
    | _ => exact absurd (show false = true from fx) Bool.false_ne_true
  | bl a =>
    cases ry
    cases x with
    | non => cases rx; exact SeqAt.EqAt.bool_none a
    | bl b => cases rx; exact SeqAt.EqAt.bool_bool a b
    | int b => obtain ⟨t, rfl⟩ := rx; exact SeqAt.EqAt.bool_int a b t
    | str b => obtain ⟨t, rfl⟩ := rx; exact SeqAt.EqAt.bool_str a b t
    | _ => exact absurd (show false = true from fx) Bool.false_ne_true
  | int a =>
    obtain ⟨t', rfl⟩ := ry
    cases x with
    | non => cases rx; exact SeqAt.EqAt.int_none a t'
    | bl b => cases rx; exact SeqAt.EqAt.int_bool a t' b
    | int b => obtain ⟨t, rfl⟩ := rx; exact SeqAt.EqAt.int_int a t' b t
    | str b => obtain ⟨t, rfl⟩ := rx; exact SeqAt.EqAt.int_str a t' b t
    | _ => exact absurd (show false = true from fx) Bool.false_ne_true
  | str a =>
    obtain ⟨t', rfl⟩ := ry
    cases x with
    | non => cases rx; exact SeqAt.EqAt.str_none a t'
    | bl b => cases rx; exact SeqAt.EqAt.str_bool a t' b
    | int b => obtain ⟨t, rfl⟩ := rx; exact SeqAt.EqAt.str_int a t' b t
    | str b => obtain ⟨t, rfl⟩ := rx; exact SeqAt.EqAt.str_str a t' b t
    | _ => exact absurd (show false = true from fx) Bool.false_ne_true
  | _ => exact absurd (show false = true from fy) Bool.false_ne_true
/-- the items' answers, read off the values (a value's own answer does not lean on its token) -/
def eqU (x : V) (u : Value) : Bool := match u with
  | .none => eqV .non x
  | .bool b => eqV (.bl b) x
  | .int i _ => eqV (.int i) x
  | .str z _ => eqV (.str z) x
  | _ => false
theorem eqU_of {x y : V} {u : Value} (r : RelV y u) (f : flatV y = true) : eqU x u = eqV y x := by
  cases y with
  | non => cases r; rfl
  | bl b => cases r; rfl
  | int i => obtain ⟨t, rfl⟩ := r; rfl
  | str z => obtain ⟨t, rfl⟩ := r; rfl
  | _ => exact absurd (show false = true from f) Bool.false_ne_true
theorem any_eqU {x : V} : ∀ {xs : List V} {us : List Value}, Vals xs us → xs.all flatV = true → us.any (eqU x) = xs.any fun y => eqV y x
  | _, _, .nil, _ => rfl
  | y :: xs, u :: us, .cons r t, f => by
    rw [List.all_cons, Bool.and_eq_true] at f
    rw [List.any_cons, List.any_cons, eqU_of r f.1, any_eqU t f.2]
theorem mem_eqAt {A : Around} {s : Shared} {x : V} {v : Value} (rx : RelV x v) (fx : flatV x = true) : ∀ {xs : List V} {us : List Value}, Vals xs us → xs.all flatV = true → ∀ u ∈ us, SeqAt.EqAt A s u v (eqU x u)
  | _, _, .nil, _ => fun u hu => by cases hu
  | y :: xs, u :: us, .cons r t, f => fun u' hu => by
    rw [List.all_cons, Bool.and_eq_true] at f
    rcases List.mem_cons.mp hu with rfl | hu
    · rw [eqU_of r f.1]; exact eqAt_V r rx f.1 fx
    · exact mem_eqAt rx fx t f.2 u' hu
def inV (x : V) (xs : List V) : Bool := xs.any fun y => eqV y x
/-- x in a list or tuple of flat items -/
def rIn (K : PySem.W.Frag) (neg : Bool) : R2 := fun x y H Q => ∃ p xs, y = .ref p ∧ (SqL K H p xs ∨ SqT K H p xs) ∧ flatV x = true ∧ xs.all flatV = true ∧ Q (.bl (if neg then !inV x xs else inV x xs)) H
theorem op_in_seq : OpR X (compareOp .In) (rIn X.K false) := by
  intro pins s σ H x y v u Q I rx ry h
  obtain ⟨p, xs, rfl, hq, fx, fs, q⟩ := h
  cases ry
  rcases hq with hq | hq
  · obtain ⟨its, r, pl, hz⟩ := I.list hq
    refine SeqAt.in_listAt (eqU x) pl.isList (fun w hw => mem_eqAt rx fx r fs w (by simpa using hw)) ⟨.bl _, H, I, rfl, ?_⟩
    rw [show its.toArray.any (eqU x) = its.any (eqU x) by simp, any_eqU r fs]
    exact q
  · obtain ⟨its, r, pl, hz⟩ := I.tuple hq
    refine SeqAt.in_tupleAt (eqU x) pl (fun w hw => mem_eqAt rx fx r fs w (by simpa using hw)) ⟨.bl _, H, I, rfl, ?_⟩
    rw [show its.toArray.any (eqU x) = its.any (eqU x) by simp, any_eqU r fs]
    exact q
theorem call_len_seq : CallR X (.builtin "len") (fun xs H Q => ∃ p ys, xs = [.ref p] ∧ (SqL X.K H p ys ∨ SqT X.K H p ys) ∧ Q (.int ys.length) H) := by
  intro pins s σ H xs us Q I r h
  obtain ⟨p, ys, rfl, hq, q⟩ := h
  obtain ⟨u, rfl, rx⟩ := vals1 r
  cases rx
  have hn := line63
  rcases hq with hq | hq
  · obtain ⟨its, r', pl, hz⟩ := I.list hq
    have hlen := r'.length
    exact Calls.call_len_list pl.isList (by simp only [List.size_toArray] <;> omega) ⟨.int ys.length, H, I.tok _, ⟨s.toks + 1, by rw [List.size_toArray, hlen]⟩, q⟩
  · obtain ⟨its, r', pl, hz⟩ := I.tuple hq
    have hlen := r'.length
    exact len_tuple pl (by simp only [List.size_toArray] <;> omega) ⟨.int ys.length, H, I.tok _, ⟨s.toks + 1, by rw [List.size_toArray, hlen]⟩, q⟩
theorem call_len_str : CallR X (.builtin "len") (fun xs H Q => ∃ z, xs = [.str z] ∧ z.length ≤ sizeLine ∧ Q (.int z.length) H) := by
  intro pins s σ H xs us Q I r h
  obtain ⟨z, rfl, hz, q⟩ := h
  obtain ⟨u, rfl, t, rfl⟩ := vals1 r
  have hn := line63
  exact len_str (by omega) ⟨.int z.length, H, I.tok _, ⟨_, rfl⟩, q⟩
theorem CallR.or {f : Value} {r r' : List V → Hp → VK → Prop} (h : CallR X f r) (h' : CallR X f r') : CallR X f (fun xs H Q => r xs H Q ∨ r' xs H Q) := by
  intro pins s σ H xs us Q I rs q
  rcases q with q | q
  · exact h pins s σ H xs us Q I rs q
  · exact h' pins s σ H xs us Q I rs q
/-- the value is of that builtin type -/
def tyV (K : PySem.W.Frag) (T : String) (x : V) (H : Hp) : Prop := match x with
  | .str _ => T = "str"
  | .int _ => T = "int"
  | .ref p => (T = "list" ∧ ∃ xs, SqL K H p xs) ∨ (T = "tuple" ∧ ∃ o, K.lookup p = some o ∧ o.cls = .type "tuple" ∧ o.dict = none) ∨
      (T = "dict" ∧ ((∃ kvs, H p = some (.dK kvs)) ∨ ∃ kvs, H p = some (.dT kvs))) ∨ (T = "set" ∧ ∃ S n, H p = some (.set S n))
  | _ => False
theorem tyV_is {pins : List (Addr × Obj)} {σ : St} {H : Hp} {s : Shared} {T : String} {x : V} {v : Value} (I : Inv X pins σ H s) (r : RelV x v) (ty : tyV X.K T x H) :
    s.TypeIs v T ∧ ∀ a, v = .ref a → ∃ ob, s.heap.get? a = some ob ∧ ob.dict = none := by
  cases x with
  | str z =>
    obtain ⟨t, rfl⟩ := r
    cases (show T = "str" from ty)
    exact ⟨typeIs_str s z t, fun _ e => nomatch e⟩
  | int i =>
    obtain ⟨t, rfl⟩ := r
    cases (show T = "int" from ty)
    exact ⟨typeIs_int s i t, fun _ e => nomatch e⟩
  | ref p =>
    cases r
    rcases ty with ⟨rfl, xs, hq⟩ | ⟨rfl, o, hk, hc, hd⟩ | ⟨rfl, hk⟩ | ⟨rfl, S, n, hk⟩
    · obtain ⟨its, _, pl, _⟩ := I.list hq
      refine ⟨pl.isList.typeIs, fun a e => ?_⟩
      cases e
      obtain ⟨o, n, e, c, hd, _⟩ := pl
      exact ⟨o, e, hd⟩
    · refine ⟨⟨o, I.kIn p o hk, hc⟩, fun a e => ?_⟩
      cases e
      exact ⟨o, I.kIn _ o hk, hd⟩
    · have z : ∃ o, s.heap.get? p = some o ∧ o.ExactDict := by
        rcases hk with ⟨kvs, hk⟩ | ⟨kvs, hk⟩
        · obtain ⟨_, _, _, _, o, _, _, e, ex, _⟩ := I.hok p _ hk
          exact ⟨o, e, ex⟩
        · obtain ⟨_, _, _, _, o, _, _, e, ex, _⟩ := I.hok p _ hk
          exact ⟨o, e, ex⟩
      obtain ⟨o, e, ex⟩ := z
      refine ⟨⟨o, e, ex.1⟩, fun a e2 => ?_⟩
      cases e2
      exact ⟨o, e, ex.2.1⟩
    · obtain ⟨o, _, _, _, e, ex, _⟩ := I.hok p _ hk
      refine ⟨⟨o, e, ex.1⟩, fun a e2 => ?_⟩
      cases e2
      exact ⟨o, e, ex.2.1⟩
  | _ => exact False.elim ty
def tBM0 (K : PySem.W.Frag) (T : String) (r : V → List V → Hp → VK → Prop) (to : TE) : TE := fun σ H Q => to σ H fun x H1 => tyV K T x H1 ∧ r x [] H1 Q
def tBM (K : PySem.W.Frag) (T : String) (r : V → List V → Hp → VK → Prop) (to : TE) (t : TA) : TE := fun σ H Q => to σ H fun x H1 => tyV K T x H1 ∧ t σ H1 fun xs H2 => r x xs H2 Q
variable {o e : Expr} {es : List Expr} {to : TE} {t : TA} {name : Str} {apos cpos : Pos} {T id : String} {r : V → List V → Hp → VK → Prop}
theorem pe_bm (pa : PlainAttrs T) (slot : Slot T name id) (hty : typeOf (.builtin id) = pure (.type "method_descriptor")) (hm : MtR X id r) (ho : PE X o to) (ha : PA X (e :: es) t)
    (hbase : attributeBase o name X.env (eval o X.env) = eval o X.env := by rfl)
    (hfew : ((backTo cpos (starEach (e :: es) X.env)).all (fun x => !x.1) && (backToKw cpos (keywordEach [] X.env)).all (fun x => x.1.isSome)
      && decide ((e :: es).length + ([] : List Keyword).length + (if ([] : List Keyword).isEmpty then 0 else 1) < 30)) = true := by rfl)
    (hline : (apos.endLine == cpos.line) = true := by rfl) (hs : starEach (e :: es) X.env = (false, eval e X.env) :: starEach es X.env := by rfl) (hplain : (backTo cpos (starEach es X.env)).any (·.1) = false := by rfl) :
    PE X (.Call (.Attribute o name apos) (e :: es) [] cpos) (tBM X.K T r to t) := by
  intro pins s σ H Q I h
  refine wpAny_Call_method_late hbase hfew hline rfl (thn (ho pins s σ H _ I h) fun v s1 ⟨x, H1, I1, r1, ty, q1⟩ => ?_)
  obtain ⟨h1, h2⟩ := tyV_is I1 r1 ty
  refine ⟨T, id, pa, slot, hty, h1, h2, ?_⟩
  have hA := ha cpos pins s1 σ H1 _ I1 q1
  rw [hs] at hA ⊢
  refine Calls.callWith_builtin (by show (false || (backTo cpos (starEach es X.env)).any (·.1)) = false; rw [hplain] <;> rfl) (Calls.evalArgs_plain ?_)
  exact thn hA fun us s2 ⟨vs, H2, I2, r2, q2⟩ => hm pins s2 σ H2 x vs v us Q I2 r1 r2 q2
end
end L2

namespace L2
open PySem PySem.Spec PyProof.Rows

def MtM (X : Cx) (id : String) (r : V → List V → Hp → VK → Prop) : Prop :=
  ∀ (pins : List (Addr × Obj)) (s : Shared) (σ : St) (H : Hp) (x : V) (xs : List V) (v : Value) (us : List Value) (Q : VK), Inv X pins σ H s → RelV x v → Vals xs us → r x xs H Q →
    wpAny (model X.prog X.w) X.A (call (.builtin id) (v :: us)) (EP X pins σ Q) X.xe s

theorem Vals.one : ∀ {x : V} {us : List Value}, Vals [x] us → ∃ u, us = [u] ∧ RelV x u
  | _, _, .cons r .nil => ⟨_, rfl, r⟩
theorem Vals.two : ∀ {x y : V} {us : List Value}, Vals [x, y] us → ∃ u v, us = [u, v] ∧ RelV x u ∧ RelV y v
  | _, _, _, .cons r (.cons q .nil) => ⟨_, _, rfl, r, q⟩
theorem Vals.zero : ∀ {us : List Value}, Vals [] us → us = []
  | _, .nil => rfl
theorem Vals.dropLast {xs : List V} {us : List Value} (h : Vals xs us) : Vals xs.dropLast us.dropLast := by
  induction h with
  | nil => exact .nil
  | cons r t ih =>
    cases t with
    | nil => exact .nil
    | cons q t' => exact .cons r ih
section
variable {X : Cx} {pins : List (Addr × Obj)} {σ : St} {H : Hp} {s : Shared} {l b : Addr} {xs ys zs : List V}

theorem Inv.lset {its its' : List Value} {n : Nat} {f : Array Value → Array Value} {t' : Nat} (I : Inv X pins σ H s) (hH : H l = some (.lst xs))
    (e : s.heap.get? l = some { cls := .type "list", data := .seq its.toArray n }) (hf : f its.toArray = its'.toArray) (hv : Vals ys its') (hz : ys.length ≤ sizeLine) :
    Inv X pins σ (upd H l (.lst ys)) { s with heap := s.heap.update l (Obj.mapSeq f), toks := t' } := by
  have q := PySem.IsL.update e f
  rw [hf] at q
  refine I.write (x := l) (e := l) (by rw [hH]; exact trivial) (.inl rfl) (fun b' u hb hu => (Heap.get?_update_other s.heap (Obj.mapSeq f) (Ne.symm hb)).trans hu) ⟨_, q⟩ ?_
  exact ⟨hz, its', _, hv, q⟩
theorem Inv.lnew {its : List Value} {t' : Nat} (I : Inv X pins σ H s) (hv : Vals ys its) (hz : ys.length ≤ sizeLine) :
    Inv X pins σ (upd H s.heap.objs.size (.lst ys)) { s with heap := s.heap.push { cls := .type "list", data := .seq its.toArray }, toks := t' } :=
  I.laid (fun _ _ q => Heap.get?_push_of_some _ q) (Nat.le_refl _) ⟨hz, its, 0, hv, Heap.get?_push_size _ rfl⟩
theorem Inv.fresh (I : Inv X pins σ H s) : H s.heap.objs.size = none := I.hok.fresh (Nat.le_refl _)
theorem Inv.lstM (I : Inv X pins σ H s) (hH : H l = some (.lst xs)) : xs.length ≤ sizeLine ∧ ∃ (its : List Value) (n : Nat), Vals xs its ∧ xs.length = its.length ∧ s.heap.get? l = some { cls := .type "list", data := .seq its.toArray n } := by
  obtain ⟨z, its, n, r, e⟩ := I.hok l _ hH
  exact ⟨z, its, n, r, r.length, e⟩

end

section
variable {X : Cx}

def rAppend : V → List V → Hp → VK → Prop := fun x vs H Q => ∃ l xs y, x = .ref l ∧ vs = [y] ∧ H l = some (.lst xs) ∧ xs.length < sizeLine ∧ Q .non (upd H l (.lst (xs ++ [y])))
theorem mt_append : MtM X "list.append" rAppend := by
  intro pins s σ H x vs v us Q I rx rv h
  obtain ⟨l, xs, y, rfl, rfl, hH, hz, q⟩ := h
  cases rx
  obtain ⟨u, rfl, ru⟩ := rv.one
  obtain ⟨z, its, n, r, hl, e⟩ := I.lstM hH
  refine call_meets F.slot_list_append ⟨_, e, rfl⟩ F.entry_list_append (F.args_list_append_2 _ _) (PySem.list_append l its.toArray n u (by rw [List.size_toArray]; omega)) ⟨e, ?_⟩
  refine ⟨.non, _, I.lset (its' := its ++ [u]) hH e (by simp) (r.append (.cons ru .nil)) ?_, rfl, q⟩
  rw [List.length_append, List.length_singleton]
  omega

def rCat : R2 := fun x y H Q => ∃ l b xs zs, x = .ref l ∧ y = .ref b ∧ H l = some (.lst xs) ∧ H b = some (.lst zs) ∧ xs.length + zs.length ≤ sizeLine ∧ ∀ p, H p = none → Q (.ref p) (upd H p (.lst (xs ++ zs)))
theorem op_cat : OpR X (binaryOp .Add) rCat := by
  intro pins s σ H x y v u Q I rx ry h
  obtain ⟨l, b, xs, zs, rfl, rfl, hH, hB, hz, q⟩ := h
  cases rx
  cases ry
  obtain ⟨z, its, n, r, hl, e⟩ := I.lstM hH
  obtain ⟨z2, its2, n2, r2, hl2, e2⟩ := I.lstM hB
  refine PySem.P.add_list e e2 ?_ (by rw [List.size_toArray, List.size_toArray]; omega)
  have ea : its.toArray ++ its2.toArray = (its ++ its2).toArray := by simp
  rw [ea]
  exact ⟨.ref _, _, I.lnew (t' := s.toks) (r.append r2) (by rw [List.length_append]; omega), rfl, q _ I.fresh⟩
end

section
variable {prog : Program} {w : World} {A : Around} {E : Value → Shared → Prop} {s : Shared}
end

section
variable {X : Cx}
end
end L2

namespace Att
open PySem PySem.W PySem.Calls PyProof.Rows

theorem ints_of_wellAll {P : Params} {h : Heap} : ∀ (ns : List Int) (vs : List Value), WellAll P h vs (ns.map WData.int) → IntsAre vs ns := by
  intro ns
  induction ns with
  | nil =>
    intro vs w
    rw [List.map_nil] at w
    cases w
    exact .nil
  | cons n ns ih =>
    intro vs w
    rw [List.map_cons] at w
    cases w with
    | cons a b =>
      cases a
      exact .cons _ _ (ih _ b)

theorem script_of {l : OpenLaw} {n : Nat} (hn : l.most = some n) {P : Params} {h : Heap} {args : List WData} {vals : List Value}
    (hpre : l.row.toRowW.claim.pre args = true) (hwl : WellAll P h vals args) :
    ∃ a vs ns, vals = [Value.ref a] ∧ args = [WData.list (ns.map WData.int)] ∧ h.get? a = some { cls := .type "list", data := .seq vs.toArray } ∧ IntsAre vs ns ∧ ns.length ≤ n := by
  have hsh : WShape.hasAll [] args [.list .int] = true := (pre_splitW hpre).1
  have hc : l.pre.holds [] { args := args } = true := (pre_splitW hpre).2
  obtain ⟨d, r, rfl, h1, h2⟩ := hasAllW_cons hsh
  obtain rfl := hasAllW_nil h2
  obtain ⟨xs, rfl, h3⟩ := hasW_list h1
  obtain ⟨ns, rfl⟩ := items_int h3
  have hlen : ns.length ≤ n := by
    unfold OpenLaw.pre at hc
    have h4 : (WTm.not (.lt (.lit (.int (n : Int))) (.len (.arg 0)))).holds [] { args := [.list (ns.map .int)] } = true := by
      have h4 := (holds_andW hc).1
      rw [hn] at h4
      exact h4
    have h5 := condW_of h4 (w_not (w_lt w_lit (w_len_list (w_arg rfl))))
    rw [List.length_map] at h5
    refine Nat.le_of_not_lt fun q => ?_
    have q' : (n : Int) < ((ns.length : Nat) : Int) := by omega
    first
      | (rw [decide_eq_true q'] at h5; exact absurd h5 (by decide))
      | (simp at h5; omega)
  cases hwl with
  | cons w1 w2 =>
    cases w2
    cases w1 with
    | list ho hall => exact ⟨_, _, ns, rfl, rfl, ho, ints_of_wellAll ns _ hall, hlen⟩

theorem post_true (l : OpenLaw) (args : List WData) : l.row.toRowW.claim.post args (.bool true) args = true :=
  postW_of (r := l.row.toRowW) (X := (true == true))
    (show WShape.has [] (.bool true) .bool = true by first | rfl | decide | simp [WShape.has, WShape.arms, WShape.armsAll])
    (show (WTm.eq .res (.lit (.bool true))).value [] { args := args, res := some (.bool true), after := args } = some (.bool (true == true)) from w_eq_bool (w_res rfl) w_lit) rfl

/-- the same from a codeAny of the CALL (for a layer whose function contracts speak of calls) -/
theorem attach_call {l : OpenLaw} {n : Nat} {q : Program} {loose : List Str} {XP : (Str → Option Value) → Heap → Prop} {YP : World → Heap → Prop} {d : DefRec}
    (hn : l.most = some n) (hdf : d.params.defaults = [])
    (call : ∀ (w : World) (s₀ s₁ : Shared) (mg mb : Str → Option Value) (fa : Addr) (o : Obj) (pm cd doc : Value) (a : Addr) (vs : List Value) (ns : List Int),
      Ground q loose [] XP w s₀ mg mb s₁.heap → YP w s₁.heap →
      s₁.heap.get? fa = some o → o.data = .func (docDef d.name d.params d.body d.scope pm cd doc) → s₁.heap.CodeRec cd d.name → mg d.name = some (.ref fa) →
      s₁.heap.get? a = some { cls := .type "list", data := .seq vs.toArray } → IntsAre vs ns → ns.length ≤ n → s₁.gens = #[] →
      codeAny (model l.prog w) callerA (.call (.ref fa) ⟨[.ref a], []⟩) (fun r s' => r = .ok (.ret (.bool true)) ∧ OldK s₁.heap s'.heap ∧ s'.os = s₁.os ∧ AllBare s'.gens) s₁) :
    WalkO q loose XP YP l.row.toRowW d [] (fun f vs => PySem.call f vs) := by
  intro w s₀ s₁ mg mb G Y fa o pm cd doc dV kV ho hd hcd hD hmg hg args vals as hpre hlay hrd hwl hlo
  obtain rfl : dV = .none := Dflts.none hD hdf
  obtain rfl : kV = .none := Dflts.noKw hD
  obtain ⟨a, vs, ns, rfl, rfl, hobj, hints, hlen⟩ := script_of hn hpre hwl
  refine enter_call (codeAny_mono (call w s₀ s₁ mg mb fa o pm cd doc a vs ns G Y ho (fd_plain hd) hcd hmg hobj hints hlen hg) fun r s' hq => ?_)
  obtain ⟨rfl, h2, h3, h4⟩ := hq
  exact ⟨.inl ⟨.bool true, .bool true, [], rfl, fun _ => rfl, .bool true, post_true l _, fun _ => ⟨List.Pairwise.nil, fun _ hm => (nomatch hm)⟩⟩, h2, h3, h4⟩

section
variable {prog : Program} {w : World} {A : Around} {E : Value → Shared → Prop} {s : Shared} {K : Frag}

end
end Att

namespace L2
open PySem PySem.Spec PyProof.Rows

theorem vals_ints : ∀ {vs : List Value} {ns : List Int}, IntsAre vs ns → Vals (ns.map V.int) vs
  | _, _, .nil => .nil
  | _, _, .cons n t h => .cons ⟨t, rfl⟩ (vals_ints h)

/-- nothing is tracked but the script, known to the object (or it is an object of the module) -/
def Only (H : Hp) : Prop := ∀ b, H b = none ∨ ∃ o xs, H b = some (.frz o (.lst xs))

/-- THE HEAD: the law's promise, at the heap behind the top. F, the promise of the law's def, may use that base is part of the heap (so K.In base, base.Ns mainGlobals mg stand in Mod) -/
theorem law_call {P : Program} {w : World} {K : PySem.W.Frag} {mg mb : Str → Option Value} {CX : CXT} {k : Nat} {fa a : Addr} {fd : FuncData} {x : Str} {sp : Sp} {s₁ : Shared} {vs : List Value} {ns : List Int}
    (KX : K.In s₁.heap) (hns : s₁.heap.Ns mainGlobals mg) (hb : s₁.heap.Ns builtinsNs mb) (hbb : ∀ x : Str, x ≠ "__name__" → mb x = bootBuiltins x) (hlim : s₁.heap.NoLimit) (hg : s₁.gens = #[])
    (ha : s₁.heap.get? a = some { cls := .type "list", data := .seq vs.toArray }) (hi : IntsAre vs ns) (hl : ns.length ≤ sizeLine) (hr : Room k callerA)
    (F : ∀ base : Heap, K.In base → base.Ns mainGlobals mg → FnOk P w K mg base CX k fa fd [x] sp) (hbind : ∀ (s : Shared) (u : Value), BindsTo s fd ⟨[u], []⟩ [(x, u)])
    (hsp : ∀ H : Hp, Only H → SqL K H a (ns.map V.int) → sp [.ref a] H (fun v _ => v = .bl true) fun _ _ _ => False)
    (hCX : ∀ H e s', CX [] H s₁ (fun _ _ _ => False) e s' → False) :
    codeAny (model P w) callerA (.call (.ref fa) ⟨[.ref a], []⟩) (fun r s' => r = .ok (.ret (.bool true)) ∧ OldK s₁.heap s'.heap ∧ s'.os = s₁.os ∧ AllBare s'.gens) s₁ := by
  have rv := vals_ints hi
  have lenV := hi.length
  -- from an abstract heap in which nothing but the script may be tracked
  have core : ∀ H : Hp, Only H → SqL K H a (ns.map V.int) → HOk P w H s₁.heap → (∀ b, H b ≠ none → b = a) → (H a ≠ none → K.lookup a = none) →
      codeAny (model P w) callerA (.call (.ref fa) ⟨[.ref a], []⟩) (fun r s' => r = .ok (.ret (.bool true)) ∧ OldK s₁.heap s'.heap ∧ s'.os = s₁.os ∧ AllBare s'.gens) s₁ := by
    intro H hO hS hok hA hK
    have base_of : ∀ {b : Addr} {o : Obj}, s₁.heap.get? b = some o → H b = none → (hidT s₁.heap H).get? b = some o := fun e n => hidT_get e n
    have noA : ∀ {b : Addr} {o : Obj} {es : Array DictEntry} {ep : Nat}, s₁.heap.get? b = some o → o.data = .dict es ep → H b = none := fun {b o es ep} e d => by
      cases q : H b with
      | none => rfl
      | some u =>
        have e' : b = a := hA b (by rw [q]; simp)
        subst e'
        rw [ha] at e; cases e
        have d' : Data.seq vs.toArray _ = Data.dict es ep := d
        cases d'
    have nsK : ∀ {b : Addr} {m : Str → Option Value}, s₁.heap.Ns b m → (hidT s₁.heap H).Ns b m := fun {b m} ⟨o, es, ep, e, d, r⟩ => ⟨o, es, ep, base_of e (noA e d), d, r⟩
    have hKb : K.In (hidT s₁.heap H) := fun b o e => base_of (KX b o e) (by
      cases q : H b with
      | none => rfl
      | some u =>
        have e' : b = a := hA b (by rw [q]; simp)
        subst e'
        rw [hK (by rw [q]; simp)] at e; cases e)
    have hM : Mod K mg (hidT s₁.heap H) := ⟨hKb, nsK hns, ⟨mb, nsK hb, hbb⟩, let ⟨mc, h1, h2⟩ := hlim; ⟨mc, nsK h1, h2⟩⟩
    have e0 : Env0 P w K mg (hidT s₁.heap H) callerA [] s₁ H := ⟨rfl, hM, fun b o e => of_hidT e, Nat.le_of_eq (hidT_size _ _), trivial, fun b hb => absurd (show b ∈ ([] : List Addr) from hb) (by simp), hok, .of_eq hg⟩
    refine codeAny_mono ((F _ hKb (nsK hns)).run callerA [] s₁ H ⟨[.ref a], []⟩ [.ref a] [.ref a] _ _ hr e0 (hbind s₁ (.ref a)) (.cons rfl .nil) (hsp H hO hS)) fun r s' h => ?_
    cases r with
    | error e => exact (hCX H e s' h).elim
    | ok fl =>
      cases fl with
      | next => exact False.elim h
      | brk => exact False.elim h
      | cont => exact False.elim h
      | ret u =>
        obtain ⟨v, H', os, bare, un, hok', r', q⟩ := h
        have q' : v = .bl true := q
        subst q'
        obtain rfl : u = Value.bool true := r'
        refine ⟨rfl, OldK.of_keep fun b o e => ?_, os, bare⟩
        cases q : H b with
        | none => exact un.keep b o e q (by intro z; exact absurd (show b ∈ ([] : List Addr) from z) (by simp)) (by simp)
        | some u =>
          rcases hO b with z | ⟨ob, xs, z⟩
          · rw [q] at z; cases z
          · have z2 := un.frzs b ob _ z
            obtain ⟨e1, _⟩ := hok b _ z
            obtain ⟨e2, _⟩ := hok' b _ z2
            rw [e] at e1; cases e1
            exact e2
  cases hk : K.lookup a with
  | some o =>
    -- the script is one of the module's own objects
    have e := KX a o hk
    rw [ha] at e
    cases e
    refine core (fun _ => none) (fun _ => .inl rfl) (.inr ⟨_, vs.toArray, _, hk, rfl, rfl, rfl, by rw [List.size_toArray, lenV]; exact hl, by simpa using rv⟩) (fun b u z => by have z' : (none : Option HO) = some u := z; cases z') (fun b z => absurd rfl z) fun z => absurd rfl z
  | none =>
    refine core (fun b => if b = a then some (.frz { cls := .type "list", data := .seq vs.toArray } (.lst (ns.map V.int))) else none) (fun b => ?_) (.inl (.inr ⟨{ cls := .type "list", data := .seq vs.toArray }, if_pos rfl⟩)) (fun b u z => ?_) (fun b z => ?_) fun _ => hk
    · by_cases hb : b = a
      · exact .inr ⟨_, _, if_pos hb⟩
      · exact .inl (if_neg hb)
    · by_cases hb : b = a
      · have z' := (if_pos hb).symm.trans z
        cases z'
        subst hb
        exact ⟨ha, by rw [List.length_map]; exact hl, vs, _, rv, ha⟩
      · have z' := (if_neg hb).symm.trans z
        cases z'
    · by_cases hb : b = a
      · exact hb
      · exact absurd (if_neg hb) z
end L2

namespace L2
open PySem PySem.Spec PyProof.Rows

abbrev KOf {K : PySem.W.Frag} {h : Heap} (_ : K.In h) : PySem.W.Frag := K

/-- the goal that k_head leaves (case hc), from the law's promise. F gives the function object fd (K's own) once, then the promise over every base -/
theorem walk_of {l : PySem.W.OpenLaw} {n k : Nat} {q : Program} {loose : List Str} {XP : (Str → Option Value) → Heap → Prop} {YP : World → Heap → Prop} {d : DefRec} {K : Params → PySem.W.Frag} {CX : World → CXT} {sp : World → Sp} {x : Str}
    (hn : l.most = some n) (hn2 : n ≤ sizeLine) (hdf : d.params.defaults = []) (hr : Room k callerA)
    (hY : ∀ (w : World) (h : Heap), YP w h → (K w.params).In h)
    (F : ∀ (w : World) (mg : Str → Option Value) (fa : Addr) (h : Heap), (K w.params).In h → h.Ns mainGlobals mg → mg d.name = some (.ref fa) →
      ∃ fd : FuncData, (∀ (s : Shared) (u : Value), BindsTo s fd ⟨[u], []⟩ [(x, u)]) ∧
        ∀ base : Heap, (K w.params).In base → base.Ns mainGlobals mg → FnOk l.prog w (K w.params) mg base (CX w) k fa fd [x] (sp w))
    (hsp : ∀ (w : World) (H : Hp) (a : Addr) (ns : List Int), ns.length ≤ n → Only H → SqL (K w.params) H a (ns.map V.int) → sp w [.ref a] H (fun v _ => v = .bl true) fun _ _ _ => False)
    (hCX : ∀ (w : World) (H : Hp) (s : Shared) (e : Value) (s' : Shared), CX w [] H s (fun _ _ _ => False) e s' → False) :
    PySem.W.WalkO q loose XP YP l.row.toRowW d [] (fun f vs => PySem.call f vs) := by
  refine Att.attach_call hn hdf fun w s₀ s₁ mg mb fa o pm cd doc a vs ns G Y ho hd hcd hmg hobj hints hlen hg => ?_
  have KX := hY w _ Y
  obtain ⟨fd, hb, hF⟩ := F w mg fa _ KX G.T.g hmg
  exact law_call KX G.T.g G.T.b G.T.builtins G.T.nolimit hg hobj hints (Nat.le_trans hlen hn2) hr hF hb (fun H hO hS => hsp w H a ns hlen hO hS) fun H e s' => hCX w H s₁ e s'
end L2

/- THE LAST THEOREM (shape; LID, My.* are yours):
   My.Adr: a structure of the addresses that your layer names (classes, functions); My.Txt K t: a structure (Prop) of the equations over K;
   My.txt_mk : {K} {implicit addresses ..} (e1 : nsIn K mainGlobals "law" = some (some (.ref f))) (e2 : K.lookup f = some ⟨oc, od, .func (fnOf "law" "law" params body scope dV kV doc pm an cdv ct), sl⟩) (e3 : codeIn K cdv "law" = true) .. : ∃ t, My.Txt K t

set_option maxRecDepth 100000 in
set_option maxHeartbeats 0 in
theorem PySem.Challenge.cw_LID_holds : PySem.Challenge.rw_LID.Holds := by
  w_on; o_law; k_head; (case hw => w_witness2)
  k_fill
  refine L2.walk_of (l := PySem.Challenge.rw_LID) (n := 63) (k := 40) (x := "script") (CX := fun w => ..) (sp := fun _ => My.sp_law) rfl (by decide) rfl ⟨rfl, by decide, by decide⟩ (fun w h Y => PySem.W.kIn_of Y) ?F ?S ?C
  case F =>
    intro w mg fa h KX G hmg
    have T : ∃ t, My.Txt (L2.KOf KX) t := by
      dsimp only [L2.KOf]                          -- K must stand as «<heap const> w.params» for k_is
      refine' My.txt_mk ?e1 ?e2 ?e3 ..
      (case e1 => PySem.W.k_is)                    -- in the order: a name -> its address -> its object -> its parts
      (case e2 => PySem.W.k_is)
      ..
    obtain ⟨t, T⟩ := T
    have e0 := hmg.symm.trans (PySem.W.mg_of KX G T.law)
    cases e0                                       -- fa is the law's own address
    exact ⟨_, fun s u => .of_eq rfl, fun base kb nb => My.law_fn T kb nb⟩     -- if «.of_eq rfl» comes too early: refine' ⟨_, ?b, fun base kb nb => My.law_fn T kb nb⟩; exact fun s u => .of_eq rfl
  case S => exact fun w H a ns hl hO hS => ..
  case C => exact ..
(the tactic k_is has no namespace: write k_is) -/

namespace L2
open PySem PySem.Spec PyProof.Rows

def defArgs (s : Stmt) : Arguments := match s with
  | .FunctionDef _ a _ _ _ _ _ _ _ _ => a
  | _ => { posonlyargs := [], args := [], vararg := none, kwonlyargs := [], kw_defaults := [], kwarg := none, defaults := [] }
def defBody (s : Stmt) : List Stmt := match s with
  | .FunctionDef _ _ b _ _ _ _ _ _ _ => b
  | _ => []
def defScope (s : Stmt) : Scope := match s with
  | .FunctionDef _ _ _ _ _ _ sc _ _ _ => sc
  | _ => { kind := .function, names := [], isGenerator := false, isCoroutine := false }

abbrev CX0 : CXT := fun _ _ _ _ _ _ => False
abbrev E0 : XK := fun _ _ _ => False
theorem pass0 {X : Cx} : Passes CX0 X E0 := fun _ _ _ _ _ _ _ h => h.elim

structure Fun (K : PySem.W.Frag) (x qual : Str) (st : Stmt) (f : Addr) (fd : FuncData) : Prop where
  ex : ∃ (oc : Value) (od : Option Addr) (kV doc pm : Value) (an : Option Addr) (cdv ct : Value) (osl : Array (Option Value)),
    fd = PySem.W.fnOf x qual (defArgs st) (defBody st) (defScope st) .none kV doc pm an cdv ct ∧ K.lookup f = some ⟨oc, od, .func fd, osl⟩ ∧ PySem.W.codeIn K cdv qual = true
  kp : PySem.W.keepIn K (.ref f) = true
section
variable {P : Program} {w : World} {K : PySem.W.Frag} {mg : Str → Option Value} {base : Heap}
/-- THE RULE for a def: its body as a term of rules, and the reading of that term -/
theorem Fun.ok {x qual : Str} {st : Stmt} {f : Addr} {fd : FuncData} {N ps : List Str} {k : Nat} {sp : Sp} (F : Fun K x qual st f fd) (S : FnScope N ps (defScope st)) (len : ∀ vs H Q E, sp vs H Q E → vs.length = ps.length)
    (hbody : ∀ (cdv : Value) (A : Around) (outer : List Env) (s : Shared) (H : Hp) (vs : List V) (Q : VK) (E : XK), Room k (A.deeper (envOfC qual (defScope st) s.heap.objs.size f cdv)) → sp vs H Q E →
      ∃ t, PSs (cxOf CX0 P w K mg base N qual (defScope st) f cdv A outer s H E).nox (defBody st) t ∧ t { nx := fun _ H' => Q .non H', rt := Q } (start N vs) H) : FnOk P w K mg base CX0 (k + 1) f fd ps sp := by
  obtain ⟨oc, od, kV, doc, pm, an, cdv, ct, osl, rfl, lk, hcd⟩ := F.ex
  refine fn_of lk hcd S len fun A outer s H vs Q E hr hsp => ?_
  obtain ⟨t, h, q⟩ := hbody cdv A outer s H vs Q E hr hsp
  exact ⟨t, h.nox, q⟩
/-- how its arguments bind (no defaults): h is «fun _ _ _ _ _ _ us hl => match us, hl with | [_, _], _ => rfl», one _ a parameter -/
theorem Fun.binds {x qual : Str} {st : Stmt} {f : Addr} {fd : FuncData} {ps : List Str} (F : Fun K x qual st f fd)
    (h : ∀ (kV doc pm : Value) (an : Option Addr) (cdv ct : Value) (us : List Value), us.length = ps.length → bindArgs (PySem.W.fnOf x qual (defArgs st) (defBody st) (defScope st) .none kV doc pm an cdv ct) ⟨us, []⟩ = pure (ps.zip us)) : Binds K fd ps [] := by
  obtain ⟨oc, od, kV, doc, pm, an, cdv, ct, osl, rfl, lk, hcd⟩ := F.ex
  exact .all (h kV doc pm an cdv ct)
theorem fun_mk {x qual : Str} {st : Stmt} {f : Addr} {oc : Value} {od an : Option Addr} {osl : Array (Option Value)} {kV doc pm cdv ct : Value} (l : K.lookup f = some ⟨oc, od, .func (PySem.W.fnOf x qual (defArgs st) (defBody st) (defScope st) .none kV doc pm an cdv ct), osl⟩)
    (c : PySem.W.codeIn K cdv qual = true) (k : PySem.W.keepIn K (.ref f) = true) : Fun K x qual st f (PySem.W.fnOf x qual (defArgs st) (defBody st) (defScope st) .none kV doc pm an cdv ct) := ⟨⟨oc, od, kV, doc, pm, an, cdv, ct, osl, rfl, l, c⟩, k⟩
end
theorem small1000 {n : Nat} (h : n ≤ 1000) : n < sizeLine := Nat.lt_of_le_of_lt h (by decide)

section
variable {X : Cx}
theorem pv (i : Nat) {x : Str} {pos : Pos} (hN : X.N[i]? = some x := by rfl) (hv : Vis X.env.scope x := by first | exact Or.inl rfl | exact Or.inr (Or.inl rfl) | exact Or.inr (Or.inr rfl)) (hd : (x == ("__debug__" : Str)) = false := by decide)
    (hcd : (x == ("__classdict__" : Str)) = false := by decide) : PE X (.Name x pos) (tVar i) := pe_var hN hv hd hcd
end

theorem iteF {A B : Prop} (h : B) : if false = true then A else B := by
  rw [if_neg Bool.false_ne_true]
  exact h
theorem iteT {A B : Prop} (h : A) : if true = true then A else B := by
  rw [if_pos rfl]
  exact h
theorem iteNS {c A B : Prop} [Decidable c] (hc : c) (h : B) : if (!decide c) = true then A else B := by
  rw [decide_eq_true hc]
  exact iteF h

/-- all that was tracked is as it was -/
def Same (H H' : Hp) : Prop := ∀ b o, H b = some o → H' b = some o
theorem Same.refl (H : Hp) : Same H H := fun _ _ h => h
theorem Same.trans {H H1 H2 : Hp} (a : Same H H1) (b : Same H1 H2) : Same H H2 := fun c o h => b c o (a c o h)
theorem Same.free {H H' : Hp} (e : Same H H') {l : Addr} (h : H' l = Option.none) : H l = Option.none := by
  cases q : H l with
  | none => rfl
  | some o =>
    rw [e l o q] at h
    cases h
theorem Same.seq {K : PySem.W.Frag} {H H' : Hp} {a : Addr} {xs : List V} (e : Same H H') (h : SqL K H a xs) : SqL K H' a xs := by
  rcases h with (h | ⟨o, h⟩) | h
  · exact .inl (.inl (e _ _ h))
  · exact .inl (.inr ⟨o, e _ _ h⟩)
  · exact .inr h

end L2

set_option Elab.async false
set_option linter.all false
set_option maxRecDepth 100000
set_option maxHeartbeats 4000000
namespace L2
open PySem PySem.Spec PyProof.Rows

def Bt (k : Nat) (x : Int) : Prop := x.natAbs < 2 ^ k
theorem Bt.bits {k : Nat} {x : Int} (h : Bt k x) : Builtin.Int.intBits x ≤ k := PySem.intBits_le_iff.mpr h
theorem Bt.mono {k m : Nat} {x : Int} (h : Bt k x) (l : k ≤ m) : Bt m x := Nat.lt_of_lt_of_le h (Nat.pow_le_pow_right (by decide) l)
theorem Bt.mul {k m : Nat} {x y : Int} (h : Bt k x) (g : Bt m y) : Bt (k + m) (x * y) := by
  unfold Bt at *
  rw [Int.natAbs_mul, Nat.pow_add]
  exact Nat.mul_lt_mul'' h g
theorem Bt.neg {k : Nat} {x : Int} (h : Bt k x) : Bt k (-x) := by unfold Bt at *; omega
def CMulB (i j : Int) : Prop := ∃ n m : Nat, Bt n i ∧ Bt m j ∧ n + m ≤ 134217728
theorem CMulB.ok {i j : Int} (h : CMulB i j) : IntMulOk i j := by
  obtain ⟨n, m, h1, h2, h3⟩ := h
  have a := h1.bits
  have b := h2.bits
  have hs : ((Builtin.Int.intBits i + Builtin.Int.intBits j : Nat) : Int) ≤ 2 ^ 27 := by
    have e : (2 : Int) ^ 27 = 134217728 := by decide
    rw [e]; omega
  have hb : Builtin.Int.intTooBig ((Builtin.Int.intBits i + Builtin.Int.intBits j : Nat) : Int) = false := decide_eq_false (Int.not_lt.mpr hs)
  unfold IntMulOk
  first
    | (rw [show (((Builtin.Int.intBits i : Nat) : Int) + ((Builtin.Int.intBits j : Nat) : Int)) = ((Builtin.Int.intBits i + Builtin.Int.intBits j : Nat) : Int) by omega, hb]; simp)
    | (rw [hb]; simp)
    | (intro z; simp only [Bool.and_eq_true] at z; simp_all)
section
variable {X : Cx} {a b c : Expr} {ta tb tc : TE} {pos : Pos}
theorem op_mulB : OpR X (binaryOp .Mult) (rI CMulB fun i j => .int (i * j)) := opI fun _ _ _ _ _ _ _ hc q => mul_int q hc.ok
theorem log2_lt9000 {j : Int} (h : Bt 9000 j) : j.natAbs.log2 < 9000 := by
  by_cases h0 : j.natAbs = 0
  · rw [h0]; decide +kernel
  · exact (Nat.log2_lt h0).mpr h
def CDivB (_ j : Int) : Prop := 0 < j ∧ Bt 9000 j
theorem op_fdivB : OpR X (binaryOp .FloorDiv) (rI CDivB fun i j => .int (i / j)) := opI fun i j _ _ _ _ _ hc q => by
  have h1 : (0 : Int) < j := hc.1
  exact floordiv_int (by omega) (by rw [Int.fdiv_eq_ediv_of_nonneg i (by omega)]; exact q) (.inl (PyProof.noPylong_of_log2 (log2_lt9000 hc.2)))
def rIsi (K : PySem.W.Frag) : List V → Hp → VK → Prop := fun xs H Q => ∃ x c t b, xs = [x, .ty c] ∧ TyOf K H x t ∧ PySem.W.kitOne K t (.type c) = some b ∧ Q (.bl b) H
theorem call_isi : CallR X (.builtin "isinstance") (rIsi X.K) := by
  intro pins s σ H xs us Q I r h
  obtain ⟨x, c, t, b, rfl, ty, e, q⟩ := h
  obtain ⟨u, w', rfl, r1, r2⟩ := vals2 r
  cases (show w' = Value.type c from r2)
  exact isinst_ok I r1 ty e fun tk => ⟨.bl b, H, I.tok tk, rfl, q⟩

def eqVs : List V → List V → Bool
  | [], [] => true
  | x :: xs, y :: ys => eqV x y && eqVs xs ys
  | _, _ => false
theorem eqVs_range : ∀ {xs ys : List V} {us ws : List Value}, Vals xs us → Vals ys ws → xs.all flatV = true → ys.all flatV = true →
    ∃ e : Nat → Bool, (∀ (A : Around) (s : Shared) (j : Nat) (h1 : j < us.toArray.size) (h2 : j < ws.toArray.size), SeqAt.EqAt A s us.toArray[j] ws.toArray[j] (e j)) ∧
      ((List.range (min us.toArray.size ws.toArray.size)).all e && us.toArray.size == ws.toArray.size) = eqVs xs ys
  | [], [], _, _, .nil, .nil, _, _ => ⟨fun _ => true, fun _ _ j h1 _ => absurd h1 (by simp), rfl⟩
  | [], y :: ys, _, _, .nil, .cons _ _, _, _ => ⟨fun _ => true, fun _ _ j h1 _ => absurd h1 (by simp), by simp [eqVs]⟩
  | x :: xs, [], _, _, .cons _ _, .nil, _, _ => ⟨fun _ => true, fun _ _ j _ h2 => absurd h2 (by simp), by simp [eqVs]⟩
  | x :: xs, y :: ys, u :: us, w :: ws, .cons r t, .cons r' t', f, f' => by
    rw [List.all_cons, Bool.and_eq_true] at f f'
    obtain ⟨e, h1, h2⟩ := eqVs_range t t' f.2 f'.2
    refine ⟨fun j => match j with | 0 => eqV x y | j + 1 => e j, ?_, ?_⟩
    · intro A s j k1 k2
      cases j with
      | zero => simpa using eqAt_V r r' f.1 f'.1
      | succ j =>
        have k := h1 A s j (by simpa using k1) (by simpa using k2)
        simp only [List.getElem_toArray, List.getElem_cons_succ] at k ⊢
        exact k
    · show _ = (eqV x y && eqVs xs ys)
      rw [← h2]
      have e1 : min (u :: us).toArray.size (w :: ws).toArray.size = min us.toArray.size ws.toArray.size + 1 := by simp
      rw [e1, List.range_succ_eq_map, List.all_cons, List.all_map, Bool.and_assoc]
      congr 2
      simp
def rEqT (K : PySem.W.Frag) : R2 := fun x y H Q => ∃ a b xs ys, x = .ref a ∧ y = .ref b ∧ SqT K H a xs ∧ SqT K H b ys ∧ xs.all flatV = true ∧ ys.all flatV = true ∧ Q (.bl (eqVs xs ys)) H
theorem op_eqT (hu : X.A.units < cLine) : OpR X (compareOp .Eq) (rEqT X.K) := by
  intro pins s σ H x y v u Q I rx ry h
  obtain ⟨a, b, xs, ys, rfl, rfl, ha, hb, fx, fy, q⟩ := h
  cases rx
  cases ry
  obtain ⟨its, r, pl, _⟩ := I.tuple ha
  obtain ⟨its', r', pl', _⟩ := I.tuple hb
  obtain ⟨e, h1, h2⟩ := eqVs_range r r' fx fy
  exact SeqAt.eq_tupleAt (e := e) pl pl' hu (fun j k1 k2 => h1 _ _ j k1 k2) (by rw [h2]; exact ⟨.bl _, H, I, rfl, q⟩)

structure Cal (P : Program) (w : World) (K : PySem.W.Frag) (mg : Str → Option Value) (base : Heap) (k : Nat) (x : Str) (ps : List Str) (sp : Sp) : Prop where
  ex : ∃ (f : Addr) (fd : FuncData), FnOk P w K mg base CX0 k f fd ps sp ∧ Binds K fd ps [] ∧ PySem.W.keepIn K (.ref f) = true ∧ mg x = some (.ref f)
theorem pe_cal {k : Nat} {x : Str} {ps : List Str} {sp : Sp} {e : Expr} {es : List Expr} {t : TA} {p : Pos} (C : Cal X.prog X.w X.K X.mg X.base k x ps sp) (hr : Room k X.A) (hg : Gl X x) (ha : PA X (e :: es) t)
    (hdb : (x == ("__debug__" : Str)) = false := by decide) (he : starEach (e :: es) X.env = (false, eval e X.env) :: starEach es X.env := by rfl) (hpl : (backTo pos (starEach es X.env)).any (·.1) = false := by rfl) :
    PE X (.Call (.Name x p) (e :: es) [] pos) (tCall sp [] E0 t) := by
  obtain ⟨f, fd, F, b, kp, m⟩ := C.ex
  exact pe_call F hr hg m kp b .nil pass0 ha hdb he hpl

def tCut (t : TS) : TS := fun D σ H => ∃ J : St → Hp → Prop, t { D with nx := J } σ H ∧ ∀ σ' H', J σ' H' → D.nx σ' H'
theorem ps_cut {st : Stmt} {t : TS} (h : PS X st t) : PS X st (tCut t) := by
  intro pins s σ H D I hw
  obtain ⟨J, h1, h2⟩ := hw
  refine thn (h pins s σ H { D with nx := J } I h1) fun f s1 q => ?_
  cases f with
  | next =>
    obtain ⟨σ', H', I', q⟩ := q
    exact ⟨σ', H', I', h2 _ _ q⟩
  | ret v => exact q
  | brk => exact q
  | cont => exact q
theorem rd_cut {t : TS} {D : Ends} {σ : St} {H : Hp} (J : St → Hp → Prop) (h1 : t { D with nx := J } σ H) (h2 : ∀ σ' H', J σ' H' → D.nx σ' H') : tCut t D σ H := ⟨J, h1, h2⟩
theorem rd_var {i : Nat} {σ : St} {H : Hp} {Q : VK} {v : V} (e : σ[i]? = some (some v)) (h : Q v H) : tVar i σ H Q := ⟨v, e, h⟩
theorem rd_c {v : V} {σ : St} {H : Hp} {Q : VK} (h : Q v H) : tC v σ H Q := h
theorem rd_op {r : R2} {σ : St} {H : Hp} {Q : VK} (h : ta σ H fun x H1 => tb σ H1 fun y H2 => r x y H2 Q) : tOp r ta tb σ H Q := h
theorem rd_un {r : V → Hp → VK → Prop} {σ : St} {H : Hp} {Q : VK} (h : ta σ H fun x H1 => r x H1 Q) : tUn r ta σ H Q := h
theorem rd_i0 {g : Int → Int → V} {i j : Int} {H : Hp} {Q : VK} (h : Q (g i j) H) : rI0 g (.int i) (.int j) H Q := ⟨i, j, rfl, rfl, h⟩
theorem rd_i {C : Int → Int → Prop} {g : Int → Int → V} {i j : Int} {H : Hp} {Q : VK} (c : C i j) (h : Q (g i j) H) : rI C g (.int i) (.int j) H Q := ⟨i, j, rfl, rfl, c, h⟩
theorem rd_u {g : Int → V} {i : Int} {H : Hp} {Q : VK} (h : Q (g i) H) : rU g (.int i) H Q := ⟨i, rfl, h⟩
theorem rd_eq {x y : V} {H : Hp} {Q : VK} (s : scal x y = true) (h : Q (.bl (decide (x = y))) H) : rEq x y H Q := ⟨s, h⟩
theorem rd_ne {x y : V} {H : Hp} {Q : VK} (s : scal x y = true) (h : Q (.bl (!decide (x = y))) H) : rNe x y H Q := ⟨s, h⟩
theorem rd_test {t : TE} {σ : St} {H : Hp} {Q : Bool → Hp → Prop} (h : t σ H fun x H' => ∃ k, x = .bl k ∧ Q k H') : tTest t σ H Q := h
theorem rd_b {t : TE} {σ : St} {H : Hp} {Q : Bool → Hp → Prop} (h : t σ H fun x H' => ∃ k, x = .bl k ∧ Q k H') : L2.tB t σ H Q := h
theorem rd_bl {k : Bool} {Q : Bool → Prop} (h : Q k) : ∃ k', V.bl k = .bl k' ∧ Q k' := ⟨k, rfl, h⟩
theorem rel_ty (n : String) : RelV (.ty n) (.type n) := rfl
theorem rel_int (i : Int) (t : Tok) : RelV (.int i) (.int i t) := ⟨t, rfl⟩
theorem rd_not {t : TT} {σ : St} {H : Hp} {Q : Bool → Hp → Prop} (h : t σ H fun c H1 => Q (!c) H1) : tNot t σ H Q := h
theorem rd_and {t u : TT} {σ : St} {H : Hp} {Q : Bool → Hp → Prop} (h : t σ H fun c H1 => if c = true then u σ H1 Q else Q false H1) : tAnd t u σ H Q := h
theorem rd_or {t u : TT} {σ : St} {H : Hp} {Q : Bool → Hp → Prop} (h : t σ H fun c H1 => if c = true then Q true H1 else u σ H1 Q) : tOr t u σ H Q := h
theorem rd_andV {σ : St} {H : Hp} {Q : VK} (h : ta σ H fun x H1 => ∃ c, x = .bl c ∧ if c = true then tb σ H1 Q else Q (.bl false) H1) : tAndV ta tb σ H Q := h
theorem rd_orV {σ : St} {H : Hp} {Q : VK} (h : ta σ H fun x H1 => ∃ c, x = .bl c ∧ if c = true then Q (.bl true) H1 else tb σ H1 Q) : tOrV ta tb σ H Q := h
theorem rd_notV {σ : St} {H : Hp} {Q : VK} (h : ta σ H fun x H1 => ∃ c, x = .bl c ∧ Q (.bl (!c)) H1) : tNotV ta σ H Q := h
theorem rd_chain {r r' : R2} {σ : St} {H : Hp} {Q : VK} (h : ta σ H fun x H1 => tb σ H1 fun y H2 => r x y H2 fun z H3 => ∃ k, z = .bl k ∧ (if k = true then tc σ H3 fun w' H4 => r' y w' H4 Q else Q (.bl false) H3)) : tChain r r' ta tb tc σ H Q := h
theorem rd_call {sp : Sp} {dvs : List V} {E : XK} {t : TA} {σ : St} {H : Hp} {Q : VK} (h : t σ H fun vs H1 => sp (vs ++ dvs) H1 Q E) : tCall sp dvs E t σ H Q := h
theorem rd_cb {r : List V → Hp → VK → Prop} {t : TA} {σ : St} {H : Hp} {Q : VK} (h : t σ H fun vs H1 => r vs H1 Q) : tCB r t σ H Q := h
theorem rd_nil {σ : St} {H : Hp} {Q : List V → Hp → Prop} (h : Q [] H) : tNil σ H Q := h
theorem rd_cons {tr : TA} {σ : St} {H : Hp} {Q : List V → Hp → Prop} (h : ta σ H fun x H1 => tr σ H1 fun xs H2 => Q (x :: xs) H2) : tCons ta tr σ H Q := h
theorem rd_tup {t : TA} {σ : St} {H : Hp} {Q : VK} (h : t σ H fun xs H1 => xs.length ≤ sizeLine ∧ ∀ p, H1 p = none → Q (.ref p) (upd H1 p (.tup xs))) : tTup t σ H Q := h
theorem rd_lst {t : TA} {σ : St} {H : Hp} {Q : VK} (h : t σ H fun xs H1 => xs.length ≤ sizeLine ∧ ∀ p, H1 p = none → Q (.ref p) (upd H1 p (.lst xs))) : tLst t σ H Q := h
theorem rd_seq {t u : TS} {D : Ends} {σ : St} {H : Hp} (h : t { D with nx := u D } σ H) : tSeq t u D σ H := h
theorem rd_next {D : Ends} {σ : St} {H : Hp} (h : D.nx σ H) : tNext D σ H := h
theorem rd_ret {te : TE} {D : Ends} {σ : St} {H : Hp} (h : te σ H D.rt) : tRet te D σ H := h
theorem rd_ifS {c : TT} {t u : TS} {D : Ends} {σ : St} {H : Hp} (h : c σ H fun b H1 => if b = true then t D σ H1 else u D σ H1) : tIfS c t u D σ H := h
theorem rd_asg {te : TE} {g : TG} {D : Ends} {σ : St} {H : Hp} (h : te σ H fun x H1 => g x σ H1 D.nx) : tAsg te g D σ H := h
theorem rd_drop {te : TE} {D : Ends} {σ : St} {H : Hp} (h : te σ H fun _ H1 => D.nx σ H1) : tDrop te D σ H := h
theorem rd_gname {i : Nat} {v : V} {σ : St} {H : Hp} {Q : St → Hp → Prop} (h : Q (σ.set i (some v)) H) : gName i v σ H Q := h
theorem rd_gcons {t : TG} {u : TGs} {v : V} {r : List V} {σ : St} {H : Hp} {Q : St → Hp → Prop} (h : t v σ H fun σ' H' => u r σ' H' Q) : gCons t u (v :: r) σ H Q := ⟨v, r, rfl, h⟩
theorem rd_gnil {σ : St} {H : Hp} {Q : St → Hp → Prop} (h : Q σ H) : gNil [] σ H Q := ⟨rfl, h⟩
theorem rd_ixT {K : PySem.W.Frag} {p : Addr} {xs : List V} {i : Int} {v : V} {H : Hp} {Q : VK} (hs : SqT K H p xs) (e : atI xs i = some v) (h : Q v H) : rIxT K (.ref p) (.int i) H Q := ⟨p, xs, i, v, rfl, rfl, hs, e, h⟩
theorem rd_ixL {K : PySem.W.Frag} {p : Addr} {xs : List V} {i : Int} {v : V} {H : Hp} {Q : VK} (hs : SqL K H p xs) (e : atI xs i = some v) (h : Q v H) : rIxL K (.ref p) (.int i) H Q := ⟨p, xs, i, v, rfl, rfl, hs, e, h⟩
theorem rd_isi {K : PySem.W.Frag} {x : V} {c : String} {t : Value} {b : Bool} {H : Hp} {Q : VK} (ty : TyOf K H x t) (e : PySem.W.kitOne K t (.type c) = some b) (h : Q (.bl b) H) : rIsi K [x, .ty c] H Q := ⟨x, c, t, b, rfl, ty, e, h⟩
theorem iteD {c A B : Prop} [Decidable c] (hc : c) (h : A) : if decide c = true then A else B := by
  rw [decide_eq_true hc]; exact iteT h
theorem iteN {c A B : Prop} [Decidable c] (hc : ¬ c) (h : B) : if decide c = true then A else B := by
  rw [decide_eq_false hc]; exact iteF h
theorem iteNN {c A B : Prop} [Decidable c] (hc : ¬ c) (h : A) : if (!decide c) = true then A else B := by
  rw [decide_eq_false hc]; exact iteT h
theorem ite2d {c A B : Prop} [Decidable c] (h1 : c → A) (h2 : ¬ c → B) : if decide c = true then A else B := by
  by_cases h : c
  · exact iteD h (h1 h)
  · exact iteN h (h2 h)
theorem Same.tup {K : PySem.W.Frag} {H H' : Hp} {a : Addr} {xs : List V} (e : Same H H') (h : SqT K H a xs) : SqT K H' a xs := by
  rcases h with (h | ⟨o, h⟩) | h
  · exact .inl (.inl (e _ _ h))
  · exact .inl (.inr ⟨o, e _ _ h⟩)
  · exact .inr h
theorem same_new {H : Hp} {p : Addr} (h : H p = none) (o : HO) : Same H (upd H p o) := fun b u q => by rw [upd_ne (ne_of_none q h)]; exact q
theorem cdiv_small {i j : Int} (h0 : 0 < j) (h1 : j < 18446744073709551616) : CDivB i j := ⟨h0, Bt.mono (k := 64) (by unfold Bt; omega) (by decide)⟩
theorem pow2_pos (k : Nat) : (0 : Int) < 1 * 2 ^ k := by
  have e : (1 : Int) * 2 ^ k = ((2 ^ k : Nat) : Int) := by rw [Int.natCast_pow]; simp
  rw [e]
  have := Nat.two_pow_pos k
  omega
theorem kit_int_int (K : PySem.W.Frag) : PySem.W.kitOne K (.type "int") (.type "int") = some true := by unfold PySem.W.kitOne; rw [if_pos (by simp)]
end
end L2

namespace Att
open PySem PySem.W PySem.Calls PyProof.Rows
theorem weight_item : ∀ {ns : List Int} {n : Int}, n ∈ ns → Builtin.Int.intBits n ≤ WData.weightAll (ns.map WData.int)
  | m :: ns, n, h => by
    rw [List.map_cons]
    show _ ≤ WData.weight (.int m) + 1 + WData.weightAll (ns.map WData.int)
    rcases List.mem_cons.mp h with rfl | h
    · have e : WData.weight (.int n) = Builtin.Int.intBits n := by first | rfl | (unfold Builtin.Int.intBits; rfl) | simp [WData.weight, Builtin.Int.intBits]
      omega
    · have := weight_item h
      omega
theorem bits_of_lay {ns : List Int} (h : WData.layableAll [WData.list (ns.map WData.int)] = true) : ∀ n ∈ ns, L2.Bt 1048576 n := fun n hn => by
  have h1 : WData.layable (WData.list (ns.map WData.int)) = true := (Bool.and_eq_true_iff.mp h).1
  have h2 : WData.weight (WData.list (ns.map WData.int)) ≤ 2 ^ 20 := of_decide_eq_true (Bool.and_eq_true_iff.mp h1).2
  have h3 := weight_item hn
  have e : WData.weight (WData.list (ns.map WData.int)) = WData.weightAll (ns.map WData.int) := by first | rfl | simp [WData.weight]
  refine PySem.intBits_le_iff.mp ?_
  omega
theorem attach_callB {l : OpenLaw} {n : Nat} {q : Program} {loose : List Str} {XP : (Str → Option Value) → Heap → Prop} {YP : World → Heap → Prop} {d : DefRec}
    (hn : l.most = some n) (hdf : d.params.defaults = [])
    (call : ∀ (w : World) (s₀ s₁ : Shared) (mg mb : Str → Option Value) (fa : Addr) (o : Obj) (pm cd doc : Value) (a : Addr) (vs : List Value) (ns : List Int),
      Ground q loose [] XP w s₀ mg mb s₁.heap → YP w s₁.heap →
      s₁.heap.get? fa = some o → o.data = .func (docDef d.name d.params d.body d.scope pm cd doc) → s₁.heap.CodeRec cd d.name → mg d.name = some (.ref fa) →
      s₁.heap.get? a = some { cls := .type "list", data := .seq vs.toArray } → IntsAre vs ns → ns.length ≤ n → (∀ n ∈ ns, L2.Bt 1048576 n) → s₁.gens = #[] →
      codeAny (model l.prog w) callerA (.call (.ref fa) ⟨[.ref a], []⟩) (fun r s' => r = .ok (.ret (.bool true)) ∧ OldK s₁.heap s'.heap ∧ s'.os = s₁.os ∧ AllBare s'.gens) s₁) :
    WalkO q loose XP YP l.row.toRowW d [] (fun f vs => PySem.call f vs) := by
  intro w s₀ s₁ mg mb G Y fa o pm cd doc dV kV ho hd hcd hD hmg hg args vals as hpre hlay hrd hwl hlo
  obtain rfl : dV = .none := Dflts.none hD hdf
  obtain rfl : kV = .none := Dflts.noKw hD
  obtain ⟨a, vs, ns, rfl, rfl, hobj, hints, hlen⟩ := script_of hn hpre hwl
  refine enter_call (codeAny_mono (call w s₀ s₁ mg mb fa o pm cd doc a vs ns G Y ho (fd_plain hd) hcd hmg hobj hints hlen (bits_of_lay hlay) hg) fun r s' hq => ?_)
  obtain ⟨rfl, h2, h3, h4⟩ := hq
  exact ⟨.inl ⟨.bool true, .bool true, [], rfl, fun _ => rfl, .bool true, post_true l _, fun _ => ⟨List.Pairwise.nil, fun _ hm => (nomatch hm)⟩⟩, h2, h3, h4⟩
end Att
namespace L2
open PySem PySem.Spec PyProof.Rows
/-- law's promise: a list of at most 63 ints of at most 2^20 bits is handed in, True comes out -/
def spLaw (K : PySem.W.Frag) : Sp := fun vs H Q _ => ∃ (a : Addr) (ns : List Int), vs = [.ref a] ∧ SqL K H a (ns.map V.int) ∧ ns.length ≤ 63 ∧ (∀ n ∈ ns, Bt 1048576 n) ∧ ∀ H', Q (.bl true) H'
theorem walk_ofB {l : PySem.W.OpenLaw} {k : Nat} {q : Program} {loose : List Str} {XP : (Str → Option Value) → Heap → Prop} {YP : World → Heap → Prop} {d : DefRec} {K : Params → PySem.W.Frag}
    (hn : l.most = some 63) (hdf : d.params.defaults = []) (hr : Room k callerA)
    (hY : ∀ (w : World) (h : Heap), YP w h → (K w.params).In h)
    (F : ∀ (w : World) (mg : Str → Option Value) (fa : Addr) (h : Heap), (K w.params).In h → h.Ns mainGlobals mg → mg d.name = some (.ref fa) →
      ∃ fd : FuncData, (∀ (s : Shared) (u : Value), BindsTo s fd ⟨[u], []⟩ [("_law_script", u)]) ∧
        ∀ base : Heap, (K w.params).In base → base.Ns mainGlobals mg → FnOk l.prog w (K w.params) mg base CX0 k fa fd ["_law_script"] (spLaw (K w.params))) :
    PySem.W.WalkO q loose XP YP l.row.toRowW d [] (fun f vs => PySem.call f vs) := by
  refine Att.attach_callB hn hdf fun w s₀ s₁ mg mb fa o pm cd doc a vs ns G Y ho hd hcd hmg hobj hints hlen hbits hg => ?_
  have KX := hY w _ Y
  obtain ⟨fd, hb, hF⟩ := F w mg fa _ KX G.T.g hmg
  exact law_call KX G.T.g G.T.b G.T.builtins G.T.nolimit hg hobj hints (Nat.le_trans hlen (by decide)) hr hF hb (fun H hO hS => ⟨a, ns, rfl, hS, hlen, hbits, fun _ => rfl⟩) fun H e s' => fun z => z
end L2

set_option Elab.async false
set_option linter.all false
set_option maxRecDepth 100000
set_option maxHeartbeats 4000000
namespace L2
open PySem PySem.Spec PyProof.Rows
/-- the context of a comprehension's block: its own name first, then the names around it -/
def compCx (X : Cx) (M : List Str) (x : Str) (scope : Scope) (cl : List (Str × Addr)) (C : Addr) (s₀ : Shared) (H₀ : Hp) (fp : List Addr) : Cx :=
  { X with N := x :: M, s₀ := s₀, H₀ := H₀, env := compEnvC scope cl C X.env, outer := X.stack, ex := fp, fn := fun _ => false, pn := [], xe := fun _ _ => False }
structure CompOk (X : Cx) (M : List Str) (x : Str) (scope : Scope) (cl : List (Str × Addr)) : Prop where
  clos : closureFor scope X.env = pure cl
  cell : ∀ y ∈ scope.names, y.2 ≠ .cell
  kind : scope.kind = .function
  names : ∀ y ∈ scope.names, y.2 = .local → scope.names.lookup y.1 = some .local
  xl : scope.names.lookup x = some .local
  nd : (x :: M).Nodup
  len : M.length = X.N.length
  sub : ∀ y c, cl.lookup y = some c → X.env.cells.lookup y = some c
  has : ∀ y, ((relabel scope X.env).names.lookup y = some .cell ∨ (relabel scope X.env).names.lookup y = some .free) → ∃ c, cl.lookup y = some c
  vis : ∀ (i : Nat) (y : Str), M[i]? = some y → Vis (relabel scope X.env) y → X.N[i]? = some y ∧ ((relabel scope X.env).names.lookup y = some .cell ∨ (relabel scope X.env).names.lookup y = some .free) ∧ (X.env.scope.names.lookup y = some .cell ∨ X.env.scope.names.lookup y = some .free)
/-- the tests of a clause -/
def PIfs (X : Cx) (ifs : List Expr) (t : TT) : Prop :=
  ∀ (pins : List (Addr × Obj)) (s : Shared) (σ : St) (H : Hp) (Q : Bool → Hp → Prop), Inv X pins σ H s → t σ H Q →
    wpAny (model X.prog X.w) X.A (forIn ifs true fun c r => if r = true then do let ok ← isTrue c X.env (eval c X.env); pure (ForInStep.yield ok) else pure (ForInStep.yield r)) (TP X pins σ Q) X.xe s
def tTrue : TT := fun _ H Q => Q true H
section
variable {X : Cx}
theorem pifs_nil : PIfs X [] tTrue := fun pins s σ H Q I h => by
  rw [List.forIn_nil]
  exact wpAny_pure ⟨H, I, h⟩
/-- W: the invariant by the turn, a measure, the items so far, the heap (in which the list stands at D) -/
def tComp (wi : TI) (tt : TT) (te : TE) : TE := fun σ H Q => wi σ H fun J H1 => ∀ D, H1 D = none → ∃ W : Nat → Nat → List V → Hp → Prop, (∃ m, W 0 m [] (upd H1 D (.lst []))) ∧
  ∀ i m ys H2, W i m ys H2 → H2 D = some (.lst ys) ∧ ((J.stop i H2 ∧ Q (.ref D) H2) ∨ (J.go i H2 ∧ ys.length < sizeLine ∧ ∃ m', m' < m ∧ ∀ x H3, J.yld i H2 x H3 →
    tt (some x :: σ) H3 fun b H4 => if b = true then te (some x :: σ) H4 fun y H5 => H5 D = some (.lst ys) ∧ W (i + 1) m' (ys ++ [y]) (upd H5 D (.lst (ys ++ [y]))) else W (i + 1) m' ys H4))

theorem comp_ok {M : List Str} {pins : List (Addr × Obj)} {σ : St} {H : Hp} {s : Shared} {x : Str} {scope : Scope} {cl : List (Str × Addr)} {C : Addr} {fp : List Addr} (I : Inv X pins σ H s) (ok : CompOk X M x scope cl) (hC : s.heap.objs.size ≤ C)
    (hf : ∀ b ∈ fp, FpOk X pins H b) (hb : ∀ b ∈ fp, b < s.heap.objs.size) : (compCx X M x scope cl C s H fp).Ok where
  mod := I.ok.mod
  kind := ok.kind
  glob := I.ok.glob
  blt := I.ok.blt
  above := hC
  inj := fun y z c h1 h2 => I.ok.inj y z c (ok.sub y c h1) (ok.sub z c h2)
  has := ok.has
  cab := fun y c h => by cases h
  hd := I.ok.hd
  frames := I.ok.frames
  stk := .inl rfl
  exf := fun b h => ⟨Nat.ne_of_lt (Nat.lt_of_lt_of_le (hb b h) hC), fun y c e => (hf b h).2.2.2.2.1 y c (ok.sub y c e)⟩
  bs := I.bs
  bsz := Nat.le_trans I.ok.bsz I.sz
  noex := fun b o e h => by
    rcases (hf b h).2.2.2.1 with z | z
    · exact I.ok.noex b o e z
    · exact absurd (Nat.lt_of_lt_of_le (Heap.lt_size (I.ok.bs b o e).1) z) (Nat.lt_irrefl _)
  exfs := fun b h z => by
    rcases List.mem_cons.mp (I.stkSub b z) with e | e
    · exact (hf b h).2.1 e
    · exact (hf b h).2.2.1 e
  funs := I.stack
  frf := I.stkFree

def CompR (tt : TT) (te : TE) (σ : St) (Q : VK) : It → Hp → Prop := fun J H1 => ∀ D, H1 D = none → ∃ W : Nat → Nat → List V → Hp → Prop, (∃ m, W 0 m [] (upd H1 D (.lst []))) ∧
  ∀ i m ys H2, W i m ys H2 → H2 D = some (.lst ys) ∧ ((J.stop i H2 ∧ Q (.ref D) H2) ∨ (J.go i H2 ∧ ys.length < sizeLine ∧ ∃ m', m' < m ∧ ∀ x H3, J.yld i H2 x H3 →
    tt (some x :: σ) H3 fun b H4 => if b = true then te (some x :: σ) H4 fun y H5 => H5 D = some (.lst ys) ∧ W (i + 1) m' (ys ++ [y]) (upd H5 D (.lst (ys ++ [y]))) else W (i + 1) m' ys H4))
theorem comp_core {M : List Str} {elt iter : Expr} {x : Str} {px pos : Pos} {ifs : List Expr} {scope : Scope} {cl : List (Str × Addr)} {tt : TT} {te : TE} (hc : X.calm = true) (ok : CompOk X M x scope cl)
    (ht : ∀ C s₀ H₀ fp, PIfs (compCx X M x scope cl C s₀ H₀ fp) ifs tt) (he : ∀ C s₀ H₀ fp, PE (compCx X M x scope cl C s₀ H₀ fp) elt te)
    {pins : List (Addr × Obj)} {σ : St} {H2 : Hp} {s2 : Shared} {it : Addr} {fp : List Addr} {tn : Nat → Heap → Prop} {J : It} {Q : VK} (I2 : Inv X pins σ H2 s2) (T : Turn X.prog X.w X.K (.Name x px) J fp it tn) (st2 : tn 0 s2.heap) (f2 : ∀ b ∈ fp, FpOk X pins H2 b)
    (hW : CompR tt te σ Q J H2) (post : Value → Addr → Result → Shared → Prop)
    (fin : ∀ D C H3 s4, Inv X pins σ H3 s4 → (∃ m, s4.heap.Ns C m) → FpOk X pins H3 C → Q (.ref D) H3 → post (.ref D) C (.ok .next) s4) :
    wpAny (model X.prog X.w) X.A (newList []) (fun acc s₃ => wpAny (model X.prog X.w) X.A (newFunctionEnv scope X.env.globals cl [] X.env.qual none .none (some X.env)) (fun cenv s₄ =>
      codeAny (model X.prog X.w) X.A (.compStart (.ListComp elt [⟨.Name x px, iter, ifs, 0⟩] scope pos) 0 (.ref it) acc { cenv with scope := relabel scope X.env }) (post acc cenv.locals) s₄) X.xe s₃) X.xe s2 := by
  refine wpAny_newObj_type (wpAny_newFunctionEnv ok.cell (by intro y hy; simp at hy) (fun h₁ hns₁ hsb₁ => ?_) ok.kind)
  dsimp only at hns₁ hsb₁ ⊢
  generalize hH2 : s2.heap.push { cls := .type "list", dict := none, data := .seq ([] : List Value).toArray } = G2 at hns₁ hsb₁ ⊢
  have hC : G2.objs.size = s2.heap.objs.size + 1 := by rw [← hH2, Heap.size_push]
  have hDC : s2.heap.objs.size ≠ G2.objs.size := by rw [hC]; exact Nat.ne_of_lt (Nat.lt_succ_self _)
  have hCle : s2.heap.objs.size ≤ G2.objs.size := by rw [hC]; exact Nat.le_succ _
  have below : ∀ b, b < s2.heap.objs.size → b ≠ G2.objs.size ∧ b ≠ s2.heap.objs.size := fun b hb => ⟨by rw [hC]; exact Nat.ne_of_lt (Nat.lt_succ_of_lt hb), Nat.ne_of_lt hb⟩
  have old : ∀ b o, s2.heap.get? b = some o → h₁.get? b = some o := fun b o e => hsb₁.extBut b o (below b (Heap.lt_size e)).1 (Heap.get?_push_of_some _ (hH2 ▸ Heap.get?_push_of_some _ e))
  have hacc : h₁.get? s2.heap.objs.size = some { cls := .type "list", data := .seq ([] : List Value).toArray } := hsb₁.extBut _ _ hDC (Heap.get?_push_of_some _ (hH2 ▸ Heap.get?_push_size _ rfl))
  have fpb : ∀ b ∈ fp, b < s2.heap.objs.size := fun b hb => by
    obtain ⟨o, e, _⟩ := T.obj _ _ st2 b hb
    exact Heap.lt_size e
  have hD0 : H2 s2.heap.objs.size = none := I2.hok.fresh (Nat.le_refl _)
  have hC0 : H2 G2.objs.size = none := I2.hok.fresh hCle
  generalize hDD : s2.heap.objs.size = D at *
  generalize hCC : G2.objs.size = C at *
  obtain ⟨W, ⟨m0, w0⟩, turn⟩ := hW D hD0
  have okX : (compCx X M x scope cl C s2 H2 fp).Ok := comp_ok I2 ok (by rw [hDD]; exact hCle) f2 (by rw [hDD]; exact fpb)
  have lenN : (none :: σ : St).length = (compCx X M x scope cl C s2 H2 fp).N.length := by
    show (none :: σ).length = (x :: M).length
    rw [List.length_cons, List.length_cons, I2.len, ok.len]
  -- the values of the names around it, seen from within
  have locs : ∀ (h' : Heap) (m : Str → Option Value) (w' : Option V), (∀ y c, X.env.cells.lookup y = some c → ∀ v, s2.heap.IsCell c v → h'.IsCell c v) → w' = none →
      ∀ (i : Nat) (y : Str) (v : V), (x :: M)[i]? = some y → (w' :: σ : St)[i]? = some (some v) → Vis (relabel scope X.env) y → ∃ u, RelV v u ∧ Look (compEnvC scope cl C X.env) h' m y u := by
    intro h' m w' hcell hw i y v e1 e2 e3
    subst hw
    cases i with
    | zero => simp at e2
    | succ i =>
      have e0 : M[i]? = some y := by simpa using e1
      have e2' : σ[i]? = some (some v) := by simpa using e2
      obtain ⟨e1', k1, k2⟩ := ok.vis i y e0 e3
      obtain ⟨m2, _, hl⟩ := I2.loc
      obtain ⟨u, r, l⟩ := hl i y v e1' e2' (k2.elim (fun z => .inr (.inl z)) fun z => .inr (.inr z))
      obtain ⟨c', hc'⟩ := ok.has y k1
      rcases l with ⟨z, _⟩ | ⟨_, c, hcc, z⟩
      · have z' : X.env.scope.names.lookup y = some .local := z
        rcases k2 with q | q <;> (rw [q] at z'; cases z')
      · have q := ok.sub y c' hc'
        rw [hcc] at q
        cases q
        exact ⟨u, r, .inr ⟨k1, c', hc', hcell y c' hcc _ z⟩⟩
  have I0 : Inv (compCx X M x scope cl C s2 H2 fp) [] (none :: σ) (upd H2 D (.lst [])) { s2 with heap := h₁, toks := s2.toks + ([] : List (Str × Value)).length } := by
    refine ⟨okX, rfl, I2.bare, ?_, ⟨_, hns₁, locs h₁ _ none (fun y c e v z => ?_) rfl⟩, fun y c e => ?_, ?_, fun y c e => ?_, fun p hp => ?_, ?_, lenN⟩
    · exact Un.laid old (Nat.le_of_eq hDD) hD0
    · obtain ⟨o, ho, hd⟩ := z
      exact ⟨o, old c o ho, hd⟩
    · obtain ⟨v, o, ho, hd⟩ := I2.cell y c (ok.sub y c e)
      exact ⟨v, o, old c o ho, hd⟩
    · show upd H2 D (.lst []) C = none
      rw [upd_ne (Ne.symm hDC)]
      exact hC0
    · have hn := I2.freeC y c (ok.sub y c e)
      obtain ⟨v, o, ho, hd⟩ := I2.cell y c (ok.sub y c e)
      rw [upd_ne (fun z => by have := Heap.lt_size ho; rw [hDD, z] at this; exact Nat.lt_irrefl _ this)]
      exact hn
    · exact absurd hp (by show p ∉ ([] ++ [] : List (Addr × Obj)); simp)
    · refine I2.hok.laid old (Nat.le_of_eq hDD) ⟨Nat.zero_le _, [], _, .nil, hacc⟩
  have fpk : ∀ {H' : Hp}, (∀ b ∈ fp, H' b = none) → ∀ b ∈ fp, FpOk (compCx X M x scope cl C s2 H2 fp) [] H' b := fun hn b hb => by
    refine ⟨hn b hb, (below b (fpb b hb)).1, okX.exfs b hb, .inl hb, fun y c e => (f2 b hb).2.2.2.2.1 y c (ok.sub y c e), fun p hp => ?_⟩
    exact absurd hp (by show p ∉ ([] ++ [] : List (Addr × Obj)); simp)
  have loop : ∀ s₃ : Shared, s₃ = { s2 with heap := h₁, toks := s2.toks + ([] : List (Str × Value)).length } →
      codeAny (model X.prog X.w) X.A (.compLoop (.ListComp elt [⟨.Name x px, iter, ifs, 0⟩] scope pos) 0 (.ref it) (.ref D) (compEnvC scope cl C X.env))
        (post (.ref D) C) s₃ := by
    rintro s₃ rfl
    refine codeAny_compLoop_tests (fun n s' => ∃ i ys w' H', Inv (compCx X M x scope cl C s2 H2 fp) [] (w' :: σ) H' s' ∧ tn i s'.heap ∧ (∀ b ∈ fp, H' b = none) ∧ W i n ys H') ?_ m0
      ⟨0, [], none, _, I0, T.keep _ _ _ st2 (fun b _ o e => old b o e), fun b hb => by rw [upd_ne (below b (fpb b hb)).2]; exact (f2 b hb).1, w0⟩
    rintro n s3 ⟨i, ys, w3, H3, I3, st3, fr3, wt⟩
    obtain ⟨hD3, hh⟩ := turn i n ys H3 wt
    rcases hh with ⟨stop, q⟩ | ⟨go, hlen, m', hm, step⟩
    · refine thn (T.done (compCx X M x scope cl C s2 H2 fp) rfl rfl rfl hc i [] s3 (w3 :: σ) H3 _ I3 (fpk fr3) st3 stop) fun r s4 ⟨hr, I4⟩ => ?_
      subst hr
      obtain ⟨m4, hn4, _⟩ := id I4.loc
      have hC4 : H3 C = none := I4.free
      exact fin D C H3 s4 (I2.call' (ch := fp) I4.os I4.base I4.hok I4.bare fun b hb => ⟨(f2 b hb).2.2.2.1, (f2 b hb).2.1, (f2 b hb).2.2.2.2.1, (f2 b hb).2.2.2.2.2⟩) ⟨m4, hn4⟩ (I2.fpOk (by rw [hDD]; exact hCle) hC4) q
    · refine wpAny_mono (T.item (compCx X M x scope cl C s2 H2 fp) rfl rfl rfl hc i [] s3 (w3 :: σ) H3 (fun _ _ => False) I3 (fpk fr3) st3 go) (fun r s4 h4 => ?_) (fun _ _ z => z.elim)
      obtain ⟨u, hr, h4⟩ := h4
      subst hr
      refine (show wpAny (model X.prog X.w) X.A (letOwnedTupleGo (.Name x px) (.ref it) u >>= fun _ => assign (.Name x px) (compEnvC scope cl C X.env) u) _ _ _ from wpAny_bind (wpAny_mono h4 (fun _ s4 h4 => ?_) (fun _ _ z => z.elim)))
      obtain ⟨x', H5, I5, r5, y5, st5, fr5⟩ := h4
      have I5' := I5.pinned (fpk fr5) (T.obj _ _ st5)
      refine wpAny_assign_Name (store_ok (X := compCx X M x scope cl C s2 H2 fp) (i := 0) I5' ok.nd rfl (.inl (lookup_relabel_local ok.xl)) r5 (fun s6 I6 => ?_) (.inr (lookup_relabel_local ok.xl)))
      have I6' : Inv (compCx X M x scope cl C s2 H2 fp) ([] ++ pinsAt fp s4.heap) (some x' :: σ) H5 s6 := I6
      have back : ∀ {s7 : Shared} {H7 : Hp} {w7 : Option V}, Inv (compCx X M x scope cl C s2 H2 fp) ([] ++ pinsAt fp s4.heap) (w7 :: σ) H7 s7 → tn (i + 1) s7.heap ∧ (∀ b ∈ fp, H7 b = none) ∧ Inv (compCx X M x scope cl C s2 H2 fp) [] (w7 :: σ) H7 s7 := fun {s7 H7 w7} I7 => by
        refine ⟨T.keep _ _ _ st5 fun b hb o e => (I7.pin (b, o) (List.mem_append_right _ (List.mem_append_right _ (mem_pinsAt hb e)))).1, fun b hb => ?_, I7.unpinned⟩
        obtain ⟨o, e, d⟩ := T.obj _ _ st5 b hb
        exact (I7.pin (b, o) (List.mem_append_right _ (List.mem_append_right _ (mem_pinsAt hb e)))).2.1
      refine wpAny_mono (ht C s2 H2 fp _ s6 _ H5 _ I6' (step x' H5 y5)) (fun ok' s7 h7 => ?_) (fun _ _ z => z.elim)
      obtain ⟨H7, I7, q7⟩ := h7
      cases ok' with
      | false =>
        have q7' : W (i + 1) m' ys H7 := by simpa using q7
        rw [if_neg Bool.false_ne_true]
        obtain ⟨b1, b2, b3⟩ := back I7
        exact ⟨m', hm, i + 1, ys, _, H7, b3, b1, b2, q7'⟩
      | true =>
        rw [if_pos rfl] at q7 ⊢
        refine wpAny_mono (he C s2 H2 fp _ s7 _ H7 _ I7 q7) (fun y s8 h8 => ?_) (fun _ _ z => z.elim)
        obtain ⟨v8, H8, I8, r8, hD8, w8⟩ := h8
        refine wpAny_mono (mt_append (X := compCx X M x scope cl C s2 H2 fp) _ s8 _ H8 (.ref D) [v8] (.ref D) [y] (fun _ H9 => H9 = upd H8 D (.lst (ys ++ [v8]))) I8 rfl (.cons r8 .nil) ⟨D, ys, v8, rfl, rfl, hD8, hlen, rfl⟩) (fun _ s9 h9 => ?_) (fun _ _ z => z.elim)
        obtain ⟨v9, H9, I9, _, e9⟩ := h9
        subst e9
        obtain ⟨b1, b2, b3⟩ := back I9
        exact ⟨m', hm, i + 1, _, _, _, b3, b1, b2, w8⟩
  exact codeAny_compStart_list (loop _ rfl) (T.self _ 0 _ _ _ (T.keep _ _ _ st2 (fun b _ o e => old b o e)) (loop _ rfl))
theorem pe_comp {M : List Str} {elt iter : Expr} {x : Str} {px pos : Pos} {ifs : List Expr} {scope : Scope} {cl : List (Str × Addr)} {wi : TI} {tt : TT} {te : TE} (hc : X.calm = true) (ok : CompOk X M x scope cl) (hi : PI X (.Name x px) iter wi)
    (ht : ∀ C s₀ H₀ fp, PIfs (compCx X M x scope cl C s₀ H₀ fp) ifs tt) (he : ∀ C s₀ H₀ fp, PE (compCx X M x scope cl C s₀ H₀ fp) elt te)
    (hs : ∀ x, foldedSetIterable iter X.env x = pure x := by intro _; rfl) :
    PE X (.ListComp elt [⟨.Name x px, iter, ifs, 0⟩] scope pos) (tComp wi tt te) := by
  intro pins s σ H Q I h
  rw [eval_ListComp]
  refine wpAny_comprehension_free (use := none) rfl hs ok.clos ok.kind ok.names (thn (hi pins s σ H _ I h) fun xv s1 h1 => thn h1 fun itv s2 h2 => ?_)
  obtain ⟨it, fp, tn, J, H2, e, I2, T, st2, f2, hW⟩ := h2
  subst e
  refine comp_core hc ok ht he I2 T st2 f2 hW (compPost (model X.prog X.w) X.A X.xe none (EP X pins σ Q)) fun D C H3 s4 I4 hm fC q => ?_
  obtain ⟨m, hn⟩ := hm
  exact ⟨m, hn, fun h' hsb => ⟨.ref D, H3, I4.turned (t' := s4.toks) (fun b o hb e => hsb.extBut b o hb e) fC.1 fC.2.1 fC.2.2.2.1 fC.2.2.2.2.1 fC.2.2.2.2.2, rfl, q⟩⟩
/-- name = [.. for x in ..] -/
theorem ps_setComp {M : List Str} {elt iter : Expr} {x y : Str} {px py pos spos : Pos} {ifs : List Expr} {scope : Scope} {cl : List (Str × Addr)} {wi : TI} {tt : TT} {te : TE} {i : Nat} (hN : X.N.Nodup) (hiy : X.N[i]? = some y) (hy : Loc X.env.scope y)
    (hc : X.calm = true) (ok : CompOk X M x scope cl) (hi : PI X (.Name x px) iter wi)
    (ht : ∀ C s₀ H₀ fp, PIfs (compCx X M x scope cl C s₀ H₀ fp) ifs tt) (he : ∀ C s₀ H₀ fp, PE (compCx X M x scope cl C s₀ H₀ fp) elt te)
    (hsw : swapsWith (.ListComp elt [⟨.Name x px, iter, ifs, 0⟩] scope pos) (some (.Name y py)) spos.line X.env = pure true := by with_unfolding_all rfl)
    (hf : X.fn y = true ∨ X.env.scope.names.lookup y = some .local := by first | exact .inl rfl | exact .inr rfl | assumption)
    (hs : ∀ x, foldedSetIterable iter X.env x = pure x := by intro _; rfl) :
    PS X (.Assign [.Name y py] (.ListComp elt [⟨.Name x px, iter, ifs, 0⟩] scope pos) spos) (tAsg (tComp wi tt te) (gName i)) := by
  intro pins s σ H D I h
  rw [exec_Assign_Name_used _ _ _ _ hsw]
  refine wpAny_bind (wpAny_standAt (wpAny_bind ?_))
  show wpAny _ X.A (do let _ ← comprehension (.ListComp elt [⟨.Name x px, iter, ifs, 0⟩] scope pos) scope X.env _ (newList []) false (eval iter X.env) (some (assign (.Name y py) X.env))) _ _ s
  refine wpAny_bind (wpAny_mono (wpAny_comprehension_free (use := some (assign (.Name y py) X.env)) (Q := fun _ s' => SP X pins D .next s') rfl hs ok.clos ok.kind ok.names
    (thn (hi pins s σ H _ I h) fun xv s1 h1 => thn h1 fun itv s2 h2 => ?_)) (fun _ s' hq => wpAny_pure (wpAny_pure hq)) fun _ _ e => e)
  obtain ⟨it, fp, tn, J, H2, e, I2, T, st2, f2, hW⟩ := h2
  subst e
  refine comp_core (Q := fun x H1 => gName i x σ H1 D.nx) hc ok ht he I2 T st2 f2 hW (compPost (model X.prog X.w) X.A X.xe (some (assign (.Name y py) X.env)) (fun _ s' => SP X pins D .next s')) fun Dd C H3 s4 I4 hm fC q => ?_
  obtain ⟨m, hn⟩ := hm
  show wpAny _ X.A (assign (.Name y py) X.env (.ref Dd)) _ _ _
  refine wpAny_assign_Name (store_ok2 I4 hN hiy hy (v := .ref Dd) rfl (fun s5 I5 hsb => ?_) hf)
  obtain ⟨a, sb, ha⟩ := hsb
  have hCa : C ≠ a := by
    rcases ha with rfl | ha
    · exact fC.2.1
    · exact (fC.2.2.2.2.1 _ _ ha).symm
  exact ⟨m, hn.sameBut sb hCa, fun h' hsb' => ⟨_, H3, I5.turned (t' := s5.toks) (fun b o hb e => hsb'.extBut b o hb e) fC.1 fC.2.1 fC.2.2.2.1 fC.2.2.2.2.1 fC.2.2.2.2.2, q⟩⟩

theorem vals_bls : ∀ {bs : List Bool} {us : List Value}, Vals (bs.map V.bl) us → us = bs.map Value.bool
  | [], _, .nil => rfl
  | b :: bs, u :: us, .cons r t => by
    cases (show u = Value.bool b from r)
    rw [vals_bls t]
    rfl
theorem range_allB (bs : List Bool) : ((List.range bs.length).all fun i => (bs[i]?).getD true) = bs.all id := by
  induction bs with
  | nil => rfl
  | cons b bs ih =>
    rw [List.length_cons, List.range_succ_eq_map, List.all_cons, List.all_map, List.all_cons, ← ih]
    rfl
theorem kept_it {s : Shared} {h' : Heap} {o : Obj} (hk : ∀ b x, b ∉ [s.heap.objs.size] → (s.heap.push o).get? b = some x → h'.get? b = some x) : ∀ b x, s.heap.get? b = some x → h'.get? b = some x :=
  fun b x e => hk b x (fun hm => by rw [List.mem_singleton.mp hm] at e; exact Nat.lt_irrefl _ (Heap.lt_size e)) (Heap.get?_push_of_some _ e)
theorem call_all (hc : X.calm = true) : CallR X (.builtin "all") (fun xs H Q => ∃ (p : Addr) (bs : List Bool), xs = [.ref p] ∧ SqL X.K H p (bs.map V.bl) ∧ Q (.bl (bs.all id)) H) := by
  intro pins s σ H xs us Q I r h
  obtain ⟨p, bs, rfl, hq, q⟩ := h
  obtain ⟨u, rfl, ru⟩ := vals1 r
  cases (show u = Value.ref p from ru)
  obtain ⟨its, rv, pl, _⟩ := I.list hq
  obtain rfl := vals_bls rv
  have hl := pl.isList
  have hlt : p < s.heap.objs.size := by obtain ⟨_, e, _⟩ := id hl; exact Heap.lt_size e
  refine call_all_walk (wpAny_pyIter_list hl ?_)
  refine ⟨s.heap.objs.size, [s.heap.objs.size, p], [s.heap.objs.size], (bs.map Value.bool).toArray.size, _, _, fun i => (bs[i]?).getD true, rfl, Walks.list (A := X.A.in1) (I.ok.hd hc) _ p (Nat.ne_of_lt hlt) (bs.map Value.bool).toArray,
    ⟨⟨_, Heap.get?_push_size _ rfl, rfl, rfl⟩, hl.push _⟩, fun i v s' Q' E' hP hQ => ?_, fun h' tk hk => ?_⟩
  · have hP' : (bs.map Value.bool)[i]? = some v := by simpa using hP
    rw [List.getElem?_map] at hP'
    cases e : bs[i]? with
    | none => rw [e] at hP'; cases hP'
    | some b =>
      rw [e] at hP'
      cases hP'
      simp only [e, Option.getD_some] at hQ
      exact wpAny_truthy_bool hQ
  · have e : ((List.range (bs.map Value.bool).toArray.size).all fun i => (bs[i]?).getD true) = bs.all id := by
      rw [List.size_toArray, List.length_map]; exact range_allB bs
    rw [e]
    exact ⟨.bl _, H, I.kept (kept_it hk), rfl, q⟩
theorem lookup_mem {κ β : Type} [BEq κ] [LawfulBEq κ] {k : κ} {v : β} : ∀ {l : List (κ × β)}, l.lookup k = some v → (k, v) ∈ l
  | (a, b) :: r, h => by
    rw [List.lookup_cons] at h
    cases e : k == a with
    | true =>
      rw [e] at h
      cases h
      rw [eq_of_beq e]
      exact List.mem_cons_self
    | false =>
      rw [e] at h
      exact List.mem_cons_of_mem _ (lookup_mem h)
theorem relabel_plain {scope : Scope} {env : Env} (h : ∀ y ∈ scope.names, y.2 ≠ .free) : (relabel scope env).names = scope.names :=
  map_eq_self fun x hx => by
    obtain ⟨n, k⟩ := x
    have : (k == NameKind.free) = false := by simpa using h _ hx
    simp [this]
/-- a comprehension that names nothing of the frame around it -/
theorem compOk_nil {x : Str} {scope : Scope} (N : List Str) (hN : X.N = N) (hf : ∀ y ∈ scope.names, y.2 ≠ .free ∧ y.2 ≠ .cell) (hk : scope.kind = .function) (hn : ∀ y ∈ scope.names, y.2 = .local → scope.names.lookup y.1 = some .local)
    (hx : scope.names.lookup x = some .local) (nd : (x :: N).Nodup) (vis : ∀ y ∈ N, scope.names.lookup y ≠ some .local) : CompOk X N x scope [] := by
  have e := relabel_plain (env := X.env) fun y hy => (hf y hy).1
  refine ⟨closureFor_none fun y hy => (hf y hy).1, fun y hy => (hf y hy).2, hk, hn, hx, nd, by rw [hN], fun y c h => (by cases h), fun y h => ?_, fun i y hy h => ?_⟩
  · rw [e] at h
    rcases h with h | h
    · exact absurd rfl (hf _ (lookup_mem h)).2
    · exact absurd rfl (hf _ (lookup_mem h)).1
  · rcases h with h | h | h
    · rw [e] at h; exact absurd h (vis y (List.mem_of_getElem? hy))
    · rw [e] at h; exact absurd rfl (hf _ (lookup_mem h)).2
    · rw [e] at h; exact absurd rfl (hf _ (lookup_mem h)).1
/-- what an iterator goes through, where the heap is as ok says -/
structure Walk (J : It) (ok : Hp → Prop) (xs : List V) : Prop where
  go : ∀ i H, ok H → i < xs.length → J.go i H
  yld : ∀ i H x H', ok H → J.yld i H x H' → i < xs.length → H' = H ∧ xs[i]? = some x
  stop : ∀ i H, ok H → xs.length ≤ i → J.stop i H
theorem walk_l {K : PySem.W.Frag} {a : Addr} {xs : List V} : Walk (Itl K a) (fun H => SqL K H a xs) xs :=
  ⟨fun i H h hi => ⟨xs, xs[i], h, by simp [hi]⟩, fun i H x H' h y hi => ⟨y.1, y.2 xs h⟩, fun i H h hi => ⟨xs, h, hi⟩⟩
theorem walk_t {K : PySem.W.Frag} {a : Addr} {xs : List V} : Walk (Itt K a) (fun H => SqT K H a xs) xs :=
  ⟨fun i H h hi => ⟨xs, xs[i], h, by simp [hi]⟩, fun i H x H' h y hi => ⟨y.1, y.2 xs h⟩, fun i H h hi => ⟨xs, h, hi⟩⟩
/-- the comprehension's list: f of the items that p lets through; tests and elements leave the heap as it is -/
theorem comp_by {J : It} {ok : Hp → Prop} {xs : List V} {σ : St} {H : Hp} {Q : VK} {tt : TT} {te : TE} (Wk : Walk J ok xs) (hz : xs.length < sizeLine) (hok : ∀ D ys, H D = none → ok (upd H D (.lst ys))) (p : V → Bool) (f : V → V)
    (ht : ∀ x ∈ xs, ∀ D ys (Q' : Bool → Hp → Prop), H D = none → Q' (p x) (upd H D (.lst ys)) → tt (some x :: σ) (upd H D (.lst ys)) Q')
    (he : ∀ x ∈ xs, p x = true → ∀ D ys (Q' : VK), H D = none → Q' (f x) (upd H D (.lst ys)) → te (some x :: σ) (upd H D (.lst ys)) Q')
    (h : ∀ D, H D = none → Q (.ref D) (upd H D (.lst ((xs.filter p).map f)))) :
    ∀ D, H D = none → ∃ W : Nat → Nat → List V → Hp → Prop, (∃ m, W 0 m [] (upd H D (.lst []))) ∧
      ∀ i m ys H2, W i m ys H2 → H2 D = some (.lst ys) ∧ ((J.stop i H2 ∧ Q (.ref D) H2) ∨ (J.go i H2 ∧ ys.length < sizeLine ∧ ∃ m', m' < m ∧ ∀ x H3, J.yld i H2 x H3 →
        tt (some x :: σ) H3 fun b H4 => if b = true then te (some x :: σ) H4 fun y H5 => H5 D = some (.lst ys) ∧ W (i + 1) m' (ys ++ [y]) (upd H5 D (.lst (ys ++ [y]))) else W (i + 1) m' ys H4)) := by
  intro D hD
  refine ⟨fun i m ys H2 => i ≤ xs.length ∧ m = xs.length - i ∧ ys = ((xs.take i).filter p).map f ∧ H2 = upd H D (.lst ys), ⟨_, Nat.zero_le _, rfl, by simp, rfl⟩, ?_⟩
  rintro i m ys H2 ⟨hi, rfl, hys, rfl⟩
  refine ⟨upd_same, ?_⟩
  by_cases hlt : i < xs.length
  · have hl : ys.length ≤ i := by
      rw [hys, List.length_map]
      exact Nat.le_trans (List.length_filter_le _ _) (by rw [List.length_take]; omega)
    refine .inr ⟨Wk.go i _ (hok D ys hD) hlt, by omega, xs.length - (i + 1), by omega, fun x H3 hy => ?_⟩
    obtain ⟨e3, ex⟩ := Wk.yld i _ x H3 (hok D ys hD) hy hlt
    subst e3
    have hm : x ∈ xs := List.mem_of_getElem? ex
    have et : xs.take (i + 1) = xs.take i ++ [x] := by rw [List.take_add_one, ex]; rfl
    refine ht x hm D ys _ hD ?_
    cases hp : p x with
    | false =>
      rw [if_neg Bool.false_ne_true]
      refine ⟨hlt, rfl, ?_, rfl⟩
      rw [et, List.filter_append, hys]
      simp [hp]
    | true =>
      rw [if_pos rfl]
      refine he x hm hp D ys _ hD ⟨upd_same, hlt, rfl, ?_, by rw [upd_upd]⟩
      rw [et, List.filter_append, hys]
      simp [hp]
  · have e : i = xs.length := by omega
    subst e
    refine .inl ⟨Wk.stop _ _ (hok D ys hD) (Nat.le_refl _), ?_⟩
    rw [hys, List.take_length]
    exact h D hD
theorem rd_rng1 {ta : TA} {σ : St} {H : Hp} {R : It → Hp → Prop} (h : ta σ H fun vs H1 => ∃ j : Int, vs = [.int j] ∧ -(2 ^ 62) ≤ j ∧ j < 2 ^ 62 ∧ R (Itr 0 j.toNat) H1) : iRng1 ta σ H R := h
theorem rd_rng2 {ta : TA} {σ : St} {H : Hp} {R : It → Hp → Prop} (h : ta σ H fun vs H1 => ∃ i j : Int, vs = [.int i, .int j] ∧ (-(2 ^ 62) ≤ i ∧ i < 2 ^ 62 ∧ -(2 ^ 62) ≤ j ∧ j < 2 ^ 62) ∧ R (Itr i (j - i).toNat) H1) : iRng2 ta σ H R := h
theorem rd_comp {wi : TI} {tt : TT} {te : TE} {σ : St} {H : Hp} {Q : VK} (h : wi σ H (CompR tt te σ Q)) : tComp wi tt te σ H Q := h
theorem comp_go {J : It} {ok : Hp → Prop} {xs : List V} {σ : St} {H : Hp} {Q : VK} {tt : TT} {te : TE} (Wk : Walk J ok xs) (hz : xs.length < sizeLine) (hok : ∀ D ys, H D = none → ok (upd H D (.lst ys))) (p : V → Bool) (f : V → V)
    (ht : ∀ x ∈ xs, ∀ D ys (Q' : Bool → Hp → Prop), H D = none → Q' (p x) (upd H D (.lst ys)) → tt (some x :: σ) (upd H D (.lst ys)) Q')
    (he : ∀ x ∈ xs, p x = true → ∀ D ys (Q' : VK), H D = none → Q' (f x) (upd H D (.lst ys)) → te (some x :: σ) (upd H D (.lst ys)) Q')
    (h : ∀ D, H D = none → Q (.ref D) (upd H D (.lst ((xs.filter p).map f)))) : CompR tt te σ Q J H := comp_by Wk hz hok p f ht he h
theorem comp_t {K : PySem.W.Frag} {i : Nat} {a : Addr} {xs : List V} {σ : St} {H : Hp} {Q : VK} {tt : TT} {te : TE} (ei : σ[i]? = some (some (.ref a))) (hS : SqT K H a xs) (hz : xs.length < sizeLine) (p : V → Bool) (f : V → V)
    (ht : ∀ x ∈ xs, ∀ D ys (Q' : Bool → Hp → Prop), H D = none → Q' (p x) (upd H D (.lst ys)) → tt (some x :: σ) (upd H D (.lst ys)) Q')
    (he : ∀ x ∈ xs, p x = true → ∀ D ys (Q' : VK), H D = none → Q' (f x) (upd H D (.lst ys)) → te (some x :: σ) (upd H D (.lst ys)) Q')
    (h : ∀ D, H D = none → Q (.ref D) (upd H D (.lst ((xs.filter p).map f)))) : tComp (iTup K (tVar i)) tt te σ H Q :=
  ⟨_, ei, a, rfl, ⟨_, hS⟩, comp_by walk_t hz (fun D ys hD => (same_new hD _).tup hS) p f ht he h⟩
theorem comp_l {K : PySem.W.Frag} {i : Nat} {a : Addr} {xs : List V} {σ : St} {H : Hp} {Q : VK} {tt : TT} {te : TE} (ei : σ[i]? = some (some (.ref a))) (hS : SqL K H a xs) (hz : xs.length < sizeLine) (p : V → Bool) (f : V → V)
    (ht : ∀ x ∈ xs, ∀ D ys (Q' : Bool → Hp → Prop), H D = none → Q' (p x) (upd H D (.lst ys)) → tt (some x :: σ) (upd H D (.lst ys)) Q')
    (he : ∀ x ∈ xs, p x = true → ∀ D ys (Q' : VK), H D = none → Q' (f x) (upd H D (.lst ys)) → te (some x :: σ) (upd H D (.lst ys)) Q')
    (h : ∀ D, H D = none → Q (.ref D) (upd H D (.lst ((xs.filter p).map f)))) : tComp (iList K (tVar i)) tt te σ H Q :=
  ⟨_, ei, a, rfl, ⟨_, hS⟩, comp_by walk_l hz (fun D ys hD => (same_new hD _).seq hS) p f ht he h⟩
theorem rd_true {σ : St} {H : Hp} {Q : Bool → Hp → Prop} (h : Q true H) : tTrue σ H Q := h

def ItrS (lo c : Int) (n : Nat) : It := ⟨fun i _ => i < n, fun i H x H' => H' = H ∧ x = .int (lo + i * c), fun i _ => n ≤ i⟩
def iRng3 (ta : TA) : TI := fun σ H R => ta σ H fun vs H1 => ∃ i j c : Int, vs = [.int i, .int j, .int c] ∧ 0 < c ∧ c < 1073741824 ∧ Builtin.Range.small i j c = true ∧ ∃ n : Nat, (n : Int) = Builtin.Range.rangeSize i j c ∧ R (ItrS i c n) H1
theorem rd_rng3 {ta : TA} {σ : St} {H : Hp} {R : It → Hp → Prop} (h : ta σ H fun vs H1 => ∃ i j c : Int, vs = [.int i, .int j, .int c] ∧ 0 < c ∧ c < 1073741824 ∧ Builtin.Range.small i j c = true ∧ ∃ n : Nat, (n : Int) = Builtin.Range.rangeSize i j c ∧ R (ItrS i c n) H1) : iRng3 ta σ H R := h
theorem rd_for {wi : TI} {g : TG} {tb : TS} {D : Ends} {σ : St} {H : Hp} (h : wi σ H fun J H1 => ∃ W : Nat → Nat → St → Hp → Prop, (∃ m, W 0 m σ H1) ∧ ∀ i m σ H, W i m σ H →
  (J.stop i H ∧ D.nx σ H) ∨ (J.go i H ∧ ∃ N : St → Hp → Prop, (∀ σ' H', N σ' H' → ∃ m', m' < m ∧ W (i + 1) m' σ' H') ∧ ∀ x H', J.yld i H x H' → g x σ H' fun σ2 H2 => tb { D with nx := N, ct := N, bk := D.nx } σ2 H2)) : tFor wi g tb D σ H := h
theorem rd_iL {K : PySem.W.Frag} {tl : TE} {σ : St} {H : Hp} {R : It → Hp → Prop} (h : tl σ H fun x H1 => ∃ a, x = .ref a ∧ (∃ xs, SqL K H1 a xs) ∧ R (Itl K a) H1) : iList K tl σ H R := h
theorem rd_iT {K : PySem.W.Frag} {tl : TE} {σ : St} {H : Hp} {R : It → Hp → Prop} (h : tl σ H fun x H1 => ∃ a, x = .ref a ∧ (∃ xs, SqT K H1 a xs) ∧ R (Itt K a) H1) : iTup K tl σ H R := h
end
end L2

set_option Elab.async false
set_option linter.all false
set_option maxRecDepth 100000
set_option maxHeartbeats 4000000
namespace L2
open PySem PySem.Spec PyProof.Rows
/-- the object at e: its class, its dict, its head of tracebacks -/
def XObj (h : Heap) (e : Addr) (cls : Value) (dd : Option Addr) (head : Value) : Prop := ∃ vs sl, h.get? e = some ⟨cls, dd, .fields vs, sl⟩ ∧ vs[1]? = some head
/-- a traceback stands at its head, with the flight mark fl -/
def XTr (h base : Heap) (e : Addr) (cls : Value) (dd : Option Addr) (fl : Value) : Prop := ∃ T, XObj h e cls dd (.ref T) ∧ base.get? T = none ∧ T ≠ e ∧ ∃ oT ts, h.get? T = some oT ∧ oT.data = .fields ts ∧ ts[3]? = some fl
structure Sea (base : Heap) (l : List Env) (e : Addr) (h : Heap) : Prop where
  stays : base.StaysIn h
  new : base.get? e = none
  frames : h.FunFrames base l
section
variable {M : Model} {A : Around} {E : Value → Shared → Prop} {s : Shared} {base : Heap} {env : Env} {outer l : List Env} {L e : Addr} {cls : Value} {dd : Option Addr}
theorem fields_set {o : Obj} {vs : Array Value} (hd : o.data = .fields vs) (i : Nat) (x : Value) : Obj.mapFields (·.setIfInBounds i x) o = ⟨o.cls, o.dict, .fields (vs.setIfInBounds i x), o.slots⟩ := by
  obtain ⟨c, d, dt, sl⟩ := o
  cases hd
  rfl
/-- the entry is laid and put at the exception's head -/
theorem entry_x {head : Value} {nx : Bool} {Q : Unit → Shared → Prop} (hfr : A.frames = some (env :: outer)) (hf : env.frame = some L) (S : Sea base (env :: outer) e s.heap) {hd0 : Value} (O : XObj s.heap e cls dd hd0)
    (k : ∀ h', Sea base (env :: outer) e h' → XTr h' base e cls dd (rawInt L) → s.heap.UpToSlots h' → Q () { s with heap := h' }) :
    wpAny M A (do let a ← frameOf env; let pl ← entryPlaceOf L nx; let b ← EntryCells.newEntry head a .none (rawInt L) .none pl; setField (.ref e) 1 b) Q E s := by
  obtain ⟨vs, sl, he, h1⟩ := O
  have nofr : e ∉ (env :: outer).filterMap (·.frame) := fun z => by
    obtain ⟨_, o, ho, hn⟩ := S.frames.mem z
    rw [he] at ho
    cases ho
    exact hn vs rfl
  refine wpAny_bind (wpAny_frameOf_fun hfr S.frames hf fun g1 so => wpAny_bind (wpAny_entryPlaceOf fun pl hpl => ?_))
  unfold EntryCells.newEntry newFields; refine wpAny_bind (wpAny_newObj_type ?_ (hpl.sizeOk5 _ _ _ _ _))
  generalize hob : ({ cls := .type "traceback", dict := none, data := .fields ([head, .ref L, .none, rawInt L, .none] ++ (if pl.isEmpty then List.replicate 6 Value.none else pl)).toArray } : Obj) = tb
  have e1 : g1.get? e = some ⟨cls, dd, .fields vs, sl⟩ := (so.2.1 e nofr).trans he
  have b1 : base.StaysIn g1 := fun b o q => (so.2.1 b fun z => by rw [(S.frames.mem z).1] at q; cases q).trans (S.stays b o q)
  have e2 : (g1.push tb).get? e = some ⟨cls, dd, .fields vs, sl⟩ := Heap.get?_push_of_some _ e1
  have ne : g1.objs.size ≠ e := Nat.ne_of_gt (Heap.lt_size e1)
  have sz : 1 < vs.size := (Array.getElem?_eq_some_iff.mp h1).1
  have tbf : tb.isFreed = false := by rw [← hob]; rfl
  refine wpAny_setField e2 rfl sz (k _ ⟨fun b o q => ?_, S.new, ?_⟩ ?_ ?_)
  · have hbe : b ≠ e := fun z => by rw [z, S.new] at q; cases q
    rw [Heap.get?_update_other _ _ (Ne.symm hbe)]
    exact Heap.get?_push_of_some _ (b1 b o q)
  · refine S.frames.of_keeps fun b o q hn => ?_
    have hbe : b ≠ e := fun z => by rw [z, he] at q; cases q; exact hn vs rfl
    obtain ⟨sl', q'⟩ := so.2.2 b o q
    refine ⟨{ o with slots := sl' }, ?_, rfl⟩
    rw [Heap.get?_update_other _ _ (Ne.symm hbe)]
    exact Heap.get?_push_of_some _ q'
  · refine ⟨g1.objs.size, ⟨vs.setIfInBounds 1 (.ref g1.objs.size), sl, ?_, ?_⟩, b1.fresh, ne, tb, ([head, .ref L, .none, rawInt L, .none] ++ (if pl.isEmpty then List.replicate 6 Value.none else pl)).toArray, ?_, by rw [← hob], ?_⟩
    · rw [Heap.get?_update_self _ e2 (by rw [fields_set rfl]; rfl), fields_set rfl]
    · rw [Array.getElem?_setIfInBounds_self_of_lt sz]
    · rw [Heap.get?_update_other _ _ (Ne.symm ne)]
      exact Heap.get?_push_size _ tbf
    · simp
  · intro b o q hn
    have hbe : b ≠ e := fun z => by rw [z, he] at q; cases q; exact hn vs rfl
    obtain ⟨sl', q'⟩ := so.2.2 b o q
    refine ⟨sl', ?_⟩
    rw [Heap.get?_update_other _ _ (Ne.symm hbe)]
    exact Heap.get?_push_of_some _ q'
/-- the exception is new: no frame has noted it -/
theorem note_new {Q : Unit → Shared → Prop} (hfr : A.frames = some (env :: outer)) (hf : env.frame = some L) (S : Sea base (env :: outer) e s.heap) (O : XObj s.heap e cls dd .none)
    (k : ∀ h', Sea base (env :: outer) e h' → XTr h' base e cls dd (rawInt L) → s.heap.UpToSlots h' → Q () { s with heap := h' }) : wpAny M A (noteFrame (.ref e) env) Q E s := by
  obtain ⟨vs, sl, he, h1⟩ := id O
  unfold noteFrame
  simp only [hf]
  refine wpAny_bind (wpAny_field he rfl h1 ?_)
  rw [if_neg (by decide)]
  exact entry_x hfr hf S O k
/-- it flies in from a callee -/
theorem note_on {Q : Unit → Shared → Prop} (hfr : A.frames = some (env :: outer)) (hf : env.frame = some L) (S : Sea base (env :: outer) e s.heap) (O : XTr s.heap base e cls dd .none)
    (k : ∀ h', Sea base (env :: outer) e h' → XTr h' base e cls dd (rawInt L) → s.heap.UpToSlots h' → Q () { s with heap := h' }) : wpAny M A (noteFrame (.ref e) env) Q E s := by
  obtain ⟨T, ⟨vs, sl, he, h1⟩, tb, ne, oT, ts, hT, dT, h3⟩ := O
  unfold noteFrame
  simp only [hf]
  refine wpAny_bind (wpAny_field he rfl h1 ?_)
  rw [if_pos (show (Value.ref T != Value.none) = true by simp)]
  refine wpAny_bind (wpAny_field hT dT h3 ?_)
  rw [if_neg (show ¬ ((Value.none == rawInt L) = true) by simp [rawInt])]
  refine wpAny_bind (wpAny_setField hT dT (Array.getElem?_eq_some_iff.mp h3).1 ?_)
  have oth : ∀ b, b ≠ T → (s.heap.update T (Obj.mapFields (·.setIfInBounds 3 Value.none))).get? b = s.heap.get? b := fun b hb => Heap.get?_update_other _ _ (Ne.symm hb)
  have nT : ∀ b o, s.heap.get? b = some o → (∀ ws, o.data ≠ .fields ws) → b ≠ T := fun b o q hn z => by
    rw [z, hT] at q
    cases q
    exact hn ts dT
  refine entry_x (hd0 := .ref T) (s := { s with heap := s.heap.update T (Obj.mapFields (·.setIfInBounds 3 Value.none)) }) hfr hf ⟨fun b o q => ?_, S.new, ?_⟩ ⟨vs, sl, (oth e (Ne.symm ne)).trans he, h1⟩ fun h' a b c => k h' a b fun x o q hn => ?_
  · exact (oth b fun z => by rw [z, tb] at q; cases q).trans (S.stays b o q)
  · exact S.frames.of_keeps fun b o q hn => ⟨o, (oth b (nT b o q hn)).trans q, rfl⟩
  · exact c x o ((oth x (nT x o q hn)).trans q) hn
theorem flight_off {fl : Value} {Q : Unit → Shared → Prop} (S : Sea base l e s.heap) (O : XTr s.heap base e cls dd fl)
    (k : ∀ h', Sea base l e h' → XTr h' base e cls dd .none → s.heap.UpToSlots h' → Q () { s with heap := h' }) : wpAny M A (setFlight (.ref e) none) Q E s := by
  obtain ⟨T, ⟨vs, sl, he, h1⟩, tb, ne, oT, ts, hT, dT, h3⟩ := O
  have sz : 3 < ts.size := (Array.getElem?_eq_some_iff.mp h3).1
  unfold setFlight
  refine wpAny_bind (wpAny_field he rfl h1 ?_)
  rw [if_pos (show (Value.ref T != Value.none) = true by simp)]
  have oth : ∀ b, b ≠ T → (s.heap.update T (Obj.mapFields (·.setIfInBounds 3 ((none : Option Addr).elim Value.none fun f => rawInt f)))).get? b = s.heap.get? b := fun b hb => Heap.get?_update_other _ _ (Ne.symm hb)
  have nT : ∀ b o, s.heap.get? b = some o → (∀ ws, o.data ≠ .fields ws) → b ≠ T := fun b o q hn z => by
    rw [z, hT] at q
    cases q
    exact hn ts dT
  refine wpAny_setField hT dT sz (k _ ⟨fun b o q => ?_, S.new, ?_⟩ ⟨T, ⟨vs, sl, (oth e (Ne.symm ne)).trans he, h1⟩, tb, ne, _, ts.setIfInBounds 3 .none, Heap.get?_update_self _ hT ?_, ?_, ?_⟩ fun b o q hn => ⟨o.slots, (oth b (nT b o q hn)).trans q⟩)
  · exact (oth b fun z => by rw [z, tb] at q; cases q).trans (S.stays b o q)
  · exact S.frames.of_keeps fun b o q hn => ⟨o, (oth b (nT b o q hn)).trans q, rfl⟩
  · rw [fields_set dT]; rfl
  · rw [fields_set dT]; rfl
  · rw [Array.getElem?_setIfInBounds_self_of_lt sz]
theorem Sea.tail (S : Sea base (env :: outer) e s.heap) : Sea base outer e s.heap := ⟨S.stays, S.new, S.frames.2.2⟩
theorem leave_new {Q : Unit → Shared → Prop} (hfr : A.frames = some (env :: outer)) (hf : env.frame = some L) (S : Sea base (env :: outer) e s.heap) (O : XObj s.heap e cls dd .none)
    (k : ∀ h', Sea base outer e h' → XTr h' base e cls dd .none → s.heap.UpToSlots h' → Q () { s with heap := h' }) : wpAny M A (leaving env (.ref e)) Q E s := by
  unfold leaving
  refine wpAny_bind (note_new hfr hf S O fun h1 S1 O1 u1 => ?_)
  exact flight_off (s := { s with heap := h1 }) S1 O1 fun h2 S2 O2 u2 => k h2 (Sea.tail (s := { s with heap := h2 }) S2) O2 (u1.trans u2)
theorem leave_on {Q : Unit → Shared → Prop} (hfr : A.frames = some (env :: outer)) (hf : env.frame = some L) (S : Sea base (env :: outer) e s.heap) (O : XTr s.heap base e cls dd .none)
    (k : ∀ h', Sea base outer e h' → XTr h' base e cls dd .none → s.heap.UpToSlots h' → Q () { s with heap := h' }) : wpAny M A (leaving env (.ref e)) Q E s := by
  unfold leaving
  refine wpAny_bind (note_on hfr hf S O fun h1 S1 O1 u1 => ?_)
  exact flight_off (s := { s with heap := h1 }) S1 O1 fun h2 S2 O2 u2 => k h2 (Sea.tail (s := { s with heap := h2 }) S2) O2 (u1.trans u2)
end
end L2

set_option Elab.async false
set_option linter.all false
set_option maxRecDepth 100000
set_option maxHeartbeats 4000000
namespace L2
open PySem PySem.Spec PyProof.Rows
/-- B holds what stood in h (but the frames at fs), what H does not track unchanged -/
def Old (fs : List Addr) (H : Hp) (h B : Heap) : Prop := ∀ b u, h.get? b = some u → b ∉ fs → ∃ u', B.get? b = some u' ∧ (H b = none → u' = u)
/-- B holds what is tracked -/
def Tra (H : Hp) (h B : Heap) : Prop := ∀ b o, H b = some o → ∃ u, h.get? b = some u ∧ B.get? b = some u
section
variable {P : Program} {w : World} {fs : List Addr} {H H' : Hp} {h h1 h2 B : Heap}
theorem un_flown (u : Un fs [] H H' h h1) (o : Old fs H h B) (st : B.StaysIn h2) (up : h1.UpToSlots h2) (fr : ∀ b ∈ fs, ∃ ob, h1.get? b = some ob ∧ ∀ vs, ob.data ≠ .fields vs) : Un fs [] H H' h h2 where
  keep := fun b ob q n hb hx => by
    obtain ⟨u', e, z⟩ := o b ob q hb
    rw [z n] at e
    exact st _ _ e
  slot := fun b ob q n hb hx => by
    obtain ⟨sl, e⟩ := u.slot b ob q n hb hx
    obtain ⟨o2, e2, nf⟩ := fr b hb
    rw [e] at e2
    cases e2
    obtain ⟨sl', e3⟩ := up b _ e nf
    exact ⟨sl', e3⟩
  free := u.free
  there := fun b ob q hx => by
    by_cases hb : b ∈ fs
    · obtain ⟨o2, e2, nf⟩ := fr b hb
      obtain ⟨sl, e3⟩ := up b _ e2 nf
      exact ⟨_, e3⟩
    · obtain ⟨u', e, _⟩ := o b ob q hb
      exact ⟨u', st _ _ e⟩
  tups := u.tups
  frzs := u.frzs
  tbls := u.tbls
theorem hok_flown (ok : HOk P w H' h1) (t : Tra H' h1 B) (st : B.StaysIn h2) : HOk P w H' h2 := fun a o e => by
  refine (ok a o e).stay (fun b u hb q => ?_) (fun _ q => q) fun _ _ q => q
  have go : ∀ ob, H' b = some ob → h2.get? b = some u := fun ob z => by
    obtain ⟨u', e1, e2⟩ := t b ob z
    rw [q] at e1
    cases e1
    exact st _ _ e2
  rcases hb with z | z
  · exact go o (z ▸ e)
  · exact go _ z
theorem Tra.later (t : Tra H' h1 B) (st : B.StaysIn h2) : Tra H' h2 B := fun b o e => by
  obtain ⟨u, _, q⟩ := t b o e
  exact ⟨u, st _ _ q, q⟩
end
/-- how an exception lies behind a call -/
def CX1 (P : Program) (w : World) : CXT := fun outer H s E e s' => ∃ (ea : Addr) (cls : Value) (dx : Option Addr) (B : Heap) (H' : Hp), e = .ref ea ∧ s'.os = s.os ∧ AllBare s'.gens ∧ Un (frs outer) [] H H' s.heap s'.heap ∧
  HOk P w H' s'.heap ∧ Sea B outer ea s'.heap ∧ XTr s'.heap B ea cls dx .none ∧ Old (frs outer) H s.heap B ∧ Tra H' s'.heap B ∧ E cls dx H'
/-- how a new exception lies, ahead of the first frame that notes it -/
def CXM (P : Program) (w : World) : CXT := fun outer H s E e s' => ∃ (ea : Addr) (cls : Value) (dx : Option Addr) (B : Heap) (H' : Hp), e = .ref ea ∧ s'.os = s.os ∧ AllBare s'.gens ∧ Un (frs outer) [] H H' s.heap s'.heap ∧
  HOk P w H' s'.heap ∧ Sea B outer ea s'.heap ∧ XObj s'.heap ea cls dx .none ∧ Old (frs outer) H s.heap B ∧ Tra H' s'.heap B ∧ E cls dx H'
/-- what a context makes of exceptions; EE: what is wanted of the class, the dict, the names and the heap -/
structure Thr (X : Cx) (EE : Value → Option Addr → St → Hp → Prop) : Prop where
  call : ∀ (pins : List (Addr × Obj)) (σ : St) (H : Hp) (s : Shared) (e : Value) (s' : Shared), Inv X pins σ H s → CX1 X.prog X.w X.stack H s (fun c d H' => EE c d σ H') e s' → X.xe e s'
  made : ∀ (pins : List (Addr × Obj)) (σ : St) (H : Hp) (s : Shared) (e : Value) (s' : Shared), Inv X pins σ H s → CXM X.prog X.w X.stack H s (fun c d H' => EE c d σ H') e s' → X.xe e s'
section
variable {X : Cx} {pins : List (Addr × Obj)} {σ : St} {H H' : Hp} {s : Shared}
theorem frames_are (I : Inv X pins σ H s) {s' : Shared} (u : Un (frs X.stack) [] H H' s.heap s'.heap) : ∀ b ∈ frs X.stack, ∃ ob, s'.heap.get? b = some ob ∧ ∀ vs, ob.data ≠ .fields vs := fun b hb => by
  obtain ⟨_, o, ho, hn⟩ := I.stack.mem hb
  obtain ⟨sl, e⟩ := u.any ho (I.stkFree b hb) (by simp)
  exact ⟨_, e, hn⟩
/-- from a body's frame to its callers' -/
theorem un_out {s2 : Heap} (I : Inv X pins σ H s) (hx : X.ex = []) (hst : X.stack = X.env :: X.outer) (hfr : X.env.frame = some X.env.locals) (u : Un (frs X.stack) [] H H' s.heap s2) : Un X.fs [] X.H₀ H' X.s₀.heap s2 := by
  have nl : ∀ b o, X.s₀.heap.get? b = some o → b ≠ X.env.locals := fun b o e => Nat.ne_of_lt (Nat.lt_of_lt_of_le (Heap.lt_size e) I.ok.above)
  have sub : ∀ b, b ∈ frs X.stack → b = X.env.locals ∨ b ∈ X.fs := fun b hb => List.mem_cons.mp (I.stkSub b hb)
  have sup : ∀ b, b ∈ X.fs → b ∈ frs X.stack := fun b hb => by
    rw [hst]
    show b ∈ (X.env :: X.outer).filterMap (·.frame)
    rw [List.filterMap_cons, hfr]
    exact List.mem_cons_of_mem _ hb
  have ie : ∀ b, b ∉ X.ex := fun b => by rw [hx]; simp
  exact {
    keep := fun b o e n hb _ => u.keep b o (I.base.keep b o e n hb (ie b)) (I.base.free b o e n (ie b)) (fun z => (sub b z).elim (nl b o e) hb) (by simp)
    slot := fun b o e n hb _ => by
      obtain ⟨sl, e1⟩ := I.base.slot b o e n hb (ie b)
      obtain ⟨sl', e2⟩ := u.slot b _ e1 (I.base.free b o e n (ie b)) (sup b hb) (by simp)
      exact ⟨sl', e2⟩
    free := fun b o e n _ => by
      obtain ⟨o', e1⟩ := I.base.there b o e (ie b)
      exact u.free b o' e1 (I.base.free b o e n (ie b)) (by simp)
    there := fun b o e _ => by
      obtain ⟨o', e1⟩ := I.base.there b o e (ie b)
      exact u.there b o' e1 (by simp)
    tups := fun b xs e => u.tups b xs (I.base.tups b xs e)
    frzs := fun b o xs e => u.frzs b o xs (I.base.frzs b o xs e)
    tbls := fun b ps e => by
      obtain ⟨m1, e1⟩ := I.base.tbls b ps e
      obtain ⟨m2, e2⟩ := u.tbls b _ e1
      exact ⟨m1 ++ m2, by rw [e2, Array.append_assoc]⟩ }
theorem old_out {B : Heap} (I : Inv X pins σ H s) (hx : X.ex = []) (o : Old (frs X.stack) H s.heap B) : Old X.fs X.H₀ X.s₀.heap B := fun b u e hb => by
  have ie : b ∉ X.ex := by rw [hx]; simp
  have hs : b ∉ frs X.stack := fun z => (List.mem_cons.mp (I.stkSub b z)).elim (fun q => Nat.lt_irrefl _ (Nat.lt_of_lt_of_le (Heap.lt_size e) (q ▸ I.ok.above))) hb
  obtain ⟨o', e1⟩ := I.base.there b u e ie
  obtain ⟨u', e2, z⟩ := o b o' e1 hs
  refine ⟨u', e2, fun n => ?_⟩
  have e3 := I.base.keep b u e n hb ie
  rw [e1] at e3
  cases e3
  exact z (I.base.free b _ e n ie)
end
theorem ObjOk.obj {P : Program} {w : World} {H : Hp} {h : Heap} {a : Addr} {o : HO} (x : ObjOk P w H h a o) : ∃ u, h.get? a = some u := by
  cases o with
  | lst xs => obtain ⟨_, _, _, _, e⟩ := x; exact ⟨_, e⟩
  | tup xs => obtain ⟨_, _, _, ob, e, _⟩ := x; exact ⟨_, e⟩
  | dK kvs => obtain ⟨_, _, _, _, ob, _, _, e, _⟩ := x; exact ⟨_, e⟩
  | dT kvs => obtain ⟨_, _, _, _, ob, _, _, e, _⟩ := x; exact ⟨_, e⟩
  | set S n => obtain ⟨ob, _, _, _, e, _⟩ := x; exact ⟨_, e⟩
  | ins C dx fs => obtain ⟨_, _, _, e, _⟩ := x; exact ⟨_, e⟩
  | own y => exact x
  | xd fs => obtain ⟨_, ⟨ob, _, _, e, _⟩, _⟩ := x; exact ⟨_, e⟩
  | rng lo hi => obtain ⟨_, _, _, e⟩ := x; exact ⟨_, e⟩
  | frz ob u => exact ⟨_, x.1⟩
  | tbl ps => exact ⟨_, x⟩
  | met f y => exact ⟨_, x⟩
  | ext φ => exact x.2.1
/-- an exception just made -/
theorem cxm_made {X : Cx} {pins : List (Addr × Obj)} {σ : St} {H H' : Hp} {s s' : Shared} {e : Addr} {cls : Value} {dx : Option Addr} {E : XK} (I : Inv X pins σ H s) (I' : Inv X pins σ H' s') (un : Un (frs X.stack) [] H H' s.heap s'.heap) (os : s'.os = s.os) (O : XObj s'.heap e cls dx .none) (hn : s.heap.get? e = none) (hn' : H' e = none)
    (q : E cls dx H') : CXM X.prog X.w X.stack H s E (.ref e) s' := by
  refine ⟨e, cls, dx, PySem.W.hideAll s'.heap (e :: frs X.stack), H', rfl, os, I'.bare, un, I'.hok, ⟨fun b o z => PySem.W.of_hideAll _ z, PySem.W.hideAll_none _ (by simp), ?_⟩, O, fun b u z hb => ?_, fun b o z => ?_, q⟩
  · refine PySem.W.funFrames_hide I'.stack fun env he a ha => List.mem_cons_of_mem _ ?_
    exact List.mem_filterMap.mpr ⟨env, he, ha⟩
  · have ne : b ∉ e :: frs X.stack := fun hm => (List.mem_cons.mp hm).elim (fun r => by rw [r, hn] at z; cases z) hb
    obtain ⟨u', e1⟩ := un.there b u z (by simp)
    refine ⟨u', PySem.W.hideAll_get _ e1 ne, fun n => ?_⟩
    have e2 := un.keep b u z n hb (by simp)
    rw [e1] at e2
    cases e2
    rfl
  · obtain ⟨u, hu⟩ := (I'.hok b o z).obj
    refine ⟨u, hu, PySem.W.hideAll_get _ hu fun hm => ?_⟩
    rcases List.mem_cons.mp hm with r | r
    · rw [r, hn'] at z; cases z
    · rw [I'.stkFree b r] at z; cases z
/-- a def's body: an exception leaves the frame -/
theorem thr_fn {P : Program} {w : World} {K : PySem.W.Frag} {mg : Str → Option Value} {base : Heap} {N : List Str} {qual : Str} {scope : Scope} {f : Addr} {cd : Value} {A : Around} {outer : List Env} {s₀ : Shared} {H₀ : Hp} {E : XK} :
    Thr (cxOf (CX1 P w) P w K mg base N qual scope f cd A outer s₀ H₀ E) (fun c d _ H' => E c d H') where
  call := by
    rintro pins σ H s e s' I ⟨ea, cls, dx, B, H', rfl, os, bare, un, hok, sea, tr, old, tra, q⟩
    refine leave_on (A := (cxOf (CX1 P w) P w K mg base N qual scope f cd A outer s₀ H₀ E).A) (I.ok.frames) rfl sea tr fun h2 S2 O2 u2 => ?_
    refine ⟨ea, cls, dx, B, H', rfl, os.trans I.os, bare, ?_, hok_flown hok tra S2.stays, S2, O2, old_out I rfl old, tra.later S2.stays, q⟩
    exact un_out I rfl rfl rfl (un_flown un old S2.stays u2 (frames_are I un))
  made := by
    rintro pins σ H s e s' I ⟨ea, cls, dx, B, H', rfl, os, bare, un, hok, sea, tr, old, tra, q⟩
    refine leave_new (A := (cxOf (CX1 P w) P w K mg base N qual scope f cd A outer s₀ H₀ E).A) (I.ok.frames) rfl sea tr fun h2 S2 O2 u2 => ?_
    refine ⟨ea, cls, dx, B, H', rfl, os.trans I.os, bare, ?_, hok_flown hok tra S2.stays, S2, O2, old_out I rfl old, tra.later S2.stays, q⟩
    exact un_out I rfl rfl rfl (un_flown un old S2.stays u2 (frames_are I un))
end L2

set_option Elab.async false
set_option linter.all false
set_option maxRecDepth 100000
set_option maxHeartbeats 4000000
namespace L2
open PySem PySem.Spec PyProof.Rows
section
variable {P : Program} {w : World} {K : PySem.W.Frag} {mg : Str → Option Value} {base : Heap}
theorem Fun.okE {x qual : Str} {st : Stmt} {f : Addr} {fd : FuncData} {N ps : List Str} {k : Nat} {sp : Sp} (F : Fun K x qual st f fd) (S : FnScope N ps (defScope st)) (len : ∀ vs H Q E, sp vs H Q E → vs.length = ps.length)
    (hbody : ∀ (cdv : Value) (A : Around) (outer : List Env) (s : Shared) (H : Hp) (vs : List V) (Q : VK) (E : XK), Room k (A.deeper (envOfC qual (defScope st) s.heap.objs.size f cdv)) → sp vs H Q E →
      Thr (cxOf (CX1 P w) P w K mg base N qual (defScope st) f cdv A outer s H E) (fun c d _ H' => E c d H') →
      ∃ t, PSs (cxOf (CX1 P w) P w K mg base N qual (defScope st) f cdv A outer s H E) (defBody st) t ∧ t { nx := fun _ H' => Q .non H', rt := Q } (start N vs) H) : FnOk P w K mg base (CX1 P w) (k + 1) f fd ps sp := by
  obtain ⟨oc, od, kV, doc, pm, an, cdv, ct, osl, rfl, lk, hcd⟩ := F.ex
  exact fn_of lk hcd S len fun A outer s H vs Q E hr hsp => hbody cdv A outer s H vs Q E hr hsp thr_fn
end
structure CalE (P : Program) (w : World) (K : PySem.W.Frag) (mg : Str → Option Value) (base : Heap) (k : Nat) (x : Str) (ps : List Str) (sp : Sp) : Prop where
  ex : ∃ (f : Addr) (fd : FuncData), FnOk P w K mg base (CX1 P w) k f fd ps sp ∧ Binds K fd ps [] ∧ PySem.W.keepIn K (.ref f) = true ∧ mg x = some (.ref f)
def tCallE (sp : Sp) (EE : Value → Option Addr → St → Hp → Prop) (t : TA) : TE := fun σ H Q => t σ H fun vs H1 => sp (vs ++ []) H1 Q (fun c d H' => EE c d σ H')
section
variable {X : Cx} {EE : Value → Option Addr → St → Hp → Prop}
theorem pe_calE {k : Nat} {x : Str} {ps : List Str} {sp : Sp} {e : Expr} {es : List Expr} {t : TA} {p pos : Pos} (T : Thr X EE) (C : CalE X.prog X.w X.K X.mg X.base k x ps sp) (hr : Room k X.A) (hg : Gl X x) (ha : PA X (e :: es) t)
    (hdb : (x == ("__debug__" : Str)) = false := by decide) (he : starEach (e :: es) X.env = (false, eval e X.env) :: starEach es X.env := by rfl) (hpl : (backTo pos (starEach es X.env)).any (·.1) = false := by rfl) :
    PE X (.Call (.Name x p) (e :: es) [] pos) (tCallE sp EE t) := by
  intro pins s σ H Q I h
  obtain ⟨f, fd, F, b, kp, m⟩ := C.ex
  refine wpAny_Call_Name_kw (ld_glob I hg m ?_ hdb)
  refine PySem.W.callWith_K (h₀ := X.base) I.ok.mod.kin kp (thn (ha pos pins s σ H _ I h) fun us s1 ⟨vs, H1, I1, r, q⟩ => ⟨I1.kIn, ?_⟩) he hpl
  dsimp only at q
  rw [List.append_nil] at q
  have hl : us.length = ps.length := by rw [← r.length]; exact F.len _ _ _ _ q
  have hb := b s1 us I1.kIn (by rw [List.append_nil]; exact hl)
  rw [List.append_nil] at hb
  show wpAny _ _ (call (.ref f) us) _ _ _
  refine wpAny_call (codeAny_mono (F.run X.A X.stack s1 H1 ⟨us, []⟩ us vs Q _ hr I1.env0 hb r q) fun z s' hq => ?_)
  cases z with
  | error e => exact T.call pins σ H1 s1 e s' I1 hq
  | ok fl =>
    cases fl with
    | ret u => exact I1.after hq
    | next => exact False.elim hq
    | brk => exact False.elim hq
    | cont => exact False.elim hq
theorem exc_cls {K : PySem.W.Frag} {h : Heap} {C : Addr} {bmB : List Value} {newId : String} (KX : K.In h) (q : PySem.W.excIn K C bmB newId = true) :
    ∃ bm N nm qn bs hd sn sub ab col dd k0 k1 k2 k3 k5 mN, h.get? C = some (excClassObj nm qn C N bs bm hd sn sub ab col dd k0 k1 k2 k3 k5 newId) ∧ h.Ns N mN ∧ mN "__init__" = none ∧ OwnTail h bmB bm := by
  unfold PySem.W.excIn at q
  split at q
  · rename_i dd cd sl ho
    split at q
    · rename_i C' bm k0 k1 k2 k3 n k5 hm hs
      simp only [Bool.and_eq_true, beq_iff_eq, Bool.not_eq_true'] at q
      obtain ⟨⟨⟨⟨⟨e1, e2⟩, hdel⟩, ht⟩, hok⟩, hni⟩ := q
      subst e1 e2
      obtain ⟨nm, bs, mro, ns, qn, hd, sn, sub, ab, col, del⟩ := cd
      dsimp only at hm hdel hok hni
      subst hm hdel
      obtain ⟨l⟩ := sl
      dsimp only at hs
      subst hs
      exact ⟨bm, ns, nm, qn, bs, hd, sn, sub, ab, col, dd, k0, k1, k2, k3, k5, _, KX _ _ ho, .of_isNs (PySem.W.isNs_of_in KX hok), PySem.W.nsMap_none_of_in KX hok hni, PySem.W.tail_of_in KX ht⟩
    · cases q
  · cases q
abbrev bmV : List Value := [.type "ValueError", .type "Exception", .type "BaseException", .type "object"]
/-- a class of the text under ValueError, without an __init__ of its own or of those between -/
structure XCls (K : PySem.W.Frag) (mg : Str → Option Value) (x : Str) (C : Addr) : Prop where
  bound : mg x = some (.ref C)
  exc : PySem.W.excIn K C bmV "ValueError.__new__" = true
def tRaise (C : Addr) (EE : Value → Option Addr → St → Hp → Prop) (ta : TA) : TS := fun _ σ H => ta σ H fun vs H1 => vs.length ≤ sizeLine ∧ EE (.ref C) none σ H1
theorem ps_raise {x : Str} {C : Addr} {e : Expr} {es : List Expr} {t : TA} {np cpos pos : Pos} (T : Thr X EE) (hc : X.calm = true) (O : XCls X.K X.mg x C) (hg : Gl X x) (ha : PA X (e :: es) t)
    (hdb : (x == ("__debug__" : Str)) = false := by decide) (he : starEach (e :: es) X.env = (false, eval e X.env) :: starEach es X.env := by rfl) (hpl : (backTo cpos (starEach es X.env)).any (·.1) = false := by rfl) :
    PS X (.Raise (some (.Call (.Name x np) (e :: es) [] cpos)) none pos) (tRaise C EE t) := by
  intro pins s σ H D I h
  obtain ⟨tl, N, nm, qn, bs, hd, sn, sub, ab, col, dd, k0, k1, k2, k3, k5, mN, hC, hN, hni, TL⟩ := exc_cls I.ok.mod.kin O.exc
  have FV := PySem.F.excBase_ValueError
  refine wpAny_Raise_call_subU (C := C) (nm := nm) (q := qn) (N := N) (bs := bs) (bm := tl) (hdct := hd) (sn := sn) (sub := sub) (ab := ab) (col := col) (dd := dd) (k0 := k0) (k1 := k1) (k2 := k2) (k3 := k3) (k5 := k5)
    FV (by decide +kernel) FV (mN := mN) (TL.hasType FV.hasBase) (I.ok.hd hc) ?_ hni (ld_glob I hg O.bound ⟨rfl, ?_⟩ hdb)
  · rw [he]
    show (false || (backTo cpos (starEach es X.env)).any (·.1)) = false
    rw [hpl]; rfl
  have hh := thn (ha cpos pins s σ H _ I h) (Q' := fun vs s₂ => vs.length ≤ sizeLine ∧ (∀ b o, X.base.get? b = some o → s₂.heap.get? b = some o) ∧ ∀ h' ea, Heap.MadeExcOf s₂.heap h' ea (.ref C) vs → X.xe (.ref ea) { s₂ with heap := h' }) fun us s1 ⟨vs, H1, I1, r, hz, q⟩ => by
    refine ⟨by rw [← r.length]; exact hz, I1.bk, fun h' ea M => ?_⟩
    obtain ⟨ta, e1, _, _⟩ := M.there
    have I2 : Inv X pins σ H1 { s1 with heap := h' } := I1.kept (t' := s1.toks) M.keeps
    have hn : H1 ea = none := by
      cases z : H1 ea with
      | none => rfl
      | some o =>
        obtain ⟨u, hu⟩ := (I1.hok ea o z).obj
        rw [M.new] at hu; cases hu
    exact T.made pins σ H1 s1 _ _ I1 (cxm_made I1 I2 (Un.kept M.keeps) rfl ⟨_, #[], e1, rfl⟩ M.new hn q)
  rw [he] at hh ⊢
  exact Calls.evalArgs_plain (thn hh fun vs s₂ h₂ => ⟨rfl, h₂.1, h₂.2.1 _ _ hC, hN.keeps h₂.2.1, TL.keeps h₂.2.1, h₂.2.2⟩)
end
end L2

set_option Elab.async false
set_option linter.all false
set_option maxRecDepth 100000
set_option maxHeartbeats 4000000
namespace L2
open PySem PySem.Spec PyProof.Rows
theorem Inv.re {X Y : Cx} {pins pins' : List (Addr × Obj)} {σ : St} {H : Hp} {s : Shared} (I : Inv X pins σ H s) (ok : Y.Ok) (e1 : Y.prog = X.prog) (e2 : Y.w = X.w) (e3 : Y.s₀ = X.s₀) (e4 : Y.outer = X.outer) (e5 : Y.ex = X.ex) (e6 : Y.H₀ = X.H₀) (e7 : Y.env = X.env) (e8 : Y.N = X.N)
    (hp : ∀ p ∈ Y.pn ++ pins', p ∈ X.pn ++ pins) : Inv Y pins' σ H s := by
  obtain ⟨P, w, K, mg, base, A, N, s₀, H₀, env, outer, stack, ex, fn, calm, pn, xe⟩ := X
  obtain ⟨P', w', K', mg', base', A', N', s₀', H₀', env', outer', stack', ex', fn', calm', pn', xe'⟩ := Y
  dsimp only at e1 e2 e3 e4 e5 e6 e7 e8
  subst e1 e2 e3 e4 e5 e6 e7 e8
  exact ⟨ok, I.os, I.bare, I.base, I.loc, I.cell, I.free, I.freeC, fun p h => I.pin p (hp p h), I.hok, I.len⟩
/-- within a try: another wish, the pins kept -/
abbrev Cx.tr (X : Cx) (xe : Value → Shared → Prop) (pn : List (Addr × Obj)) : Cx := { X with xe := xe, pn := pn }
/-- within a handler: the exception is marked, nothing is raised -/
abbrev Cx.hd (X : Cx) (e : Addr) : Cx := { X with A := X.A.mark (some (.ref e)), calm := false, xe := fun _ _ => False }
theorem Cx.Ok.tr {X : Cx} (ok : X.Ok) (xe : Value → Shared → Prop) (pn : List (Addr × Obj)) : (X.tr xe pn).Ok :=
  ⟨ok.mod, ok.kind, ok.glob, ok.blt, ok.above, ok.inj, ok.has, ok.cab, ok.hd, ok.frames, ok.stk, ok.exf, ok.bs, ok.bsz, ok.noex, ok.exfs, ok.funs, ok.frf⟩
theorem Cx.Ok.hdl {X : Cx} (ok : X.Ok) (e : Addr) : (X.hd e).Ok :=
  ⟨ok.mod, ok.kind, ok.glob, ok.blt, ok.above, ok.inj, ok.has, ok.cab, (fun h => nomatch h), ok.frames, ok.stk, ok.exf, ok.bs, ok.bsz, ok.noex, ok.exfs, ok.funs, ok.frf⟩
/-- the exception object at ea, tracked: its class and its dict -/
def ExcO (a : Addr) (cls : Value) (dx : Option Addr) : HO := .ext fun h => ∃ vs sl, h.get? a = some ⟨cls, dx, .fields vs, sl⟩
structure Fl (X : Cx) (pins : List (Addr × Obj)) (σ : St) (H : Hp) (s' : Shared) (ea : Addr) (cls : Value) (dx : Option Addr) : Prop where
  ex : ∃ (s₀ : Shared) (H₀ : Hp) (B : Heap), Inv X pins σ H₀ s₀ ∧ s'.os = s₀.os ∧ AllBare s'.gens ∧ Un (frs X.stack) [] H₀ H s₀.heap s'.heap ∧ HOk X.prog X.w H s'.heap ∧ Sea B X.stack ea s'.heap ∧ XTr s'.heap B ea cls dx .none ∧ Old (frs X.stack) H₀ s₀.heap B ∧ Tra H s'.heap B
section
variable {X : Cx} {pins : List (Addr × Obj)} {σ : St} {H : Hp} {s : Shared} {ea : Addr} {cls : Value} {dx : Option Addr}
theorem Fl.inv (F : Fl X pins σ H s ea cls dx) : Inv X pins σ H s := by
  obtain ⟨s₀, H₀, B, I, os, bare, un, hok, _⟩ := F.ex
  exact I.call' (ch := []) os un hok bare (fun b z => nomatch z)
theorem Fl.obj (F : Fl X pins σ H s ea cls dx) : ∃ vs sl, s.heap.get? ea = some ⟨cls, dx, .fields vs, sl⟩ := by
  obtain ⟨s₀, H₀, B, I, os, bare, un, hok, sea, ⟨T, ⟨vs, sl, e, _⟩, _⟩, _⟩ := F.ex
  exact ⟨vs, sl, e⟩
/-- it was not there at the call -/
theorem Fl.free (F : Fl X pins σ H s ea cls dx) : H ea = none := by
  obtain ⟨s₀, H₀, B, I, os, bare, un, hok, sea, _, _, tra⟩ := F.ex
  cases z : H ea with
  | none => rfl
  | some o =>
    obtain ⟨u, _, q⟩ := tra ea o z
    rw [sea.new] at q; cases q
/-- the exception's flight is ended, and it is tracked from here on -/
theorem Fl.land {Q : Unit → Shared → Prop} {A : Around} {E : Value → Shared → Prop} (F : Fl X pins σ H s ea cls dx) (k : ∀ s', Inv X pins σ (upd H ea (ExcO ea cls dx)) s' → Q () s') : wpAny (model X.prog X.w) A (setFlight (.ref ea) none) Q E s := by
  have hn := F.free
  obtain ⟨s₀, H₀, B, I, os, bare, un, hok, sea, tr, old, tra⟩ := F.ex
  refine flight_off sea tr fun h2 S2 O2 u2 => k _ ?_
  have un2 := un_flown un old S2.stays u2 (frames_are I un)
  have hok2 := hok_flown hok tra S2.stays
  obtain ⟨T, ⟨vs, sl, e, _⟩, _⟩ := O2
  have nf : ea ∉ frs X.stack := fun z => by
    obtain ⟨_, o, ho, hn⟩ := S2.frames.mem z
    rw [e] at ho
    cases ho
    exact hn vs rfl
  have new0 : s₀.heap.get? ea = none := by
    cases z : s₀.heap.get? ea with
    | none => rfl
    | some u =>
      obtain ⟨u', q, _⟩ := old ea u z nf
      rw [S2.new] at q; cases q
  have ne : ∀ b u, s₀.heap.get? b = some u → b ≠ ea := fun b u q z => by rw [z, new0] at q; cases q
  refine I.call' (ch := []) (s' := { s with heap := h2 }) os ?_ ?_ bare (fun b z => nomatch z)
  · exact ⟨un2.keep, un2.slot, fun b o q n hx => by rw [upd_ne (ne b o q)]; exact un2.free b o q n hx, un2.there, fun b xs q => by rw [upd_ne (ne_of_none (un2.tups b xs q) hn)]; exact un2.tups b xs q,
      fun b o u q => by rw [upd_ne (ne_of_none (un2.frzs b o u q) hn)]; exact un2.frzs b o u q, fun b ps q => by
        obtain ⟨more, z⟩ := un2.tbls b ps q
        exact ⟨more, by rw [upd_ne (ne_of_none z hn)]; exact z⟩⟩
  · intro a o q
    by_cases ha : a = ea
    · subst ha
      rw [upd_same] at q
      cases q
      refine ⟨⟨vs, sl, e⟩, ⟨_, e⟩, ?_⟩
      rintro h1 h3 ⟨vs', sl', q⟩ kk
      exact ⟨vs', sl', kk _ q⟩
    · rw [upd_ne ha] at q
      refine (hok2 a o q).stay (fun b u _ z => z) (fun b z => ?_) fun b xs z => ?_
      · rw [upd_ne (ne_of_none z hn)]; exact z
      · rw [upd_ne (ne_of_none z hn)]; exact z
structure HCls (K : PySem.W.Frag) (mg : Str → Option Value) (x : Str) (C : Addr) : Prop where
  bound : mg x = some (.ref C)
  ty : PySem.W.typeIn K (.ref C) = some (.type "type")
  cls : (PySem.W.clsIn K C).isSome = true
  base : PySem.W.mroIn K C (.type "BaseException") = some true
theorem exc_match {K : PySem.W.Frag} {mg : Str → Option Value} {x : Str} {M : Model} {A : Around} {E : Value → Shared → Prop} {s : Shared} {e C C' : Addr} {dx : Option Addr} {vs : Array Value} {sl : Array (Option Value)} {b : Bool} {Q : Bool → Shared → Prop} (KX : K.In s.heap) (O : HCls K mg x C)
    (he : s.heap.get? e = some ⟨.ref C', dx, .fields vs, sl⟩) (hm : PySem.W.mroIn K C' (.ref C) = some b) (q : Q b s) : wpAny M A (excMatches (.ref e) (.ref C)) Q E s := by
  have L1 : PySem.W.Looks M s.heap (isInstance (.ref C) (.type "tuple")) false := (PySem.W.looks_typeIn KX O.ty).andThen (.of_pure tc_notTuple)
  have L2 : PySem.W.Looks M s.heap (isType (.ref C)) true := by
    have hc := O.cls
    unfold PySem.W.clsIn at hc
    split at hc
    · rename_i c' d' cd' sl' ho
      intro A' Q' E' s' k q
      unfold isType loadHead
      exact wpAny_bind (wpAny_loadPart (k _ _ (KX _ _ ho)) (wpAny_pure q))
    · cases hc
  have L3 := PySem.W.looks_mroIn (M := M) KX O.base
  have L4 : PySem.W.Looks M s.heap (typeOf (.ref e)) (.ref C') := (PySem.W.Looks.ld he).andThen .now
  have L5 := PySem.W.looks_mroIn (M := M) KX hm
  unfold excMatches
  refine wpAny_bind (L1.here ?_)
  simp only [Bool.false_eq_true, if_false]
  refine wpAny_bind (wpAny_pure ?_)
  refine wpAny_bind ?_
  rw [List.forIn_cons]
  refine wpAny_bind (wpAny_bind ?_)
  unfold isExcClass
  refine wpAny_bind (L2.here ?_)
  rw [if_pos rfl]
  refine L3.here ?_
  simp only [Bool.not_true, Bool.false_eq_true, if_false]
  refine wpAny_pure ?_
  dsimp only
  rw [List.forIn_nil]
  refine wpAny_pure (wpAny_bind (L4.here (wpAny_bind ?_)))
  rw [List.forIn_cons]
  refine wpAny_bind (wpAny_bind (L5.here ?_))
  cases b with
  | true =>
    rw [if_pos rfl]
    exact wpAny_pure (wpAny_pure (wpAny_pure q))
  | false =>
    rw [if_neg Bool.false_ne_true]
    refine wpAny_pure ?_
    dsimp only
    rw [List.forIn_nil]
    exact wpAny_pure (wpAny_pure q)
end
end L2

set_option Elab.async false
set_option linter.all false
set_option maxRecDepth 100000
set_option maxHeartbeats 4000000
namespace L2
open PySem PySem.Spec PyProof.Rows
theorem SP.re {X Y : Cx} {pins pins' : List (Addr × Obj)} {D : Ends} {f : Flow} {s : Shared} (h : SP X pins D f s) (k : ∀ σ H, Inv X pins σ H s → Inv Y pins' σ H s) : SP Y pins' D f s := by
  cases f with
  | next => obtain ⟨σ, H, I, q⟩ := h; exact ⟨σ, H, k _ _ I, q⟩
  | brk => obtain ⟨σ, H, I, q⟩ := h; exact ⟨σ, H, k _ _ I, q⟩
  | cont => obtain ⟨σ, H, I, q⟩ := h; exact ⟨σ, H, k _ _ I, q⟩
  | ret u => obtain ⟨v, σ, H, I, r, q⟩ := h; exact ⟨v, σ, H, k _ _ I, r, q⟩
section
variable {X : Cx} {pins : List (Addr × Obj)} {σ : St} {H : Hp} {s : Shared}
theorem Inv.toHd (I : Inv X pins σ H s) (e : Addr) : Inv (X.hd e) pins σ H s := I.re (I.ok.hdl e) rfl rfl rfl rfl rfl rfl rfl rfl fun _ h => h
theorem Inv.ofHd {e : Addr} (o : X.Ok) (I : Inv (X.hd e) pins σ H s) : Inv X pins σ H s := I.re o rfl rfl rfl rfl rfl rfl rfl rfl fun _ h => h
theorem Inv.toTr (I : Inv X pins σ H s) (xe : Value → Shared → Prop) : Inv (X.tr xe (X.pn ++ pins)) [] σ H s := I.re (I.ok.tr _ _) rfl rfl rfl rfl rfl rfl rfl rfl fun p h => by simpa using h
theorem Inv.ofTr {pins' : List (Addr × Obj)} {xe : Value → Shared → Prop} (o : X.Ok) (I : Inv (X.tr xe (X.pn ++ pins)) pins' σ H s) : Inv X pins σ H s :=
  I.re o rfl rfl rfl rfl rfl rfl rfl rfl fun p h => List.mem_append_left _ h
/-- a name goes -/
theorem unbind_ok {M : Model} {A : Around} {E : Value → Shared → Prop} {i : Nat} {n : Str} {pos : Pos} {Q : Unit → Shared → Prop} (I : Inv X pins σ H s) (hN : X.N.Nodup) (hi : X.N[i]? = some n) (hk : X.env.scope.names.lookup n = some .local)
    (h : ∀ s', Inv X pins (σ.set i none) H s' → Q () s') : wpAny M A (do bindName X.env n .none; unbindBehindTheSuite X.env n pos) Q E s := by
  obtain ⟨m, hn, hl⟩ := id I.loc
  have hcls : (X.env.scope.kind == .class || (X.env.scope.kind == .module && X.env.locals != X.env.globals)) = false := by rw [I.ok.kind]; rfl
  have hiσ : i < σ.length := by rw [I.len]; exact (List.getElem?_eq_some_iff.mp hi).1
  have cne := I.cne
  refine wpAny_nameGoes_keeps hk hn hcls fun h' v hn' hs => h _ ?_
  obtain ⟨oL, _, _, hoL, _⟩ := id hn
  have nl : ∀ b o, X.s₀.heap.get? b = some o → h'.get? b = s.heap.get? b := fun b o e => hs.2 b (Nat.ne_of_lt (Nat.lt_of_lt_of_le (Heap.lt_size e) I.ok.above))
  refine ⟨I.ok, I.os, I.bare, ⟨fun b o e z hb hx => (nl b o e).trans (I.base.keep b o e z hb hx), fun b o e z hb hx => ?_, I.base.free, fun b o e hx => ?_, I.base.tups, I.base.frzs, I.base.tbls⟩, ⟨_, hn', fun j y v' e1 e2 e3 => ?_⟩, fun y c e => ?_, I.free, I.freeC, fun p hp => ?_, fun b ob e => ?_, by simpa using I.len⟩
  · obtain ⟨sl, e1⟩ := I.base.slot b o e z hb hx
    exact ⟨sl, (nl b o e).trans e1⟩
  · obtain ⟨o', e1⟩ := I.base.there b o e hx
    exact ⟨o', (nl b o e).trans e1⟩
  · by_cases hj : j = i
    · subst hj
      rw [List.getElem?_set_self hiσ] at e2
      cases e2
    · rw [List.getElem?_set_ne (Ne.symm hj)] at e2
      obtain ⟨u', r', q⟩ := hl j y v' e1 e2 e3
      refine ⟨u', r', ?_⟩
      rcases q with ⟨k, e⟩ | ⟨k, c, e, z⟩
      · refine .inl ⟨k, ?_⟩
        have hy : y ≠ n := fun z => hj (nodup_ix hN e1 (z ▸ hi))
        simp [hy, e]
      · exact .inr ⟨k, c, e, z.sameBut hs (cne y c e)⟩
  · obtain ⟨w', z⟩ := I.cell y c e
    exact ⟨w', z.sameBut hs (cne y c e)⟩
  · obtain ⟨e, z, ne, nf, d⟩ := I.pin p hp
    exact ⟨(hs.2 p.1 ne).trans e, z, ne, nf, d⟩
  · refine (I.hok b ob e).stay (fun c w' hc q => (hs.2 c ?_).trans q) (fun _ q => q) fun _ _ q => q
    rintro rfl
    rcases hc with rfl | hc
    · rw [I.free] at e; cases e
    · rw [I.free] at hc; cases hc
end
abbrev TH := Value → Option Addr → Addr → Ends → St → Hp → Prop
def PHs (X : Cx) (hs : List ExceptHandler) (t : TH) : Prop := ∀ (pins : List (Addr × Obj)) (s : Shared) (σ : St) (H : Hp) (D : Ends) (ea : Addr) (cls : Value) (dx : Option Addr), Fl X pins σ H s ea cls dx → t cls dx ea D σ H →
  wpAny (model X.prog X.w) X.A (handleBy (.ref ea) X.env hs) (SP X pins D) X.xe s
def tNoHand : TH := fun _ _ _ _ _ _ => False
/-- except C as n: n stands in slot i, and goes behind the suite -/
def gone (i : Nat) (D : Ends) : Ends := { nx := fun σ H => D.nx (σ.set i none) H, rt := D.rt, bk := fun σ H => D.bk (σ.set i none) H, ct := fun σ H => D.ct (σ.set i none) H }
def tHandAs (K : PySem.W.Frag) (C : Addr) (i : Nat) (ts : Addr → TS) (tr : TH) : TH := fun cls dx ea D σ H => ∃ C' b, cls = .ref C' ∧ PySem.W.mroIn K C' (.ref C) = some b ∧ if b = true then ts ea (gone i D) (σ.set i (some (.ref ea))) (upd H ea (ExcO ea cls dx)) else tr cls dx ea D σ H
section
variable {X : Cx}
theorem phs_nil : PHs X [] tNoHand := fun _ _ _ _ _ _ _ _ _ h => h.elim
theorem phs_consA {x n : Str} {C : Addr} {i : Nat} {b₀ : Stmt} {suite : List Stmt} {np pos : Pos} {rest : List ExceptHandler} {ts : Addr → TS} {tr : TH} (O : HCls X.K X.mg x C) (hg : Gl X x) (hN : X.N.Nodup) (hi : X.N[i]? = some n) (hk : X.env.scope.names.lookup n = some .local)
    (hs : ∀ ea, PSs (X.hd ea) (b₀ :: suite) (ts ea)) (hr : PHs X rest tr) (hdb : (x == ("__debug__" : Str)) = false := by decide) : PHs X (.ExceptHandler (some (.Name x np)) (some n) (b₀ :: suite) pos :: rest) (tHandAs X.K C i ts tr) := by
  intro pins s σ H D ea cls dx F h
  obtain ⟨C', b, rfl, hm, q⟩ := h
  obtain ⟨vs, sl, he⟩ := F.obj
  have I := F.inv
  refine wpAny_handleBy_cons (codeAny_handlers_test ?_) (by intro z; cases z)
  refine ld_glob (X := X.hd ea) (I.toHd ea) hg O.bound ?_ hdb
  refine exc_match I.kIn O he hm ?_
  cases b with
  | true =>
    rw [if_pos rfl] at q
    refine codeAny_handlers_suite_as (F.land fun s' I' => ?_)
    refine store_ok (v := .ref ea) I' hN hi (.inl hk) rfl (fun s3 I3 => ?_) (.inr hk)
    refine wpAny_mono (hs ea pins s3 _ _ (gone i D) (I3.toHd ea) q) (fun f s4 z => ?_) (fun _ _ z => z.elim)
    cases f with
    | next => obtain ⟨σ4, H4, I4, z⟩ := z; exact unbind_ok (I4.ofHd I.ok) hN hi hk fun s5 I5 => ⟨_, _, I5, z⟩
    | brk => obtain ⟨σ4, H4, I4, z⟩ := z; exact unbind_ok (I4.ofHd I.ok) hN hi hk fun s5 I5 => ⟨_, _, I5, z⟩
    | cont => obtain ⟨σ4, H4, I4, z⟩ := z; exact unbind_ok (I4.ofHd I.ok) hN hi hk fun s5 I5 => ⟨_, _, I5, z⟩
    | ret u => obtain ⟨v, σ4, H4, I4, r, z⟩ := z; exact unbind_ok (I4.ofHd I.ok) hN hi hk fun s5 I5 => ⟨v, _, _, I5, r, z⟩
  | false =>
    rw [if_neg Bool.false_ne_true] at q
    exact hr pins s σ H D ea _ dx F q
abbrev XE := Value → Option Addr → St → Hp → Prop
def tTry (tb : XE → TS) (th : TH) : TS := fun D σ H => tb (fun c d σ' H' => ∀ ea, H' ea = none → th c d ea D σ' H') D σ H
theorem ps_try {body : List Stmt} {h₀ : ExceptHandler} {hs : List ExceptHandler} {pos : Pos} {tb : XE → TS} {th : TH} (hst : X.stack = X.env :: X.outer) (hf : X.env.frame = some X.env.locals)
    (hb : ∀ xe pn EE, Thr (X.tr xe pn) EE → PSs (X.tr xe pn) body (tb EE)) (hh : PHs X (h₀ :: hs) th) : PS X (.Try body (h₀ :: hs) [] [] pos) (tTry tb th) := by
  intro pins s σ H D I h
  refine wpAny_Try_except ?_
  have fr : X.A.frames = some (X.env :: X.outer) := by rw [← hst]; exact I.ok.frames
  generalize hxe : (fun (e : Value) (s1 : Shared) => wpAny (model X.prog X.w) X.A (noteFrame e X.env) (fun _ s2 => wpAny (model X.prog X.w) X.A (setFlight e none) (fun _ s3 => wpAny (model X.prog X.w) X.A (handleBy e X.env (h₀ :: hs)) (SP X pins D) X.xe s3) X.xe s2) X.xe s1) = xe
  have fin : ∀ (pins' : List (Addr × Obj)) (σ' : St) (H2 H' : Hp) (s2 s' : Shared) (ea : Addr) (cls : Value) (dx : Option Addr) (B h4 : Heap), Inv (X.tr xe (X.pn ++ pins)) pins' σ' H2 s2 → s'.os = s2.os → AllBare s'.gens → Un (frs X.stack) [] H2 H' s2.heap s'.heap → HOk X.prog X.w H' s'.heap →
      Old (frs X.stack) H2 s2.heap B → Tra H' s'.heap B → Sea B X.stack ea h4 → XTr h4 B ea cls dx .none → s'.heap.UpToSlots h4 → (∀ ea, H' ea = none → th cls dx ea D σ' H') →
      wpAny (model X.prog X.w) X.A (handleBy (.ref ea) X.env (h₀ :: hs)) (SP X pins D) X.xe { s' with heap := h4 } := by
    intro pins' σ' H2 H' s2 s' ea cls dx B h4 I2 os bare un hok old tra S4 O4 u4 q
    have I3 := I2.ofTr I.ok
    refine hh pins _ σ' H' D ea cls dx ⟨s2, H2, B, I3, os, bare, un_flown un old S4.stays u4 (frames_are I3 un), hok_flown hok tra S4.stays, S4, O4, old, tra.later S4.stays⟩ (q ea ?_)
    cases z : H' ea with
    | none => rfl
    | some o =>
      obtain ⟨u, _, e⟩ := tra ea o z
      rw [S4.new] at e; cases e
  have T : Thr (X.tr xe (X.pn ++ pins)) (fun c d σ' H' => ∀ ea, H' ea = none → th c d ea D σ' H') := by
    constructor
    · rintro pins' σ' H2 s2 e s' I2 ⟨ea, cls, dx, B, H', rfl, os, bare, un, hok, sea, tr, old, tra, q⟩
      show xe (.ref ea) s'
      rw [← hxe]
      have sea' : Sea B (X.env :: X.outer) ea s'.heap := by rw [← hst]; exact sea
      refine note_on fr hf sea' tr fun h3 S3 O3 u3 => flight_off (s := { s' with heap := h3 }) S3 O3 fun h4 S4 O4 u4 => ?_
      exact fin pins' σ' H2 H' s2 s' ea cls dx B h4 I2 os bare un hok old tra (by rw [hst]; exact S4) O4 (u3.trans u4) q
    · rintro pins' σ' H2 s2 e s' I2 ⟨ea, cls, dx, B, H', rfl, os, bare, un, hok, sea, tr, old, tra, q⟩
      show xe (.ref ea) s'
      rw [← hxe]
      have sea' : Sea B (X.env :: X.outer) ea s'.heap := by rw [← hst]; exact sea
      refine note_new fr hf sea' tr fun h3 S3 O3 u3 => flight_off (s := { s' with heap := h3 }) S3 O3 fun h4 S4 O4 u4 => ?_
      exact fin pins' σ' H2 H' s2 s' ea cls dx B h4 I2 os bare un hok old tra (by rw [hst]; exact S4) O4 (u3.trans u4) q
  refine wpAny_mono (hb xe _ _ T [] s σ H D (I.toTr xe) h) (fun f s1 z => ?_) (fun e s1 z => ?_)
  · have z' : SP X pins D f s1 := z.re fun _ _ J => J.ofTr I.ok
    cases f with
    | next => exact wpAny_execs_nil z'
    | brk => exact z'
    | cont => exact z'
    | ret u => exact z'
  · exact z
end
end L2

set_option Elab.async false
set_option linter.all false
set_option maxRecDepth 100000
set_option maxHeartbeats 4000000
namespace L2
open PySem PySem.Spec PyProof.Rows
section
variable {prog : Program} {w : World} {A : Around} {E : Value → Shared → Prop} {s : Shared} {K : PySem.W.Frag} {x D : Addr} {ox : Obj} {odo : Option Obj} {name : Str}
/-- what the class of an exception must have of the text -/
structure XGet (K : PySem.W.Frag) (D : Addr) : Prop where
  ga : PySem.W.findIn K (.ref D) "__getattribute__" = some (some (.builtin "BaseException.__getattribute__"))
  gk : PySem.W.findIn K (.ref D) "__getattr__" = some none
  be : PySem.W.mroIn K D (.type "BaseException") = some true
  ob : PySem.W.mroIn K D (.type "object") = some true
  ca : PySem.W.findIn K (.ref D) "__class__" = some (some (.builtin "object.__class__"))
  cl : (PySem.W.clsIn K D).isSome = true
  sp : PySem.W.specialIn K (.builtin "object.__class__") "__get__" = some (some (.builtin "getset_descriptor.__get__"))
  tk : PySem.W.takesIn K (.builtin "object.__class__") = some true
theorem xget_check {M : Model} {nv : Value} {Q : Unit → Shared → Prop} (KX : K.In s.heap) (I : PySem.W.InstAt s.heap x ox D odo) (G : XGet K D) (q : Q () s) : wpAny M A (checkBuiltinCall "BaseException.__getattribute__" ⟨[.ref x, nv], []⟩) Q E s := by
  have hk : builtinKind "BaseException.__getattribute__" = some .slot := by decide +kernel
  have hs : splitId "BaseException.__getattribute__" = some ("BaseException", "__getattribute__") := by decide +kernel
  have ha := F.args_bexc_ga (.ref x) nv
  obtain ⟨hh, g, d, t, os⟩ := s
  have L0 := I.type (M := M)
  have L1 := PySem.W.looks_mroIn (M := M) KX G.be
  simp only [checkBuiltinCall, hk, hs]
  repeat lk
  exact q
theorem xget_entryB {nv : Tok} {gv a : Value} {Q : Fin → Shared → Prop} (KX : K.In s.heap) (I : PySem.W.InstAt s.heap x ox D odo) (hf : PySem.W.findObj K D odo name = some (.bind gv a))
    (q : wpAny (model prog w) A (Builtin.ObjectAttr.bindTo gv a (.ref x) (.ref D)) Q E s) :
    wpAny (model prog w) A (Builtin.«object.__getattribute__» ⟨[.ref x, .str name nv], []⟩) Q E s := by
  obtain ⟨hh, g, d, t, os⟩ := s
  have L0 := I.type (M := model prog w)
  have L1 := PySem.W.looks_find (M := model prog w) KX I hf
  refine wpAny_bind (wpAny_pure (wpAny_bind (wpAny_pure (wpAny_bind (L0.at (wpAny_bind (L1.at ?_)))))))
  exact q
theorem xget_by {nv : Tok} {fill expr : Bool} {Q : Value → Shared → Prop} (KX : K.In s.heap) (I : PySem.W.InstAt s.heap x ox D odo) (G : XGet K D)
    (h : wpAny (model prog w) A.in1 (Builtin.«object.__getattribute__» ⟨[.ref x, .str name nv], []⟩) (fun fin s' => match fin with | .done (.ret v) => wpAny (model prog w) A (handedOut v) Q E s' | _ => False) (fun _ _ => False) s) :
    wpAny (model prog w) A (getAttrBy (.ref x) (.str name nv) fill expr) Q E s := by
  obtain ⟨hh, g, d, t, os⟩ := s
  have L0 := I.type (M := model prog w)
  have L1 := PySem.W.looks_findIn (M := model prog w) KX G.ga
  have L2 := PySem.W.looks_findIn (M := model prog w) KX G.gk
  have FX := F.excAttr_ValueError
  unfold getAttrBy
  refine wpAny_holding (wpAny_bind (L0.at (wpAny_bind (L1.at ?_))))
  have e0 : (Value.builtin "BaseException.__getattribute__" == Value.builtin "object.__getattribute__") = false := by decide +kernel
  have e1 : (onTheHeap (Value.ref D) && Value.builtin "BaseException.__getattribute__" == Value.builtin "object.__getattribute__") = false := by rw [e0]; rfl
  dsimp only
  rw [e1, if_neg Bool.false_ne_true]
  unfold getAttrByItsOwn hookBefore
  refine wpAny_bind ?_
  rw [if_pos (show onTheHeap (Value.ref D) = true from rfl)]
  refine L2.at ?_
  refine wpAny_bind (wpAny_attempt (wpAny_holding ?_))
  unfold callGetattribute
  rw [if_neg (by cases expr <;> decide)]
  unfold boundAndCalled
  rw [FX.ga.bind (.ref x)]
  refine wpAny_bind (wpAny_pure ?_)
  refine wpAny_call (codeAny_call_builtin FX.ga.plain F.entry_bexc_ga (xget_check KX I G ?_))
  refine wpAny_mono h (fun fin s' z => ?_) (fun _ _ z => z.elim)
  rcases fin with (_ | _ | _ | _) | _ <;> first | exact z | exact z.elim
theorem xget_class {Q : Option Value → Shared → Prop} (KX : K.In s.heap) (I : PySem.W.InstAt s.heap x ox D odo) (G : XGet K D) (hf : PySem.W.findObj K D odo "__class__" = some (.bind (.builtin "getset_descriptor.__get__") (.builtin "object.__class__")))
    (q : Q (some (.ref D)) { s with toks := s.toks + 1 }) : wpAny (model prog w) A (getAttr? (.ref x) "__class__") Q E s := by
  unfold getAttr? getAttrBy?
  refine wpAny_bind (wpAny_mkText (wpAny_bind (wpAny_attempt (xget_by (s := { s with toks := s.toks + 1 }) KX I G (xget_entryB (s := { s with toks := s.toks + 1 }) KX I hf ?_)))))
  show wpAny _ _ (holding [_] (call (.builtin "getset_descriptor.__get__") [.builtin "object.__class__", .ref x, .ref D]) >>= ret) _ _ _
  refine wpAny_bind (wpAny_holding (wpAny_call (PySem.W.class_get (s := { s with toks := s.toks + 1 }) KX I G.ob ?_)))
  refine wpAny_pure ?_
  show wpAny _ _ (handedOut _) _ _ _
  rw [PySem.W.handedOut_of rfl]
  exact wpAny_pure (wpAny_pure q)
theorem find_dataX {a g : Value} (hc : (PySem.W.clsIn K D).isSome = true) (ha : PySem.W.findIn K (.ref D) name = some (some a)) (hg : PySem.W.specialIn K a "__get__" = some (some g)) (ht : PySem.W.takesIn K a = some true) : PySem.W.findObj K D odo name = some (.bind g a) := by
  obtain ⟨cd, hcd⟩ := Option.isSome_iff_exists.mp hc
  unfold PySem.W.findObj
  rw [hcd, Option.bind_some, ha, Option.bind_some]; simp [hg, ht]
theorem kitx_exc (G : XGet K D) : PySem.W.KitX K (.ref x) (.ref D) (fun h => ∃ ox odo, PySem.W.InstAt h x ox D odo) where
  ty := fun _ _ _ ⟨ox, odo, I⟩ => I.type
  it := fun M h KX _ => by
    have hc := G.cl
    unfold PySem.W.clsIn at hc
    split at hc
    · rename_i c' d' cd' sl' ho
      intro A' Q' E' s' k q
      unfold isType loadHead
      exact wpAny_bind (wpAny_loadPart (k _ _ (KX _ _ ho)) (wpAny_pure q))
    · cases hc
  ne := fun h tp dd its n sl KX htp => by
    have hc := G.cl
    refine Bool.eq_false_iff.mpr fun q => ?_
    have e : D = tp := Value.ref.inj (beq_iff_eq.mp q)
    subst e
    unfold PySem.W.clsIn at hc
    split at hc
    · rename_i c' d' cd' sl' ho
      have z := (KX _ _ ho).symm.trans htp
      cases z
    · cases hc
  ca := fun {prog w A E Q s} KX ⟨ox, odo, I⟩ k => xget_class KX I G (find_dataX G.cl G.ca G.sp G.tk) k
end
/-- a class as a value -/
def clsV : V → Option Value
  | .ref c => some (.ref c)
  | .ty n => some (.type n)
  | _ => none
/-- the exception's dict, where it has one -/
def XDict (H : Hp) : Option Addr → Prop
  | none => True
  | some d => ∃ fs, H d = some (.xd fs)
def rIsiX (K : PySem.W.Frag) : List V → Hp → VK → Prop := fun xs H Q => ∃ a cv C c b dx, xs = [.ref a, cv] ∧ H a = some (ExcO a (.ref C) dx) ∧ XDict H dx ∧ XGet K C ∧ clsV cv = some c ∧ PySem.W.kitOne K (.ref C) c = some b ∧ Q (.bl b) H
section
variable {X : Cx}
theorem call_isiX : CallR X (.builtin "isinstance") (rIsiX X.K) := by
  intro pins s σ H xs us Q I r h
  obtain ⟨a, cv, C, c, b, dx, rfl, hH, hd, G, hc, e, q⟩ := h
  obtain ⟨u, w', rfl, r1, r2⟩ := vals2 r
  cases (show u = Value.ref a from r1)
  have hw : w' = c := by
    cases cv with
    | ref c' => cases hc; exact r2
    | ty n => cases hc; exact r2
    | _ => cases hc
  subst hw
  obtain ⟨⟨vs, sl, ho⟩, _⟩ := (show ObjOk X.prog X.w H s.heap a (ExcO a (.ref C) dx) from I.hok a _ hH)
  have J : ∃ ox odo, PySem.W.InstAt s.heap a ox C odo := by
    cases dx with
    | none => exact ⟨_, none, ho, rfl, rfl, trivial⟩
    | some d =>
      obtain ⟨fs, hd⟩ := hd
      obtain ⟨od, hod⟩ := (I.hok d _ hd).obj
      exact ⟨_, some od, ho, rfl, rfl, hod⟩
  exact PySem.W.kia_one (kitx_exc G) I.kIn J e (fun z => nomatch z) fun tk => ⟨.bl b, H, I.tok tk, rfl, q⟩
theorem rd_isiX {K : PySem.W.Frag} {a C : Addr} {cv : V} {c : Value} {b : Bool} {dx : Option Addr} {H : Hp} {Q : VK} (hH : H a = some (ExcO a (.ref C) dx)) (hd : XDict H dx) (G : XGet K C) (hc : clsV cv = some c) (e : PySem.W.kitOne K (.ref C) c = some b) (q : Q (.bl b) H) : rIsiX K [.ref a, cv] H Q :=
  ⟨a, cv, C, c, b, dx, rfl, hH, hd, G, hc, e, q⟩
end
end L2

set_option Elab.async false
set_option linter.all false
set_option maxRecDepth 100000
set_option maxHeartbeats 4000000
namespace L2
open PySem PySem.Spec PyProof.Rows
structure RoomN (k : Nat) (A : Around) : Prop where
  dp : A.depth + 3 * k + 5 < recursionLimit
  un : A.units + 16 * k + 200 < cLine
  gd : A.guards = some []
theorem RoomN.mono {j k : Nat} {A : Around} (r : RoomN k A) (h : j ≤ k) : RoomN j A := ⟨by have := r.dp; omega, by have := r.un; omega, r.gd⟩
theorem RoomN.deeper {k : Nat} {A : Around} (r : RoomN (k + 1) A) (env : Env) : RoomN k (A.deeper env) :=
  ⟨by have := r.dp; show A.depth + 1 + 3 * k + 5 < _; omega, by have := r.un; show A.units + 3 + 16 * k + 200 < _; omega, r.gd⟩
theorem Room.marked {k : Nat} {A : Around} (r : Room k A) (e : Option Value) : RoomN k (A.mark e) := ⟨r.dp, r.un, r.gd⟩
theorem Room.toN {k : Nat} {A : Around} (r : Room k A) : RoomN k A := ⟨r.dp, r.un, r.gd⟩
theorem RoomN.depth {k : Nat} {A : Around} (r : RoomN k A) : A.depth < recursionLimit := by have := r.dp; omega
theorem RoomN.units0 {k : Nat} {A : Around} (r : RoomN k A) : A.units < cLine := by have := r.un; omega
section
variable {P : Program} {w : World} {K : PySem.W.Frag} {mg : Str → Option Value} {base : Heap}
end
section
variable {X : Cx}
end
theorem has_cls {K : PySem.W.Frag} {C : Addr} (h : PySem.W.hasDictIn K C = true) : (PySem.W.clsIn K C).isSome = true := by
  obtain ⟨cd, e, _⟩ := PySem.W.any_some h
  rw [e]; rfl
theorem rel_ref (a : Addr) : RelV (.ref a) (.ref a) := rfl
theorem rd_callE {sp : Sp} {EE : XE} {t : TA} {σ : St} {H : Hp} {Q : VK} (h : t σ H fun vs H1 => sp (vs ++ []) H1 Q (fun c d H' => EE c d σ H')) : tCallE sp EE t σ H Q := h
theorem rd_raise {C : Addr} {EE : XE} {ta : TA} {D : Ends} {σ : St} {H : Hp} (h : ta σ H fun vs H1 => vs.length ≤ sizeLine ∧ EE (.ref C) none σ H1) : tRaise C EE ta D σ H := h
theorem rd_try {tb : XE → TS} {th : TH} {D : Ends} {σ : St} {H : Hp} (h : tb (fun c d σ' H' => ∀ ea, H' ea = none → th c d ea D σ' H') D σ H) : tTry tb th D σ H := h
theorem rd_handA {K : PySem.W.Frag} {C C' : Addr} {i : Nat} {ts : Addr → TS} {tr : TH} {dx : Option Addr} {ea : Addr} {D : Ends} {σ : St} {H : Hp} (hm : PySem.W.mroIn K C' (.ref C) = some true) (h : ts ea (gone i D) (σ.set i (some (.ref ea))) (upd H ea (ExcO ea (.ref C') dx))) : tHandAs K C i ts tr (.ref C') dx ea D σ H :=
  ⟨C', true, rfl, hm, by rw [if_pos rfl]; exact h⟩
section
variable {X : Cx}
end
end L2

set_option Elab.async false
set_option linter.all false
set_option maxRecDepth 100000
set_option maxHeartbeats 4000000
namespace L2
open PySem PySem.Spec PyProof.Rows
section
variable {prog : Program} {w : World} {A : Around} {E : Value → Shared → Prop} {h : Heap} {g : Array GenState} {d : Drawn} {t : Nat} {os : OsState} {K : PySem.W.Frag} {f : Addr}
variable {nm q : Str} {C N : Addr} {bs bm : List Value} {hdct : Bool} {sn : List Str} {sub : List Value} {ab : Bool} {col : Option Bool} {dd : Option Addr} {k0 k1 k2 k3 k5 : Option Value}
end
end L2

set_option Elab.async false
set_option linter.all false
set_option maxRecDepth 100000
set_option maxHeartbeats 4000000
namespace L2
open PySem PySem.Spec PyProof.Rows
section
variable {prog : Program} {w : World} {A : Around} {E : Value → Shared → Prop} {h : Heap} {g : Array GenState} {d : Drawn} {t : Nat} {os : OsState} {K : PySem.W.Frag} {e : Addr}
variable {nm q : Str} {C N : Addr} {bs bm : List Value} {hdct : Bool} {sn : List Str} {sub : List Value} {ab : Bool} {col : Option Bool} {dd : Option Addr} {k0 k1 k2 k3 k5 : Option Value} {newId : String}
variable {x CF : Addr} {cd : ClassData} {name : Str} {v : Value} {vs : Array Value} {sl : Array (Option Value)}
end
end L2

set_option Elab.async false
set_option linter.all false
set_option maxRecDepth 100000
set_option maxHeartbeats 4000000
namespace L2
open PySem PySem.Spec PyProof.Rows
structure XOwn (K : PySem.W.Frag) (C CF : Addr) : Prop where
  obj : ∃ dd cd k0 k1 k2 k3 k5, K.lookup C = some ⟨.type "type", dd, .cls cd, #[k0, k1, k2, k3, some (.builtin "ValueError.__new__"), k5]⟩ ∧ cd.mro = .ref C :: .ref CF :: bmV ∧ cd.hasDel = false ∧ cd.hasDict = true
  base : PySem.W.excIn K CF bmV "ValueError.__new__" = true
  sa : PySem.W.findIn K (.ref C) "__setattr__" = some (some (.builtin "object.__setattr__"))
section
variable {K : PySem.W.Frag} {C CF : Addr} {h : Heap}
theorem XOwn.cls (O : XOwn K C CF) : ∃ cd, PySem.W.clsIn K C = some cd ∧ cd.mro = .ref C :: .ref CF :: bmV ∧ cd.hasDict = true := by
  obtain ⟨dd, cd, k0, k1, k2, k3, k5, e, m, _, hd⟩ := O.obj
  refine ⟨cd, ?_, m, hd⟩
  unfold PySem.W.clsIn
  rw [e]
theorem XOwn.tail (O : XOwn K C CF) (KX : K.In h) : OwnTail h bmV (.ref CF :: bmV) := by
  obtain ⟨tl, N, nm, qn, bs, hd, sn, sub, ab, col, dd, k0, k1, k2, k3, k5, mN, hC, hN, hni, TL⟩ := exc_cls KX O.base
  exact .own hC hN hni .base
theorem XOwn.at (O : XOwn K C CF) (KX : K.In h) : ∃ N nm qn bs hd sn sub ab col dd k0 k1 k2 k3 k5, h.get? C = some (excClassObj nm qn C N bs (.ref CF :: bmV) hd sn sub ab col dd k0 k1 k2 k3 k5 "ValueError.__new__") := by
  obtain ⟨dd, cd, k0, k1, k2, k3, k5, e, m, hdel, hd⟩ := O.obj
  obtain ⟨nm, bs, mro, ns, qn, hd, sn, sub, ab, col, del⟩ := cd
  dsimp only at m hdel
  subst m hdel
  exact ⟨_, _, _, _, _, _, _, _, _, _, _, _, _, _, _, KX _ _ e⟩
end
/-- a new exception at a, tracked: its class and its dict; it has not been raised -/
def ExcN (a : Addr) (cls : Value) (dx : Option Addr) : HO := .ext fun h => ∃ vs sl t1, h.get? a = some ⟨cls, dx, .fields vs, sl⟩ ∧ vs[0]? = some (.ref t1) ∧ vs[1]? = some .none
section
variable {X : Cx} {pins : List (Addr × Obj)} {σ : St} {H : Hp} {s : Shared} {h' : Heap}
def sXF1 (K : PySem.W.Frag) (ta tv : TE) (f : Str) : TS := fun D σ H => tv σ H fun y H1 => ta σ H1 fun x H2 => ∃ a C CF, x = .ref a ∧ H2 a = some (ExcN a (.ref C) none) ∧ XOwn K C CF ∧ PySem.W.findIn K (.ref C) f = some none ∧
  ∀ d, H2 d = none → D.nx σ (upd (upd H2 d (.xd [(f, y)])) a (ExcN a (.ref C) (some d)))
def sXF2 (K : PySem.W.Frag) (ta tv : TE) (f : Str) : TS := fun D σ H => tv σ H fun y H1 => ta σ H1 fun x H2 => ∃ a C CF d fs, x = .ref a ∧ H2 a = some (ExcN a (.ref C) (some d)) ∧ H2 d = some (.xd fs) ∧ fs.length ≤ 900 ∧ XOwn K C CF ∧ PySem.W.findIn K (.ref C) f = some none ∧
  D.nx σ (upd H2 d (.xd (putF f y fs)))
variable {o value : Expr} {f : Str} {pos pos' : Pos} {ta tv : TE}
def tXI (K : PySem.W.Frag) (t : TA) : TE := fun σ H Q => t σ H fun vs H1 => ∃ a C CF dx rest, vs = .ref a :: rest ∧ H1 a = some (ExcN a (.ref C) dx) ∧ XOwn K C CF ∧ rest.length ≤ sizeLine ∧ Q .non H1
end
section
variable {M : Model} {A : Around} {E : Value → Shared → Prop}
end
end L2

set_option Elab.async false
set_option linter.all false
set_option maxRecDepth 100000
set_option maxHeartbeats 4000000
namespace L2
open PySem PySem.Spec PyProof.Rows
section
variable {X : Cx} {EE : Value → Option Addr → St → Hp → Prop}
end
end L2

set_option Elab.async false
set_option linter.all false
set_option maxRecDepth 100000
set_option maxHeartbeats 4000000
namespace L2
open PySem PySem.Spec PyProof.Rows
def intT (i : Int) : Str := Str.ofString (toString i)
def shI (is : List Int) : Str := tupleText (is.map intT)
/-- the text that an f-string makes of a value -/
inductive FmtV (K : PySem.W.Frag) (H : Hp) : V → Str → Prop
  | int {i : Int} : i.natAbs.log2 < 1920 → FmtV K H (.int i) (intT i)
  | str {z : Str} : z.length ≤ sizeLine → FmtV K H (.str z) z
  | tup {a : Addr} {is : List Int} : SqT K H a (is.map V.int) → (∀ i ∈ is, i.natAbs.log2 < 1920) → (shI is).length ≤ sizeLine → FmtV K H (.ref a) (shI is)
theorem shownAll_ints : ∀ is : List Int, PyData.shownAll (is.map PyData.int) = is.map intT
  | [] => by simp [PyData.shownAll]
  | i :: is => by simp only [List.map_cons, PyData.shownAll, PyData.shown, shownAll_ints is]; rfl
theorem showableAll_ints : ∀ is : List Int, (∀ i ∈ is, i.natAbs.log2 < 1920) → PyData.showableAll (is.map PyData.int) = true
  | [], _ => by simp [PyData.showableAll]
  | i :: is, h => by
    simp only [List.map_cons, PyData.showableAll, PyData.showable, showableAll_ints is fun j hj => h j (List.mem_cons_of_mem _ hj), Bool.and_true, decide_eq_true_eq]
    exact h i (List.mem_cons_self ..)
theorem hasDictAll_ints : ∀ is : List Int, PyData.hasDictAll (is.map PyData.int) = false
  | [] => by simp [PyData.hasDictAll]
  | i :: is => by simp only [List.map_cons, PyData.hasDictAll, PyData.hasDict, hasDictAll_ints is, Bool.or_self]
theorem depthAll_ints : ∀ is : List Int, PyData.depthAll (is.map PyData.int) ≤ 1
  | [] => by simp [PyData.depthAll]
  | i :: is => by
    have := depthAll_ints is
    simp only [List.map_cons, PyData.depthAll, PyData.depth]
    omega
theorem readsAll_ints {h : Heap} : ∀ {is : List Int} {us : List Value}, Vals (is.map V.int) us → ReadsAll h us (is.map PyData.int) []
  | [], _, .nil => .nil
  | i :: is, _, .cons r t => by
    obtain ⟨tk, rfl⟩ := (show ∃ tk, _ = Value.int i tk from r)
    exact .cons (as := []) (bs := []) (.int i tk) (readsAll_ints t)
section
variable {X : Cx} {pins : List (Addr × Obj)} {σ : St} {H : Hp} {s : Shared}
theorem fmt_ok {k : Nat} {x : V} {u : Value} {y : Str} {Q : VK} (hr : RoomN k X.A) (I : Inv X pins σ H s) (r : RelV x u) (f : FmtV X.K H x y) (q : Q (.str y) H) : wpAny (model X.prog X.w) X.A (formatField u Str.empty) (EP X pins σ Q) X.xe s := by
  cases f with
  | int h =>
    obtain ⟨t, rfl⟩ := (show ∃ t, u = Value.int _ t from r)
    exact wpAny_formatField_int h ⟨.str (intT _), H, I.tok _, ⟨_, rfl⟩, q⟩
  | str h =>
    obtain ⟨t, rfl⟩ := (show ∃ t, u = Value.str y t from r)
    exact wpAny_formatField_str ⟨.str y, H, I, ⟨_, rfl⟩, q⟩ ⟨.str y, H, I.tok _, ⟨_, rfl⟩, q⟩ h
  | @tup a is hs hi hz =>
    cases (show u = Value.ref a from r)
    obtain ⟨its, vr, ⟨o, ho, hc, n, hd⟩, hl⟩ := I.tuple hs
    have rd : Reads s.heap (.ref a) (.tuple (is.map PyData.int)) [] := .tuple ho hc hd (readsAll_ints vr)
    have e : (PyData.tuple (is.map PyData.int)).shown = shI is := by simp only [PyData.shown, shownAll_ints]; rfl
    have hdp : (PyData.tuple (is.map PyData.int)).depth ≤ 3 := by
      have := depthAll_ints is
      simp only [PyData.depth]
      omega
    refine formatField_of_reads rd (by simp only [PyData.showable]; exact showableAll_ints is hi) (PyData.noDict_hsm (by simp only [PyData.hasDict]; exact hasDictAll_ints is)) hr.gd (by have := hr.un; omega) (fun _ _ z => z) (fun h' u tk hk => ?_) (by rw [e]; exact hz)
    rw [e]
    exact ⟨.str (shI is), H, I.kept hk, ⟨_, rfl⟩, q⟩
end
def tFmt (K : PySem.W.Frag) (tv : TE) : TE := fun σ H Q => tv σ H fun x H1 => ∃ y, FmtV K H1 x y ∧ Q (.str y) H1
abbrev TJ := Str → St → Hp → VK → Prop
def PJ (X : Cx) (es : List Expr) (t : TJ) : Prop := ∀ (pins : List (Addr × Obj)) (s : Shared) (σ : St) (H : Hp) (out : Str) (Q : VK), Inv X pins σ H s → t out σ H Q → wpAny (model X.prog X.w) X.A (joinParts out (evalEach es X.env)) (EP X pins σ Q) X.xe s
def jNil : TJ := fun out _ H Q => out.length ≤ sizeLine ∧ Q (.str out) H
def jCons (te : TE) (t : TJ) : TJ := fun out σ H Q => te σ H fun x H1 => ∃ y, x = .str y ∧ (out ++ y).length ≤ sizeLine ∧ t (out ++ y) σ H1 Q
def tJoin (t : TJ) : TE := fun σ H Q => t Str.empty σ H Q
section
variable {X : Cx} {k : Nat} {e e₂ : Expr} {es : List Expr} {te : TE} {t : TJ} {pos : Pos}
theorem pe_fmt (hr : RoomN k X.A) (h : PE X e te) : PE X (.FormattedValue e (-1) none pos) (tFmt X.K te) := by
  intro pins s σ H Q I hw
  refine FormattedValue_plain (thn (h pins s σ H _ I hw) fun u s1 ⟨x, H1, I1, r, y, f, q⟩ => ?_)
  exact fmt_ok hr I1 r f q
theorem pj_nil : PJ X [] jNil := fun pins s σ H out Q I h => joinParts_nil ⟨.str out, H, I.tok _, ⟨_, rfl⟩, h.2⟩ h.1
theorem pj_cons (h1 : PE X e te) (h2 : PJ X es t) : PJ X (e :: es) (jCons te t) := by
  intro pins s σ H out Q I h
  show wpAny _ _ (joinParts out (eval e X.env :: evalEach es X.env)) _ _ _
  refine joinParts_cons (thn (h1 pins s σ H _ I h) fun u s1 ⟨x, H1, I1, r, y, ex, hz, q⟩ => ?_)
  subst ex
  obtain ⟨tk, rfl⟩ := (show ∃ tk, u = Value.str y tk from r)
  exact ⟨hz, h2 pins s1 σ H1 (out ++ y) Q I1 q⟩
theorem pe_join (h : PJ X (e :: e₂ :: es) t) : PE X (.JoinedStr (e :: e₂ :: es) pos) (tJoin t) := fun pins s σ H Q I hw => JoinedStr_many (h pins s σ H Str.empty Q I hw)
end
def tXGet (K : PySem.W.Frag) (ta : TE) (f : Str) : TE := fun σ H Q => ta σ H fun x H1 => ∃ a C d fs v, x = .ref a ∧ H1 a = some (ExcO a (.ref C) (some d)) ∧ H1 d = some (.xd fs) ∧ XGet K C ∧ PySem.W.hasDictIn K C = true ∧ PySem.W.findIn K (.ref C) f = some none ∧ fs.lookup f = some v ∧ Q v H1
section
variable {X : Cx} {e : Expr} {f : Str} {pos : Pos} {ta : TE}
end
end L2

set_option Elab.async false
set_option linter.all false
set_option maxRecDepth 100000
set_option maxHeartbeats 4000000
namespace L2
open PySem PySem.Spec PyProof.Rows
section
variable {X : Cx} {EE : Value → Option Addr → St → Hp → Prop}
structure CalM (P : Program) (w : World) (K : PySem.W.Frag) (mg : Str → Option Value) (base : Heap) (CX : CXT) (k : Nat) (C : Addr) (m : Str) (ps : List Str) (sp : Sp) : Prop where
  ex : ∃ (f : Addr) (fd : FuncData), FnOk P w K mg base CX k f fd ps sp ∧ Binds K fd ps [] ∧ Meth K C m f
variable {C : Addr} {m x : Str} {k : Nat} {ps : List Str} {sp : Sp} {o e : Expr} {es : List Expr} {ta : TE} {t : TA} {apos pos p : Pos}
/-- o.m(..) that may raise -/
def tMethE (C : Addr) (m : Str) (sp : Sp) (EE : Value → Option Addr → St → Hp → Prop) (ta : TE) (t : TA) : TE := fun σ H Q => ta σ H fun x H1 => ∃ a dx fs, x = .ref a ∧ H1 a = some (.ins C dx fs) ∧ fs.lookup m = none ∧
  t σ H1 fun vs H2 => sp (x :: (vs ++ [])) H2 Q (fun c d H' => EE c d σ H')
def tMakeE (C : Addr) (sp : Sp) (EE : Value → Option Addr → St → Hp → Prop) (t : TA) : TE := fun σ H Q => t σ H fun vs H1 => ∀ x dx, H1 x = none → H1 dx = none → dx ≠ x →
  sp (.ref x :: (vs ++ [])) (upd (upd H1 dx (.own x)) x (.ins C dx [])) (fun v H2 => v = .non ∧ Q (.ref x) H2) (fun c d H' => EE c d σ H')
end
end L2

set_option Elab.async false
set_option linter.all false
set_option maxRecDepth 100000
set_option maxHeartbeats 4000000
namespace L2
open PySem PySem.Spec PyProof.Rows
theorem intT_len {i : Int} (h : i.natAbs.log2 < 1920) : (intT i).length ≤ 1921 := by
  have e := int_text_length_le (k := 1920) (by decide) h
  unfold intT
  rw [PySem.ofString_length]; omega
theorem fits {s : Str} {n : Nat} (h : s.length ≤ n) (hn : n ≤ 100000) : s.length ≤ sizeLine := Nat.le_trans h (Nat.le_trans hn (by decide))
theorem rd_join {t : TJ} {σ : St} {H : Hp} {Q : VK} (h : t Str.empty σ H Q) : tJoin t σ H Q := h
theorem rd_jnil {out : Str} {σ : St} {H : Hp} {Q : VK} (h : out.length ≤ sizeLine) (q : Q (.str out) H) : jNil out σ H Q := ⟨h, q⟩
/-- a written text: out is of at most n signs, the text of m -/
theorem rd_jc {x : Str} {t : TJ} {out : Str} {σ : St} {H : Hp} {Q : VK} (n : Nat) (hn : out.length ≤ n) (hz : n + x.length ≤ 100000) (h : (out ++ x).length ≤ n + x.length → t (out ++ x) σ H Q) : jCons (tC (.str x)) t out σ H Q := by
  have e : (out ++ x).length ≤ n + x.length := by rw [strLen_append]; omega
  exact ⟨x, rfl, fits e hz, h e⟩
/-- a whole number in the braces -/
theorem rd_ji {K : PySem.W.Frag} {j : Nat} {i : Int} {t : TJ} {out : Str} {σ : St} {H : Hp} {Q : VK} (n : Nat) (hn : out.length ≤ n) (hz : n + 1921 ≤ 100000) (hv : σ[j]? = some (some (.int i))) (hi : i.natAbs.log2 < 1920) (h : (out ++ intT i).length ≤ n + 1921 → t (out ++ intT i) σ H Q) :
    jCons (tFmt K (tVar j)) t out σ H Q := by
  have e : (out ++ intT i).length ≤ n + 1921 := by have := intT_len hi; rw [strLen_append]; omega
  exact ⟨.int i, hv, intT i, .int hi, intT i, rfl, fits e hz, h e⟩
/-- a text in the braces -/
theorem rd_js {K : PySem.W.Frag} {j : Nat} {z : Str} {t : TJ} {out : Str} {σ : St} {H : Hp} {Q : VK} (n m : Nat) (hn : out.length ≤ n) (hm : z.length ≤ m) (hz : n + m ≤ 100000) (hv : σ[j]? = some (some (.str z))) (h : (out ++ z).length ≤ n + m → t (out ++ z) σ H Q) :
    jCons (tFmt K (tVar j)) t out σ H Q := by
  have e : (out ++ z).length ≤ n + m := by rw [strLen_append]; omega
  exact ⟨.str z, hv, z, .str (fits hm (by omega)), z, rfl, fits e hz, h e⟩
theorem rd_xinit {K : PySem.W.Frag} {t : TA} {σ : St} {H : Hp} {Q : VK} (h : t σ H fun vs H1 => ∃ a C CF dx rest, vs = .ref a :: rest ∧ H1 a = some (ExcN a (.ref C) dx) ∧ XOwn K C CF ∧ rest.length ≤ sizeLine ∧ Q .non H1) : tXI K t σ H Q := h
theorem rd_xf1 {K : PySem.W.Frag} {ta tv : TE} {f : Str} {D : Ends} {σ : St} {H : Hp} (h : tv σ H fun y H1 => ta σ H1 fun x H2 => ∃ a C CF, x = .ref a ∧ H2 a = some (ExcN a (.ref C) none) ∧ XOwn K C CF ∧ PySem.W.findIn K (.ref C) f = some none ∧
  ∀ d, H2 d = none → D.nx σ (upd (upd H2 d (.xd [(f, y)])) a (ExcN a (.ref C) (some d)))) : sXF1 K ta tv f D σ H := h
theorem rd_xf2 {K : PySem.W.Frag} {ta tv : TE} {f : Str} {D : Ends} {σ : St} {H : Hp} (h : tv σ H fun y H1 => ta σ H1 fun x H2 => ∃ a C CF d fs, x = .ref a ∧ H2 a = some (ExcN a (.ref C) (some d)) ∧ H2 d = some (.xd fs) ∧ fs.length ≤ 900 ∧ XOwn K C CF ∧ PySem.W.findIn K (.ref C) f = some none ∧
  D.nx σ (upd H2 d (.xd (putF f y fs)))) : sXF2 K ta tv f D σ H := h
theorem rd_xget {K : PySem.W.Frag} {ta : TE} {f : Str} {σ : St} {H : Hp} {Q : VK} (h : ta σ H fun x H1 => ∃ a C d fs v, x = .ref a ∧ H1 a = some (ExcO a (.ref C) (some d)) ∧ H1 d = some (.xd fs) ∧ XGet K C ∧ PySem.W.hasDictIn K C = true ∧ PySem.W.findIn K (.ref C) f = some none ∧ fs.lookup f = some v ∧ Q v H1) : tXGet K ta f σ H Q := h
end L2

set_option Elab.async false
set_option linter.all false
set_option maxRecDepth 100000
set_option maxHeartbeats 4000000
namespace L2
open PySem PySem.Spec PyProof.Rows
section
variable {X : Cx}
def rNeT (K : PySem.W.Frag) : R2 := fun x y H Q => ∃ a b xs ys, x = .ref a ∧ y = .ref b ∧ SqT K H a xs ∧ SqT K H b ys ∧ xs.all flatV = true ∧ ys.all flatV = true ∧ Q (.bl (!eqVs xs ys)) H
theorem op_neT (hu : X.A.units < cLine) : OpR X (compareOp .NotEq) (rNeT X.K) := by
  intro pins s σ H x y v u Q I rx ry h
  obtain ⟨a, b, xs, ys, rfl, rfl, ha, hb, fx, fy, q⟩ := h
  cases rx
  cases ry
  obtain ⟨its, r, pl, _⟩ := I.tuple ha
  obtain ⟨its', r', pl', _⟩ := I.tuple hb
  obtain ⟨e, h1, h2⟩ := eqVs_range r r' fx fy
  exact SeqAt.RcNeAt.tuples (e := e) pl pl' hu (fun j k1 k2 => h1 _ _ j k1 k2) _ _ _ _ (by rw [h2]; exact ⟨.bl _, H, I, rfl, q⟩)
theorem rd_neT {K : PySem.W.Frag} {a b : Addr} {xs ys : List V} {H : Hp} {Q : VK} (ha : SqT K H a xs) (hb : SqT K H b ys) (fx : xs.all flatV = true) (fy : ys.all flatV = true) (q : Q (.bl (!eqVs xs ys)) H) : rNeT K (.ref a) (.ref b) H Q := ⟨a, b, xs, ys, rfl, rfl, ha, hb, fx, fy, q⟩
theorem rd_par {i j : Nat} {ta : TA} {D : Ends} {σ : St} {H : Hp} (h : ta σ H fun vs H1 => ∃ v w, vs = [v, w] ∧ D.nx ((σ.set i (some v)).set j (some w)) H1) : tPar i j ta D σ H := h
theorem rd_ifE {t : TT} {ta tb : TE} {σ : St} {H : Hp} {Q : VK} (h : t σ H fun c H1 => if c = true then ta σ H1 Q else tb σ H1 Q) : tIf t ta tb σ H Q := h
end
section
variable {X : Cx} {M : List Str} {x : Str} {scope : Scope} {cl : List (Str × Addr)} {C : Addr} {s₀ : Shared} {H₀ : Hp} {fp : List Addr}
end
section
variable {X : Cx} {tg : Expr}
def iRng2A (ta : TA) : TI := fun σ H R => ta σ H fun vs H1 => ∃ i j : Int, vs = [.int i, .int j] ∧ R (Itr i (j - i).toNat) H1
theorem rd_rng2A {ta : TA} {σ : St} {H : Hp} {R : It → Hp → Prop} (h : ta σ H fun vs H1 => ∃ i j : Int, vs = [.int i, .int j] ∧ R (Itr i (j - i).toNat) H1) : iRng2A ta σ H R := h
end
end L2

set_option Elab.async false
set_option linter.all false
set_option maxRecDepth 100000
set_option maxHeartbeats 4000000
namespace L2
open PySem PySem.Spec PyProof.Rows
section
variable {X : Cx}
def rBits : V → List V → Hp → VK → Prop := fun x vs H Q => ∃ n : Int, x = .int n ∧ vs = [] ∧ Q (.int ((Builtin.Int.intBits n : Nat) : Int)) H
end
theorem rd_bitsV {K : PySem.W.Frag} {n : Int} {H : Hp} {Q : VK} (h : Q (.int ((Builtin.Int.intBits n : Nat) : Int)) H) : tyV K "int" (.int n) H ∧ rBits (.int n) [] H Q := ⟨rfl, n, rfl, rfl, h⟩
theorem rd_bm0 {K : PySem.W.Frag} {T : String} {r : V → List V → Hp → VK → Prop} {to : TE} {σ : St} {H : Hp} {Q : VK} (h : to σ H fun x H1 => tyV K T x H1 ∧ r x [] H1 Q) : tBM0 K T r to σ H Q := h
theorem rd_bm {K : PySem.W.Frag} {T : String} {r : V → List V → Hp → VK → Prop} {to : TE} {t : TA} {σ : St} {H : Hp} {Q : VK} (h : to σ H fun x H1 => tyV K T x H1 ∧ t σ H1 fun xs H2 => r x xs H2 Q) : tBM K T r to t σ H Q := h
theorem rd_gsub {to ti : TE} {t : TSet} {v : V} {σ : St} {H : Hp} {Q : St → Hp → Prop} (h : to σ H fun o H1 => ti σ H1 fun i H2 => t o i v H2 fun H3 => Q σ H3) : gSub to ti t v σ H Q := h
theorem ixN_nat {m k : Nat} (h : k < m) : ixN m (k : Int) = some k := by
  unfold ixN
  rw [if_pos (by omega), if_pos (by omega), Int.toNat_natCast]
theorem rd_setL {p : Addr} {xs : List V} {k : Nat} {v : V} {H : Hp} {Q : Hp → Prop} (h : H p = some (.lst xs)) (hk : k < xs.length) (q : Q (upd H p (.lst (xs.set k v)))) : rSetL (.ref p) (.int (k : Int)) v H Q :=
  ⟨p, xs, k, k, rfl, rfl, h, ixN_nat hk, q⟩
theorem rd_cat {l b : Addr} {xs zs : List V} {H : Hp} {Q : VK} (h : H l = some (.lst xs)) (g : H b = some (.lst zs)) (hz : xs.length + zs.length ≤ sizeLine) (q : ∀ p, H p = none → Q (.ref p) (upd H p (.lst (xs ++ zs)))) : rCat (.ref l) (.ref b) H Q :=
  ⟨l, b, xs, zs, rfl, rfl, h, g, hz, q⟩
def tTruI (ta : TE) : TT := fun σ H Q => ta σ H fun x H' => ∃ i : Int, x = .int i ∧ Q (i != 0) H'
theorem rd_truI {i : Int} {H : Hp} {Q : Bool → Hp → Prop} (h : Q (i != 0) H) : ∃ j : Int, V.int i = .int j ∧ Q (j != 0) H := ⟨i, rfl, h⟩
theorem rd_tru {ta : TE} {σ : St} {H : Hp} {Q : Bool → Hp → Prop} (h : ta σ H fun x H' => ∃ i : Int, x = .int i ∧ Q (i != 0) H') : tTruI ta σ H Q := h
section
variable {X : Cx} {M : List Str} {x : Str} {scope : Scope} {cl : List (Str × Addr)} {C : Addr} {s₀ : Shared} {H₀ : Hp} {fp : List Addr}
end
end L2

set_option Elab.async false
set_option linter.all false
set_option maxRecDepth 100000
set_option maxHeartbeats 4000000
namespace L2
open PySem PySem.Spec PyProof.Rows
theorem rd_slice {r : V → Option Int → Option Int → Hp → VK → Prop} {te : TE} {tl th : TO} {σ : St} {H : Hp} {Q : VK} (h : te σ H fun x H1 => tl σ H1 fun l H2 => th σ H2 fun u H3 => r x l u H3 Q) : tSl r te tl th σ H Q := h
theorem rd_part {t : TE} {σ : St} {H : Hp} {Q : Option Int → Hp → Prop} (h : t σ H fun x H1 => ∃ i, x = .int i ∧ Q (some i) H1) : tPart t σ H Q := h
theorem rd_exI {i : Int} {P : Int → Prop} (h : P i) : ∃ j, V.int i = .int j ∧ P j := ⟨i, rfl, h⟩
theorem rd_noPart {σ : St} {H : Hp} {Q : Option Int → Hp → Prop} (h : Q none H) : tNoPart σ H Q := h
end L2

set_option Elab.async false
set_option linter.all false
set_option maxRecDepth 100000
set_option maxHeartbeats 4000000
namespace L2
open PySem PySem.Spec PyProof.Rows
section
variable {X : Cx}
def tLR (ta : TA) : TE := fun σ H Q => ta σ H fun vs H1 => ∃ (i j c : Int) (n : Nat), (vs = [.int i, .int j, .int c] ∨ (vs = [.int i, .int j] ∧ c = 1)) ∧ 0 < c ∧ c < 1073741824 ∧ Builtin.Range.small i j c = true ∧ Builtin.Range.rangeSize i j c = (n : Int) ∧ n ≤ 1000000 ∧
  ∀ l, H1 l = none → Q (.ref l) (upd H1 l (.lst ((List.range n).map fun (k : Nat) => V.int (i + (k : Int) * c))))
end
theorem rd_lr {ta : TA} {σ : St} {H : Hp} {Q : VK} (h : ta σ H fun vs H1 => ∃ (i j c : Int) (n : Nat), (vs = [.int i, .int j, .int c] ∨ (vs = [.int i, .int j] ∧ c = 1)) ∧ 0 < c ∧ c < 1073741824 ∧ Builtin.Range.small i j c = true ∧ Builtin.Range.rangeSize i j c = (n : Int) ∧ n ≤ 1000000 ∧
  ∀ l, H1 l = none → Q (.ref l) (upd H1 l (.lst ((List.range n).map fun (k : Nat) => V.int (i + (k : Int) * c))))) : tLR ta σ H Q := h
end L2

set_option Elab.async false
set_option linter.all false
set_option maxRecDepth 100000
set_option maxHeartbeats 4000000
namespace L2
open PySem PySem.Spec PyProof.Rows
end L2

set_option Elab.async false
set_option linter.all false
set_option maxRecDepth 100000
set_option maxHeartbeats 4000000
namespace L2
open PySem PySem.Spec PyProof.Rows
section
variable {X : Cx}
section
variable {prog : Program} {w : World} {A : Around} {R : Result → Shared → Prop}
end
end
end L2
namespace L2
open PySem PySem.Spec PyProof.Rows
theorem rd_fld {K : PySem.W.Frag} {ta : TE} {f : Str} {σ : St} {H : Hp} {Q : VK} (h : ta σ H fun x H1 => ∃ a C dx fs v, x = .ref a ∧ H1 a = some (.ins C dx fs) ∧ Cls K C ∧ NoAttr K C f ∧ fs.lookup f = some v ∧ Q v H1) : tFld K ta f σ H Q := h
theorem rd_sfld {K : PySem.W.Frag} {ta tv : TE} {f : Str} {D : Ends} {σ : St} {H : Hp} (h : tv σ H fun y H1 => ta σ H1 fun x H2 => ∃ a C dx fs, x = .ref a ∧ H2 a = some (.ins C dx fs) ∧ Cls K C ∧ NoAttr K C f ∧ fs.length < 1000 ∧ D.nx σ (upd H2 a (.ins C dx (putF f y fs)))) : sFld K ta tv f D σ H := h
theorem rd_meth {C : Addr} {m : Str} {sp : Sp} {ta : TE} {t : TA} {σ : St} {H : Hp} {Q : VK} (h : ta σ H fun x H1 => ∃ a dx fs, x = .ref a ∧ H1 a = some (.ins C dx fs) ∧ fs.lookup m = none ∧ t σ H1 fun vs H2 => sp (x :: (vs ++ [])) H2 Q E0) : tMeth C m sp [] E0 ta t σ H Q := h
end L2

set_option Elab.async false
set_option linter.all false
set_option maxRecDepth 100000
set_option maxHeartbeats 4000000
namespace L2
open PySem PySem.Spec PyProof.Rows
section
variable {X : Cx} {M xs : List Str} {scope : Scope} {cl : List (Str × Addr)} {C : Addr} {s₀ : Shared} {H₀ : Hp} {fp : List Addr}
end
end L2

set_option Elab.async false
set_option linter.all false
set_option maxRecDepth 100000
set_option maxHeartbeats 4000000
namespace L2
open PySem PySem.Spec PyProof.Rows
structure FunD (K : PySem.W.Frag) (x qual : Str) (st : Stmt) (f : Addr) (fd : FuncData) (ds : Array Value) : Prop where
  ex : ∃ (oc : Value) (od : Option Addr) (T : Addr) (to : Obj) (tn : Nat) (kV doc pm : Value) (an : Option Addr) (cdv ct : Value) (osl : Array (Option Value)),
    fd = PySem.W.fnOf x qual (defArgs st) (defBody st) (defScope st) (.ref T) kV doc pm an cdv ct ∧ K.lookup f = some ⟨oc, od, .func fd, osl⟩ ∧ PySem.W.codeIn K cdv qual = true ∧ K.lookup T = some to ∧ to.data = .seq ds tn
  kp : PySem.W.keepIn K (.ref f) = true
section
variable {P : Program} {w : World} {K : PySem.W.Frag} {mg : Str → Option Value} {base : Heap} {x qual : Str} {st : Stmt} {f : Addr} {fd : FuncData} {N ps : List Str} {k : Nat} {sp : Sp} {ds : Array Value}
theorem FunD.ok (F : FunD K x qual st f fd ds) (S : FnScope N ps (defScope st)) (len : ∀ vs H Q E, sp vs H Q E → vs.length = ps.length)
    (hbody : ∀ (cdv : Value) (A : Around) (outer : List Env) (s : Shared) (H : Hp) (vs : List V) (Q : VK) (E : XK), Room k (A.deeper (envOfC qual (defScope st) s.heap.objs.size f cdv)) → sp vs H Q E →
      ∃ t, PSs (cxOf CX0 P w K mg base N qual (defScope st) f cdv A outer s H E).nox (defBody st) t ∧ t { nx := fun _ H' => Q .non H', rt := Q } (start N vs) H) : FnOk P w K mg base CX0 (k + 1) f fd ps sp := by
  obtain ⟨oc, od, T, to, tn, kV, doc, pm, an, cdv, ct, osl, rfl, lk, hcd, _⟩ := F.ex
  refine fn_of lk hcd S len fun A outer s H vs Q E hr hsp => ?_
  obtain ⟨t, h, q⟩ := hbody cdv A outer s H vs Q E hr hsp
  exact ⟨t, h.nox, q⟩
theorem FunD.okE (F : FunD K x qual st f fd ds) (S : FnScope N ps (defScope st)) (len : ∀ vs H Q E, sp vs H Q E → vs.length = ps.length)
    (hbody : ∀ (cdv : Value) (A : Around) (outer : List Env) (s : Shared) (H : Hp) (vs : List V) (Q : VK) (E : XK), Room k (A.deeper (envOfC qual (defScope st) s.heap.objs.size f cdv)) → sp vs H Q E →
      Thr (cxOf (CX1 P w) P w K mg base N qual (defScope st) f cdv A outer s H E) (fun c d _ H' => E c d H') →
      ∃ t, PSs (cxOf (CX1 P w) P w K mg base N qual (defScope st) f cdv A outer s H E) (defBody st) t ∧ t { nx := fun _ H' => Q .non H', rt := Q } (start N vs) H) : FnOk P w K mg base (CX1 P w) (k + 1) f fd ps sp := by
  obtain ⟨oc, od, T, to, tn, kV, doc, pm, an, cdv, ct, osl, rfl, lk, hcd, _⟩ := F.ex
  exact fn_of lk hcd S len fun A outer s H vs Q E hr hsp => hbody cdv A outer s H vs Q E hr hsp thr_fn
theorem FunD.binds (F : FunD K x qual st f fd ds)
    (h : ∀ (T : Addr) (kV doc pm : Value) (an : Option Addr) (cdv ct : Value) (us : List Value), us.length = ps.length → bindArgs (PySem.W.fnOf x qual (defArgs st) (defBody st) (defScope st) (.ref T) kV doc pm an cdv ct) ⟨us, []⟩ = pure (ps.zip us)) : Binds K fd ps [] := by
  obtain ⟨oc, od, T, to, tn, kV, doc, pm, an, cdv, ct, osl, rfl, lk, hcd, _⟩ := F.ex
  exact .all (h T kV doc pm an cdv ct)
end
section
variable {X : Cx} {EE : Value → Option Addr → St → Hp → Prop} {C : Addr} {m x : Str} {k : Nat} {ps : List Str} {dvs : List V} {sp : Sp} {o e : Expr} {es : List Expr} {ta : TE} {t : TA} {apos pos p : Pos}
end
section
variable {X : Cx}
end
end L2
namespace L2
open PySem PySem.Spec PyProof.Rows
theorem rd_makeD {C : Addr} {sp : Sp} {dvs : List V} {t : TA} {σ : St} {H : Hp} {Q : VK} (h : t σ H fun vs H1 => ∀ x dx, H1 x = none → H1 dx = none → dx ≠ x → sp (.ref x :: (vs ++ dvs)) (upd (upd H1 dx (.own x)) x (.ins C dx [])) (fun v H2 => v = .non ∧ Q (.ref x) H2) E0) : tMake C sp dvs E0 t σ H Q := h
theorem rd_makeE {C : Addr} {sp : Sp} {EE : XE} {t : TA} {σ : St} {H : Hp} {Q : VK} (h : t σ H fun vs H1 => ∀ x dx, H1 x = none → H1 dx = none → dx ≠ x → sp (.ref x :: (vs ++ [])) (upd (upd H1 dx (.own x)) x (.ins C dx [])) (fun v H2 => v = .non ∧ Q (.ref x) H2) (fun c d H' => EE c d σ H')) : tMakeE C sp EE t σ H Q := h
theorem rd_methE {C : Addr} {m : Str} {sp : Sp} {EE : XE} {ta : TE} {t : TA} {σ : St} {H : Hp} {Q : VK} (h : ta σ H fun x H1 => ∃ a dx fs, x = .ref a ∧ H1 a = some (.ins C dx fs) ∧ fs.lookup m = none ∧ t σ H1 fun vs H2 => sp (x :: (vs ++ [])) H2 Q (fun c d H' => EE c d σ H')) : tMethE C m sp EE ta t σ H Q := h
end L2

set_option Elab.async false
set_option linter.all false
set_option maxRecDepth 100000
set_option maxHeartbeats 4000000
namespace L2
open PySem PySem.Spec PyProof.Rows
def plainV : V → Bool
  | .byt _ => false
  | .flt _ => false
  | _ => true
inductive EqV (K : PySem.W.Frag) (H : Hp) : Nat → V → V → Prop
  | same {n : Nat} {v : V} : plainV v = true → EqV K H n v v
  | lst {n : Nat} {a b : Addr} {xs ys : List V} : SqL K H a xs → SqL K H b ys → xs.length = ys.length → (∀ (i : Nat) x y, xs[i]? = some x → ys[i]? = some y → EqV K H n x y) → EqV K H (n + 1) (.ref a) (.ref b)
  | tup {n : Nat} {a b : Addr} {xs ys : List V} : SqT K H a xs → SqT K H b ys → xs.length = ys.length → (∀ (i : Nat) x y, xs[i]? = some x → ys[i]? = some y → EqV K H n x y) → EqV K H (n + 1) (.ref a) (.ref b)
theorem vals_at : ∀ {xs : List V} {us : List Value} {i : Nat} {u : Value}, Vals xs us → us[i]? = some u → ∃ x, xs[i]? = some x ∧ RelV x u
  | _, _, i, u, .nil, h => by simp at h
  | _, _, 0, u, .cons r _, h => by
    injection h with h
    subst h
    exact ⟨_, rfl, r⟩
  | _, _, i + 1, u, .cons _ rs, h => vals_at (i := i) rs h
section
variable {X : Cx} {pins : List (Addr × Obj)} {σ : St} {H : Hp} {s : Shared}
theorem EqV.at {n : Nat} {x y : V} (h : EqV X.K H n x y) (I : Inv X pins σ H s) : ∀ {A : Around} {u v : Value}, RelV x u → RelV y v → A.units + n < cLine → SeqAt.EqAt A s u v true := by
  induction h with
  | @same n v hp =>
    intro A u u' r r' _
    cases v with
    | non => cases r; cases r'; exact SeqAt.EqAt.same _
    | bl b => cases r; cases r'; exact SeqAt.EqAt.same _
    | int i =>
      obtain ⟨t, rfl⟩ := r
      obtain ⟨t', rfl⟩ := r'
      have := SeqAt.EqAt.int_int (A := A) (s := s) i t i t'
      rwa [beq_self_eq_true] at this
    | str x =>
      obtain ⟨t, rfl⟩ := r
      obtain ⟨t', rfl⟩ := r'
      have := SeqAt.EqAt.str_str (A := A) (s := s) x t x t'
      rwa [beq_self_eq_true] at this
    | byt b => cases hp
    | flt b => cases hp
    | ref a => cases r; cases r'; exact SeqAt.EqAt.same _
    | ty n => cases r; cases r'; exact SeqAt.EqAt.same _
  | @lst n a b xs ys ha hb hl _ ih =>
    intro A u v r r' hu
    cases r
    cases r'
    by_cases e : a = b
    · subst e
      exact SeqAt.EqAt.same _
    obtain ⟨its, r, pl, _⟩ := I.list ha
    obtain ⟨its', r', pl', _⟩ := I.list hb
    have l1 := r.length
    have l2 := r'.length
    have := SeqAt.RcAt.lists (A := A) (e := fun _ => true) pl.isList pl'.isList (by simp; omega) (by omega) fun j k1 k2 => by
      obtain ⟨x, hx, rx⟩ := vals_at r (i := j) (u := its.toArray[j]) (by simp)
      obtain ⟨y, hy, ry⟩ := vals_at r' (i := j) (u := its'.toArray[j]) (by simp)
      exact ih j x y hx hy rx ry (by show A.units + 1 + n < cLine; omega)
    rw [show ((List.range its.toArray.size).all fun _ => true) = true by simp] at this
    exact SeqAt.EqAt.of_refs e this
  | @tup n a b xs ys ha hb hl _ ih =>
    intro A u v r r' hu
    cases r
    cases r'
    by_cases e : a = b
    · subst e
      exact SeqAt.EqAt.same _
    obtain ⟨its, r, pl, _⟩ := I.tuple ha
    obtain ⟨its', r', pl', _⟩ := I.tuple hb
    have l1 := r.length
    have l2 := r'.length
    have := SeqAt.RcAt.tuples (A := A) (e := fun _ => true) pl pl' (by omega) fun j k1 k2 => by
      obtain ⟨x, hx, rx⟩ := vals_at r (i := j) (u := its.toArray[j]) (by simp)
      obtain ⟨y, hy, ry⟩ := vals_at r' (i := j) (u := its'.toArray[j]) (by simp)
      exact ih j x y hx hy rx ry (by show A.units + 1 + n < cLine; omega)
    rw [show ((List.range (min its.toArray.size its'.toArray.size)).all fun _ => true) = true by simp, Bool.true_and, show (its.toArray.size == its'.toArray.size) = true by simp; omega] at this
    exact SeqAt.EqAt.of_refs e this
end
end L2

set_option Elab.async false
set_option linter.all false
set_option maxRecDepth 100000
set_option maxHeartbeats 4000000
namespace L2
open PySem PySem.Spec PyProof.Rows
structure CalL (P : Program) (w : World) (K : PySem.W.Frag) (mg : Str → Option Value) (base : Heap) (CX : CXT) (k : Nat) (m : Str) (ps : List Str) (L : List (Addr × Sp)) : Prop where
  ex : ∀ p ∈ L, Cls K p.1 ∧ ∃ (f : Addr) (fd : FuncData), FnOk P w K mg base CX k f fd ps p.2 ∧ Binds K fd ps [] ∧ Meth K p.1 m f
theorem CalL.nil {P : Program} {w : World} {K : PySem.W.Frag} {mg : Str → Option Value} {base : Heap} {CX : CXT} {k : Nat} {m : Str} {ps : List Str} : CalL P w K mg base CX k m ps [] := ⟨fun p hp => (nomatch hp)⟩
theorem FnOk.up {P : Program} {w : World} {K : PySem.W.Frag} {mg : Str → Option Value} {base : Heap} {CX : CXT} {k j : Nat} {f : Addr} {fd : FuncData} {ps : List Str} {sp : Sp} (F : FnOk P w K mg base CX k f fd ps sp) (h : k ≤ j) : FnOk P w K mg base CX j f fd ps sp :=
  ⟨F.len, fun A outer s H args us vs Q E hr e0 hb r hs => F.run A outer s H args us vs Q E (hr.mono h) e0 hb r hs⟩
theorem CalL.cons {P : Program} {w : World} {K : PySem.W.Frag} {mg : Str → Option Value} {base : Heap} {CX : CXT} {k j : Nat} {m : Str} {ps : List Str} {C : Addr} {sp : Sp} {L : List (Addr × Sp)} (c : Cls K C) (O : CalM P w K mg base CX j C m ps sp) (h : j ≤ k) (r : CalL P w K mg base CX k m ps L) : CalL P w K mg base CX k m ps ((C, sp) :: L) := by
  refine ⟨fun p hp => ?_⟩
  rcases List.mem_cons.mp hp with e | e
  · subst e
    obtain ⟨f, fd, F, hb, M⟩ := O.ex
    exact ⟨c, f, fd, F.up h, hb, M⟩
  · exact r.ex p e
def tMethL (L : List (Addr × Sp)) (m : Str) (ta : TE) (t : TA) : TE := fun σ H Q => ta σ H fun x H1 => ∃ a C dx fs sp, (C, sp) ∈ L ∧ x = .ref a ∧ H1 a = some (.ins C dx fs) ∧ fs.lookup m = none ∧
  t σ H1 fun vs H2 => sp (x :: (vs ++ [])) H2 Q E0
def tMethLE (L : List (Addr × Sp)) (m : Str) (EE : XE) (ta : TE) (t : TA) : TE := fun σ H Q => ta σ H fun x H1 => ∃ a C dx fs sp, (C, sp) ∈ L ∧ x = .ref a ∧ H1 a = some (.ins C dx fs) ∧ fs.lookup m = none ∧
  t σ H1 fun vs H2 => sp (x :: (vs ++ [])) H2 Q (fun c d H' => EE c d σ H')
section
variable {X : Cx} {EE : Value → Option Addr → St → Hp → Prop} {L : List (Addr × Sp)} {m : Str} {k : Nat} {ps : List Str} {o e : Expr} {es : List Expr} {ta : TE} {t : TA} {apos pos : Pos}
end
theorem rd_methL {L : List (Addr × Sp)} {m : Str} {ta : TE} {t : TA} {σ : St} {H : Hp} {Q : VK} (h : ta σ H fun x H1 => ∃ a C dx fs sp, (C, sp) ∈ L ∧ x = .ref a ∧ H1 a = some (.ins C dx fs) ∧ fs.lookup m = none ∧ t σ H1 fun vs H2 => sp (x :: (vs ++ [])) H2 Q E0) : tMethL L m ta t σ H Q := h
theorem rd_methLE {L : List (Addr × Sp)} {m : Str} {EE : XE} {ta : TE} {t : TA} {σ : St} {H : Hp} {Q : VK} (h : ta σ H fun x H1 => ∃ a C dx fs sp, (C, sp) ∈ L ∧ x = .ref a ∧ H1 a = some (.ins C dx fs) ∧ fs.lookup m = none ∧ t σ H1 fun vs H2 => sp (x :: (vs ++ [])) H2 Q (fun c d H' => EE c d σ H')) : tMethLE L m EE ta t σ H Q := h
end L2

set_option Elab.async false
set_option linter.all false
namespace L2
theorem len1 {α : Type} {us : List α} (h : us.length = 1) : ∃ a0, us = [a0] := by
  match us, h with
  | [a0], _ => exact ⟨a0, rfl⟩
theorem len2 {α : Type} {us : List α} (h : us.length = 2) : ∃ a0 a1, us = [a0, a1] := by
  match us, h with
  | [a0, a1], _ => exact ⟨a0, a1, rfl⟩
theorem len3 {α : Type} {us : List α} (h : us.length = 3) : ∃ a0 a1 a2, us = [a0, a1, a2] := by
  match us, h with
  | [a0, a1, a2], _ => exact ⟨a0, a1, a2, rfl⟩
end L2

set_option Elab.async false
set_option linter.all false
set_option maxRecDepth 100000
set_option maxHeartbeats 4000000
namespace L2
open PySem PySem.Spec PyProof.Rows
section
variable {X : Cx}
end
end L2

set_option Elab.async false
set_option linter.all false
set_option maxRecDepth 100000
set_option maxHeartbeats 4000000
namespace L2
open PySem PySem.Spec PyProof.Rows
section
variable {X : Cx}
end
end L2

set_option Elab.async false
set_option linter.all false
set_option maxRecDepth 100000
set_option maxHeartbeats 4000000
namespace L2
open PySem PySem.Spec PyProof.Rows
section
variable {X : Cx}
end
end L2

set_option Elab.async false
set_option linter.all false
set_option maxRecDepth 100000
set_option maxHeartbeats 4000000
namespace L2
open PySem PySem.Spec PyProof.Rows
section
variable {X : Cx}
end
end L2

set_option Elab.async false
set_option linter.all false
set_option maxRecDepth 100000
set_option maxHeartbeats 4000000
namespace L2
open PySem PySem.Spec PyProof.Rows
def signV (c : Nat) : V := .str ⟨#[c]⟩
def Its (z : Str) : It := ⟨fun i _ => i < z.cps.size, fun i H x H' => H' = H ∧ ∃ c, z.cps[i]? = some c ∧ x = signV c, fun i _ => z.cps.size ≤ i⟩
theorem turn_str {P : Program} {w : World} {K : PySem.W.Frag} {tg : Expr} (z : Str) (t : Tok) (it : Addr) : Turn P w K tg (Its z) [it] it (fun i h => h.IsStrIter it "str_ascii_iterator" z t i) where
  mem := by simp
  obj := fun i h st b hb => by
    have e : b = it := by simpa using hb
    subst e
    obtain ⟨o, e, c, d⟩ := st
    exact ⟨o, e, fun v z => by rw [d] at z; cases z⟩
  keep := fun i h h' st k => by
    obtain ⟨o, e, r⟩ := st
    exact ⟨o, k it (by simp) o e, r⟩
  item := by
    intro X hP hw hK hc i pins s σ H E I hf st hg
    subst hP hw hK
    have hg' : i < z.cps.size := hg
    obtain ⟨f0, f1, f2, f3, f4, f5⟩ := hf it (by simp)
    refine wpAny_pyNext_ascii_item st (c := z.cps[i]) (by simp [hg']) fun h' st' sb => ?_
    have I1 : Inv X pins σ H { s with heap := h', toks := s.toks + 1 } := I.turned (t' := s.toks + 1) (fun b o hb e => (sb.2 b hb).trans e) f0 f1 f3 f4 f5
    obtain ⟨o, e, c, d⟩ := id st'
    exact ⟨_, rfl, go_of (s := { s with heap := h', toks := s.toks + 1 }) e c d (by decide) ⟨signV z.cps[i], H, I1, ⟨_, rfl⟩, ⟨rfl, _, by simp [hg'], rfl⟩, st', fun b hb => (hf b hb).1⟩⟩
  done := by
    intro X hP hw hK hc i pins s σ H E I hf st hg
    subst hP hw hK
    have hg' : z.cps.size ≤ i := hg
    obtain ⟨f0, f1, f2, f3, f4, f5⟩ := hf it (by simp)
    exact wpAny_pyNext_ascii_end (I.ok.hd hc) st (by simp [hg']) fun h' eb => ⟨rfl, I.turned (t' := s.toks) (fun b o hb e => eb b o hb e) f0 f1 f3 f4 f5⟩
  self := fun _ _ _ _ _ st h => wpAny_pyIter_striter_ascii st h
def asc (z : Str) : Bool := z.cps.all (· < 128)
def iStr (tl : TE) : TI := fun σ H R => tl σ H fun x H1 => ∃ z, x = .str z ∧ asc z = true ∧ R (Its z) H1
section
variable {X : Cx} {tg : Expr}
theorem pi_str {l : Expr} {tl : TE} (hl : PE X l tl) : PI X tg l (iStr tl) := by
  intro pins s σ H R I h
  refine thn (hl pins s σ H _ I h) fun v s1 ⟨x, H1, I1, r1, q1⟩ => ?_
  obtain ⟨z, e, ha, q⟩ := q1
  subst e
  obtain ⟨t, rfl⟩ := (show ∃ t, v = Value.str z t from r1)
  refine wpAny_pyIter_ascii ha ?_
  refine ⟨s1.heap.objs.size, [s1.heap.objs.size], _, _, H1, rfl, I1.kept (t' := s1.toks) fun b o e => Heap.get?_push_of_some _ e, turn_str z t _, ⟨_, Heap.get?_push_size _ rfl, rfl, rfl⟩, fun b hb => ?_, q⟩
  have e : b = s1.heap.objs.size := by simpa using hb
  subst e
  exact I1.fpOk (Nat.le_refl _) (I1.hok.fresh (Nat.le_refl _))
def rSlS : V → Option Int → Option Int → Hp → VK → Prop := fun x lo hi H Q => ∃ z, x = .str z ∧ z.length ≤ sizeLine ∧ Q (.str (Txt.slice z lo hi)) H
theorem part_val {v : Value} {o : Option Int} (h : IsPart v o) : ∃ l : Option (Int × Tok), v = partValue l ∧ l.map (·.1) = o := by
  cases h with
  | none => exact ⟨none, rfl, rfl⟩
  | int i t => exact ⟨some (i, t), rfl, rfl⟩
theorem sl_str : SlR X rSlS := by
  intro pins s σ H x v vl vu lo hi sl Q I rx hs pl pu h
  obtain ⟨z, rfl, hz, q⟩ := h
  obtain ⟨t, rfl⟩ := (show ∃ t, v = Value.str z t from rx)
  obtain ⟨l, rfl, rfl⟩ := part_val pl
  obtain ⟨u, rfl, rfl⟩ := part_val pu
  refine ⟨"str", _, F.slot_str_getitem.lookup, typeIs_str _ _ _, wpAny_getItem_str_slice (l := l) (u := u) (st := none) hs rfl ?_⟩
  refine post_val_or_str ⟨Nat.le_trans (Txt.slice_le z _ _) hz, fun t' k => ?_⟩
  exact ⟨.str _, H, I.kept (t' := k) fun b o e => e, ⟨_, rfl⟩, q⟩
theorem mt_startswith : MtR X "str.startswith" (fun x xs H Q => ∃ z y, x = .str z ∧ xs = [.str y] ∧ Q (.bl (Txt.startswith z y)) H) := by
  intro pins s σ H x xs v us Q I rx rs h
  obtain ⟨z, y, rfl, rfl, q⟩ := h
  obtain ⟨t, rfl⟩ := (show ∃ t, v = Value.str z t from rx)
  obtain ⟨u, rfl, ru⟩ := vals1 rs
  obtain ⟨t', rfl⟩ := (show ∃ t, u = Value.str y t from ru)
  exact call_gives F.slot_str_startswith (typeIs_str _ _ _) F.entry_str_startswith (F.args_str_startswith_2 _ _) (gives_str_startswith z y t t') ⟨.bl _, H, I, rfl, q⟩
theorem call_int_text : CallR X (.type "int") (fun xs H Q => ∃ z n, xs = [.str z] ∧ z.length ≤ 640 ∧ PySem.intText? z = some n ∧ Q (.int n) H) := by
  intro pins s σ H xs us Q I r h
  obtain ⟨z, n, rfl, hl, hn, q⟩ := h
  obtain ⟨u, rfl, ru⟩ := vals1 r
  obtain ⟨t, rfl⟩ := (show ∃ t, u = Value.str z t from ru)
  exact PySem.W.KIN.call_text hn hl ⟨.int n, H, I.tok _, ⟨_, rfl⟩, q⟩
theorem op_mulS : OpR X (binaryOp .Mult) (fun x y H Q => ∃ z n, x = .str z ∧ y = .int n ∧ MulOk z n ∧ Q (.str (Txt.mul z n)) H) := by
  intro pins s σ H x y v u Q I rx ry h
  obtain ⟨z, n, rfl, rfl, hok, q⟩ := h
  obtain ⟨t, rfl⟩ := (show ∃ t, v = Value.str z t from rx)
  obtain ⟨t', rfl⟩ := (show ∃ t, u = Value.int n t from ry)
  exact SB.mul hok fun t' k => ⟨.str _, H, I.kept (t' := k) fun b o e => e, ⟨_, rfl⟩, q⟩
end
theorem for_str {z : Str} {g : TG} {tb : TS} {D : Ends} {σ : St} {H : Hp} (Pv : Nat → St → Hp → Prop) (h0 : Pv 0 σ H)
    (hs : ∀ i c σ H, z.cps.toList[i]? = some c → Pv i σ H → g (signV c) σ H fun σ2 H2 => tb { D with nx := Pv (i + 1), ct := Pv (i + 1), bk := D.nx } σ2 H2) (hd : ∀ σ H, Pv z.cps.toList.length σ H → D.nx σ H) :
    ∃ W : Nat → Nat → St → Hp → Prop, (∃ m, W 0 m σ H) ∧ ∀ i m σ H, W i m σ H →
      ((Its z).stop i H ∧ D.nx σ H) ∨ ((Its z).go i H ∧ ∃ N : St → Hp → Prop, (∀ σ' H', N σ' H' → ∃ m', m' < m ∧ W (i + 1) m' σ' H') ∧ ∀ x H', (Its z).yld i H x H' → g x σ H' fun σ2 H2 => tb { D with nx := N, ct := N, bk := D.nx } σ2 H2) := by
  have en : z.cps.toList.length = z.cps.size := Array.length_toList
  refine ⟨fun i m σ H => m = z.cps.size - i ∧ i ≤ z.cps.size ∧ Pv i σ H, ⟨z.cps.size, by simp, Nat.zero_le _, h0⟩, ?_⟩
  rintro i m σ H ⟨rfl, hi, p⟩
  by_cases hlt : i < z.cps.size
  · refine .inr ⟨hlt, Pv (i + 1), fun σ' H' p' => ⟨z.cps.size - (i + 1), by omega, rfl, hlt, p'⟩, fun x H' y => ?_⟩
    obtain ⟨e, c, hc, rfl⟩ := y
    subst e
    exact hs i c σ _ (by rw [Array.getElem?_toList]; exact hc) p
  · have e : i = z.cps.size := by omega
    subst e
    exact .inl ⟨Nat.le_refl _, hd σ H (by rw [en]; exact p)⟩
theorem walk_s {z : Str} : Walk (Its z) (fun _ => True) (z.cps.toList.map signV) :=
  ⟨fun i H _ hi => (by show i < z.cps.size; simpa using hi), fun i H x H' _ y hi => ⟨y.1, by
    obtain ⟨c, hc, rfl⟩ := y.2
    rw [List.getElem?_map, Array.getElem?_toList, hc]
    rfl⟩, fun i H _ hi => (by show z.cps.size ≤ i; simpa using hi)⟩
theorem rd_iS {tl : TE} {σ : St} {H : Hp} {R : It → Hp → Prop} (h : tl σ H fun x H1 => ∃ z, x = .str z ∧ asc z = true ∧ R (Its z) H1) : iStr tl σ H R := h
theorem rel_str (x : Str) (t : Tok) : RelV (.str x) (.str x t) := ⟨t, rfl⟩
def constStr? : Expr → Option Str
  | .Constant (.str x) _ _ => some x
  | _ => none
def tStrs (ss : List Str) : TA := fun _ H Q => Q (ss.map V.str) H
theorem pa_strs {X : Cx} : ∀ {es : List Expr} {ss : List Str}, es.map constStr? = ss.map some → PA X es (tStrs ss)
  | [], [], _ => pa_nil
  | [], _ :: _, h => nomatch h
  | _ :: _, [], h => nomatch h
  | e :: es, x :: ss, h => by
    rw [List.map_cons, List.map_cons] at h
    injection h with h1 h2
    have ih := pa_strs (X := X) (es := es) (ss := ss) h2
    unfold constStr? at h1
    split at h1
    · injection h1 with h1
      subst h1
      exact pa_cons pe_str ih rfl
    · cases h1
theorem pe_strs {X : Cx} {es : List Expr} {ss : List Str} {pos : Pos} (h : es.map constStr? = ss.map some) : PE X (.List es pos) (tLst (tStrs ss)) := pe_lst (pa_strs h)
theorem rd_strs {ss : List Str} {σ : St} {H : Hp} {Q : List V → Hp → Prop} (h : Q (ss.map V.str) H) : tStrs ss σ H Q := h
structure BE (X : Cx) (e : Expr) (te : TE) : Prop where
  out : PE X e te
structure BS (X : Cx) (st : Stmt) (t : TS) : Prop where
  out : PS X st t
structure BSs (X : Cx) (st : List Stmt) (t : TS) : Prop where
  out : PSs X st t
section
variable {X : Cx}
theorem be {e : Expr} {te : TE} (h : PE X e te) : BE X e te := ⟨h⟩
theorem be_strs {es : List Expr} {ss : List Str} {pos : Pos} (h : es.map constStr? = ss.map some) : BE X (.List es pos) (tLst (tStrs ss)) := ⟨pe_strs h⟩
theorem be_op {op : Operator} {r : R2} {a b : Expr} {ta tb : TE} {pos : Pos} (ho : OpR X (binaryOp op) r) (ha : BE X a ta) (hb : BE X b tb) : BE X (.BinOp a op b pos) (tOp r ta tb) := ⟨pe_op ho ha.out hb.out⟩
theorem bs {st : Stmt} {t : TS} (h : PS X st t) : BS X st t := ⟨h⟩
theorem bs_set {i : Nat} {x : Str} {e : Expr} {te : TE} {pos' pos : Pos} (hN : X.N.Nodup) (hi : X.N[i]? = some x) (hx : Loc X.env.scope x) (he : BE X e te) (hs : swapsWith e (some (.Name x pos')) pos.line X.env = pure false := by rfl) (hf : X.fn x = true ∨ X.env.scope.names.lookup x = some .local := by first | exact .inl rfl | exact .inr rfl | assumption) :
    BS X (.Assign [.Name x pos'] e pos) (tAsg te (gName i)) := ⟨ps_set hN hi hx he.out hs hf⟩
theorem bss_cons {st : Stmt} {rest : List Stmt} {t u : TS} (h1 : BS X st t) (h2 : BSs X rest u) : BSs X (st :: rest) (tSeq t u) := ⟨pss_cons h1.out h2.out⟩
theorem bss_one {st : Stmt} {t : TS} (h1 : BS X st t) : BSs X [st] t := ⟨pss_one h1.out⟩
theorem bss_ex {ss : List Stmt} {R : TS → Prop} (h : ∃ t, BSs X ss t ∧ R t) : ∃ t, PSs X ss t ∧ R t := by
  obtain ⟨t, h1, h2⟩ := h
  exact ⟨t, h1.out, h2⟩
end
end L2

set_option Elab.async false
set_option linter.all false
set_option maxRecDepth 100000
set_option maxHeartbeats 4000000
namespace L2
open PySem PySem.Spec PyProof.Rows
inductive CalVs (P : Program) (w : World) (K : PySem.W.Frag) (mg : Str → Option Value) (base : Heap) (k : Nat) : List (Str × Sp) → Prop
  | nil : CalVs P w K mg base k []
  | cons {x : Str} {ps : List Str} {sp : Sp} {L : List (Str × Sp)} : Cal P w K mg base k x ps sp → CalVs P w K mg base k L → CalVs P w K mg base k ((x, sp) :: L)
theorem CalVs.get {P : Program} {w : World} {K : PySem.W.Frag} {mg : Str → Option Value} {base : Heap} {k : Nat} {L : List (Str × Sp)} (h : CalVs P w K mg base k L) {x : Str} {sp : Sp} (hm : (x, sp) ∈ L) : ∃ ps, Cal P w K mg base k x ps sp := by
  induction h with
  | nil => cases hm
  | cons C _ ih =>
    rcases List.mem_cons.mp hm with e | e
    · injection e with e1 e2
      subst e1
      subst e2
      exact ⟨_, C⟩
    · exact ih e
section
variable {X : Cx} {pos : Pos}
end
end L2

set_option Elab.async false
set_option linter.all false
set_option maxRecDepth 100000
set_option maxHeartbeats 4000000
namespace L2
open PySem PySem.Spec PyProof.Rows
section
variable {X : Cx} {pins : List (Addr × Obj)} {σ : St} {H : Hp} {s : Shared} {h' : Heap}
end
section
variable {X : Cx}
end
section
variable {X : Cx}
end
end L2

set_option Elab.async false
set_option linter.all false
set_option maxRecDepth 100000
set_option maxHeartbeats 4000000
namespace L2
open PySem PySem.Spec PyProof.Rows
section
variable {X : Cx}
end
end L2

set_option Elab.async false
set_option linter.all false
set_option maxRecDepth 100000
set_option maxHeartbeats 4000000
namespace L2
open PySem PySem.Spec PyProof.Rows
section
variable {X : Cx}
end
section
variable {X : Cx}
end
end L2

set_option Elab.async false
set_option linter.all false
set_option maxRecDepth 100000
set_option maxHeartbeats 4000000
namespace L2
open PySem PySem.Spec PyProof.Rows PySem.Builtin PySem.Builtin.Str
/-- where the sign c stands -/
def plc (c : Nat) : Nat → List Nat → List Nat
  | _, [] => []
  | k, a :: l => if a = c then k :: plc c (k + 1) l else plc c (k + 1) l
/-- the parts between -/
def spl (c : Nat) : List Nat → List (List Nat)
  | [] => [[]]
  | a :: l => if a = c then [] :: spl c l else ((a :: (spl c l).headD []) :: (spl c l).drop 1)
theorem spl_at (c : Nat) (l : List Nat) : spl c (c :: l) = [] :: spl c l := by
  conv => lhs; unfold spl
  rw [if_pos rfl]
theorem spl_not {c a : Nat} (l : List Nat) (h : a ≠ c) : spl c (a :: l) = (a :: (spl c l).headD []) :: (spl c l).drop 1 := by
  conv => lhs; unfold spl
  rw [if_neg h]
theorem str_eq {a b : Str} (h : a.cps = b.cps) : a = b := by
  cases a
  cases b
  exact congrArg Str.mk h
theorem spl_ne (c : Nat) : ∀ l, spl c l ≠ []
  | [] => fun h => nomatch h
  | a :: l => by
    unfold spl
    split
    · exact fun h => nomatch h
    · exact fun h => nomatch h
theorem spl_eta (c : Nat) (l : List Nat) : spl c l = (spl c l).headD [] :: (spl c l).drop 1 := by
  have := spl_ne c l
  cases h : spl c l with
  | nil => exact absurd h this
  | cons p ps => rfl
theorem plc_len (c : Nat) : ∀ (l : List Nat) (k : Nat), (plc c k l).length + 1 = (spl c l).length
  | [], _ => rfl
  | a :: l, k => by
    have ih := plc_len c l (k + 1)
    unfold plc spl
    split
    · rw [List.length_cons, List.length_cons, ih]
    · rw [ih, spl_eta c l]
      rfl
theorem plc_count (c : Nat) : ∀ (l : List Nat) (k : Nat), (plc c k l).length = l.count c
  | [], _ => rfl
  | a :: l, k => by
    have ih := plc_count c l (k + 1)
    unfold plc
    rw [List.count_cons]
    split
    · rename_i h
      rw [List.length_cons, ih, if_pos (by simpa using h)]
    · rename_i h
      rw [ih, if_neg (by simpa using h)]
      rfl
/-- a text without the sign, then the sign, then more -/
theorem spl_cut (c : Nat) : ∀ (p l : List Nat), c ∉ p → spl c (p ++ c :: l) = p :: spl c l
  | [], l, _ => spl_at c l
  | a :: p, l, h => by
    have ih := spl_cut c p l fun z => h (List.mem_cons_of_mem _ z)
    show spl c (a :: (p ++ c :: l)) = _
    rw [spl_not _ (fun z => h (by rw [z]; exact List.mem_cons_self)), ih]
    rfl
theorem spl_one (c : Nat) : ∀ (p : List Nat), c ∉ p → spl c p = [p]
  | [], _ => rfl
  | a :: p, h => by
    rw [spl_not _ (fun z => h (by rw [z]; exact List.mem_cons_self)), spl_one c p fun z => h (List.mem_cons_of_mem _ z)]
    rfl
theorem spl_len (c : Nat) : ∀ (l p : List Nat), p ∈ spl c l → p.length ≤ l.length
  | [], p, hp => by
    cases List.mem_singleton.mp hp
    exact Nat.le_refl _
  | a :: l, p, hp => by
    have ih := spl_len c l
    unfold spl at hp
    split at hp
    · rcases List.mem_cons.mp hp with e | e
      · rw [e]; exact Nat.zero_le _
      · exact Nat.le_trans (ih p e) (Nat.le_succ _)
    · rw [spl_eta c l] at ih
      rcases List.mem_cons.mp hp with e | e
      · rw [e]
        exact Nat.succ_le_succ (ih _ List.mem_cons_self)
      · exact Nat.le_trans (ih p (List.mem_cons_of_mem _ e)) (Nat.le_succ _)
/-- the parts by where they begin and end -/
theorem parts_spl (c : Nat) (L : List Nat) : ∀ (l : List Nat) (k s0 : Nat), L.drop k = l → s0 ≤ k → k ≤ L.length →
    ((s0 :: (plc c k l).map (· + 1)).zip (plc c k l ++ [L.length])).map (fun (ij : Nat × Nat) => (L.drop ij.1).take (ij.2 - ij.1)) = ((L.drop s0).take (k - s0) ++ (spl c l).headD []) :: (spl c l).drop 1
  | [], k, s0, h, h1, h2 => by
    have e : k = L.length := by
      have := congrArg List.length h
      rw [List.length_drop] at this
      simp at this
      omega
    subst e
    show [(L.drop s0).take (L.length - s0)] = [(L.drop s0).take (L.length - s0) ++ []]
    rw [List.append_nil]
  | a :: l, k, s0, h, h1, h2 => by
    have kl : k < L.length := by
      have := congrArg List.length h
      rw [List.length_drop, List.length_cons] at this
      omega
    have hd : L.drop (k + 1) = l := by
      rw [← List.drop_drop, h]
      rfl
    unfold plc spl
    split
    · have ih := parts_spl c L l (k + 1) (k + 1) hd (Nat.le_refl _) kl
      rw [List.map_cons, List.cons_append, List.zip_cons_cons, List.map_cons, ih, Nat.sub_self, List.take_zero, List.nil_append, ← spl_eta]
      show _ = ((L.drop s0).take (k - s0) ++ []) :: spl c l
      rw [List.append_nil]
    · have ih := parts_spl c L l (k + 1) s0 hd (by omega) kl
      rw [ih]
      have e : (L.drop s0).take (k + 1 - s0) = (L.drop s0).take (k - s0) ++ [a] := by
        have hk : (L.drop s0)[k - s0]? = some a := by
          rw [List.getElem?_drop, show s0 + (k - s0) = k by omega]
          have := congrArg (fun z => z[0]?) h
          simpa [List.getElem?_drop] using this
        rw [show k + 1 - s0 = (k - s0) + 1 by omega, List.take_add_one, hk]
        rfl
      rw [e, List.append_assoc]
      rfl
def cps (z : Str) : List Nat := z.cps.toList
theorem cps_len (z : Str) : (cps z).length = z.length := Array.length_toList
theorem occ_run (x : Str) (c : Nat) : ∀ (n k free : Nat) (acc : Array Nat), k + n = x.length + 1 → free ≤ k → acc.size ≤ k →
    (forIn (List.range' k n) (acc, free) (StrLaws.occBody x ⟨#[c]⟩ x.length (x.length + 1))).run.fst.toList = acc.toList ++ plc c k ((cps x).drop k)
  | 0, k, free, acc, h, _, _ => by
    rw [List.drop_of_length_le (by rw [cps_len]; omega)]
    show acc.toList = acc.toList ++ []
    rw [List.append_nil]
  | n + 1, k, free, acc, h, hf, ha => by
    rw [List.range'_succ, List.forIn_cons]
    have one : (⟨#[c]⟩ : Str).length = 1 := rfl
    by_cases z : (cps x)[k]? = some c
    · have kl : k < (cps x).length := (List.getElem?_eq_some_iff.mp z).1
      have hs := (StrLaws.subAt_one x c k).mpr z
      have ed : (cps x).drop k = c :: (cps x).drop (k + 1) := by
        rw [List.drop_eq_getElem_cons kl, (List.getElem?_eq_some_iff.mp z).2]
      have ih := occ_run x c n (k + 1) (k + 1) (acc.push k) (by omega) (Nat.le_refl _) (by rw [Array.size_push]; omega)
      unfold StrLaws.occBody
      rw [if_pos ⟨⟨⟨by show acc.size < x.length + 1; omega, hf⟩, hs.1⟩, hs.2⟩, ed]
      unfold plc
      rw [if_pos rfl]
      have e2 : acc.toList ++ k :: plc c (k + 1) ((cps x).drop (k + 1)) = (acc.push k).toList ++ plc c (k + 1) ((cps x).drop (k + 1)) := by
        rw [Array.toList_push, List.append_assoc]
        rfl
      rw [e2]
      exact ih
    · have hs : ¬ (k + (⟨#[c]⟩ : Str).length ≤ x.length ∧ subAt x ⟨#[c]⟩ k = true) := fun y => z ((StrLaws.subAt_one x c k).mp y)
      have ih := occ_run x c n (k + 1) free acc (by omega) (by omega) (by omega)
      have ep : plc c k ((cps x).drop k) = plc c (k + 1) ((cps x).drop (k + 1)) := by
        by_cases kl : k < (cps x).length
        · rw [List.drop_eq_getElem_cons kl]
          have : (cps x)[k] ≠ c := fun y => z (by rw [List.getElem?_eq_getElem kl, y])
          show (if (cps x)[k] = c then _ else _) = _
          rw [if_neg this]
        · rw [List.drop_of_length_le (by omega), List.drop_of_length_le (by omega)]
          rfl
      unfold StrLaws.occBody
      rw [if_neg fun y => hs ⟨y.1.2, y.2⟩, ep]
      exact ih
theorem occ_plc (x : Str) (c : Nat) : occurrences x ⟨#[c]⟩ 0 x.length (x.length + 1) = plc c 0 (cps x) := by
  rw [StrLaws.occ_eq]
  have := occ_run x c (x.length + 1) 0 0 #[] (by omega) (Nat.le_refl _) (Nat.le_refl _)
  simpa using this
theorem parts_eq (x : Str) (c : Nat) : partsBetween x (plc c 0 (cps x)) 1 = (spl c (cps x)).map fun p => (⟨p.toArray⟩ : Str) := by
  have h := parts_spl c (cps x) (cps x) 0 0 rfl (Nat.le_refl _) (Nat.zero_le _)
  rw [List.take_zero, List.nil_append, ← spl_eta] at h
  rw [← h, List.map_map]
  unfold partsBetween
  rw [← cps_len]
  refine List.map_congr_left fun ij _ => ?_
  refine str_eq (Array.toList_inj.mp ?_)
  rw [StrLaws.strSub_toList]
  rfl
section
variable {X : Cx}
theorem strs_of : ∀ (ps : List Str) (tk : Nat), Vals (ps.map V.str) (strsFrom tk ps)
  | [], _ => .nil
  | p :: ps, tk => .cons ⟨tk, rfl⟩ (strs_of ps (tk + 1))
theorem strsAre_of : ∀ {zs : List Str} {us : List Value}, Vals (zs.map V.str) us → StrsAre us zs
  | [], _, .nil => .nil
  | z :: zs, _, .cons r rs => by
    obtain ⟨t, rfl⟩ := (show ∃ t, _ = Value.str z t from r)
    exact .cons z t (strsAre_of rs)
/-- the texts between -/
def splS (c : Nat) (z : Str) : List Str := (spl c (cps z)).map fun p => (⟨p.toArray⟩ : Str)
theorem splS_len (c : Nat) (z : Str) : (splS c z).length ≤ z.length + 1 := by
  unfold splS
  rw [List.length_map, ← plc_len c (cps z) 0, plc_count, ← cps_len]
  exact Nat.succ_le_succ List.count_le_length
theorem splS_single {c : Nat} {z : Str} (h : plc c 0 (cps z) = []) : splS c z = [z] := by
  have e := parts_eq z c
  rw [h] at e
  unfold splS
  rw [← e]
  show [strSub z 0 z.length] = [z]
  refine congrArg (fun y => [y]) (str_eq (Array.toList_inj.mp ?_))
  rw [StrLaws.strSub_toList, List.drop_zero, Nat.sub_zero]
  exact List.take_of_length_le (by show z.cps.toList.length ≤ z.cps.size; rw [Array.length_toList]; exact Nat.le_refl _)
def rSplit : V → List V → Hp → VK → Prop := fun x xs H Q => ∃ z c, x = .str z ∧ xs = [.str ⟨#[c]⟩] ∧ c < 256 ∧ z.length ≤ 1000000 ∧ ∀ l, H l = none → Q (.ref l) (upd H l (.lst ((splS c z).map V.str)))
theorem mt_split : MtR X "str.split" rSplit := by
  intro pins s σ H x xs v us Q I rx rs h
  obtain ⟨z, c, rfl, rfl, hc, hz, q⟩ := h
  obtain ⟨t, rfl⟩ := (show ∃ t, v = Value.str z t from rx)
  obtain ⟨u, rfl, ru⟩ := vals1 rs
  obtain ⟨t', rfl⟩ := (show ∃ t, u = Value.str ⟨#[c]⟩ t from ru)
  have sl : z.length + 1 ≤ sizeLine := Nat.le_trans (Nat.succ_le_succ hz) (by decide)
  have one : (⟨#[c]⟩ : Str).length = 1 := rfl
  have itself : splS c z = [z] → EP X pins σ Q (.ref s.heap.objs.size) { s with heap := s.heap.push { cls := .type "list", data := .seq [Value.str z t].toArray } } := fun e => by
    refine ⟨.ref _, _, I.laid (a := s.heap.objs.size) (o := .lst ((splS c z).map V.str)) (fun _ _ e => Heap.get?_push_of_some _ e) (Nat.le_refl _) ⟨by rw [e]; show 1 ≤ sizeLine; decide, [Value.str z t], 0, by rw [e]; exact .cons ⟨t, rfl⟩ .nil, Heap.get?_push_size _ rfl⟩, rfl, q _ I.fresh⟩
  by_cases h1 : (decide (z.length < (⟨#[c]⟩ : Str).length) || decide (PySem.Builtin.Str.strKind z < PySem.Builtin.Str.strKind ⟨#[c]⟩)) = true
  · have e : splS c z = [z] := by
      have k1 : PySem.Builtin.Str.strKind (⟨#[c]⟩ : Str) = 1 := by
        unfold PySem.Builtin.Str.strKind
        simp [hc]
      have k0 : 1 ≤ PySem.Builtin.Str.strKind z := by
        unfold PySem.Builtin.Str.strKind
        repeat' split
        all_goals omega
      rw [k1, one, decide_eq_false (show ¬ PySem.Builtin.Str.strKind z < 1 by omega), Bool.or_false, decide_eq_true_eq] at h1
      refine splS_single ?_
      have : cps z = [] := List.length_eq_zero_iff.mp (by rw [cps_len]; omega)
      rw [this]
      rfl
    exact call_meets F.slot_str_split (typeIs_str _ _ _) F.entry_str_split (F.args_str_split_2 _ _) (meets_str_split_cannot_occur z ⟨#[c]⟩ t t' h1) (itself e)
  · have h1' := (Bool.not_eq_true _).mp h1
    by_cases h2 : (occurrences z ⟨#[c]⟩ 0 z.length (z.length + 1)).isEmpty = true
    · have e : splS c z = [z] := by
        rw [occ_plc, List.isEmpty_iff] at h2
        exact splS_single h2
      exact call_meets F.slot_str_split (typeIs_str _ _ _) F.entry_str_split (F.args_str_split_2 _ _) (meets_str_split_not_found z ⟨#[c]⟩ t t' h1' rfl h2) (itself e)
    · have h2' := (Bool.not_eq_true _).mp h2
      have ep : partsBetween z (occurrences z ⟨#[c]⟩ 0 z.length (z.length + 1)) (⟨#[c]⟩ : Str).length = splS c z := by rw [occ_plc]; exact parts_eq z c
      refine call_meets F.slot_str_split (typeIs_str _ _ _) F.entry_str_split (F.args_str_split_2 _ _) (meets_str_split_sep z ⟨#[c]⟩ t t' h1' rfl h2' (by omega) (by rw [ep]; exact Nat.le_trans (splS_len c z) sl)) ?_
      rw [ep]
      exact ⟨.ref _, _, I.laid (a := s.heap.objs.size) (o := .lst ((splS c z).map V.str)) (fun _ _ e => Heap.get?_push_of_some _ e) (Nat.le_refl _) ⟨by rw [List.length_map]; exact Nat.le_trans (splS_len c z) sl, strsFrom s.toks (splS c z), 0, strs_of _ _, Heap.get?_push_size _ rfl⟩, rfl, q _ I.fresh⟩
theorem mt_count : MtR X "str.count" (fun x xs H Q => ∃ z c, x = .str z ∧ xs = [.str ⟨#[c]⟩] ∧ Q (.int (((cps z).count c : Nat) : Int)) H) := by
  intro pins s σ H x xs v us Q I rx rs h
  obtain ⟨z, c, rfl, rfl, q⟩ := h
  obtain ⟨t, rfl⟩ := (show ∃ t, v = Value.str z t from rx)
  obtain ⟨u, rfl, ru⟩ := vals1 rs
  obtain ⟨t', rfl⟩ := (show ∃ t, u = Value.str ⟨#[c]⟩ t from ru)
  have e := occ_plc z c
  refine call_gives F.slot_str_count (typeIs_str _ _ _) F.entry_str_count (F.args_str_count_2 _ _) (gives_str_count z ⟨#[c]⟩ t t') ?_
  rw [e, plc_count]
  exact ⟨.int _, H, I.tok _, ⟨_, rfl⟩, q⟩
def rJoin (K : PySem.W.Frag) : V → List V → Hp → VK → Prop := fun x xs H Q => ∃ z l zs, x = .str z ∧ xs = [.ref l] ∧ SqL K H l (zs.map V.str) ∧ (zs.map (·.length)).sum + zs.length * z.length ≤ 16777216 ∧ Q (.str (Txt.join z zs)) H
theorem mt_join : MtR X "str.join" (rJoin X.K) := by
  intro pins s σ H x xs v us Q I rx rs h
  obtain ⟨z, l, zs, rfl, rfl, hl, hz, q⟩ := h
  obtain ⟨t, rfl⟩ := (show ∃ t, v = Value.str z t from rx)
  obtain ⟨u, rfl, ru⟩ := vals1 rs
  obtain rfl : u = Value.ref l := ru
  obtain ⟨its, r, pl, _⟩ := I.list hl
  exact join_list pl.isList (by simpa using strsAre_of r) hz fun t' k => ⟨.str _, H, I.tok _, ⟨_, rfl⟩, q⟩
theorem mt_zfill : MtR X "str.zfill" (fun x xs H Q => ∃ z n, x = .str z ∧ xs = [.int n] ∧ 0 ≤ n ∧ n ≤ 1000 ∧ (¬ n ≤ (z.length : Int) → (zfilled z (n.toNat - z.length)).length ≤ sizeLine) ∧ Q (.str (if n ≤ (z.length : Int) then z else zfilled z (n.toNat - z.length))) H) := by
  intro pins s σ H x xs v us Q I rx rs h
  obtain ⟨z, n, rfl, rfl, n0, n1, hz, q⟩ := h
  obtain ⟨t, rfl⟩ := (show ∃ t, v = Value.str z t from rx)
  obtain ⟨u, rfl, ru⟩ := vals1 rs
  obtain ⟨t', rfl⟩ := (show ∃ t, u = Value.int n t from ru)
  have hr : (decide (n < -(2 ^ 63 : Int)) || decide (n ≥ 2 ^ 63)) = false := by
    rw [Bool.or_eq_false_iff]
    exact ⟨decide_eq_false (by omega), decide_eq_false (by omega)⟩
  have hl : tooLong n.toNat = false := by
    have : (1000 : Nat) < sizeLine := by decide
    unfold tooLong
    exact decide_eq_false (by omega)
  refine call_gives F.slot_str_zfill (typeIs_str _ _ _) F.entry_str_zfill (F.args_str_zfill_2 _ _) (gives_str_zfill z n t t' hr hl) ?_
  by_cases c : n ≤ (z.length : Int)
  · rw [if_pos c] at q ⊢
    exact ⟨.str _, H, I, ⟨_, rfl⟩, q⟩
  · rw [if_neg c] at q ⊢
    exact ⟨hz c, .str _, H, I.tok _, ⟨_, rfl⟩, q⟩
/-- None or a tuple: equal -/
def rEqO (K : PySem.W.Frag) : R2 := fun x y H Q => (x = .non ∧ y = .non ∧ Q (.bl true) H) ∨ rEqT K x y H Q
theorem op_eqO (hu : X.A.units < cLine) : OpR X (compareOp .Eq) (rEqO X.K) := by
  intro pins s σ H x y v u Q I rx ry h
  rcases h with ⟨rfl, rfl, q⟩ | h
  · exact op_eq (X := X) pins s σ H .non .non v u Q I rx ry ⟨rfl, q⟩
  · exact op_eqT hu pins s σ H x y v u Q I rx ry h
end
end L2

set_option Elab.async false
set_option linter.all false
set_option maxRecDepth 100000
set_option maxHeartbeats 4000000
local macro_rules | `(tactic| walk_at "rd1") => `(tactic| first
  | with_reducible refine L2.rd_seq ?_ | with_reducible refine L2.rd_ret ?_ | with_reducible refine L2.rd_asg ?_ | with_reducible refine L2.rd_ifS ?_ | with_reducible refine L2.rd_next ?_ | with_reducible refine L2.rd_drop ?_
  | with_reducible refine L2.rd_op ?_ | ((with_reducible refine' L2.rd_var ?ev ?_); (case ev => exact rfl)) | with_reducible refine L2.rd_c ?_ | with_reducible refine L2.rd_un ?_ | with_reducible refine L2.rd_test ?_ | with_reducible refine L2.rd_b ?_
  | with_reducible refine L2.rd_i0 ?_ | with_reducible refine L2.rd_u ?_ | ((with_reducible refine' L2.rd_eq ?es ?_); (case es => exact rfl)) | ((with_reducible refine' L2.rd_ne ?es ?_); (case es => exact rfl))
  | with_reducible refine L2.rd_bl ?_ | with_reducible refine L2.rd_not ?_ | with_reducible refine L2.rd_and ?_ | with_reducible refine L2.rd_or ?_ | with_reducible refine L2.rd_andV ?_ | with_reducible refine L2.rd_orV ?_ | with_reducible refine L2.rd_notV ?_ | with_reducible refine L2.rd_chain ?_
  | with_reducible refine L2.rd_call ?_ | with_reducible refine L2.rd_cb ?_ | with_reducible refine L2.rd_nil ?_ | with_reducible refine L2.rd_cons ?_ | with_reducible refine L2.rd_tup ?_ | with_reducible refine L2.rd_lst ?_
  | with_reducible refine L2.rd_bm0 ?_ | with_reducible refine L2.rd_makeD ?_ | with_reducible refine L2.rd_fld ?_ | with_reducible refine L2.rd_sfld ?_ | with_reducible refine L2.rd_meth ?_ | with_reducible refine L2.rd_methL ?_ | with_reducible refine L2.rd_lr ?_ | with_reducible refine L2.rd_slice ?_ | with_reducible refine L2.rd_part ?_ | with_reducible refine L2.rd_exI ?_ | with_reducible refine L2.rd_noPart ?_ | with_reducible refine L2.rd_tru ?_ | with_reducible refine L2.rd_truI ?_ | with_reducible refine L2.rd_gsub ?_ | with_reducible refine L2.rd_bitsV ?_
  | with_reducible refine L2.rd_par ?_ | with_reducible refine L2.rd_gname ?_ | with_reducible refine L2.rd_gcons ?_ | with_reducible refine L2.rd_gnil ?_
  | ((with_reducible refine' L2.rd_i ?ec ?_); (case ec => first | ((with_reducible show L2.CPow _ _); exact ⟨by decide, by decide, by decide⟩) | ((with_reducible show L2.CDivB _ _); exact L2.cdiv_small (by decide) (by decide)) | (show (0 : Int) < _; first | decide | omega | exact L2.pow2_pos _))))
local macro_rules | `(tactic| walk_at "rd") => `(tactic| repeat walk_at "rd1")
local macro_rules | `(tactic| walk_at "fm") => `(tactic| (repeat (first | exact List.forall_mem_nil _ | refine List.forall_mem_cons.mpr ⟨by with_unfolding_all rfl, ?_⟩)))
local macro_rules | `(tactic| walk_at "rdi") => `(tactic| ((with_reducible refine' L2.rd_ixT ?hs1 ?he1 ?_); (case hs1 => first | assumption | exact L2.SqT.of (by assumption)); (case he1 => exact rfl)))
local macro_rules | `(tactic| walk_at "rdf") => `(tactic| ((with_reducible refine L2.rd_for ?_); (first | with_reducible refine L2.rd_iL ?_ | with_reducible refine L2.rd_iT ?_ | with_reducible refine L2.rd_rng1 ?_ | with_reducible refine L2.rd_rng2 ?_ | with_reducible refine L2.rd_rng3 ?_ | with_reducible refine L2.rd_rng2A ?_)))
local macro_rules | `(tactic| walk_at "rdx") => `(tactic| (repeat (first | walk_at "rd1" | with_reducible refine L2.rd_callE ?_ | with_reducible refine L2.rd_makeE ?_ | with_reducible refine L2.rd_methE ?_ | with_reducible refine L2.rd_methLE ?_ | with_reducible refine L2.rd_raise ?_ | with_reducible refine L2.rd_try ?_ | with_reducible refine L2.rd_xinit ?_ | with_reducible refine L2.rd_xf1 ?_ | with_reducible refine L2.rd_xf2 ?_ | with_reducible refine L2.rd_join ?_ | with_reducible refine L2.rd_xget ?_ | with_reducible refine L2.rd_ifE ?_)))
namespace Fw
open PySem L2 PyProof.Rows
def top (i : Nat) : Stmt := PySem.Challenge.pw_feastwheel_k71_dates_as_texts.main.body.getD i (.Pass ⟨0, 0, 0, 0⟩)
abbrev s_is_number : Stmt := top 7
abbrev s_read_number : Stmt := top 8
abbrev s_read_place : Stmt := top 9
abbrev s_read_date : Stmt := top 10
abbrev s_place_text : Stmt := top 11
abbrev s_date_text : Stmt := top 12
abbrev s_law_cell_at : Stmt := top 14
abbrev s_law_whole : Stmt := top 15
abbrev s_law_year : Stmt := top 16
abbrev s_law_part : Stmt := top 17
abbrev s_law_two : Stmt := top 18
abbrev s_law_odd : Stmt := top 19
abbrev s_law_free : Stmt := top 20
abbrev s_law_spoiled : Stmt := top 21
abbrev s_law_value : Stmt := top 22
abbrev s_law_due : Stmt := top 23
abbrev s_law_read : Stmt := top 24
abbrev s_law : Stmt := top 25
def spCell (K : PySem.W.Frag) : Sp := fun vs H Q _ => ∃ (a : Addr) (ns : List Int) (k : Int), vs = [.ref a, .int k] ∧ SqL K H a (ns.map V.int) ∧ 0 ≤ k ∧ ns.length ≤ 63 ∧ Q (.int (ns.getD k.toNat 0)) H
def spWhole : Sp := fun vs H Q _ => ∃ i : Int, vs = [.int i] ∧ Q (.bl true) H
theorem rd_cell {K : PySem.W.Frag} {a : Addr} {ns : List Int} {k : Int} {H : Hp} {Q : VK} {E : XK} (hS : SqL K H a (ns.map V.int)) (hl : ns.length ≤ 63) (hk : 0 ≤ k) (h : Q (.int (ns.getD k.toNat 0)) H) : spCell K ([.ref a, .int k] ++ []) H Q E := ⟨a, ns, k, rfl, hS, hk, hl, h⟩
theorem rd_whole {i : Int} {H : Hp} {Q : VK} {E : XK} (h : Q (.bl true) H) : spWhole ([.int i] ++ []) H Q E := ⟨i, rfl, h⟩
theorem kit_ib (K : PySem.W.Frag) : PySem.W.kitOne K (.type "int") (.type "bool") = some false := by first | rfl | decide +kernel | with_unfolding_all rfl
theorem at_ints {ns : List Int} {k : Int} (h0 : 0 ≤ k) (h : k < (ns.length : Int)) : atI (ns.map V.int) k = some (.int (ns.getD k.toNat 0)) := by
  have hk : k.toNat < ns.length := by omega
  have ek : k = ((k.toNat : Nat) : Int) := by omega
  have q : atI (ns.map V.int) ((k.toNat : Nat) : Int) = some (.int ns[k.toNat]) := atI_nat (by rw [List.getElem?_map, List.getElem?_eq_getElem hk] <;> rfl)
  rw [← ek] at q
  rw [q]
  simp [List.getD, hk]
theorem bt_of {x : Int} (h1 : -1000000000000000000000000000000000000000000000000000000000000 ≤ x) (h2 : x ≤ 1000000000000000000000000000000000000000000000000000000000000) : Bt 200 x := by
  unfold Bt
  have : (2 : Nat) ^ 200 = 1606938044258990275541962092341162602522202993782792835301376 := by decide
  omega
theorem two' {a b : V} : ([a, b] : List V).length ≤ sizeLine := by show 2 ≤ sizeLine; decide
theorem kit_tt (K : PySem.W.Frag) : PySem.W.kitOne K (.type "tuple") (.type "tuple") = some true := by unfold PySem.W.kitOne; rw [if_pos (by simp)]
local macro_rules | `(tactic| walk_at "rdc") => `(tactic| (repeat (first | walk_at "rd1" | ((with_reducible refine' Fw.rd_cell ?hc1 ?hc2 ?hc3 ?_); (case hc1 => assumption); (case hc2 => assumption); (case hc3 => decide)) | with_reducible refine Fw.rd_whole ?_)))
local macro_rules | `(tactic| walk_at "rdy") => `(tactic| (repeat (first | walk_at "rd1" | ((with_reducible refine' Fw.rd_cell ?hc1 ?hc2 ?hc3 ?_); (case hc1 => assumption); (case hc2 => assumption); (case hc3 => decide)) | with_reducible refine Fw.rd_whole ?_ | with_reducible refine L2.rd_callE ?_ | with_reducible refine L2.rd_raise ?_ | with_reducible refine L2.rd_try ?_ | with_reducible refine L2.rd_xget ?_ | with_reducible refine L2.rd_ifE ?_)))
def cpl (z : Str) : List Nat := z.cps.toList
theorem str_ext {y z : Str} (h : cpl y = cpl z) : y = z := by
  cases y
  cases z
  simp only [cpl] at h
  exact congrArg Str.mk (Array.toList_inj.mp h)
def figs (cs : List Nat) : List Nat := if cs.head? = some 45 then cs.drop 1 else cs
structure IsNum (cs : List Nat) : Prop where
  lo : 1 ≤ (figs cs).length
  hi : (figs cs).length ≤ 60
  dg : ∀ c ∈ figs cs, 48 ≤ c ∧ c ≤ 57
  z0 : (figs cs).head? = some 48 → cs = [48]
def numVal (cs : List Nat) : Int := if cs.head? = some 45 then -((PySem.NumText.digitsVal (figs cs) : Nat) : Int) else ((PySem.NumText.digitsVal (figs cs) : Nat) : Int)
theorem len_cpl (z : Str) : (cpl z).length = z.length := Array.length_toList
theorem int_reads {z : Str} (h : IsNum (cpl z)) : PySem.intText? z = some (numVal (cpl z)) := by
  have hl : z.length ≤ 4300 := by
    have := h.hi
    rw [← len_cpl]
    unfold figs at this
    split at this
    · rw [List.length_drop] at this; omega
    · omega
  unfold numVal
  by_cases e : (cpl z).head? = some 45
  · rw [if_pos e]
    have ef : figs (cpl z) = (cpl z).drop 1 := by unfold figs; rw [if_pos e]
    have hz : z.cps.toList = 45 :: (cpl z).drop 1 := by
      show cpl z = _
      generalize cpl z = cs at e
      cases cs with
      | nil => cases e
      | cons a r =>
        injection e with e
        rw [e]
        rfl
    rw [ef]
    refine PySem.intText_neg hz (fun c hc => h.dg c (by rw [ef]; exact hc)) (fun z0 => ?_) hl
    have := h.lo
    rw [ef, z0] at this
    simp at this
  · rw [if_neg e]
    have ef : figs (cpl z) = cpl z := by unfold figs; rw [if_neg e]
    rw [ef]
    refine PySem.intText_digits (fun c hc => h.dg c (by rw [ef]; exact hc)) (fun z0 => ?_) hl
    have := h.lo
    rw [ef] at this
    have z1 : cpl z = [] := z0
    rw [z1] at this
    simp at this
theorem slice_from1 {z : Str} (h : 1 ≤ z.length) : cpl (Txt.slice z (some 1) none) = (cpl z).drop 1 := by
  rw [slice_from_eq (b := (z.length : Int)) (by decide) (by omega) rfl]
  show ((List.drop 1 z.cps.toList).take ((z.length : Int) - 1).toNat) = _
  rw [List.take_of_length_le]
  · rfl
  · rw [List.length_drop]
    have : z.cps.toList.length = z.length := len_cpl z
    omega
theorem slice_to1 (z : Str) : cpl (Txt.slice z none (some 1)) = (cpl z).take 1 := by
  by_cases h : 1 ≤ z.length
  · have e := slice_closes_toL (x := z) (j := 1) (by decide) (by omega)
    rw [eq_of_beq e]
    rfl
  · have e0 : (cpl z).length = 0 := by rw [len_cpl]; omega
    have e1 : (cpl (Txt.slice z none (some 1))).length = 0 := by
      have := Txt.slice_le z none (some 1)
      rw [len_cpl]
      omega
    rw [List.length_eq_zero_iff.mp e0, List.length_eq_zero_iff.mp e1]
    rfl
theorem slice_mem {z : Str} {lo hi : Option Int} {c : Nat} (h : c ∈ cpl (Txt.slice z lo hi)) : c ∈ cpl z := by
  unfold Txt.slice at h
  split at h
  · exact h
  · simp only [cpl] at h
    obtain ⟨i, _, hi⟩ := List.mem_filterMap.mp h
    have hi' : z.cps.toList[i]? = some c := by rw [Array.getElem?_toList]; exact hi
    exact List.mem_of_getElem? hi'
theorem asc_iff {z : Str} : asc z = true ↔ ∀ c ∈ cpl z, c < 128 := by
  unfold asc cpl
  rw [Array.all_eq_true']
  simp [Array.mem_toList_iff]
theorem starts_minus {z : Str} (h : 1 ≤ z.length ∨ True) : Txt.startswith z "-" = decide ((cpl z).head? = some 45) := by
  have ey : (Str.ofString "-") = ⟨#[45]⟩ := by decide +kernel
  rw [ey]
  unfold Txt.startswith Builtin.Str.subAt
  show (decide (0 + 1 ≤ z.length) && (z.cps.extract 0 (0 + 1) == #[45])) = _
  rw [Bool.eq_iff_iff, Bool.and_eq_true, decide_eq_true_eq, decide_eq_true_eq, beq_iff_eq]
  have el : (cpl z).length = z.length := len_cpl z
  have ex : (z.cps.extract 0 (0 + 1)).toList = (cpl z).take 1 := by
    rw [Array.toList_extract]
    simp [cpl, List.extract_eq_drop_take]
  constructor
  · rintro ⟨_, e⟩
    rw [e] at ex
    generalize cpl z = cs at ex
    cases cs with
    | nil => cases ex
    | cons a r =>
      injection ex with e1 _
      rw [e1]
      rfl
  · intro e
    cases hc : cpl z with
    | nil => rw [hc] at e; cases e
    | cons a r =>
      rw [hc] at e ex el
      injection e with e
      rw [List.length_cons] at el
      refine ⟨by omega, Array.toList_inj.mp ?_⟩
      rw [ex, e]
      rfl
theorem dig_mem (c : Nat) : c ∈ cpl (Str.ofString "0123456789") ↔ 48 ≤ c ∧ c ≤ 57 := by
  have e : cpl (Str.ofString "0123456789") = [48, 49, 50, 51, 52, 53, 54, 55, 56, 57] := by decide +kernel
  rw [e]
  simp only [List.mem_cons, List.not_mem_nil, or_false]
  omega
theorem in_dig (c : Nat) : (!(Builtin.Str.occurrences (Str.ofString "0123456789") ⟨#[c]⟩ 0 (Str.ofString "0123456789").length 1).isEmpty) = decide (48 ≤ c ∧ c ≤ 57) := by
  rw [StrLaws.found_one, Bool.eq_iff_iff, decide_eq_true_eq, decide_eq_true_eq]
  exact dig_mem c
/-- a text that may be handed in -/
structure TOk (z : Str) : Prop where
  asc : asc z = true
  len : z.length ≤ 1000000
theorem TOk.fit {z : Str} (h : TOk z) : z.length ≤ sizeLine := Nat.le_trans h.len (by decide)
theorem TOk.slice {z : Str} (h : TOk z) (lo hi : Option Int) : TOk (Txt.slice z lo hi) := ⟨asc_iff.mpr fun c hc => asc_iff.mp h.asc c (slice_mem hc), Nat.le_trans (Txt.slice_le z lo hi) h.len⟩
/-- what may be handed in -/
inductive Hnd (H : Hp) : V → Prop
  | txt (z : Str) : TOk z → Hnd H (.str z)
  | non : Hnd H .non
  | int (i : Int) : Hnd H (.int i)
  | tup (a : Addr) (xs : List V) : H a = some (.tup xs) → Hnd H (.ref a)
  | lst (a : Addr) (xs : List V) : H a = some (.lst xs) → Hnd H (.ref a)
theorem Hnd.keep {H H' : Hp} {v : V} (h : Hnd H v) (s : Same H H') : Hnd H' v := by
  cases h with
  | txt z hz => exact .txt z hz
  | non => exact .non
  | int i => exact .int i
  | tup a xs e => exact .tup a xs (s _ _ e)
  | lst a xs e => exact .lst a xs (s _ _ e)
def isT (v : V) : Bool := match v with | .str _ => true | _ => false
theorem kit_ss (K : PySem.W.Frag) : PySem.W.kitOne K (.type "str") (.type "str") = some true := by unfold PySem.W.kitOne; rw [if_pos (by simp)]
theorem kit_ns (K : PySem.W.Frag) : PySem.W.kitOne K (.type "NoneType") (.type "str") = some false := by first | rfl | decide +kernel | with_unfolding_all rfl
theorem kit_is' (K : PySem.W.Frag) : PySem.W.kitOne K (.type "int") (.type "str") = some false := by first | rfl | decide +kernel | with_unfolding_all rfl
theorem kit_ts (K : PySem.W.Frag) : PySem.W.kitOne K (.type "tuple") (.type "str") = some false := by first | rfl | decide +kernel | with_unfolding_all rfl
theorem kit_ls (K : PySem.W.Frag) : PySem.W.kitOne K (.type "list") (.type "str") = some false := by first | rfl | decide +kernel | with_unfolding_all rfl
theorem rd_isS {K : PySem.W.Frag} {H : Hp} {v : V} {Q : VK} (h : Hnd H v) (q : Q (.bl (isT v)) H) : rIsi K [v, .ty "str"] H Q := by
  cases h with
  | txt z hz => exact rd_isi (.str z) (kit_ss K) q
  | non => exact rd_isi .non (kit_ns K) q
  | int i => exact rd_isi (.int i) (kit_is' K) q
  | tup a xs e => exact rd_isi (.tup e) (kit_ts K) q
  | lst a xs e => exact rd_isi (.lst e) (kit_ls K) q
def spIsNum : Sp := fun vs H Q _ => ∃ z : Str, vs = [.str z] ∧ TOk z ∧ ∀ (v : Bool) (H' : Hp), Same H H' → (v = true ↔ IsNum (cpl z)) → Q (.bl v) H'
def isN (v : V) : Prop := ∃ z, v = .str z ∧ IsNum (cpl z)
def ENum (cN : Addr) (H : Hp) (E : XK) : Prop := ∀ H', Same H H' → E (.ref cN) none H'
def spReadN (cT : Addr) : Sp := fun vs H Q E => ∃ v : V, vs = [v] ∧ Hnd H v ∧ (∀ (z : Str) (H' : Hp), Same H H' → v = .str z → IsNum (cpl z) → Q (.int (numVal (cpl z))) H') ∧ (¬ isN v → ENum cT H E)
theorem cpl_app (a b : Str) : cpl (a ++ b) = cpl a ++ cpl b := by
  show (a.cps ++ b.cps).toList = _
  rw [Array.toList_append]
  rfl
theorem asc_app {a b : Str} (h1 : asc a = true) (h2 : asc b = true) : asc (a ++ b) = true := asc_iff.mpr fun c hc => by
  rw [cpl_app] at hc
  rcases List.mem_append.mp hc with h | h
  · exact asc_iff.mp h1 c h
  · exact asc_iff.mp h2 c h
theorem len_app (a b : Str) : (a ++ b).length = a.length + b.length := by
  rw [← len_cpl, cpl_app, List.length_append, len_cpl, len_cpl]
/-- a text of at most k signs -/
structure TL (k : Nat) (z : Str) : Prop where
  asc : asc z = true
  len : z.length ≤ k
theorem TL.app {k m : Nat} {a b : Str} (h1 : TL k a) (h2 : TL m b) : TL (k + m) (a ++ b) := ⟨asc_app h1.asc h2.asc, by rw [len_app]; have := h1.len; have := h2.len; omega⟩
theorem TL.mono {k m : Nat} {a : Str} (h1 : TL k a) (h : k ≤ m) : TL m a := ⟨h1.asc, Nat.le_trans h1.len h⟩
theorem TL.ok {k : Nat} {a : Str} (h1 : TL k a) (h : k ≤ 1000000) : TOk a := ⟨h1.asc, Nat.le_trans h1.len h⟩
theorem TL.slice {k : Nat} {z : Str} (h : TL k z) (lo hi : Option Int) : TL k (Txt.slice z lo hi) := ⟨asc_iff.mpr fun c hc => asc_iff.mp h.asc c (slice_mem hc), Nat.le_trans (Txt.slice_le z lo hi) h.len⟩
theorem TL.sign {c : Nat} (h : c < 128) : TL 1 ⟨#[c]⟩ := ⟨asc_iff.mpr fun d hd => by
  have : d = c := by simpa [cpl] using hd
  omega, Nat.le_refl _⟩
theorem digs_asc (m : Nat) : ∀ c ∈ (Nat.toDigits 10 m).map Char.toNat, c < 128 := fun c hc => by
  obtain ⟨ch, hch, e⟩ := List.mem_map.mp hc
  have r := digit_range (Nat.isDigit_of_mem_toDigits (by decide) (by decide) hch)
  omega
theorem TL.int {i : Int} (h : i.natAbs.log2 < 1920) : TL 1921 (intT i) := by
  refine ⟨asc_iff.mpr fun c hc => ?_, intT_len h⟩
  unfold intT cpl at hc
  rw [signs_ofString] at hc
  cases i with
  | ofNat m =>
    have e : (toString (Int.ofNat m)).toList = Nat.toDigits 10 m := by
      show (Nat.repr m).toList = _
      rw [Nat.toList_repr]
    rw [e] at hc
    exact digs_asc m c hc
  | negSucc m =>
    have e : (toString (Int.negSucc m)).toList = '-' :: Nat.toDigits 10 (m + 1) := by
      show ("-" ++ Nat.repr (m + 1)).toList = _
      rw [String.toList_append, Nat.toList_repr]
      rfl
    rw [e, List.map_cons] at hc
    rcases List.mem_cons.mp hc with h | h
    · have : ('-' : Char).toNat = 45 := by decide
      omega
    · exact digs_asc (m + 1) c h
theorem log_small {i : Int} (h1 : -1000000000000000000000000000000000000000000000000000000000000 ≤ i) (h2 : i ≤ 1000000000000000000000000000000000000000000000000000000000000) : i.natAbs.log2 < 1920 := by
  have b : Bt 200 i := bt_of h1 h2
  unfold Bt at b
  by_cases z : i.natAbs = 0
  · rw [z]; decide
  · exact Nat.lt_of_lt_of_le ((Nat.log2_lt z).mpr b) (by decide)
theorem p60 : (10 : Int) ^ (60 : Int).toNat = 1000000000000000000000000000000000000000000000000000000000000 := by decide
theorem mem_at {xs : List V} {i : Int} (h0 : 0 ≤ i) (h1 : i < (xs.length : Int)) : ∃ v, atI xs i = some v ∧ v ∈ xs := by
  have hk : i.toNat < xs.length := by omega
  refine ⟨xs[i.toNat], ?_, List.getElem_mem hk⟩
  have := atI_nat (xs := xs) (j := i.toNat) (v := xs[i.toNat]) (by simp [hk])
  rwa [show ((i.toNat : Nat) : Int) = i by omega] at this
/-- an item of a list of texts -/
def isTL (k : Nat) (v : V) : Bool := match v with | .str z => asc z && decide (z.length ≤ k) | _ => false
theorem isTL_iff {k : Nat} {v : V} (h : isTL k v = true) : ∃ z, v = .str z ∧ TL k z := by
  cases v with
  | str z =>
    have h' : (asc z && decide (z.length ≤ k)) = true := h
    rw [Bool.and_eq_true, decide_eq_true_eq] at h'
    exact ⟨z, rfl, h'.1, h'.2⟩
  | _ => cases h
theorem at_texts {k : Nat} {xs : List V} {i : Int} (hx : xs.all (isTL k) = true) (h0 : 0 ≤ i) (h1 : i < (xs.length : Int)) : ∃ z, atI xs i = some (.str z) ∧ TL k z := by
  obtain ⟨v, hv, hm⟩ := mem_at h0 h1
  obtain ⟨z, rfl, hz⟩ := isTL_iff (List.all_eq_true.mp hx v hm)
  exact ⟨z, hv, hz⟩
def spOddT : Sp := fun vs H Q _ => ∃ x : Int, vs = [.int x] ∧ ∀ (z : Str) (H' : Hp), Same H H' → TL 100 z → Q (.str z) H'
def spFreeT : Sp := fun vs H Q _ => ∃ (x : Int) (z : Str), vs = [.int x, .str z] ∧ TL 1000 z ∧ 1 ≤ z.length ∧ ∀ y, TL 1000 y → Q (.str y) H
theorem mul_mem {z : Str} {n : Int} {c : Nat} (h : c ∈ cpl (Txt.mul z n)) : c ∈ cpl z := by
  unfold Txt.mul at h
  split at h
  · have : cpl Str.empty = [] := by decide
    rw [this] at h
    cases h
  · split at h
    · exact h
    · have gen : ∀ (k : Nat) (acc : Array Nat), (∀ c ∈ acc.toList, c ∈ cpl z) → ∀ c ∈ ((List.replicate k z.cps).foldl (· ++ ·) acc).toList, c ∈ cpl z := by
        intro k
        induction k with
        | zero => intro acc ha c hc; exact ha c hc
        | succ k ih =>
          intro acc ha c hc
          rw [List.replicate_succ, List.foldl_cons] at hc
          refine ih _ (fun d hd => ?_) c hc
          rw [Array.toList_append] at hd
          rcases List.mem_append.mp hd with x | x
          · exact ha d x
          · exact x
      exact gen n.toNat #[] (by simp) c h
theorem mul_len (z : Str) (k : Nat) : ∀ acc : Array Nat, ((List.replicate k z.cps).foldl (· ++ ·) acc).size = acc.size + k * z.length := by
  induction k with
  | zero => intro acc; simp
  | succ k ih =>
    intro acc
    rw [List.replicate_succ, List.foldl_cons, ih, Array.size_append, Nat.succ_mul]
    show acc.size + z.length + _ = _
    omega
theorem TL.mul {k : Nat} {z : Str} {n : Int} (h : TL k z) (hn : n ≤ 10) : TL (10 * k) (Txt.mul z n) := by
  refine ⟨asc_iff.mpr fun c hc => asc_iff.mp h.asc c (mul_mem hc), ?_⟩
  have hl := h.len
  unfold Txt.mul
  split
  · show 0 ≤ _
    omega
  · split
    · omega
    · show ((List.replicate n.toNat z.cps).foldl (· ++ ·) #[]).size ≤ _
      rw [mul_len]
      have : n.toNat * z.length ≤ 10 * k := Nat.mul_le_mul (by omega) hl
      simpa using this
theorem four {a b c d : V} : ([a, b, c, d] : List V).length ≤ sizeLine := by show 4 ≤ sizeLine; decide
theorem digitsVal_snoc' (cs : List Nat) (c : Nat) : PySem.NumText.digitsVal (cs ++ [c]) = PySem.NumText.digitsVal cs * 10 + (c - 48) := by
  unfold PySem.NumText.digitsVal
  rw [List.foldl_append]
  rfl
theorem digitsVal_lt : ∀ (k : Nat) (cs : List Nat), cs.length = k → (∀ c ∈ cs, 48 ≤ c ∧ c ≤ 57) → PySem.NumText.digitsVal cs < 10 ^ k := by
  intro k
  induction k with
  | zero =>
    intro cs h _
    rw [List.length_eq_zero_iff.mp h]
    decide
  | succ k ih =>
    intro cs h hd
    have hne : cs ≠ [] := fun z => by rw [z] at h; cases h
    obtain ⟨r, c, rfl⟩ : ∃ r c, cs = r ++ [c] := ⟨cs.dropLast, cs.getLast hne, (List.dropLast_concat_getLast hne).symm⟩
    rw [List.length_append, List.length_singleton] at h
    have i1 := ih r (by omega) fun d hd' => hd d (List.mem_append_left _ hd')
    have c1 := hd c (List.mem_append_right _ (List.mem_singleton.mpr rfl))
    rw [digitsVal_snoc', Nat.pow_succ]
    omega
theorem dT (n : Nat) : cpl (intT (n : Int)) = (Nat.toDigits 10 n).map Char.toNat := by
  unfold intT cpl
  rw [signs_ofString]
  have e : (toString (Int.ofNat n)).toList = Nat.toDigits 10 n := by
    show (Nat.repr n).toList = _
    rw [Nat.toList_repr]
  exact congrArg (List.map Char.toNat) e
theorem ofNat_toNat {cs : List Nat} (h : ∀ c ∈ cs, 48 ≤ c ∧ c ≤ 57) : (cs.map Char.ofNat).map Char.toNat = cs := by
  rw [List.map_map]
  conv => rhs; rw [← List.map_id cs]
  refine List.map_congr_left fun c hc => ?_
  have := h c hc
  rcases (by omega : c = 48 ∨ c = 49 ∨ c = 50 ∨ c = 51 ∨ c = 52 ∨ c = 53 ∨ c = 54 ∨ c = 55 ∨ c = 56 ∨ c = 57) with e | e | e | e | e | e | e | e | e | e <;> subst e <;> rfl
theorem canon {cs : List Nat} (h : ∀ c ∈ cs, 48 ≤ c ∧ c ≤ 57) (ne : cs ≠ []) (z : cs.head? = some 48 → cs = [48]) : cpl (intT ((PySem.NumText.digitsVal cs : Nat) : Int)) = cs := by
  rw [dT]
  obtain ⟨c, r, rfl⟩ : ∃ c r, cs = c :: r := by
    cases cs with
    | nil => exact absurd rfl ne
    | cons c r => exact ⟨c, r, rfl⟩
  have hc := h c List.mem_cons_self
  rw [PySem.NumText.toDigits_digitsVal r.length (c :: r) (by simp) h (by
    by_cases e : c = 48
    · have := z (by rw [e]; rfl)
      injection this with _ e2
      exact .inl (by rw [e2]; rfl)
    · exact .inr ⟨c, r, rfl, by omega⟩)]
  exact ofNat_toNat h
theorem canon_iff {cs : List Nat} (h : ∀ c ∈ cs, 48 ≤ c ∧ c ≤ 57) (ne : cs ≠ []) : cpl (intT ((PySem.NumText.digitsVal cs : Nat) : Int)) = cs ↔ (cs.head? = some 48 → cs = [48]) := by
  refine ⟨fun e z => ?_, canon h ne⟩
  refine Classical.byContradiction fun hn => ?_
  obtain ⟨r, rfl⟩ : ∃ r, cs = 48 :: r := by
    cases cs with
    | nil => exact absurd rfl ne
    | cons c r =>
      injection z with z
      exact ⟨r, by rw [z]⟩
  have rn : r ≠ [] := fun y => hn (by rw [y])
  have dr : ∀ c ∈ r, 48 ≤ c ∧ c ≤ 57 := fun c hc => h c (List.mem_cons_of_mem _ hc)
  have ev : PySem.NumText.digitsVal (48 :: r) = PySem.NumText.digitsVal r := rfl
  rw [dT, ev, PySem.NumText.toDigits_all r dr] at e
  have l : r.length + 1 = (match r.dropWhile (· == 48) with | [] => ['0'] | c :: r => (c :: r).map Char.ofNat).length := by
    have := congrArg List.length e
    rw [List.length_map, List.length_cons] at this
    exact this.symm
  have d : (r.dropWhile (· == 48)).length ≤ r.length := (List.dropWhile_sublist _).length_le
  have r1 : 1 ≤ r.length := by
    cases r with
    | nil => exact absurd rfl rn
    | cons _ _ => simp
  cases hd : r.dropWhile (· == 48) with
  | nil =>
    rw [hd] at l
    have l' : r.length + 1 = 1 := l
    omega
  | cons a b =>
    rw [hd] at l d
    have l' : r.length + 1 = ((a :: b).map Char.ofNat).length := l
    rw [List.length_map] at l'
    omega
theorem int_digits (n : Nat) : (∀ c ∈ cpl (intT (n : Int)), 48 ≤ c ∧ c ≤ 57) ∧ cpl (intT (n : Int)) ≠ [] ∧ PySem.NumText.digitsVal (cpl (intT (n : Int))) = n := by
  rw [dT]
  refine ⟨fun c hc => ?_, fun e => ?_, PySem.W.KIN.val_back n⟩
  · obtain ⟨ch, hch, e⟩ := List.mem_map.mp hc
    have r := digit_range (Nat.isDigit_of_mem_toDigits (by decide) (by decide) hch)
    omega
  · have := congrArg List.length e
    rw [List.length_map] at this
    have p := Nat.length_toDigits_pos (b := 10) (n := n)
    rw [List.length_nil] at this
    omega
/-- a month or a day as a text -/
def Two (w : List Nat) : Prop := w.length = 2 ∧ w.head? = some 48
instance (w : List Nat) : Decidable (Two w) := by unfold Two; infer_instance
structure PlcT (w : List Nat) : Prop where
  num : IsNum (if Two w then w.drop 1 else w)
  low : (if Two w then 1 else 10) ≤ numVal (if Two w then w.drop 1 else w)
def plcVal (w : List Nat) : Int := numVal (if Two w then w.drop 1 else w)
/-- what the law takes for a part: figures, and the text by two figures of its value -/
structure Figs (w : List Nat) : Prop where
  lo : 1 ≤ w.length
  hi : w.length ≤ 60
  dg : ∀ c ∈ w, 48 ≤ c ∧ c ≤ 57
def twoT (n : Nat) : List Nat := if (cpl (intT (n : Int))).length < 2 then 48 :: cpl (intT (n : Int)) else cpl (intT (n : Int))
theorem figs_pos {cs : List Nat} (h : cs.head? ≠ some 45) : figs cs = cs := by unfold figs; rw [if_neg h]
theorem val_pos {cs : List Nat} (h : cs.head? ≠ some 45) : numVal cs = ((PySem.NumText.digitsVal cs : Nat) : Int) := by unfold numVal; rw [if_neg h, figs_pos h]
theorem dg_head {cs : List Nat} (h : ∀ c ∈ cs, 48 ≤ c ∧ c ≤ 57) : cs.head? ≠ some 45 := by
  cases cs with
  | nil => exact fun z => nomatch z
  | cons a r =>
    intro z
    injection z with z
    have := h a List.mem_cons_self
    omega
theorem val_lt10 {c : Nat} (h : 48 ≤ c ∧ c ≤ 57) : PySem.NumText.digitsVal [c] = c - 48 := by
  show 0 * 10 + (c - 48) = c - 48
  omega
theorem len_small {n : Nat} : (cpl (intT (n : Int))).length < 2 ↔ n < 10 := by
  rw [dT, List.length_map]
  constructor
  · intro h
    refine Classical.byContradiction fun z => ?_
    have p := Nat.toDigits_append_toDigits (b := 10) (n := n / 10) (d := n % 10) (by decide) (by omega) (Nat.mod_lt _ (by decide))
    rw [Nat.div_add_mod] at p
    have q := congrArg List.length p
    rw [List.length_append] at q
    have a := Nat.length_toDigits_pos (b := 10) (n := n / 10)
    have b := Nat.length_toDigits_pos (b := 10) (n := n % 10)
    omega
  · intro h
    rw [Nat.toDigits_of_lt_base h]
    show 1 < 2
    decide
/-- the two ways to say what a month or a day is -/
theorem plc_iff (w : List Nat) : PlcT w ↔ Figs w ∧ 1 ≤ PySem.NumText.digitsVal w ∧ w = twoT (PySem.NumText.digitsVal w) := by
  constructor
  · intro p
    by_cases t : Two w
    · have num := p.num
      have low := p.low
      rw [if_pos t] at num low
      rw [if_pos t] at low
      obtain ⟨a, d, rfl⟩ : ∃ a d, w = [a, d] := by
        match w, t.1 with
        | [a, d], _ => exact ⟨a, d, rfl⟩
      obtain rfl : a = 48 := by
        have := t.2
        injection this
      have num' : IsNum [d] := num
      have low' : 1 ≤ numVal [d] := low
      have h45 : ([d] : List Nat).head? ≠ some 45 := by
        intro z
        injection z with z
        subst z
        have := num'.lo
        simp [figs] at this
      have dd := num'.dg d (by rw [figs_pos h45]; exact List.mem_singleton.mpr rfl)
      rw [val_pos h45, val_lt10 dd] at low'
      have ev : PySem.NumText.digitsVal [48, d] = d - 48 := val_lt10 dd
      refine ⟨⟨by show 1 ≤ 2; decide, by show 2 ≤ 60; decide, fun c hc => ?_⟩, by rw [ev]; omega, ?_⟩
      · rcases List.mem_cons.mp hc with e | e
        · rw [e]; decide
        · cases List.mem_singleton.mp e
          exact dd
      · rw [ev]
        unfold twoT
        rw [if_pos (len_small.mpr (by omega))]
        have c1 := canon (cs := [d]) (fun c hc => by cases List.mem_singleton.mp hc; exact dd) (by simp) (fun z => by injection z with z; rw [z])
        rw [val_lt10 dd] at c1
        rw [c1]
    · have num := p.num
      have low := p.low
      rw [if_neg t] at num low
      rw [if_neg t] at low
      have h45 : w.head? ≠ some 45 := by
        intro z
        unfold numVal at low
        rw [if_pos z] at low
        omega
      have f := figs_pos h45
      have lo := num.lo
      have hi := num.hi
      have dg := num.dg
      rw [f] at lo hi dg
      rw [val_pos h45] at low
      refine ⟨⟨lo, hi, dg⟩, by omega, ?_⟩
      unfold twoT
      rw [if_neg (fun z => by have := len_small.mp z; omega)]
      have ne : w ≠ [] := fun z => by rw [z] at lo; simp at lo
      exact (canon dg ne fun z => num.z0 (by rw [f]; exact z)).symm
  · rintro ⟨fg, v1, e⟩
    have ne : w ≠ [] := fun z => by have := fg.lo; rw [z] at this; simp at this
    have id := int_digits (PySem.NumText.digitsVal w)
    unfold twoT at e
    by_cases s : (cpl (intT ((PySem.NumText.digitsVal w : Nat) : Int))).length < 2
    · rw [if_pos s] at e
      have s10 := len_small.mp s
      obtain ⟨d, hd⟩ : ∃ d, cpl (intT ((PySem.NumText.digitsVal w : Nat) : Int)) = [d] := by
        have ne' := id.2.1
        match hh : cpl (intT ((PySem.NumText.digitsVal w : Nat) : Int)) with
        | [] => exact absurd hh ne'
        | [d] => exact ⟨d, rfl⟩
        | a :: b :: r => rw [hh] at s; simp at s; omega
      rw [hd] at e
      have dd : 48 ≤ d ∧ d ≤ 57 := id.1 d (by rw [hd]; exact List.mem_singleton.mpr rfl)
      have t : Two w := by rw [e]; exact ⟨rfl, rfl⟩
      have ed : w.drop 1 = [d] := by rw [e]; rfl
      have vd : PySem.NumText.digitsVal [d] = PySem.NumText.digitsVal w := by
        have := id.2.2
        rw [hd] at this
        exact this
      have h45 : ([d] : List Nat).head? ≠ some 45 := dg_head (fun c hc => by cases List.mem_singleton.mp hc; exact dd)
      refine ⟨?_, ?_⟩
      · rw [if_pos t, ed]
        refine ⟨by rw [figs_pos h45]; show 1 ≤ 1; decide, by rw [figs_pos h45]; show 1 ≤ 60; decide, fun c hc => ?_, fun z => ?_⟩
        · rw [figs_pos h45] at hc
          cases List.mem_singleton.mp hc
          exact dd
        · rw [figs_pos h45] at z
          injection z with z
          rw [z]
      · rw [if_pos t, if_pos t, ed, val_pos h45, vd]
        omega
    · rw [if_neg s] at e
      have h45 := dg_head fg.dg
      have c := (canon_iff fg.dg ne).mp e.symm
      have s10 : ¬ PySem.NumText.digitsVal w < 10 := fun z => s (len_small.mpr z)
      have t : ¬ Two w := fun z => by
        have := c z.2
        rw [this] at s10
        exact s10 (by decide)
      refine ⟨?_, ?_⟩
      · rw [if_neg t]
        exact ⟨by rw [figs_pos h45]; exact fg.lo, by rw [figs_pos h45]; exact fg.hi, by rw [figs_pos h45]; exact fg.dg, fun z => c (by rw [figs_pos h45] at z; exact z)⟩
      · rw [if_neg t, if_neg t, val_pos h45]
        omega
theorem plc_val {w : List Nat} (p : PlcT w) : plcVal w = ((PySem.NumText.digitsVal w : Nat) : Int) := by
  unfold plcVal
  by_cases t : Two w
  · rw [if_pos t]
    have num := p.num
    rw [if_pos t] at num
    obtain ⟨a, d, rfl⟩ : ∃ a d, w = [a, d] := by
      match w, t.1 with
      | [a, d], _ => exact ⟨a, d, rfl⟩
    obtain rfl : a = 48 := by
      have := t.2
      injection this
    have h45 : ([d] : List Nat).head? ≠ some 45 := by
      intro z
      injection z with z
      subst z
      have := (show IsNum [45] from num).lo
      simp [figs] at this
    exact val_pos h45
  · rw [if_neg t]
    exact val_pos (dg_head ((plc_iff w).mp p).1.dg)
/-- a date as a text -/
structure DateT (cs : List Nat) (a b c : List Nat) : Prop where
  cut : spl 47 cs = [a, b, c]
  y : IsNum a
  m : PlcT b
  d : PlcT c
theorem TOk.part {z : Str} (h : TOk z) {c : Nat} {p : List Nat} (hp : p ∈ spl c (cpl z)) (hs : ∀ a ∈ p, a ∈ cpl z) : TOk (⟨p.toArray⟩ : Str) := by
  refine ⟨asc_iff.mpr fun a ha => asc_iff.mp h.asc a (hs a ha), ?_⟩
  have l := spl_len c (cpl z) p hp
  rw [len_cpl] at l
  have : (⟨p.toArray⟩ : Str).length = p.length := by rw [← len_cpl]; rfl
  have := h.len
  omega
theorem spl_mem (c : Nat) : ∀ (l p : List Nat), p ∈ spl c l → ∀ a ∈ p, a ∈ l
  | [], p, hp, a, ha => by
    cases List.mem_singleton.mp hp
    cases ha
  | x :: l, p, hp, a, ha => by
    have ih := spl_mem c l
    by_cases h : x = c
    · subst h
      rw [spl_at] at hp
      rcases List.mem_cons.mp hp with e | e
      · rw [e] at ha; cases ha
      · exact List.mem_cons_of_mem _ (ih p e a ha)
    · rw [spl_not _ h] at hp
      rw [spl_eta c l] at ih
      rcases List.mem_cons.mp hp with e | e
      · rw [e] at ha
        rcases List.mem_cons.mp ha with y | y
        · rw [y]; exact List.mem_cons_self
        · exact List.mem_cons_of_mem _ (ih _ List.mem_cons_self a y)
      · exact List.mem_cons_of_mem _ (ih p (List.mem_cons_of_mem _ e) a ha)
def spReadPl (cT : Addr) : Sp := fun vs H Q E => ∃ z : Str, vs = [.str z] ∧ TOk z ∧ (PlcT (cpl z) → ∀ H', Same H H' → Q (.int (plcVal (cpl z))) H') ∧ (¬ PlcT (cpl z) → ENum cT H E)
def isDT (v : V) : Prop := ∃ z a b c, v = .str z ∧ DateT (cpl z) a b c
def spReadD (cT : Addr) : Sp := fun vs H Q E => ∃ v : V, vs = [v] ∧ Hnd H v ∧ (∀ (z : Str) (a b c : List Nat) (p : Addr) (H' : Hp), v = .str z → DateT (cpl z) a b c → Same H H' → H' p = some (.tup [.int (numVal a), .int (plcVal b), .int (plcVal c)]) → Q (.ref p) H') ∧ (¬ isDT v → ENum cT H E)
def spPlText : Sp := fun vs H Q _ => ∃ n : Nat, vs = [.int (n : Int)] ∧ n < 10 ^ 60 ∧ ∀ z : Str, cpl z = twoT n → TL 61 z → Q (.str z) H
theorem log60 {n : Nat} (h : n < 10 ^ 60) : ((n : Int)).natAbs.log2 < 1920 := log_small (by omega) (by have : (10 : Nat) ^ 60 = 1000000000000000000000000000000000000000000000000000000000000 := (by decide); omega)
theorem dT_len {n : Nat} (h : n < 10 ^ 60) : (cpl (intT (n : Int))).length ≤ 60 := by
  rw [dT, List.length_map]
  exact (Nat.length_toDigits_le_iff (by decide) (by decide)).mpr h
theorem zfill_one : ∀ d : Nat, 48 ≤ d → d ≤ 57 → cpl (zfilled ⟨#[d]⟩ 1) = [48, d] := by
  intro d h1 h2
  rcases (by omega : d = 48 ∨ d = 49 ∨ d = 50 ∨ d = 51 ∨ d = 52 ∨ d = 53 ∨ d = 54 ∨ d = 55 ∨ d = 56 ∨ d = 57) with e | e | e | e | e | e | e | e | e | e <;> subst e <;> decide +kernel
theorem e47 : cpl (Str.ofString "/") = [47] := by decide +kernel
def spDateT (K : PySem.W.Frag) : Sp := fun vs H Q _ => ∃ (p : Addr) (y : Int) (m r : Nat), vs = [.ref p] ∧ SqT K H p [.int y, .int (m : Int), .int (r : Int)] ∧ y.natAbs.log2 < 1920 ∧ m < 10 ^ 60 ∧ r < 10 ^ 60 ∧ ∀ z : Str, cpl z = cpl (intT y) ++ 47 :: (twoT m ++ 47 :: twoT r) → Q (.str z) H
def spYear71 : Sp := fun vs H Q _ => ∃ c : Int, vs = [.int c] ∧ ∀ (y : Int) (H' : Hp), Same H H' → y.natAbs < 10 ^ 60 → Q (.int y) H'
def spPart71 : Sp := fun vs H Q _ => ∃ c m : Int, vs = [.int c, .int m] ∧ 1 ≤ m ∧ m ≤ 31 ∧ ∀ n : Nat, 1 ≤ n → n < 10 ^ 60 → Q (.int (n : Int)) H
def spValue71 : Sp := fun vs H Q _ => ∃ z : Str, vs = [.str z] ∧ TOk z ∧ (Figs (cpl z) → Q (.int ((PySem.NumText.digitsVal (cpl z) : Nat) : Int)) H) ∧ (¬ Figs (cpl z) → Q .non H)
def spDue71 : Sp := fun vs H Q _ => ∃ v : V, vs = [v] ∧ Hnd H v ∧ (∀ (z : Str) (a b c : List Nat) (p : Addr) (H' : Hp), v = .str z → DateT (cpl z) a b c → Same H H' → H' p = some (.tup [.int (numVal a), .int (plcVal b), .int (plcVal c)]) → Q (.ref p) H') ∧ (¬ isDT v → ∀ H', Same H H' → Q .non H')
def spSpoil71 : Sp := fun vs H Q _ => ∃ (w c : Int) (z : Str), vs = [.int w, .str z, .int c] ∧ TL 3000 z ∧ 1 ≤ z.length ∧ (spl 47 (cpl z)).length = 3 ∧ ∀ (v : V) (H' : Hp), Same H H' → Hnd H' v → Q v H'
theorem figs_int {y : Int} (h : y.natAbs < 10 ^ 60) : IsNum (cpl (intT y)) ∧ numVal (cpl (intT y)) = y ∧ 47 ∉ cpl (intT y) := by
  have id := int_digits y.natAbs
  have dl := dT_len h
  have z0 : (cpl (intT ((y.natAbs : Nat) : Int))).head? = some 48 → cpl (intT ((y.natAbs : Nat) : Int)) = [48] := by
    have c := (canon_iff id.1 id.2.1).mp (by rw [id.2.2])
    exact c
  have l1 : 1 ≤ (cpl (intT ((y.natAbs : Nat) : Int))).length := by
    cases hh : cpl (intT ((y.natAbs : Nat) : Int)) with
    | nil => exact absurd hh id.2.1
    | cons a r => simp
  rcases Int.lt_or_le y 0 with c | c
  · have e : cpl (intT y) = 45 :: cpl (intT ((y.natAbs : Nat) : Int)) := by
      cases y with
      | ofNat k => exact absurd c (by simp)
      | negSucc k =>
        show cpl (intT (Int.negSucc k)) = 45 :: cpl (intT (((k + 1 : Nat)) : Int))
        rw [dT]
        unfold intT cpl
        rw [signs_ofString]
        show (("-" ++ Nat.repr (k + 1)).toList).map Char.toNat = _
        rw [String.toList_append, List.map_append, Nat.toList_repr]
        rfl
    have hh : (cpl (intT y)).head? = some 45 := by rw [e]; rfl
    have ef : figs (cpl (intT y)) = cpl (intT ((y.natAbs : Nat) : Int)) := by unfold figs; rw [if_pos hh, e]; rfl
    refine ⟨⟨by rw [ef]; exact l1, by rw [ef]; exact dl, by rw [ef]; exact id.1, fun z => ?_⟩, ?_, ?_⟩
    · rw [ef] at z
      have := z0 z
      have v := id.2.2
      rw [this] at v
      have : PySem.NumText.digitsVal [48] = 0 := rfl
      omega
    · unfold numVal
      rw [if_pos hh, ef, id.2.2]
      omega
    · rw [e]
      intro z
      rcases List.mem_cons.mp z with z | z
      · omega
      · have := id.1 47 z
        omega
  · have e : intT y = intT ((y.natAbs : Nat) : Int) := by congr 1; omega
    rw [e]
    have h45 := dg_head id.1
    refine ⟨⟨by rw [figs_pos h45]; exact l1, by rw [figs_pos h45]; exact dl, by rw [figs_pos h45]; exact id.1, fun z => z0 (by rw [figs_pos h45] at z; exact z)⟩, ?_, fun z => by have := id.1 47 z; omega⟩
    rw [val_pos h45, id.2.2]
    omega
theorem two_plc {n : Nat} (h1 : 1 ≤ n) (h : n < 10 ^ 60) : PlcT (twoT n) ∧ plcVal (twoT n) = (n : Int) ∧ 47 ∉ twoT n := by
  have id := int_digits n
  have dl := dT_len h
  have dv : PySem.NumText.digitsVal (twoT n) = n := by
    unfold twoT
    split
    · exact id.2.2
    · exact id.2.2
  have dg : ∀ c ∈ twoT n, 48 ≤ c ∧ c ≤ 57 := by
    unfold twoT
    split
    · intro c hc
      rcases List.mem_cons.mp hc with e | e
      · rw [e]; decide
      · exact id.1 c e
    · exact id.1
  have p : PlcT (twoT n) := by
    refine (plc_iff _).mpr ⟨⟨?_, ?_, dg⟩, by rw [dv]; exact h1, by rw [dv]⟩
    · unfold twoT
      split
      · simp
      · omega
    · unfold twoT
      split
      · rw [List.length_cons]; omega
      · exact dl
  exact ⟨p, by rw [plc_val p, dv], fun z => by have := dg 47 z; omega⟩
theorem date_t {y : Int} {m r : Nat} (hy : y.natAbs < 10 ^ 60) (m1 : 1 ≤ m) (hm : m < 10 ^ 60) (r1 : 1 ≤ r) (hr : r < 10 ^ 60) : DateT (cpl (intT y) ++ 47 :: (twoT m ++ 47 :: twoT r)) (cpl (intT y)) (twoT m) (twoT r) := by
  have a := figs_int hy
  have b := two_plc m1 hm
  have c := two_plc r1 hr
  exact ⟨by rw [spl_cut 47 _ _ a.2.2, spl_cut 47 _ _ b.2.2, spl_one 47 _ c.2.2], a.1, b.1, c.1⟩
theorem int_figs {z : Str} (h : Figs (cpl z)) : PySem.intText? z = some ((PySem.NumText.digitsVal (cpl z) : Nat) : Int) := by
  refine PySem.intText_digits (fun c hc => h.dg c hc) (fun z0 => ?_) (by have := h.hi; have := len_cpl z; omega)
  have := h.lo
  have z1 : cpl z = [] := z0
  rw [z1] at this
  simp at this
theorem mul61 : MulOk (Str.ofString "1") 61 := by
  have l1 : (Str.ofString "1").length = 1 := by decide +kernel
  refine ⟨by decide, fun a b => ?_, fun a b => ?_⟩
  · rw [l1]
    have : (2 ^ 63 - 1 : Int) / 61 = 151202820276307800 := by decide
    omega
  · rw [l1]
    unfold Builtin.Str.tooLong
    rw [decide_eq_false_iff_not, sizeLine_eq]
    decide
theorem join3 (s a b c : Str) : Txt.join s [a, b, c] = a ++ s ++ b ++ s ++ c := by
  first | rfl | (unfold Txt.join; rfl)
theorem num_iff (a : List Nat) : IsNum a ↔ Figs (figs a) ∧ cpl (intT ((PySem.NumText.digitsVal (figs a) : Nat) : Int)) = figs a ∧ (a.head? = some 45 → PySem.NumText.digitsVal (figs a) ≠ 0) := by
  constructor
  · intro N
    have ne : figs a ≠ [] := fun z => by have := N.lo; rw [z] at this; simp at this
    have fz : (figs a).head? = some 48 → figs a = [48] := fun z => by
      have e := N.z0 z
      rw [e]
      rfl
    have c := (canon_iff N.dg ne).mpr fz
    refine ⟨⟨N.lo, N.hi, N.dg⟩, c, fun h z => ?_⟩
    rw [z] at c
    have e0 : cpl (intT ((0 : Nat) : Int)) = [48] := by decide +kernel
    rw [e0] at c
    have := N.z0 (by rw [← c]; rfl)
    rw [this] at h
    cases h
  · rintro ⟨F, c, s⟩
    have ne : figs a ≠ [] := fun z => by have := F.lo; rw [z] at this; simp at this
    have fz := (canon_iff F.dg ne).mp c
    refine ⟨F.lo, F.hi, F.dg, fun z => ?_⟩
    have e := fz z
    by_cases h : a.head? = some 45
    · refine absurd ?_ (s h)
      rw [e]
      rfl
    · rw [figs_pos h] at e
      exact e
theorem num_val (a : List Nat) : numVal a = (if a.head? = some 45 then -1 else 1) * ((PySem.NumText.digitsVal (figs a) : Nat) : Int) := by
  unfold numVal
  split <;> omega
noncomputable def oFig (w : List Nat) : V := by
  classical exact if Figs w then .int ((PySem.NumText.digitsVal w : Nat) : Int) else .non
theorem oFig_y {w : List Nat} (h : Figs w) : oFig w = .int ((PySem.NumText.digitsVal w : Nat) : Int) := by unfold oFig; rw [if_pos h]
theorem oFig_n {w : List Nat} (h : ¬ Figs w) : oFig w = .non := by unfold oFig; rw [if_neg h]
theorem figs_lt {w : List Nat} (h : Figs w) : PySem.NumText.digitsVal w < 10 ^ 60 := Nat.lt_of_lt_of_le (digitsVal_lt w.length w rfl h.dg) (Nat.pow_le_pow_right (by decide) h.hi)
theorem count_spl (c : Nat) : ∀ l : List Nat, (spl c l).length = l.count c + 1
  | [] => rfl
  | a :: l => by
    have ih := count_spl c l
    by_cases h : a = c
    · subst h
      rw [spl_at, List.length_cons, ih, List.count_cons_self]
    · rw [spl_not _ h, List.count_cons_of_ne h, ← ih]
      conv => rhs; rw [spl_eta c l]
      rfl
theorem comp_wholeT {K : PySem.W.Frag} {i : Nat} {a : Addr} {ns : List Int} {σ : L2.St} {H : Hp} {Q : VK} (ei : σ[i]? = some (some (.ref a))) (hS : SqT K H a (ns.map V.int)) (hz : ns.length ≤ 1000) (h : ∀ D, H D = none → Q (.ref D) (L2.upd H D (.lst ((ns.map fun _ => true).map V.bl)))) :
    tComp (iTup K (tVar i)) tTrue (tCall spWhole [] E0 (tCons (tVar 0) tNil)) σ H Q := by
  refine comp_t ei hS (by rw [List.length_map]; exact small1000 hz) (fun _ => true) (fun _ => .bl true) (fun x' _ D ys Q' _ h => rd_true h) (fun x' hx _ D ys Q' hD h => ?_) (fun D hD => ?_)
  · obtain ⟨n, _, rfl⟩ := List.mem_map.mp hx
    exact ⟨_, rfl, n, rfl, h⟩
  · have e : ((ns.map V.int).filter fun _ => true).map (fun _ => V.bl true) = (ns.map fun _ => true).map V.bl := by
      rw [List.filter_eq_self.mpr (fun _ _ => rfl), List.map_map, List.map_map]
      rfl
    rw [e]
    exact h D hD
noncomputable def oV (v : V) : V := match v with | .str s => oFig (cpl s) | _ => .non
theorem in_fig (p q r : List Nat) : inV .non [oFig p, oFig q, oFig r] = true ↔ ¬ (Figs p ∧ Figs q ∧ Figs r) := by
  by_cases h1 : Figs p
  · rw [oFig_y h1]
    by_cases h2 : Figs q
    · rw [oFig_y h2]
      by_cases h3 : Figs r
      · rw [oFig_y h3]
        exact ⟨fun z => absurd (show false = true from z) Bool.false_ne_true, fun z => absurd ⟨h1, h2, h3⟩ z⟩
      · rw [oFig_n h3]
        exact ⟨fun _ z => h3 z.2.2, fun _ => rfl⟩
    · rw [oFig_n h2]
      exact ⟨fun _ z => h2 z.2.1, fun _ => rfl⟩
  · rw [oFig_n h1]
    exact ⟨fun _ z => h1 z.1, fun _ => rfl⟩
theorem flat_o (p : List Nat) : flatV (oFig p) = true := by
  by_cases h : Figs p
  · rw [oFig_y h]; rfl
  · rw [oFig_n h]; rfl
theorem flat_fig (p q r : List Nat) : [oFig p, oFig q, oFig r].all flatV = true := by
  show (flatV (oFig p) && (flatV (oFig q) && (flatV (oFig r) && true))) = true
  rw [flat_o, flat_o, flat_o]
  rfl
theorem eq3 {a b c a' b' c' : Int} (h1 : a = a') (h2 : b = b') (h3 : c = c') : eqVs [V.int a, V.int b, V.int c] [V.int a', V.int b', V.int c'] = true := by
  subst h1 h2 h3
  show ((a == a) && ((b == b) && ((c == c) && true))) = true
  simp
structure Errs (K : PySem.W.Frag) (mg : Str → Option Value) (c_FeastError c_NoDate c_NoText : Addr) : Prop where
  m_FeastError : mg "FeastError" = some (.ref c_FeastError)
  m_NoDate : mg "NoDate" = some (.ref c_NoDate)
  h_NoText : HCls K mg "NoText" c_NoText
  x_NoText : XCls K mg "NoText" c_NoText
  g_NoText : XGet K c_NoText
  i_NoText_FeastError : PySem.W.kitOne K (.ref c_NoText) (.ref c_FeastError) = some true
  i_NoText_NoDate : PySem.W.kitOne K (.ref c_NoText) (.ref c_NoDate) = some false
  r_NoText_NoText : PySem.W.mroIn K c_NoText (.ref c_NoText) = some true
section
variable {P : Program} {w : World} {K : PySem.W.Frag} {mg : Str → Option Value} {base : Heap}
variable {c_FeastError c_NoDate c_NoText : Addr}
theorem sc_is_number : FnScope ["text", "figures"] ["text"] (defScope s_is_number) := ⟨rfl, rfl, rfl, by decide +kernel, rfl, by decide +kernel, by decide +kernel⟩
theorem ok_is_number {f : Addr} {fd : FuncData} (F : Fun K "is_number" "is_number" s_is_number f fd) (z_len : mg "len" = none) (z_all : mg "all" = none) {tk_MOST_FIGURES : Tok} (m_MOST_FIGURES : mg "MOST_FIGURES" = some (.int 60 tk_MOST_FIGURES)) {tk_FIGURES : Tok} (m_FIGURES : mg "FIGURES" = some (.str "0123456789" tk_FIGURES)) : FnOk P w K mg base CX0 1 f fd ["text"] spIsNum := by
  refine F.ok (k := 0) sc_is_number (fun vs H Q E h => ?_) (fun cdv A outer s H vs Q E hr h => ?_)
  · obtain ⟨z, rfl, _⟩ := h
    rfl
  obtain ⟨z, rfl, hz, q⟩ := h
  refine ⟨_, (pss_cons (ps_set (i := 1) sc_is_number.nd rfl (by first | exact Or.inl rfl | exact Or.inr rfl) (pe_ifExp (pt_val (pe_bm PySem.F.plainAttrs_str PySem.F.slot_str_startswith PySem.F.type_str_startswith mt_startswith (pv 0) (pa_cons pe_str pa_nil))) (pe_slice sl_str (pv 0) (po_some pe_int) po_none) (pv 0)))
      (pss_cons (ps_if (PW.pt (pw_or (pt_cmpR op_lt (pe_callB call_len_str rfl z_len PySem.boot_len (pa_cons (pv 1) pa_nil)) pe_int (nomark _)) (pw_or1 (pt_cmpR op_gt (pe_callB call_len_str rfl z_len PySem.boot_len (pa_cons (pv 1) pa_nil)) (pe_glob rfl m_MOST_FIGURES (rel_int _ _)) (nomark _)))))
        (pss_one (ps_ret pe_bl))
        pss_nil)
      (pss_cons (ps_if (pt_cmpR op_eq (pe_ix ix_str (pv 1) pe_int (fun _ _ => rfl)) pe_str (nomark _))
        (pss_one (ps_ret (pe_cmpR op_eq (pv 0) pe_str (nomark _))))
        pss_nil)
      (pss_one (ps_ret (pe_callB (call_all rfl) rfl z_all PyProof.Rows.boot_all (pa_cons (pe_comp rfl (compOk_nil ["text", "figures"] rfl (by decide +kernel) rfl (by decide +kernel) rfl (by decide +kernel) (by decide +kernel)) (pi_str (pv 1)) (fun _ _ _ _ => pifs_nil) (fun _ _ _ _ => (pe_cmpR op_in_str (pv 0) (pe_glob rfl m_FIGURES (rel_str _ _)) (by rfl)))) pa_nil))))))), ?_⟩
  walk_at "rdx"
  refine ⟨_, rfl, rfl, ?_⟩
  walk_at "rdx"
  refine ⟨z, _, rfl, rfl, ?_⟩
  rw [starts_minus (.inr trivial)]
  walk_at "rdx"
  refine ite2d (fun hm => ?_) (fun hm => ?_)
  · walk_at "rdx"
    have l1 : 1 ≤ z.length := by
      rw [← len_cpl]
      cases h : cpl z with
      | nil => rw [h] at hm; cases hm
      | cons a r => simp
    refine ⟨z, rfl, hz.fit, ?_⟩
    have hy : TOk (Txt.slice z (some 1) none) := hz.slice _ _
    have ey : cpl (Txt.slice z (some 1) none) = figs (cpl z) := by
      rw [slice_from1 l1]
      unfold figs
      rw [if_pos hm]
    generalize Txt.slice z (some 1) none = y at hy ey ⊢
    walk_at "rdx"
    have fy := hy.fit
    have yl : (cpl y).length = y.length := len_cpl _
    refine ⟨_, rfl, fy, ?_⟩
    walk_at "rdx"
    refine ite2d (fun l1 => iteT ?_) (fun l1 => ?_)
    · walk_at "rdx"
      refine q _ _ (Same.refl _) ⟨(fun e => nomatch e), fun N => ?_⟩
      have := N.lo
      rw [← ey] at this
      omega
    walk_at "rdx"
    refine ⟨_, rfl, fy, ?_⟩
    walk_at "rdx"
    refine ite2d (fun l2 => ?_) (fun l2 => ?_)
    · walk_at "rdx"
      refine q _ _ (Same.refl _) ⟨(fun e => nomatch e), fun N => ?_⟩
      have := N.hi
      rw [← ey] at this
      omega
    walk_at "rdx"
    obtain ⟨c0, r0, ec⟩ : ∃ c r, cpl y = c :: r := by
      cases h : cpl y with
      | nil => rw [h] at yl; simp at yl; omega
      | cons c r => exact ⟨c, r, rfl⟩
    refine ⟨_, 0, c0, rfl, rfl, fy, by rw [show y.cps.toList = c0 :: r0 from ec]; exact atI_nat (j := 0) rfl, ?_⟩
    walk_at "rdx"
    refine ite2d (fun e0 => ?_) (fun e0 => ?_)
    · walk_at "rdx"
      have c48 : c0 = 48 := by
        have e1 : (⟨#[c0]⟩ : Str) = Str.ofString "0" := V.str.inj e0
        have e2 : cpl (⟨#[c0]⟩ : Str) = cpl (Str.ofString "0") := congrArg cpl e1
        have e3 : cpl (Str.ofString "0") = [48] := by decide +kernel
        rw [e3] at e2
        injection e2
      refine q _ _ (Same.refl _) ?_
      rw [decide_eq_true_eq]
      have e3 : cpl (Str.ofString "0") = [48] := by decide +kernel
      constructor
      · intro e
        have ez : cpl z = [48] := by rw [V.str.inj e, e3]
        refine ⟨?_, ?_, ?_, ?_⟩ <;> rw [ez] <;> simp [figs]
      · intro N
        have := N.z0 (by rw [← ey, ec, c48]; rfl)
        exact congrArg V.str (str_ext (by rw [this, e3]))
    walk_at "rdx"
    refine rd_comp (rd_iS ?_)
    walk_at "rdx"
    refine ⟨_, rfl, hy.asc, ?_⟩
    refine comp_go walk_s ?_ (fun _ _ _ => trivial) (fun _ => true) (fun v => match v with | .str y => .bl (decide (48 ≤ (cpl y).headD 0 ∧ (cpl y).headD 0 ≤ 57)) | _ => .non) (fun x hx D ys Q' hD h => h) (fun x hx _ D ys Q' hD h => ?_) (fun D hD => ?_)
    · rw [List.length_map]
      exact small1000 (by have : y.cps.toList.length = y.length := yl; omega)
    · obtain ⟨c, hc, rfl⟩ := List.mem_map.mp hx
      walk_at "rdx"
      refine ⟨_, _, rfl, rfl, ?_⟩
      rw [in_dig]
      exact h
    have e : ((y.cps.toList.map signV).filter fun _ => true).map (fun v => match v with | .str y => V.bl (decide (48 ≤ (cpl y).headD 0 ∧ (cpl y).headD 0 ≤ 57)) | _ => .non) = ((cpl y).map fun c => decide (48 ≤ c ∧ c ≤ 57)).map V.bl := by
      rw [List.filter_eq_self.mpr (fun _ _ => rfl), List.map_map, List.map_map]
      rfl
    rw [e]
    walk_at "rdx"
    refine ⟨D, _, rfl, SqL.of upd_same, ?_⟩
    refine q _ _ (same_new hD _) ?_
    rw [List.all_map, List.all_eq_true]
    constructor
    · intro h
      refine ⟨by rw [← ey]; omega, by rw [← ey]; omega, fun c hc => ?_, fun h0 => ?_⟩
      · rw [← ey] at hc
        simpa using h c hc
      · rw [← ey, ec] at h0
        injection h0 with h0
        subst h0
        exact absurd (by congr) e0
    · intro N c hc
      have := N.dg c (by rw [← ey]; exact hc)
      simpa using this
  · walk_at "rdx"
    have hy := hz
    have ey : cpl z = figs (cpl z) := by
      unfold figs
      rw [if_neg hm]
    have fy := hy.fit
    have yl : (cpl z).length = z.length := len_cpl _
    refine ⟨_, rfl, fy, ?_⟩
    walk_at "rdx"
    refine ite2d (fun l1 => iteT ?_) (fun l1 => ?_)
    · walk_at "rdx"
      refine q _ _ (Same.refl _) ⟨(fun e => nomatch e), fun N => ?_⟩
      have := N.lo
      rw [← ey] at this
      omega
    walk_at "rdx"
    refine ⟨_, rfl, fy, ?_⟩
    walk_at "rdx"
    refine ite2d (fun l2 => ?_) (fun l2 => ?_)
    · walk_at "rdx"
      refine q _ _ (Same.refl _) ⟨(fun e => nomatch e), fun N => ?_⟩
      have := N.hi
      rw [← ey] at this
      omega
    walk_at "rdx"
    obtain ⟨c0, r0, ec⟩ : ∃ c r, cpl z = c :: r := by
      cases h : cpl z with
      | nil => rw [h] at yl; simp at yl; omega
      | cons c r => exact ⟨c, r, rfl⟩
    refine ⟨_, 0, c0, rfl, rfl, fy, by rw [show z.cps.toList = c0 :: r0 from ec]; exact atI_nat (j := 0) rfl, ?_⟩
    walk_at "rdx"
    refine ite2d (fun e0 => ?_) (fun e0 => ?_)
    · walk_at "rdx"
      have c48 : c0 = 48 := by
        have e1 : (⟨#[c0]⟩ : Str) = Str.ofString "0" := V.str.inj e0
        have e2 : cpl (⟨#[c0]⟩ : Str) = cpl (Str.ofString "0") := congrArg cpl e1
        have e3 : cpl (Str.ofString "0") = [48] := by decide +kernel
        rw [e3] at e2
        injection e2
      refine q _ _ (Same.refl _) ?_
      rw [decide_eq_true_eq]
      have e3 : cpl (Str.ofString "0") = [48] := by decide +kernel
      constructor
      · intro e
        have ez : cpl z = [48] := by rw [V.str.inj e, e3]
        refine ⟨?_, ?_, ?_, ?_⟩ <;> rw [ez] <;> simp [figs]
      · intro N
        have := N.z0 (by rw [← ey, ec, c48]; rfl)
        exact congrArg V.str (str_ext (by rw [this, e3]))
    walk_at "rdx"
    refine rd_comp (rd_iS ?_)
    walk_at "rdx"
    refine ⟨_, rfl, hy.asc, ?_⟩
    refine comp_go walk_s ?_ (fun _ _ _ => trivial) (fun _ => true) (fun v => match v with | .str y => .bl (decide (48 ≤ (cpl y).headD 0 ∧ (cpl y).headD 0 ≤ 57)) | _ => .non) (fun x hx D ys Q' hD h => h) (fun x hx _ D ys Q' hD h => ?_) (fun D hD => ?_)
    · rw [List.length_map]
      exact small1000 (by have : z.cps.toList.length = z.length := yl; omega)
    · obtain ⟨c, hc, rfl⟩ := List.mem_map.mp hx
      walk_at "rdx"
      refine ⟨_, _, rfl, rfl, ?_⟩
      rw [in_dig]
      exact h
    have e : ((z.cps.toList.map signV).filter fun _ => true).map (fun v => match v with | .str y => V.bl (decide (48 ≤ (cpl y).headD 0 ∧ (cpl y).headD 0 ≤ 57)) | _ => .non) = ((cpl z).map fun c => decide (48 ≤ c ∧ c ≤ 57)).map V.bl := by
      rw [List.filter_eq_self.mpr (fun _ _ => rfl), List.map_map, List.map_map]
      rfl
    rw [e]
    walk_at "rdx"
    refine ⟨D, _, rfl, SqL.of upd_same, ?_⟩
    refine q _ _ (same_new hD _) ?_
    rw [List.all_map, List.all_eq_true]
    constructor
    · intro h
      refine ⟨by rw [← ey]; omega, by rw [← ey]; omega, fun c hc => ?_, fun h0 => ?_⟩
      · rw [← ey] at hc
        simpa using h c hc
      · rw [← ey, ec] at h0
        injection h0 with h0
        subst h0
        exact absurd (by congr) e0
    · intro N c hc
      have := N.dg c (by rw [← ey]; exact hc)
      simpa using this
theorem sc_read_number : FnScope ["text"] ["text"] (defScope s_read_number) := ⟨rfl, rfl, rfl, by decide +kernel, rfl, by decide +kernel, by decide +kernel⟩
theorem ok_read_number {f : Addr} {fd : FuncData} (F : Fun K "read_number" "read_number" s_read_number f fd) (er : Errs K mg c_FeastError c_NoDate c_NoText) (c_is_number : Cal P w K mg base 1 "is_number" ["text"] spIsNum) (z_isinstance : mg "isinstance" = none) (z_str : mg "str" = none) (z_int : mg "int" = none) : FnOk P w K mg base (CX1 P w) 2 f fd ["text"] (spReadN c_NoText) := by
  refine F.okE (k := 1) sc_read_number (fun vs H Q E h => ?_) (fun cdv A outer s H vs Q E hr h T => ?_)
  · obtain ⟨v, rfl, _⟩ := h
    rfl
  obtain ⟨v, rfl, hv, q, qe⟩ := h
  refine ⟨_, (pss_cons (ps_if (PW.pt (pw_or (pt_not (pt_val (pe_callB call_isi rfl z_isinstance PyProof.Rows.boot_isinstance (pa_cons (pv 0) (pa_cons (pe_bltn rfl z_str PyProof.Rows.boot_str (rel_ty _)) pa_nil))))) (pw_or1 (pt_not (pt_val (pe_cal c_is_number (hr.mono (by decide)) rfl (pa_cons (pv 0) pa_nil)))))))
        (pss_one (ps_raise T rfl er.x_NoText rfl (pa_cons pe_str pa_nil)))
        pss_nil)
      (pss_one (ps_ret (pe_callTy call_int_text rfl z_int PyProof.Rows.boot_int (pa_cons (pv 0) pa_nil))))), ?_⟩
  walk_at "rdx"
  refine rd_isS hv ?_
  walk_at "rdx"
  cases hv with
  | txt z hz =>
    refine iteF ?_
    walk_at "rdx"
    refine ⟨z, rfl, hz, fun b H1 s1 hb => ?_⟩
    walk_at "rdx"
    cases b with
    | true =>
      refine iteF ?_
      have N := hb.mp rfl
      walk_at "rdx"
      refine ⟨z, _, rfl, ?_, int_reads N, q z _ s1 rfl N⟩
      have := N.hi
      unfold figs at this
      rw [← len_cpl]
      split at this
      · rw [List.length_drop] at this; omega
      · omega
    | false =>
      refine iteT ?_
      walk_at "rdx"
      exact ⟨(by show 1 ≤ sizeLine; decide), qe (fun ⟨y, e, N⟩ => by cases e; exact nomatch (hb.mpr N)) _ s1⟩
  | non =>
    refine iteT ?_
    walk_at "rdx"
    exact ⟨(by show 1 ≤ sizeLine; decide), qe (fun ⟨y, e, _⟩ => nomatch e) _ (Same.refl _)⟩
  | int i =>
    refine iteT ?_
    walk_at "rdx"
    exact ⟨(by show 1 ≤ sizeLine; decide), qe (fun ⟨y, e, _⟩ => nomatch e) _ (Same.refl _)⟩
  | tup a xs e0 =>
    refine iteT ?_
    walk_at "rdx"
    exact ⟨(by show 1 ≤ sizeLine; decide), qe (fun ⟨y, e, _⟩ => nomatch e) _ (Same.refl _)⟩
  | lst a xs e0 =>
    refine iteT ?_
    walk_at "rdx"
    exact ⟨(by show 1 ≤ sizeLine; decide), qe (fun ⟨y, e, _⟩ => nomatch e) _ (Same.refl _)⟩
theorem sc_read_place : FnScope ["text", "number", "least"] ["text"] (defScope s_read_place) := ⟨rfl, rfl, rfl, by decide +kernel, rfl, by decide +kernel, by decide +kernel⟩
theorem ok_read_place {f : Addr} {fd : FuncData} (F : Fun K "read_place" "read_place" s_read_place f fd) (er : Errs K mg c_FeastError c_NoDate c_NoText) (c_read_number : CalE P w K mg base 2 "read_number" ["text"] (spReadN c_NoText)) (z_len : mg "len" = none) : FnOk P w K mg base (CX1 P w) 3 f fd ["text"] (spReadPl c_NoText) := by
  refine F.okE (k := 2) sc_read_place (fun vs H Q E h => ?_) (fun cdv A outer s H vs Q E hr h T => ?_)
  · obtain ⟨z, rfl, _⟩ := h
    rfl
  obtain ⟨z, rfl, hz, q, qe⟩ := h
  have e48 : cpl (Str.ofString "0") = [48] := by decide +kernel
  have zl : (cpl z).length = z.length := len_cpl z
  refine ⟨_, (pss_cons (ps_cut (ps_if (PW.pt (pw_and (pt_cmpR op_eq (pe_callB call_len_str rfl z_len PySem.boot_len (pa_cons (pv 0) pa_nil)) pe_int (nomark _)) (pw_and1 (pt_cmpR op_eq (pe_ix ix_str (pv 0) pe_int (fun _ _ => rfl)) pe_str (nomark _)))))
        (pss_cons (ps_set (i := 1) sc_read_place.nd rfl (by first | exact Or.inl rfl | exact Or.inr rfl) (pe_calE T c_read_number (hr.mono (by decide)) rfl (pa_cons (pe_ix ix_str (pv 0) pe_int (fun _ _ => rfl)) pa_nil)))
      (pss_one (ps_set (i := 2) sc_read_place.nd rfl (by first | exact Or.inl rfl | exact Or.inr rfl) pe_int)))
        (pss_cons (ps_set (i := 1) sc_read_place.nd rfl (by first | exact Or.inl rfl | exact Or.inr rfl) (pe_calE T c_read_number (hr.mono (by decide)) rfl (pa_cons (pv 0) pa_nil)))
      (pss_one (ps_set (i := 2) sc_read_place.nd rfl (by first | exact Or.inl rfl | exact Or.inr rfl) pe_int)))))
      (pss_cons (ps_if (pt_cmpR op_lt (pv 1) (pv 2) (nomark _))
        (pss_one (ps_raise T rfl er.x_NoText rfl (pa_cons pe_str pa_nil)))
        pss_nil)
      (pss_one (ps_ret (pv 1))))), ?_⟩
  walk_at "rdx"
  refine rd_cut (fun σ' H' => Same H H' ∧ ∃ (n k : Int), σ' = [some (.str z), some (.int n), some (.int k)] ∧ k = (if Two (cpl z) then 1 else 10) ∧ IsNum (if Two (cpl z) then (cpl z).drop 1 else cpl z) ∧ n = plcVal (cpl z)) ?_ ?_
  · walk_at "rdx"
    refine ⟨z, rfl, hz.fit, ?_⟩
    walk_at "rdx"
    by_cases l2 : (z.length : Int) = 2
    rotate_left
    · have ht : ¬ Two (cpl z) := fun t => by have := t.1; omega
      refine iteN (fun y => l2 (V.int.inj y)) (iteF ?_)
      walk_at "rdx"
      refine ⟨_, rfl, .txt z hz, fun y H1 s1 e N => ?_, fun hn H1 s1 => qe (fun p => hn ⟨z, rfl, by have := p.num; rw [if_neg ht] at this; exact this⟩) H1 s1⟩
      cases e
      walk_at "rdx"
      exact ⟨s1, _, _, rfl, by rw [if_neg ht], by rw [if_neg ht]; exact N, by unfold plcVal; rw [if_neg ht]⟩
    refine iteD (congrArg V.int l2) ?_
    obtain ⟨a, d, ez⟩ : ∃ a d, cpl z = [a, d] := by
      match hh : cpl z with
      | [] => rw [hh] at zl; simp at zl; omega
      | [a] => rw [hh] at zl; simp at zl; omega
      | [a, d] => exact ⟨a, d, rfl⟩
      | a :: b :: c :: r => rw [hh] at zl; simp at zl; omega
    have c48 : V.str ⟨#[a]⟩ = V.str (Str.ofString "0") ↔ a = 48 := by
      constructor
      · intro e
        have e2 : cpl (⟨#[a]⟩ : Str) = cpl (Str.ofString "0") := congrArg cpl (V.str.inj e)
        rw [e48] at e2
        injection e2
      · intro e
        refine congrArg V.str (str_ext ?_)
        rw [e48, e]
        rfl
    have td : Two (cpl z) ↔ a = 48 := by
      rw [ez]
      exact ⟨fun t => by have := t.2; injection this, fun e => ⟨rfl, by rw [e]; rfl⟩⟩
    walk_at "rdx"
    refine ⟨_, 0, a, rfl, rfl, hz.fit, by rw [show z.cps.toList = [a, d] from ez]; exact atI_nat (j := 0) rfl, ?_⟩
    walk_at "rdx"
    by_cases a48 : a = 48
    rotate_left
    · have ht : ¬ Two (cpl z) := fun t => a48 (td.mp t)
      refine iteN (fun y => a48 (c48.mp y)) ?_
      walk_at "rdx"
      refine ⟨_, rfl, .txt z hz, fun y H1 s1 e N => ?_, fun hn H1 s1 => qe (fun p => hn ⟨z, rfl, by have := p.num; rw [if_neg ht] at this; exact this⟩) H1 s1⟩
      cases e
      walk_at "rdx"
      exact ⟨s1, _, _, rfl, by rw [if_neg ht], by rw [if_neg ht]; exact N, by unfold plcVal; rw [if_neg ht]⟩
    have ht := td.mpr a48
    have ed : (cpl z).drop 1 = cpl (⟨#[d]⟩ : Str) := by rw [ez]; rfl
    have d1 : d < 128 := asc_iff.mp hz.asc d (by rw [ez]; simp)
    refine iteD (c48.mpr a48) ?_
    walk_at "rdx"
    refine ⟨_, 1, d, rfl, rfl, hz.fit, by rw [show z.cps.toList = [a, d] from ez]; exact atI_nat (j := 1) rfl, ?_⟩
    walk_at "rdx"
    refine ⟨_, rfl, .txt _ ((TL.sign d1).ok (by decide)), fun y H1 s1 e N => ?_, fun hn H1 s1 => qe (fun p => hn ⟨_, rfl, by have := p.num; rw [if_pos ht, ed] at this; exact this⟩) H1 s1⟩
    cases e
    walk_at "rdx"
    exact ⟨s1, _, _, rfl, by rw [if_pos ht], by rw [if_pos ht, ed]; exact N, by unfold plcVal; rw [if_pos ht, ed]⟩
  rintro σ' H1 ⟨s1, n, k, rfl, hk, N, hn⟩
  walk_at "rdx"
  by_cases c : n < k
  · refine iteD c ?_
    walk_at "rdx"
    refine ⟨(by show 1 ≤ sizeLine; decide), qe (fun p => ?_) _ s1⟩
    have := p.low
    rw [← hk] at this
    unfold plcVal at hn
    omega
  · refine iteN c ?_
    walk_at "rdx"
    rw [hn]
    refine q ⟨N, ?_⟩ _ s1
    rw [← hk]
    unfold plcVal at hn
    omega
theorem sc_read_date : FnScope ["text", "words"] ["text"] (defScope s_read_date) := ⟨rfl, rfl, rfl, by decide +kernel, rfl, by decide +kernel, by decide +kernel⟩
theorem ok_read_date {f : Addr} {fd : FuncData} (F : Fun K "read_date" "read_date" s_read_date f fd) (er : Errs K mg c_FeastError c_NoDate c_NoText) (c_read_number : CalE P w K mg base 2 "read_number" ["text"] (spReadN c_NoText)) (c_read_place : CalE P w K mg base 3 "read_place" ["text"] (spReadPl c_NoText)) (z_isinstance : mg "isinstance" = none) (z_str : mg "str" = none) (z_len : mg "len" = none) : FnOk P w K mg base (CX1 P w) 4 f fd ["text"] (spReadD c_NoText) := by
  refine F.okE (k := 3) sc_read_date (fun vs H Q E h => ?_) (fun cdv A outer s H vs Q E hr h T => ?_)
  · obtain ⟨v, rfl, _⟩ := h
    rfl
  obtain ⟨v, rfl, hv, q, qe⟩ := h
  have no : ¬ isDT v → ∀ {H'}, Same H H' → 1 ≤ sizeLine ∧ E (.ref c_NoText) none H' := fun hn {H'} s => ⟨by decide, qe hn H' s⟩
  refine ⟨_, (pss_cons (ps_if (pt_not (pt_val (pe_callB call_isi rfl z_isinstance PyProof.Rows.boot_isinstance (pa_cons (pv 0) (pa_cons (pe_bltn rfl z_str PyProof.Rows.boot_str (rel_ty _)) pa_nil)))))
        (pss_one (ps_raise T rfl er.x_NoText rfl (pa_cons pe_str pa_nil)))
        pss_nil)
      (pss_cons (ps_set (i := 1) sc_read_date.nd rfl (by first | exact Or.inl rfl | exact Or.inr rfl) (pe_bm PySem.F.plainAttrs_str PySem.F.slot_str_split PySem.F.type_str_split mt_split (pv 0) (pa_cons pe_str pa_nil)))
      (pss_cons (ps_if (pt_cmpR op_ne (pe_callB call_len_seq rfl z_len PySem.boot_len (pa_cons (pv 1) pa_nil)) pe_int (nomark _))
        (pss_one (ps_raise T rfl er.x_NoText rfl (pa_cons pe_str pa_nil)))
        pss_nil)
      (pss_one (ps_ret (pe_tup (pa_cons (pe_calE T c_read_number (hr.mono (by decide)) rfl (pa_cons (pe_ix ix_list (pv 1) pe_int (fun _ _ => rfl)) pa_nil)) (pa_cons (pe_calE T c_read_place (hr.mono (by decide)) rfl (pa_cons (pe_ix ix_list (pv 1) pe_int (fun _ _ => rfl)) pa_nil)) (pa_cons (pe_calE T c_read_place (hr.mono (by decide)) rfl (pa_cons (pe_ix ix_list (pv 1) pe_int (fun _ _ => rfl)) pa_nil)) pa_nil))))))))), ?_⟩
  walk_at "rdx"
  refine rd_isS hv ?_
  walk_at "rdx"
  cases hv with
  | non =>
    refine iteT ?_
    walk_at "rdx"
    exact no (fun ⟨_, _, _, _, e, _⟩ => nomatch e) (Same.refl _)
  | int i =>
    refine iteT ?_
    walk_at "rdx"
    exact no (fun ⟨_, _, _, _, e, _⟩ => nomatch e) (Same.refl _)
  | tup a xs e0 =>
    refine iteT ?_
    walk_at "rdx"
    exact no (fun ⟨_, _, _, _, e, _⟩ => nomatch e) (Same.refl _)
  | lst a xs e0 =>
    refine iteT ?_
    walk_at "rdx"
    exact no (fun ⟨_, _, _, _, e, _⟩ => nomatch e) (Same.refl _)
  | txt z hz =>
    refine iteF ?_
    walk_at "rdx"
    refine rd_bm ?_
    walk_at "rdx"
    refine ⟨rfl, ?_⟩
    walk_at "rdx"
    refine ⟨z, 47, rfl, rfl, by decide, hz.len, fun l hl => ?_⟩
    have s1 := same_new hl (.lst ((splS 47 z).map V.str))
    have t1 : upd H l (.lst ((splS 47 z).map V.str)) l = some (.lst ((splS 47 z).map V.str)) := upd_same
    generalize upd H l (.lst ((splS 47 z).map V.str)) = H1 at s1 t1 ⊢
    walk_at "rdx"
    refine ⟨l, _, rfl, .inl (SqL.of t1), ?_⟩
    walk_at "rdx"
    have el : (splS 47 z).length = (spl 47 (cpl z)).length := List.length_map _
    rw [List.length_map, el]
    by_cases l3 : (spl 47 (cpl z)).length = 3
    rotate_left
    · refine iteNN (fun y => l3 (by have := V.int.inj y; omega)) ?_
      walk_at "rdx"
      refine no (fun ⟨y, a, b, c, e, D⟩ => ?_) s1
      cases e
      exact l3 (by rw [D.cut]; rfl)
    refine iteNS (congrArg V.int (by omega)) ?_
    obtain ⟨a, b, c, ec⟩ : ∃ a b c, spl 47 (cpl z) = [a, b, c] := by
      match spl 47 (cpl z), l3 with
      | [a, b, c], _ => exact ⟨a, b, c, rfl⟩
    have es : (splS 47 z).map V.str = [.str ⟨a.toArray⟩, .str ⟨b.toArray⟩, .str ⟨c.toArray⟩] := by
      unfold splS
      rw [show spl 47 (cps z) = [a, b, c] from ec]
      rfl
    rw [es] at t1
    have tk : ∀ p ∈ spl 47 (cpl z), TOk (⟨p.toArray⟩ : Str) := fun p hp => hz.part hp (spl_mem 47 _ p hp)
    rw [ec] at tk
    have ta := tk a (by simp)
    have tb := tk b (by simp)
    have tc := tk c (by simp)
    have noD : ¬ (IsNum a ∧ PlcT b ∧ PlcT c) → ¬ isDT (.str z) := fun hn ⟨y, a', b', c', e, D⟩ => by
      cases e
      have := D.cut
      rw [ec] at this
      injection this with e1 this
      injection this with e2 this
      injection this with e3 _
      subst e1 e2 e3
      exact hn ⟨D.y, D.m, D.d⟩
    walk_at "rdx"
    refine rd_ixL (SqL.of t1) (v := .str ⟨a.toArray⟩) rfl ?_
    walk_at "rdx"
    refine ⟨_, rfl, .txt _ ta, fun y H2 s2 e N => ?_, fun hn H2 s2 => qe (noD fun h => hn ⟨_, rfl, h.1⟩) H2 (s1.trans s2)⟩
    cases e
    have t2 := s2 _ _ t1
    walk_at "rdx"
    refine rd_ixL (SqL.of t2) (v := .str ⟨b.toArray⟩) rfl ?_
    walk_at "rdx"
    refine ⟨_, rfl, tb, fun pb H3 s3 => ?_, fun hn H3 s3 => qe (noD fun h => hn h.2.1) H3 ((s1.trans s2).trans s3)⟩
    have t3 := s3 _ _ t2
    walk_at "rdx"
    refine rd_ixL (SqL.of t3) (v := .str ⟨c.toArray⟩) rfl ?_
    walk_at "rdx"
    refine ⟨_, rfl, tc, fun pc H4 s4 => ?_, fun hn H4 s4 => qe (noD fun h => hn h.2.2) H4 (((s1.trans s2).trans s3).trans s4)⟩
    walk_at "rdx"
    refine ⟨(by show 3 ≤ sizeLine; decide), fun p hp => ?_⟩
    exact q z a b c p _ rfl ⟨ec, N, pb, pc⟩ ((((s1.trans s2).trans s3).trans s4).trans (same_new hp _)) upd_same
theorem sc_place_text : FnScope ["number"] ["number"] (defScope s_place_text) := ⟨rfl, rfl, rfl, by decide +kernel, rfl, by decide +kernel, by decide +kernel⟩
theorem ok_place_text {f : Addr} {fd : FuncData} (F : Fun K "place_text" "place_text" s_place_text f fd) (z_str : mg "str" = none) : FnOk P w K mg base CX0 1 f fd ["number"] spPlText := by
  refine F.ok (k := 0) sc_place_text (fun vs H Q E h => ?_) (fun cdv A outer s H vs Q E hr h => ?_)
  · obtain ⟨n, rfl, _⟩ := h
    rfl
  obtain ⟨n, rfl, hn, q⟩ := h
  have tl : TL 1921 (intT (n : Int)) := TL.int (log60 hn)
  have dl := dT_len hn
  have id := int_digits n
  have zl := len_cpl (intT (n : Int))
  refine ⟨_, (pss_one (ps_ret (pe_bm PySem.F.plainAttrs_str PySem.F.slot_str_zfill PySem.F.type_str_zfill mt_zfill (pe_callTy call_str_int rfl z_str PyProof.Rows.boot_str (pa_cons (pv 0) pa_nil)) (pa_cons pe_int pa_nil)))), ?_⟩
  walk_at "rdx"
  refine rd_bm ?_
  walk_at "rdx"
  refine ⟨_, rfl, log60 hn, ?_⟩
  refine ⟨rfl, ?_⟩
  walk_at "rdx"
  have et : (Str.ofString (toString (n : Int))) = intT (n : Int) := rfl
  rw [et]
  by_cases s2 : (2 : Int) ≤ ((intT (n : Int)).length : Int)
  · refine ⟨_, 2, rfl, rfl, by decide, by decide, fun z => absurd s2 z, ?_⟩
    rw [if_pos s2]
    refine q _ ?_ ⟨tl.asc, by omega⟩
    unfold twoT
    rw [if_neg (by omega)]
  · obtain ⟨d, hd⟩ : ∃ d, cpl (intT (n : Int)) = [d] := by
      match hh : cpl (intT (n : Int)) with
      | [] => exact absurd hh id.2.1
      | [d] => exact ⟨d, rfl⟩
      | a :: b :: r => rw [hh] at zl; simp at zl; omega
    have dd := id.1 d (by rw [hd]; exact List.mem_singleton.mpr rfl)
    have ei : intT (n : Int) = ⟨#[d]⟩ := str_ext (by rw [hd]; rfl)
    have zf := zfill_one d dd.1 dd.2
    have zfl : (zfilled ⟨#[d]⟩ 1).length = 2 := by rw [← len_cpl, zf]; rfl
    rw [ei]
    have s2' : ¬ (2 : Int) ≤ (((⟨#[d]⟩ : Str).length : Nat) : Int) := by show ¬ (2 : Int) ≤ ((1 : Nat) : Int); decide
    refine ⟨_, 2, rfl, rfl, by decide, by decide, fun _ => by show (zfilled ⟨#[d]⟩ 1).length ≤ sizeLine; rw [zfl]; decide, ?_⟩
    rw [if_neg s2']
    refine q (zfilled ⟨#[d]⟩ 1) ?_ ⟨asc_iff.mpr fun c hc => ?_, by rw [zfl]; decide⟩
    · rw [zf]
      unfold twoT
      rw [hd]
      rfl
    · rw [zf] at hc
      rcases List.mem_cons.mp hc with e | e
      · rw [e]; decide
      · cases List.mem_singleton.mp e
        omega
theorem sc_date_text : FnScope ["date", "year", "month", "day"] ["date"] (defScope s_date_text) := ⟨rfl, rfl, rfl, by decide +kernel, rfl, by decide +kernel, by decide +kernel⟩
theorem ok_date_text {f : Addr} {fd : FuncData} (F : Fun K "date_text" "date_text" s_date_text f fd) (c_place_text : Cal P w K mg base 1 "place_text" ["number"] spPlText) : FnOk P w K mg base CX0 2 f fd ["date"] (spDateT K) := by
  refine F.ok (k := 1) sc_date_text (fun vs H Q E h => ?_) (fun cdv A outer s H vs Q E hr h => ?_)
  · obtain ⟨p, y, m, r, rfl, _⟩ := h
    rfl
  obtain ⟨p, y, m, r, rfl, hp, hy, hm, hr', q⟩ := h
  refine ⟨_, (pss_cons (ps_set (i := 1) sc_date_text.nd rfl (by first | exact Or.inl rfl | exact Or.inr rfl) (pe_ix ix_tup (pv 0) pe_int (fun _ _ => rfl)))
      (pss_cons (ps_set (i := 2) sc_date_text.nd rfl (by first | exact Or.inl rfl | exact Or.inr rfl) (pe_cal c_place_text (hr.mono (by decide)) rfl (pa_cons (pe_ix ix_tup (pv 0) pe_int (fun _ _ => rfl)) pa_nil)))
      (pss_cons (ps_set (i := 3) sc_date_text.nd rfl (by first | exact Or.inl rfl | exact Or.inr rfl) (pe_cal c_place_text (hr.mono (by decide)) rfl (pa_cons (pe_ix ix_tup (pv 0) pe_int (fun _ _ => rfl)) pa_nil)))
      (pss_one (ps_ret (pe_join (pj_cons (pe_fmt hr.toN (pv 1)) (pj_cons pe_str (pj_cons (pe_fmt hr.toN (pv 2)) (pj_cons pe_str (pj_cons (pe_fmt hr.toN (pv 3)) pj_nil))))))))))), ?_⟩
  walk_at "rdx"
  refine rd_ixT hp (v := .int y) rfl ?_
  walk_at "rdx"
  refine rd_ixT hp (v := .int (m : Int)) rfl ?_
  walk_at "rdx"
  refine ⟨m, rfl, hm, fun z1 e1 t1 => ?_⟩
  walk_at "rdx"
  refine rd_ixT hp (v := .int (r : Int)) rfl ?_
  walk_at "rdx"
  refine ⟨r, rfl, hr', fun z2 e2 t2 => ?_⟩
  walk_at "rdx"
  refine rd_ji 0 (by decide) (by decide) rfl hy fun l1 => rd_jc _ l1 (by decide) fun l2 => rd_js _ 61 l2 t1.len (by decide) rfl fun l3 => rd_jc _ l3 (by decide) fun l4 => rd_js _ 61 l4 t2.len (by decide) rfl fun l5 => rd_jnil (fits l5 (by decide)) ?_
  refine q _ ?_
  rw [cpl_app, cpl_app, cpl_app, cpl_app, cpl_app, e1, e2, e47]
  have e0 : cpl Str.empty = [] := rfl
  rw [e0, List.nil_append, List.append_assoc, List.append_assoc, List.append_assoc]
  rfl
theorem sc_law_cell_at : FnScope ["_law_script", "_law_k"] ["_law_script", "_law_k"] (defScope s_law_cell_at) := ⟨rfl, rfl, rfl, by decide +kernel, rfl, by decide +kernel, by decide +kernel⟩
theorem ok_law_cell_at {f : Addr} {fd : FuncData} (F : Fun K "_law_cell_at" "_law_cell_at" s_law_cell_at f fd) (z_len : mg "len" = none) : FnOk P w K mg base CX0 1 f fd ["_law_script", "_law_k"] (spCell K) := by
  refine F.ok (k := 0) sc_law_cell_at (fun vs H Q E h => ?_) (fun cdv A outer s H vs Q E hr h => ?_)
  · obtain ⟨a, ns, k, rfl, _⟩ := h
    rfl
  obtain ⟨a, ns, k, rfl, hS, h0, hl, q⟩ := h
  refine ⟨_, (pss_cons (ps_if (pt_cmpR op_lt (pv 1) (pe_callB call_len_seq rfl z_len PySem.boot_len (pa_cons (pv 0) pa_nil)) (nomark _))
        (pss_one (ps_ret (pe_ix ix_list (pv 0) (pv 1) (fun _ _ => rfl))))
        pss_nil)
      (pss_one (ps_ret pe_int))), ?_⟩
  walk_at "rd"
  refine ⟨a, _, rfl, .inl hS, ?_⟩
  walk_at "rd"
  rw [List.length_map]
  refine ite2d (fun c => ?_) (fun c => ?_)
  · walk_at "rd"
    refine rd_ixL hS (at_ints h0 c) ?_
    exact q
  · walk_at "rd"
    have e : ns.getD k.toNat 0 = 0 := by
      simp [List.getD, List.getElem?_eq_none (show ns.length ≤ k.toNat by omega)]
    rw [e] at q
    exact q
theorem sc_law_whole : FnScope ["_law_found"] ["_law_found"] (defScope s_law_whole) := ⟨rfl, rfl, rfl, by decide +kernel, rfl, by decide +kernel, by decide +kernel⟩
theorem ok_law_whole {f : Addr} {fd : FuncData} (F : Fun K "_law_whole" "_law_whole" s_law_whole f fd) (z_isinstance : mg "isinstance" = none) (z_int : mg "int" = none) (z_bool : mg "bool" = none) : FnOk P w K mg base CX0 1 f fd ["_law_found"] spWhole := by
  refine F.ok (k := 0) sc_law_whole (fun vs H Q E h => ?_) (fun cdv A outer s H vs Q E hr h => ?_)
  · obtain ⟨i, rfl, _⟩ := h
    rfl
  obtain ⟨i, rfl, q⟩ := h
  refine ⟨_, (pss_one (ps_ret (pe_and (pe_callB call_isi rfl z_isinstance PyProof.Rows.boot_isinstance (pa_cons (pv 0) (pa_cons (pe_bltn rfl z_int PyProof.Rows.boot_int (rel_ty _)) pa_nil))) (pe_one (pe_not (pe_callB call_isi rfl z_isinstance PyProof.Rows.boot_isinstance (pa_cons (pv 0) (pa_cons (pe_bltn rfl z_bool PyProof.Rows.boot_bool (rel_ty _)) pa_nil)))))))), ?_⟩
  walk_at "rd"
  refine rd_isi (.int i) (kit_int_int K) ?_
  walk_at "rd"
  refine iteT ?_
  walk_at "rd"
  refine rd_isi (.int i) (kit_ib K) ?_
  walk_at "rd"
  exact q
theorem sc_law_year : FnScope ["_law_cell", "_law_part_here"] ["_law_cell"] (defScope s_law_year) := ⟨rfl, rfl, rfl, by decide +kernel, rfl, by decide +kernel, by decide +kernel⟩
theorem ok_law_year {f : Addr} {fd : FuncData} (F : Fun K "_law_year" "_law_year" s_law_year f fd) : FnOk P w K mg base CX0 1 f fd ["_law_cell"] spYear71 := by
  refine F.ok (k := 0) sc_law_year (fun vs H Q E h => ?_) (fun cdv A outer s H vs Q E hr h => ?_)
  · obtain ⟨x, rfl, _⟩ := h
    rfl
  obtain ⟨x, rfl, q⟩ := h
  refine ⟨_, (pss_cons (ps_set (i := 1) sc_law_year.nd rfl (by first | exact Or.inl rfl | exact Or.inr rfl) (pe_op op_mod (pe_op op_fdivB (pv 0) pe_int) (pe_ix ix_list (pe_lst (pa_cons pe_int (pa_cons (pe_op op_pow pe_int pe_int) pa_nil))) (pe_op op_mod (pv 0) pe_int) (fun _ _ => rfl))))
      (pss_one (ps_ret (pe_ix ix_list (pe_lst (pa_cons (pv 1) (pa_cons (pe_un un_neg (pv 1)) pa_nil))) (pe_op op_mod (pe_op op_fdivB (pv 0) pe_int) pe_int) (fun _ _ => rfl))))), ?_⟩
  walk_at "rdc"
  rw [p60]
  refine ⟨two', fun l hl => ?_⟩
  have s1 := same_new hl (.lst [.int 10000, .int 1000000000000000000000000000000000000000000000000000000000000])
  walk_at "rdc"
  obtain ⟨m, hm, m0, m1⟩ : ∃ m : Int, atI [V.int 10000, .int 1000000000000000000000000000000000000000000000000000000000000] (x % 2) = some (.int m) ∧ 0 < m ∧ m ≤ 1000000000000000000000000000000000000000000000000000000000000 := by
    rcases (by omega : x % 2 = 0 ∨ x % 2 = 1) with e | e <;> rw [e]
    · exact ⟨_, rfl, by decide, by decide⟩
    · exact ⟨_, rfl, by decide, by decide⟩
  refine rd_ixL (SqL.of upd_same) hm ?_
  refine rd_i m0 ?_
  have p0 := Int.emod_nonneg (x / 4) (show m ≠ 0 by omega)
  have p1 := Int.emod_lt_of_pos (x / 4) m0
  generalize x / 4 % m = pt at p0 p1
  walk_at "rdc"
  refine ⟨two', fun l2 hl2 => ?_⟩
  have s2 := same_new hl2 (.lst [.int pt, .int (-pt)])
  walk_at "rdc"
  have e60 : (10 : Nat) ^ 60 = 1000000000000000000000000000000000000000000000000000000000000 := by decide
  obtain ⟨i, hi, i0⟩ : ∃ i : Int, atI [V.int pt, .int (-pt)] (x / 2 % 2) = some (.int i) ∧ i.natAbs < 10 ^ 60 := by
    rw [e60]
    rcases (by omega : x / 2 % 2 = 0 ∨ x / 2 % 2 = 1) with e | e <;> rw [e]
    · exact ⟨_, rfl, by omega⟩
    · exact ⟨_, rfl, by omega⟩
  refine rd_ixL (SqL.of upd_same) hi ?_
  exact q _ _ (s1.trans s2) i0
theorem sc_law_part : FnScope ["_law_cell", "_law_most"] ["_law_cell", "_law_most"] (defScope s_law_part) := ⟨rfl, rfl, rfl, by decide +kernel, rfl, by decide +kernel, by decide +kernel⟩
theorem ok_law_part {f : Addr} {fd : FuncData} (F : Fun K "_law_part" "_law_part" s_law_part f fd) : FnOk P w K mg base CX0 1 f fd ["_law_cell", "_law_most"] spPart71 := by
  refine F.ok (k := 0) sc_law_part (fun vs H Q E h => ?_) (fun cdv A outer s H vs Q E hr h => ?_)
  · obtain ⟨c, m, rfl, _⟩ := h
    rfl
  obtain ⟨c, m, rfl, m1, m2, q⟩ := h
  have e60 : (10 : Nat) ^ 60 = 1000000000000000000000000000000000000000000000000000000000000 := by decide
  have fin : ∀ i : Int, 1 ≤ i → i ≤ 999999999999999999999999999999999999999999999999999999999999 → Q (.int i) H := fun i h1 h2 => by
    have := q i.toNat (by omega) (by rw [e60]; omega)
    rwa [show ((i.toNat : Nat) : Int) = i by omega] at this
  refine ⟨_, (pss_cons (ps_if (pt_cmpR op_eq (pe_op op_mod (pv 0) pe_int) pe_int (nomark _))
        (pss_one (ps_ret (pe_op op_add pe_int (pe_op op_mod (pe_op op_fdivB (pv 0) pe_int) pe_int))))
        pss_nil)
      (pss_cons (ps_if (pt_cmpR op_eq (pe_op op_mod (pv 0) pe_int) pe_int (nomark _))
        (pss_one (ps_ret (pe_op op_add pe_int (pe_op op_mod (pe_op op_fdivB (pv 0) pe_int) (pe_op op_sub (pe_op op_pow pe_int pe_int) pe_int)))))
        pss_nil)
      (pss_one (ps_ret (pe_op op_add pe_int (pe_op op_mod (pe_op op_fdivB (pv 0) pe_int) (pv 1))))))), ?_⟩
  walk_at "rdc"
  refine ite2d (fun _ => ?_) (fun _ => ?_)
  · walk_at "rdc"
    exact fin _ (by omega) (by omega)
  walk_at "rdc"
  refine ite2d (fun _ => ?_) (fun _ => ?_)
  · walk_at "rdc"
    rw [p60]
    exact fin _ (by omega) (by omega)
  walk_at "rdc"
  have k0 := Int.emod_nonneg (c / 6) (show m ≠ 0 by omega)
  have k1 := Int.emod_lt_of_pos (c / 6) (show 0 < m by omega)
  exact fin _ (by omega) (by omega)
theorem sc_law_two : FnScope ["_law_number", "_law_text"] ["_law_number"] (defScope s_law_two) := ⟨rfl, rfl, rfl, by decide +kernel, rfl, by decide +kernel, by decide +kernel⟩
theorem ok_law_two {f : Addr} {fd : FuncData} (F : Fun K "_law_two" "_law_two" s_law_two f fd) (z_str : mg "str" = none) (z_len : mg "len" = none) : FnOk P w K mg base CX0 1 f fd ["_law_number"] spPlText := by
  refine F.ok (k := 0) sc_law_two (fun vs H Q E h => ?_) (fun cdv A outer s H vs Q E hr h => ?_)
  · obtain ⟨n, rfl, _⟩ := h
    rfl
  obtain ⟨n, rfl, hn, q⟩ := h
  have tl : TL 1921 (intT (n : Int)) := TL.int (log60 hn)
  have dl := dT_len hn
  have zl := len_cpl (intT (n : Int))
  refine ⟨_, (pss_cons (ps_set (i := 1) sc_law_two.nd rfl (by first | exact Or.inl rfl | exact Or.inr rfl) (pe_callTy call_str_int rfl z_str PyProof.Rows.boot_str (pa_cons (pv 0) pa_nil)))
      (pss_cons (ps_if (pt_cmpR op_lt (pe_callB call_len_str rfl z_len PySem.boot_len (pa_cons (pv 1) pa_nil)) pe_int (nomark _))
        (pss_one (ps_ret (pe_op op_add_str pe_str (pv 1))))
        pss_nil)
      (pss_one (ps_ret (pv 1))))), ?_⟩
  walk_at "rdc"
  refine ⟨_, rfl, log60 hn, ?_⟩
  walk_at "rdc"
  have et : (Str.ofString (toString (n : Int))) = intT (n : Int) := rfl
  rw [et]
  have e48 : cpl (Str.ofString "0") = [48] := by decide +kernel
  refine ⟨_, rfl, Nat.le_trans tl.len (by decide), ?_⟩
  walk_at "rdc"
  refine ite2d (fun s2 => ?_) (fun s2 => ?_)
  · walk_at "rdc"
    refine ⟨_, _, rfl, rfl, ?_, ?_⟩
    · show 1 + (intT (n : Int)).length ≤ sizeLine
      rw [sizeLine_eq]
      omega
    refine q _ ?_ ⟨asc_app (by decide +kernel) tl.asc, ?_⟩
    · rw [cpl_app, e48]
      unfold twoT
      rw [if_pos (by omega)]
      rfl
    · rw [len_app]
      show 1 + _ ≤ 61
      omega
  · walk_at "rdc"
    refine q _ ?_ ⟨tl.asc, by omega⟩
    unfold twoT
    rw [if_neg (by omega)]
theorem sc_law_odd : FnScope ["_law_cell", "_law_some"] ["_law_cell"] (defScope s_law_odd) := ⟨rfl, rfl, rfl, by decide +kernel, rfl, by decide +kernel, by decide +kernel⟩
theorem ok_law_odd {f : Addr} {fd : FuncData} (F : Fun K "_law_odd" "_law_odd" s_law_odd f fd) : FnOk P w K mg base CX0 1 f fd ["_law_cell"] spOddT := by
  refine F.ok (k := 0) sc_law_odd (fun vs H Q E h => ?_) (fun cdv A outer s H vs Q E hr h => ?_)
  · obtain ⟨x, rfl, _⟩ := h
    rfl
  obtain ⟨x, rfl, q⟩ := h
  refine bss_ex ⟨_, (bss_cons (bs_set (i := 1) sc_law_odd.nd rfl (by first | exact Or.inl rfl | exact Or.inr rfl) (be_strs (ss := ["", "/", "//", "1/01", "1/01/01/01", "1/1/01", "1/01/1", "1/00/01", "1/01/00", "01/01/01", "-0/01/01"]) (by rfl)))
    (bss_cons (bs_set (i := 1) sc_law_odd.nd rfl (by first | exact Or.inl rfl | exact Or.inr rfl) (be_op op_cat (be (pv 1)) (be_strs (ss := ["1/-1/01", "+1/01/01", " 1/01/01", "1/01/01 ", "1/001/01", "1/01/010", "1//01"]) (by rfl))))
    (bss_one (bs (ps_ret (pe_ix ix_list (pv 1) (pe_op op_mod (pv 0) pe_int) (fun _ _ => rfl))))))), ?_⟩
  walk_at "rdc"
  refine rd_strs ?_
  refine ⟨(by show 11 ≤ sizeLine; decide), fun l hl => ?_⟩
  have s1 := same_new hl (.lst ((["", "/", "//", "1/01", "1/01/01/01", "1/1/01", "1/01/1", "1/00/01", "1/01/00", "01/01/01", "-0/01/01"] : List Str).map V.str))
  walk_at "rdc"
  refine rd_strs ?_
  refine ⟨(by show 7 ≤ sizeLine; decide), fun l2 hl2 => ?_⟩
  have s2 := same_new hl2 (.lst ((["1/-1/01", "+1/01/01", " 1/01/01", "1/01/01 ", "1/001/01", "1/01/010", "1//01"] : List Str).map V.str))
  walk_at "rdc"
  refine rd_cat (s2 _ _ upd_same) upd_same (by show 11 + 7 ≤ sizeLine; decide) (fun l3 hl3 => ?_)
  rw [← List.map_append]
  have s3 := same_new hl3 (.lst (((["", "/", "//", "1/01", "1/01/01/01", "1/1/01", "1/01/1", "1/00/01", "1/01/00", "01/01/01", "-0/01/01"] : List Str) ++ (["1/-1/01", "+1/01/01", " 1/01/01", "1/01/01 ", "1/001/01", "1/01/010", "1//01"] : List Str)).map V.str))
  walk_at "rdc"
  obtain ⟨z, hz, tz⟩ := at_texts (k := 100) (xs := ((["", "/", "//", "1/01", "1/01/01/01", "1/1/01", "1/01/1", "1/00/01", "1/01/00", "01/01/01", "-0/01/01"] : List Str) ++ (["1/-1/01", "+1/01/01", " 1/01/01", "1/01/01 ", "1/001/01", "1/01/010", "1//01"] : List Str)).map V.str) (i := x % 18) (by decide +kernel) (by omega) (by show x % 18 < 18; omega)
  refine rd_ixL (SqL.of upd_same) hz ?_
  exact q z _ ((s1.trans s2).trans s3) tz
theorem sc_law_free : FnScope ["_law_cell", "_law_signs", "_law_text", "_law_rest", "_law_k"] ["_law_cell", "_law_signs"] (defScope s_law_free) := ⟨rfl, rfl, rfl, by decide +kernel, rfl, by decide +kernel, by decide +kernel⟩
theorem ok_law_free {f : Addr} {fd : FuncData} (F : Fun K "_law_free" "_law_free" s_law_free f fd) (z_range : mg "range" = none) (z_len : mg "len" = none) : FnOk P w K mg base CX0 1 f fd ["_law_cell", "_law_signs"] spFreeT := by
  refine F.ok (k := 0) sc_law_free (fun vs H Q E h => ?_) (fun cdv A outer s H vs Q E hr h => ?_)
  · obtain ⟨x, z, rfl, _⟩ := h
    rfl
  obtain ⟨x, z, rfl, hz, l1, q⟩ := h
  refine ⟨_, (pss_cons (ps_set (i := 2) sc_law_free.nd rfl (by first | exact Or.inl rfl | exact Or.inr rfl) pe_str)
      (pss_cons (ps_set (i := 3) sc_law_free.nd rfl (by first | exact Or.inl rfl | exact Or.inr rfl) (pe_op op_fdivB (pv 0) pe_int))
      (pss_cons (ps_for PassesOwn.never rfl (pi_range1 rfl z_range (pa_cons (pe_op op_mod (pv 0) pe_int) pa_nil)) (pg_name (i := 4) sc_law_free.nd rfl (by first | exact Or.inl rfl | exact Or.inr rfl))
        (pss_cons (ps_set (i := 2) sc_law_free.nd rfl (by first | exact Or.inl rfl | exact Or.inr rfl) (pe_op op_add_str (pv 2) (pe_ix ix_str (pv 1) (pe_op op_mod (pv 3) (pe_callB call_len_str rfl z_len PySem.boot_len (pa_cons (pv 1) pa_nil))) (fun _ _ => rfl))))
      (pss_one (ps_set (i := 3) sc_law_free.nd rfl (by first | exact Or.inl rfl | exact Or.inr rfl) (pe_op op_fdivB (pv 3) (pe_callB call_len_str rfl z_len PySem.boot_len (pa_cons (pv 1) pa_nil)))))))
      (pss_one (ps_ret (pv 2)))))), ?_⟩
  have zf : z.length ≤ sizeLine := Nat.le_trans hz.len (by decide)
  have zl := hz.len
  walk_at "rdc"
  walk_at "rdf"
  walk_at "rdc"
  refine ⟨_, rfl, by omega, by omega, for_range (fun i σ' H' => H' = H ∧ ∃ (y : Str) (m : Int) (v : Option V), TL i y ∧ σ' = [some (.int x), some (.str z), some (.str y), some (.int m), v]) ⟨rfl, _, _, _, ⟨by decide +kernel, by decide +kernel⟩, rfl⟩ ?_ ?_⟩
  · rintro i σ' H' hi ⟨rfl, y, m, v, hy, rfl⟩
    rw [Int.zero_add]
    walk_at "rdc"
    refine ⟨z, rfl, zf, ?_⟩
    refine rd_i (show (0 : Int) < (z.length : Int) by omega) ?_
    have k0 := Int.emod_nonneg m (show (z.length : Int) ≠ 0 by omega)
    have k1 := Int.emod_lt_of_pos m (show (0 : Int) < (z.length : Int) by omega)
    have el : (cpl z).length = z.length := len_cpl z
    have hk : (m % (z.length : Int)).toNat < (cpl z).length := by omega
    have hc := List.getElem_mem hk
    have hat : atI z.cps.toList (m % (z.length : Int)) = some (cpl z)[(m % (z.length : Int)).toNat] := by
      have := atI_nat (xs := cpl z) (j := (m % (z.length : Int)).toNat) (v := (cpl z)[(m % (z.length : Int)).toNat]) (by simp [hk])
      rwa [show (((m % (z.length : Int)).toNat : Nat) : Int) = m % (z.length : Int) by omega] at this
    generalize (cpl z)[(m % (z.length : Int)).toNat] = c at hc hat
    have c1 := asc_iff.mp hz.asc c hc
    refine ⟨z, _, c, rfl, rfl, zf, hat, ?_⟩
    walk_at "rdc"
    have hyl := hy.len
    refine ⟨y, _, rfl, rfl, ?_, ?_⟩
    · show y.length + 1 ≤ sizeLine
      rw [sizeLine_eq]
      omega
    walk_at "rdc"
    refine ⟨z, rfl, zf, ?_⟩
    refine rd_i (cdiv_small (by omega) (by omega)) ?_
    walk_at "rdc"
    exact ⟨rfl, _, _, _, hy.app (TL.sign c1), rfl⟩
  · rintro σ' H' ⟨rfl, y, m, v, hy, rfl⟩
    walk_at "rdc"
    exact q y (hy.mono (by omega))
theorem sc_law_spoiled : FnScope ["_law_way", "_law_text", "_law_cell", "_law_at", "_law_parts"] ["_law_way", "_law_text", "_law_cell"] (defScope s_law_spoiled) := ⟨rfl, rfl, rfl, by decide +kernel, rfl, by decide +kernel, by decide +kernel⟩
theorem ok_law_spoiled {f : Addr} {fd : FuncData} (F : Fun K "_law_spoiled" "_law_spoiled" s_law_spoiled f fd) (c__law_odd : Cal P w K mg base 1 "_law_odd" ["_law_cell"] spOddT) (c__law_free : Cal P w K mg base 1 "_law_free" ["_law_cell", "_law_signs"] spFreeT) (z_len : mg "len" = none) : FnOk P w K mg base CX0 2 f fd ["_law_way", "_law_text", "_law_cell"] spSpoil71 := by
  refine F.ok (k := 1) sc_law_spoiled (fun vs H Q E h => ?_) (fun cdv A outer s H vs Q E hr h => ?_)
  · obtain ⟨w', c, z, rfl, _⟩ := h
    rfl
  obtain ⟨w', u, z, rfl, hz, l0, l3, q⟩ := h
  refine ⟨_, (pss_cons (ps_if (pt_cmpR op_eq (pv 0) pe_int (nomark _))
        (pss_cons (ps_set (i := 3) sc_law_spoiled.nd rfl (by first | exact Or.inl rfl | exact Or.inr rfl) (pe_op op_mod (pv 2) (pe_op op_add (pe_callB call_len_str rfl z_len PySem.boot_len (pa_cons (pv 1) pa_nil)) pe_int)))
      (pss_one (ps_ret (pe_op op_add_str (pe_op op_add_str (pe_slice sl_str (pv 1) po_none (po_some (pv 3))) (pe_ix ix_str pe_str (pe_op op_mod (pe_op op_fdivB (pv 2) pe_int) pe_int) (fun _ _ => rfl))) (pe_slice sl_str (pv 1) (po_some (pv 3)) po_none)))))
        pss_nil)
      (pss_cons (ps_if (pt_cmpR op_eq (pv 0) pe_int (nomark _))
        (pss_cons (ps_set (i := 3) sc_law_spoiled.nd rfl (by first | exact Or.inl rfl | exact Or.inr rfl) (pe_op op_mod (pv 2) (pe_callB call_len_str rfl z_len PySem.boot_len (pa_cons (pv 1) pa_nil))))
      (pss_one (ps_ret (pe_op op_add_str (pe_slice sl_str (pv 1) po_none (po_some (pv 3))) (pe_slice sl_str (pv 1) (po_some (pe_op op_add (pv 3) pe_int)) po_none)))))
        pss_nil)
      (pss_cons (ps_if (pt_cmpR op_eq (pv 0) pe_int (nomark _))
        (pss_one (ps_ret (pe_cal c__law_odd (hr.mono (by decide)) rfl (pa_cons (pv 2) pa_nil))))
        pss_nil)
      (pss_cons (ps_if (pt_cmpR op_eq (pv 0) pe_int (nomark _))
        (pss_cons (ps_set (i := 4) sc_law_spoiled.nd rfl (by first | exact Or.inl rfl | exact Or.inr rfl) (pe_bm PySem.F.plainAttrs_str PySem.F.slot_str_split PySem.F.type_str_split mt_split (pv 1) (pa_cons pe_str pa_nil)))
      (pss_cons (ps_asg (pe_ix ix_list (pe_lst (pa_cons (pe_op op_add_str pe_str (pe_ix ix_list (pv 4) (pe_op op_mod (pv 2) pe_int) (fun _ _ => rfl))) (pa_cons (pe_op op_mulS pe_str pe_int) (pa_cons pe_str (pa_cons (pe_op op_add_str pe_str (pe_ix ix_list (pv 4) (pe_op op_mod (pv 2) pe_int) (fun _ _ => rfl))) pa_nil))))) (pe_op op_mod (pe_op op_fdivB (pv 2) pe_int) pe_int) (fun _ _ => rfl)) (pg_sub (pv 4) (pe_op op_mod (pv 2) pe_int) set_list))
      (pss_one (ps_ret (pe_bm PySem.F.plainAttrs_str PySem.F.slot_str_join PySem.F.type_str_join mt_join pe_str (pa_cons (pv 4) pa_nil))))))
        pss_nil)
      (pss_cons (ps_if (pt_cmpR op_eq (pv 0) pe_int (nomark _))
        (pss_one (ps_ret (pe_ix ix_list (pe_lst (pa_cons pe_non (pa_cons (pe_tup (pa_cons pe_str (pa_cons pe_str (pa_cons pe_str pa_nil)))) (pa_cons pe_int pa_nil)))) (pe_op op_mod (pv 2) pe_int) (fun _ _ => rfl))))
        pss_nil)
      (pss_cons (ps_if (pt_cmpR op_eq (pv 0) pe_int (nomark _))
        (pss_one (ps_ret (pe_cal c__law_free (hr.mono (by decide)) rfl (pa_cons (pe_op op_fdivB (pv 2) pe_int) (pa_cons (pe_ix ix_list (pe_lst (pa_cons pe_str (pa_cons pe_str (pa_cons pe_str pa_nil)))) (pe_op op_mod (pv 2) pe_int) (fun _ _ => rfl)) pa_nil)))))
        pss_nil)
      (pss_one (ps_ret (pv 1))))))))), ?_⟩
  have zl := hz.len
  have zf : z.length ≤ sizeLine := Nat.le_trans zl (by decide)
  walk_at "rdc"
  refine ite2d (fun _ => ?_) (fun _ => ?_)
  · walk_at "rdc"
    refine ⟨z, rfl, zf, ?_⟩
    walk_at "rdc"
    generalize hat : u % ((z.length : Int) + 1) = at'
    refine ⟨z, rfl, zf, ?_⟩
    walk_at "rdc"
    obtain ⟨c, hc, c1⟩ : ∃ c, atI (Str.ofString "0123456789-+ /.a").cps.toList (u / 7 % 16) = some c ∧ c < 128 := by
      have el : (cpl (Str.ofString "0123456789-+ /.a")).length = 16 := by decide +kernel
      have hk : (u / 7 % 16).toNat < (cpl (Str.ofString "0123456789-+ /.a")).length := by omega
      have hall : ∀ c ∈ cpl (Str.ofString "0123456789-+ /.a"), c < 128 := by decide +kernel
      refine ⟨_, ?_, hall _ (List.getElem_mem hk)⟩
      have := atI_nat (xs := cpl (Str.ofString "0123456789-+ /.a")) (j := (u / 7 % 16).toNat) (v := (cpl (Str.ofString "0123456789-+ /.a"))[(u / 7 % 16).toNat]) (by simp [hk])
      rwa [show (((u / 7 % 16).toNat : Nat) : Int) = u / 7 % 16 by omega] at this
    refine ⟨_, _, c, rfl, rfl, (by decide +kernel), hc, ?_⟩
    have t1 := hz.slice none (some at')
    have t2 := t1.app (TL.sign c1)
    have t3 := hz.slice (some at') none
    refine ⟨_, _, rfl, rfl, ?_, ?_⟩
    · have := t1.len
      show (Txt.slice z none (some at')).length + 1 ≤ sizeLine
      rw [sizeLine_eq]
      omega
    walk_at "rdc"
    refine ⟨z, rfl, zf, ?_⟩
    walk_at "rdc"
    refine ⟨_, _, rfl, rfl, ?_, ?_⟩
    · have := t2.len
      have := t3.len
      rw [sizeLine_eq]
      omega
    exact q _ _ (Same.refl _) (.txt _ ((t2.app t3).ok (by decide)))
  walk_at "rdc"
  refine ite2d (fun _ => ?_) (fun _ => ?_)
  · walk_at "rdc"
    refine ⟨z, rfl, zf, ?_⟩
    refine rd_i (show (0 : Int) < (z.length : Int) by omega) ?_
    generalize u % (z.length : Int) = at'
    walk_at "rdc"
    refine ⟨z, rfl, zf, ?_⟩
    walk_at "rdc"
    refine ⟨z, rfl, zf, ?_⟩
    walk_at "rdc"
    have t1 := hz.slice none (some at')
    have t3 := hz.slice (some (at' + 1)) none
    refine ⟨_, _, rfl, rfl, ?_, ?_⟩
    · have := t1.len
      have := t3.len
      rw [sizeLine_eq]
      omega
    exact q _ _ (Same.refl _) (.txt _ ((t1.app t3).ok (by decide)))
  walk_at "rdc"
  refine ite2d (fun _ => ?_) (fun _ => ?_)
  · walk_at "rdc"
    exact ⟨u, rfl, fun y H1 s1 ty => q _ _ s1 (.txt _ (ty.ok (by decide)))⟩
  walk_at "rdc"
  refine ite2d (fun _ => ?_) (fun _ => ?_)
  · walk_at "rdc"
    refine rd_bm ?_
    walk_at "rdc"
    refine ⟨rfl, ?_⟩
    walk_at "rdc"
    refine ⟨z, 47, rfl, rfl, by decide, by omega, fun l hl => ?_⟩
    have s1 := same_new hl (.lst ((splS 47 z).map V.str))
    have t1 : upd H l (.lst ((splS 47 z).map V.str)) l = some (.lst ((splS 47 z).map V.str)) := upd_same
    obtain ⟨a, b, c, ec⟩ : ∃ a b c, spl 47 (cpl z) = [a, b, c] := by
      match spl 47 (cpl z), l3 with
      | [a, b, c], _ => exact ⟨a, b, c, rfl⟩
    have es : (splS 47 z).map V.str = [.str ⟨a.toArray⟩, .str ⟨b.toArray⟩, .str ⟨c.toArray⟩] := by
      unfold splS
      rw [show spl 47 (cps z) = [a, b, c] from ec]
      rfl
    rw [es] at s1 t1 ⊢
    have tk : ∀ p ∈ spl 47 (cpl z), TL 3000 (⟨p.toArray⟩ : Str) := fun p hp => by
      have ok := (hz.ok (by decide)).part hp (spl_mem 47 _ p hp)
      refine ⟨ok.asc, ?_⟩
      have l := spl_len 47 (cpl z) p hp
      rw [len_cpl] at l
      have : (⟨p.toArray⟩ : Str).length = p.length := by rw [← len_cpl]; rfl
      omega
    rw [ec] at tk
    have ta := tk a (by simp)
    have tb := tk b (by simp)
    have tc := tk c (by simp)
    generalize (⟨a.toArray⟩ : Str) = za at s1 t1 ta ⊢
    generalize (⟨b.toArray⟩ : Str) = zb at s1 t1 tb ⊢
    generalize (⟨c.toArray⟩ : Str) = zc at s1 t1 tc ⊢
    generalize hH1 : upd H l (.lst [.str za, .str zb, .str zc]) = H1 at s1 t1 ⊢
    obtain ⟨y, j, hj, j3, ej, ty⟩ : ∃ (y : Str) (j : Nat), atI [V.str za, .str zb, .str zc] (u % 3) = some (.str y) ∧ j < 3 ∧ u % 3 = (j : Int) ∧ TL 3000 y := by
      rcases (by omega : u % 3 = 0 ∨ u % 3 = 1 ∨ u % 3 = 2) with e | e | e <;> rw [e]
      · exact ⟨za, 0, rfl, by decide, rfl, ta⟩
      · exact ⟨zb, 1, rfl, by decide, rfl, tb⟩
      · exact ⟨zc, 2, rfl, by decide, rfl, tc⟩
    walk_at "rdc"
    have yl := ty.len
    have q0 : TL 1 (Str.ofString "0") := ⟨by decide +kernel, by decide +kernel⟩
    have qm : TL 1 (Str.ofString "-") := ⟨by decide +kernel, by decide +kernel⟩
    have q2 : TL 2 (Str.ofString "00") := ⟨by decide +kernel, by decide +kernel⟩
    have q61 : TL 61 (Txt.mul (Str.ofString "1") 61) := ⟨by decide +kernel, by decide +kernel⟩
    refine rd_ixL (SqL.of t1) hj ?_
    refine ⟨_, _, rfl, rfl, ?_, ?_⟩
    · show 1 + y.length ≤ sizeLine
      rw [sizeLine_eq]
      omega
    walk_at "rdc"
    refine ⟨_, _, rfl, rfl, mul61, ?_⟩
    walk_at "rdc"
    refine rd_ixL (SqL.of t1) hj ?_
    refine ⟨_, _, rfl, rfl, ?_, ?_⟩
    · show 1 + y.length ≤ sizeLine
      rw [sizeLine_eq]
      omega
    walk_at "rdc"
    refine ⟨four, fun l2 hl2 => ?_⟩
    have s2 := same_new hl2 (.lst [.str (Str.ofString "0" ++ y), .str (Txt.mul (Str.ofString "1") 61), .str (Str.ofString "00"), .str (Str.ofString "-" ++ y)])
    walk_at "rdc"
    obtain ⟨x, hx, tx⟩ : ∃ x : Str, atI [V.str (Str.ofString "0" ++ y), .str (Txt.mul (Str.ofString "1") 61), .str (Str.ofString "00"), .str (Str.ofString "-" ++ y)] (u / 3 % 4) = some (.str x) ∧ TL 3001 x := by
      rcases (by omega : u / 3 % 4 = 0 ∨ u / 3 % 4 = 1 ∨ u / 3 % 4 = 2 ∨ u / 3 % 4 = 3) with e | e | e | e <;> rw [e]
      · exact ⟨_, rfl, (q0.app ty).mono (by decide)⟩
      · exact ⟨_, rfl, q61.mono (by decide)⟩
      · exact ⟨_, rfl, q2.mono (by decide)⟩
      · exact ⟨_, rfl, (qm.app ty).mono (by decide)⟩
    refine rd_ixL (SqL.of upd_same) hx ?_
    have t2 := s2 _ _ t1
    generalize hH2 : upd H1 l2 (.lst [.str (Str.ofString "0" ++ y), .str (Txt.mul (Str.ofString "1") 61), .str (Str.ofString "00"), .str (Str.ofString "-" ++ y)]) = H2 at s2 t2 ⊢
    walk_at "rdc"
    rw [ej]
    refine rd_setL t2 j3 ?_
    have t3 : upd H2 l (.lst ([V.str za, .str zb, .str zc].set j (.str x))) l = some (.lst ([V.str za, .str zb, .str zc].set j (.str x))) := upd_same
    have s3 : Same H (upd H2 l (.lst ([V.str za, .str zb, .str zc].set j (.str x)))) := by
      intro r o ho
      have hr1 : r ≠ l := fun e => by rw [e, hl] at ho; cases ho
      rw [upd_ne hr1]
      exact s2 _ _ (s1 _ _ ho)
    generalize upd H2 l (.lst ([V.str za, .str zb, .str zc].set j (.str x))) = H3 at t3 s3 ⊢
    obtain ⟨xa, xb, xc, ex, txa, txb, txc⟩ : ∃ xa xb xc : Str, [V.str za, .str zb, .str zc].set j (.str x) = [xa, xb, xc].map V.str ∧ TL 3001 xa ∧ TL 3001 xb ∧ TL 3001 xc := by
      have ta' := ta.mono (show 3000 ≤ 3001 by decide)
      have tb' := tb.mono (show 3000 ≤ 3001 by decide)
      have tc' := tc.mono (show 3000 ≤ 3001 by decide)
      rcases (by omega : j = 0 ∨ j = 1 ∨ j = 2) with e | e | e <;> subst e
      · exact ⟨x, zb, zc, rfl, tx, tb', tc'⟩
      · exact ⟨za, x, zc, rfl, ta', tx, tc'⟩
      · exact ⟨za, zb, x, rfl, ta', tb', tx⟩
    rw [ex] at t3
    walk_at "rdc"
    refine rd_bm ?_
    walk_at "rdc"
    refine ⟨rfl, ?_⟩
    walk_at "rdc"
    have qs : TL 1 (Str.ofString "/") := ⟨by decide +kernel, by decide +kernel⟩
    refine ⟨_, l, [xa, xb, xc], rfl, rfl, SqL.of t3, ?_, ?_⟩
    · have := txa.len
      have := txb.len
      have := txc.len
      have := qs.len
      simp only [List.map_cons, List.map_nil, List.sum_cons, List.sum_nil, List.length_cons, List.length_nil]
      omega
    rw [join3]
    exact q _ _ s3 (.txt _ (((((txa.app qs).app txb).app qs).app txc).ok (by decide)))
  walk_at "rdc"
  refine ite2d (fun _ => ?_) (fun _ => ?_)
  · walk_at "rdc"
    refine ⟨(by show 3 ≤ sizeLine; decide), fun p1 hp1 => ?_⟩
    have s1 := same_new hp1 (.tup [.str "1", .str "01", .str "01"])
    have t1 : upd H p1 (.tup [.str "1", .str "01", .str "01"]) p1 = some (.tup [.str "1", .str "01", .str "01"]) := upd_same
    generalize upd H p1 (.tup [.str "1", .str "01", .str "01"]) = H1 at s1 t1 ⊢
    walk_at "rdc"
    refine ⟨(by show 3 ≤ sizeLine; decide), fun p2 hp2 => ?_⟩
    have s2 := same_new hp2 (.lst [.non, .ref p1, .int 10101])
    walk_at "rdc"
    rcases (by omega : u % 3 = 0 ∨ u % 3 = 1 ∨ u % 3 = 2) with e | e | e <;> rw [e]
    · refine rd_ixL (SqL.of upd_same) (v := .non) rfl ?_
      exact q _ _ (s1.trans s2) .non
    · refine rd_ixL (SqL.of upd_same) (v := .ref p1) rfl ?_
      exact q _ _ (s1.trans s2) (.tup p1 _ (s2 _ _ t1))
    · refine rd_ixL (SqL.of upd_same) (v := .int 10101) rfl ?_
      exact q _ _ (s1.trans s2) (.int _)
  walk_at "rdc"
  refine ite2d (fun _ => ?_) (fun _ => ?_)
  · walk_at "rdc"
    refine ⟨(by show 3 ≤ sizeLine; decide), fun l1 hl1 => ?_⟩
    have v1 := same_new hl1 (.lst [.str "0123456789/", .str "0123456789-/", .str "01/-+ "])
    walk_at "rdc"
    obtain ⟨y, hy, ty⟩ := at_texts (k := 1000) (xs := [.str "0123456789/", .str "0123456789-/", .str "01/-+ "]) (i := u % 3) (by decide +kernel) (by omega) (by show u % 3 < 3; omega)
    have yl : 1 ≤ y.length := by
      rcases (by omega : u % 3 = 0 ∨ u % 3 = 1 ∨ u % 3 = 2) with e | e | e <;> rw [e] at hy
      · cases (show some (V.str (Str.ofString "0123456789/")) = some (V.str y) from hy)
        decide +kernel
      · cases (show some (V.str (Str.ofString "0123456789-/")) = some (V.str y) from hy)
        decide +kernel
      · cases (show some (V.str (Str.ofString "01/-+ ")) = some (V.str y) from hy)
        decide +kernel
    refine rd_ixL (SqL.of upd_same) hy ?_
    walk_at "rdc"
    exact ⟨_, y, rfl, ty, yl, fun y2 t2 => q _ _ v1 (.txt y2 (t2.ok (by decide)))⟩
  walk_at "rdc"
  exact q _ _ (Same.refl _) (.txt z (hz.ok (by decide)))
theorem sc_law_value : FnScope ["_law_text", "_law_sign"] ["_law_text"] (defScope s_law_value) := ⟨rfl, rfl, rfl, by decide +kernel, rfl, by decide +kernel, by decide +kernel⟩
theorem ok_law_value {f : Addr} {fd : FuncData} (F : Fun K "_law_value" "_law_value" s_law_value f fd) (z_len : mg "len" = none) (z_int : mg "int" = none) : FnOk P w K mg base CX0 1 f fd ["_law_text"] spValue71 := by
  refine F.ok (k := 0) sc_law_value (fun vs H Q E h => ?_) (fun cdv A outer s H vs Q E hr h => ?_)
  · obtain ⟨z, rfl, _⟩ := h
    rfl
  obtain ⟨z, rfl, hz, q, qn⟩ := h
  refine ⟨_, (pss_cons (ps_if (PW.pt (pw_or (pt_cmpR op_lt (pe_callB call_len_str rfl z_len PySem.boot_len (pa_cons (pv 0) pa_nil)) pe_int (nomark _)) (pw_or1 (pt_cmpR op_gt (pe_callB call_len_str rfl z_len PySem.boot_len (pa_cons (pv 0) pa_nil)) pe_int (nomark _)))))
        (pss_one (ps_ret pe_non))
        pss_nil)
      (pss_cons (ps_for PassesOwn.never rfl (pi_str (pv 0)) (pg_name (i := 1) sc_law_value.nd rfl (by first | exact Or.inl rfl | exact Or.inr rfl))
        (pss_one (ps_if (pt_cmpR op_notin_str (pv 1) pe_str (by rfl))
        (pss_one (ps_ret pe_non))
        pss_nil)))
      (pss_one (ps_ret (pe_callTy call_int_text rfl z_int PyProof.Rows.boot_int (pa_cons (pv 0) pa_nil)))))), ?_⟩
  have zl : (cpl z).length = z.length := len_cpl _
  walk_at "rdx"
  refine ⟨_, rfl, hz.fit, ?_⟩
  walk_at "rdx"
  refine ite2d (fun l1 => iteT ?_) (fun l1 => ?_)
  · walk_at "rdx"
    refine qn (fun N => ?_)
    have := N.lo
    omega
  walk_at "rdx"
  refine ⟨_, rfl, hz.fit, ?_⟩
  walk_at "rdx"
  refine ite2d (fun l2 => ?_) (fun l2 => ?_)
  · walk_at "rdx"
    refine qn (fun N => ?_)
    have := N.hi
    omega
  walk_at "rdx"
  refine rd_for (rd_iS ?_)
  walk_at "rdx"
  refine ⟨z, rfl, hz.asc, for_str (fun i σ' H' => H' = H ∧ (∀ c ∈ (cpl z).take i, 48 ≤ c ∧ c ≤ 57) ∧ ∃ v : Option V, σ' = [some (.str z), v]) ⟨rfl, (by simp), _, rfl⟩ ?_ ?_⟩
  · rintro i c σ' H' hc ⟨rfl, old, v, rfl⟩
    walk_at "rdx"
    refine ⟨_, _, rfl, rfl, ?_⟩
    rw [in_dig]
    walk_at "rdx"
    by_cases hd : 48 ≤ c ∧ c ≤ 57
    · refine iteNS hd ?_
      walk_at "rdx"
      refine ⟨rfl, fun d hdm => ?_, _, rfl⟩
      rw [List.take_add_one, show (cpl z)[i]? = some c from hc] at hdm
      rcases List.mem_append.mp hdm with h | h
      · exact old d h
      · have : d = c := by simpa using h
        rw [this]
        exact hd
    · refine iteNN hd ?_
      walk_at "rdx"
      exact qn (fun N => hd (N.dg c (List.mem_of_getElem? hc)))
  rintro σ' H' ⟨rfl, all, v, rfl⟩
  have all' : ∀ c ∈ cpl z, 48 ≤ c ∧ c ≤ 57 := by
    have : (cpl z).take z.cps.toList.length = cpl z := List.take_length
    rw [this] at all
    exact all
  have N : Figs (cpl z) := ⟨by omega, by omega, all'⟩
  walk_at "rdx"
  refine ⟨z, _, rfl, by omega, int_figs N, ?_⟩
  exact q N
theorem sc_law_due : FnScope ["_law_text", "_law_parts", "_law_sign", "_law_values", "_law_k"] ["_law_text"] (defScope s_law_due) := ⟨rfl, rfl, rfl, by decide +kernel, rfl, by decide +kernel, by decide +kernel⟩
theorem ok_law_due {f : Addr} {fd : FuncData} (F : Fun K "_law_due" "_law_due" s_law_due f fd) (c__law_value : Cal P w K mg base 1 "_law_value" ["_law_text"] spValue71) (c__law_two : Cal P w K mg base 1 "_law_two" ["_law_number"] spPlText) (z_isinstance : mg "isinstance" = none) (z_str : mg "str" = none) : FnOk P w K mg base CX0 2 f fd ["_law_text"] spDue71 := by
  refine F.ok (k := 1) sc_law_due (fun vs H Q E h => ?_) (fun cdv A outer s H vs Q E hr h => ?_)
  · obtain ⟨v, rfl, _⟩ := h
    rfl
  obtain ⟨v, rfl, hv, q, qn⟩ := h
  refine ⟨_, (pss_cons (ps_if (PW.pt (pw_or (pt_not (pt_val (pe_callB call_isi rfl z_isinstance PyProof.Rows.boot_isinstance (pa_cons (pv 0) (pa_cons (pe_bltn rfl z_str PyProof.Rows.boot_str (rel_ty _)) pa_nil))))) (pw_or1 (pt_cmpR op_ne (pe_bm PySem.F.plainAttrs_str PySem.F.slot_str_count PySem.F.type_str_count mt_count (pv 0) (pa_cons pe_str pa_nil)) pe_int (nomark _)))))
        (pss_one (ps_ret pe_non))
        pss_nil)
      (pss_cons (ps_set (i := 1) sc_law_due.nd rfl (by first | exact Or.inl rfl | exact Or.inr rfl) (pe_bm PySem.F.plainAttrs_str PySem.F.slot_str_split PySem.F.type_str_split mt_split (pv 0) (pa_cons pe_str pa_nil)))
      (pss_cons (ps_set (i := 2) sc_law_due.nd rfl (by first | exact Or.inl rfl | exact Or.inr rfl) pe_int)
      (pss_cons (ps_cut (ps_if (pt_cmpR op_eq (pe_slice sl_str (pe_ix ix_list (pv 1) pe_int (fun _ _ => rfl)) po_none (po_some pe_int)) pe_str (nomark _))
        (pss_cons (ps_set (i := 2) sc_law_due.nd rfl (by first | exact Or.inl rfl | exact Or.inr rfl) (pe_un un_neg pe_int))
      (pss_one (ps_asg (pe_slice sl_str (pe_ix ix_list (pv 1) pe_int (fun _ _ => rfl)) (po_some pe_int) po_none) (pg_sub (pv 1) pe_int set_list))))
        pss_nil))
      (pss_cons (ps_setComp (i := 3) sc_law_due.nd rfl (by first | exact Or.inl rfl | exact Or.inr rfl) rfl (compOk_nil ["_law_text", "_law_parts", "_law_sign", "_law_values", "_law_k"] rfl (by decide +kernel) rfl (by decide +kernel) rfl (by decide +kernel) (by decide +kernel)) (pi_list (pv 1)) (fun _ _ _ _ => pifs_nil) (fun _ _ _ _ => (pe_cal c__law_value (hr.mono (by decide)) rfl (pa_cons (pv 0) pa_nil))))
      (pss_cons (ps_cut (ps_if (PW.pt (pw_or (pt_cmpR op_in_seq pe_non (pv 3) (by rfl)) (pw_or (pt_cmpR op_ne (pe_ix ix_list (pv 1) pe_int (fun _ _ => rfl)) (pe_callTy call_str_int rfl z_str PyProof.Rows.boot_str (pa_cons (pe_ix ix_list (pv 3) pe_int (fun _ _ => rfl)) pa_nil)) (nomark _)) (pw_or1 (PW.pt (pw_and (pt_cmpR op_eq (pv 2) (pe_un un_neg pe_int) (nomark _)) (pw_and1 (pt_cmpR op_eq (pe_ix ix_list (pv 3) pe_int (fun _ _ => rfl)) pe_int (nomark _)))))))))
        (pss_one (ps_ret pe_non))
        pss_nil))
      (pss_cons (ps_for PassesOwn.never rfl (pi_list (pe_lst (pa_cons pe_int (pa_cons pe_int pa_nil)))) (pg_name (i := 4) sc_law_due.nd rfl (by first | exact Or.inl rfl | exact Or.inr rfl))
        (pss_one (ps_if (PW.pt (pw_or (pt_cmpR op_lt (pe_ix ix_list (pv 3) (pv 4) (fun _ _ => rfl)) pe_int (nomark _)) (pw_or1 (pt_cmpR op_ne (pe_ix ix_list (pv 1) (pv 4) (fun _ _ => rfl)) (pe_cal c__law_two (hr.mono (by decide)) rfl (pa_cons (pe_ix ix_list (pv 3) (pv 4) (fun _ _ => rfl)) pa_nil)) (nomark _)))))
        (pss_one (ps_ret pe_non))
        pss_nil)))
      (pss_one (ps_ret (pe_tup (pa_cons (pe_op op_mulB (pv 2) (pe_ix ix_list (pv 3) pe_int (fun _ _ => rfl))) (pa_cons (pe_ix ix_list (pv 3) pe_int (fun _ _ => rfl)) (pa_cons (pe_ix ix_list (pv 3) pe_int (fun _ _ => rfl)) pa_nil))))))))))))), ?_⟩
  walk_at "rdx"
  refine rd_isS hv ?_
  walk_at "rdx"
  cases hv with
  | non =>
    refine iteT ?_
    walk_at "rdx"
    exact qn (fun ⟨_, _, _, _, e, _⟩ => nomatch e) _ (Same.refl _)
  | int i =>
    refine iteT ?_
    walk_at "rdx"
    exact qn (fun ⟨_, _, _, _, e, _⟩ => nomatch e) _ (Same.refl _)
  | tup a xs e0 =>
    refine iteT ?_
    walk_at "rdx"
    exact qn (fun ⟨_, _, _, _, e, _⟩ => nomatch e) _ (Same.refl _)
  | lst a xs e0 =>
    refine iteT ?_
    walk_at "rdx"
    exact qn (fun ⟨_, _, _, _, e, _⟩ => nomatch e) _ (Same.refl _)
  | txt z hz =>
    refine iteF ?_
    walk_at "rdx"
    refine rd_bm ?_
    walk_at "rdx"
    refine ⟨rfl, ?_⟩
    walk_at "rdx"
    refine ⟨z, 47, rfl, rfl, ?_⟩
    walk_at "rdx"
    have pl := count_spl 47 (cpl z)
    have pe : List.count 47 (cps z) = List.count 47 (cpl z) := rfl
    by_cases l3 : (spl 47 (cpl z)).length = 3
    rotate_left
    · refine iteNN (fun y => l3 (by have := V.int.inj y; omega)) ?_
      walk_at "rdx"
      refine qn (fun ⟨y, a, b, c, e, D⟩ => ?_) _ (Same.refl _)
      cases e
      exact l3 (by rw [D.cut]; rfl)
    refine iteNS (congrArg V.int (by omega)) ?_
    walk_at "rdx"
    refine rd_bm ?_
    walk_at "rdx"
    refine ⟨rfl, ?_⟩
    walk_at "rdx"
    refine ⟨z, 47, rfl, rfl, by decide, hz.len, fun l hl => ?_⟩
    have s1 := same_new hl (.lst ((splS 47 z).map V.str))
    have t1 : upd H l (.lst ((splS 47 z).map V.str)) l = some (.lst ((splS 47 z).map V.str)) := upd_same
    obtain ⟨a, b, c, ec⟩ : ∃ a b c, spl 47 (cpl z) = [a, b, c] := by
      match spl 47 (cpl z), l3 with
      | [a, b, c], _ => exact ⟨a, b, c, rfl⟩
    have es : (splS 47 z).map V.str = [.str ⟨a.toArray⟩, .str ⟨b.toArray⟩, .str ⟨c.toArray⟩] := by
      unfold splS
      rw [show spl 47 (cps z) = [a, b, c] from ec]
      rfl
    rw [es] at s1 t1 ⊢
    have tk : ∀ p ∈ spl 47 (cpl z), TOk (⟨p.toArray⟩ : Str) := fun p hp => hz.part hp (spl_mem 47 _ p hp)
    rw [ec] at tk
    have ta := tk a (by simp)
    have tb := tk b (by simp)
    have tc := tk c (by simp)
    have noD : ¬ (IsNum a ∧ PlcT b ∧ PlcT c) → ¬ isDT (.str z) := fun hn ⟨y, a', b', c', e, D⟩ => by
      cases e
      have := D.cut
      rw [ec] at this
      injection this with e1 this
      injection this with e2 this
      injection this with e3 _
      subst e1 e2 e3
      exact hn ⟨D.y, D.m, D.d⟩
    have ca : cpl (⟨a.toArray⟩ : Str) = a := rfl
    have cb : cpl (⟨b.toArray⟩ : Str) = b := rfl
    have cc : cpl (⟨c.toArray⟩ : Str) = c := rfl
    generalize (⟨a.toArray⟩ : Str) = za at s1 t1 ta ca ⊢
    generalize (⟨b.toArray⟩ : Str) = zb at s1 t1 tb cb ⊢
    generalize (⟨c.toArray⟩ : Str) = zc at s1 t1 tc cc ⊢
    have old : ∀ r o, H r = some o → r ≠ l := fun r o ho e => by rw [e, hl] at ho; cases ho
    generalize upd H l (.lst [.str za, .str zb, .str zc]) = H1 at s1 t1 ⊢
    walk_at "rdx"
    have e45 : cpl (Str.ofString "-") = [45] := by decide +kernel
    refine rd_cut (fun σ' H' => Same H H' ∧ ∃ (y : Str), TOk y ∧ cpl y = figs a ∧ H' l = some (.lst [.str y, .str zb, .str zc]) ∧ σ' = [some (.str z), some (.ref l), some (.int (if a.head? = some 45 then -1 else 1)), none, none]) ?_ ?_
    · walk_at "rdx"
      refine rd_ixL (SqL.of t1) (v := .str za) rfl ?_
      walk_at "rdx"
      refine ⟨za, rfl, ta.fit, ?_⟩
      walk_at "rdx"
      have hiff : V.str (Txt.slice za none (some 1)) = V.str (Str.ofString "-") ↔ a.head? = some 45 := by
        rw [← ca]
        constructor
        · intro e
          have := congrArg cpl (V.str.inj e)
          rw [slice_to1, e45] at this
          generalize cpl za = cs at this
          cases cs with
          | nil => cases this
          | cons a r =>
            injection this with e1 _
            rw [e1]
            rfl
        · intro e
          refine congrArg V.str (str_ext ?_)
          rw [slice_to1, e45]
          generalize cpl za = cs at e
          cases cs with
          | nil => cases e
          | cons a r =>
            injection e with e
            rw [e]
            rfl
      refine ite2d (fun hm => ?_) (fun hm => ?_)
      · have hm' := hiff.mp hm
        have l1 : 1 ≤ za.length := by
          rw [← len_cpl, ca]
          cases h : a with
          | nil => rw [h] at hm'; cases hm'
          | cons a r => simp
        walk_at "rdx"
        refine rd_ixL (SqL.of t1) (v := .str za) rfl ?_
        walk_at "rdx"
        refine ⟨za, rfl, ta.fit, ?_⟩
        walk_at "rdx"
        refine rd_setL (k := 0) t1 (by show 0 < 3; decide) ?_
        rw [if_pos hm']
        refine ⟨fun r o ho => ?_, _, ta.slice _ _, ?_, upd_same, rfl⟩
        · rw [upd_ne (old r o ho)]
          exact s1 _ _ ho
        · rw [slice_from1 l1, ca]
          unfold figs
          rw [if_pos hm']
      · walk_at "rdx"
        have hm' : ¬ a.head? = some 45 := fun e => hm (hiff.mpr e)
        rw [if_neg hm']
        exact ⟨s1, za, ta, by rw [ca, figs_pos hm'], t1, rfl⟩
    clear s1 t1
    rintro σ' H2 ⟨s1, y, hy, ey, t1, rfl⟩
    walk_at "rdx"
    refine comp_l rfl (SqL.of t1) (small1000 (by show 3 ≤ 1000; decide)) (fun _ => true) oV (fun x _ D ys Q' _ h => rd_true h) (fun x hx _ D ys Q' hD h => ?_) (fun D hD => ?_)
    · have : ∃ s, x = .str s ∧ TOk s := by
        rcases List.mem_cons.mp hx with e | hx
        · exact ⟨_, e, hy⟩
        rcases List.mem_cons.mp hx with e | hx
        · exact ⟨_, e, tb⟩
        rcases List.mem_cons.mp hx with e | hx
        · exact ⟨_, e, tc⟩
        cases hx
      obtain ⟨s, rfl, hs⟩ := this
      refine ⟨_, rfl, s, rfl, hs, fun F => ?_, fun F => ?_⟩
      · rw [show oV (.str s) = .int ((PySem.NumText.digitsVal (cpl s) : Nat) : Int) from oFig_y F] at h
        exact h
      · rw [show oV (.str s) = .non from oFig_n F] at h
        exact h
    have el : (([V.str y, .str zb, .str zc].filter fun _ => true).map oV) = [oFig (figs a), oFig b, oFig c] := by
      show [oFig (cpl y), oFig (cpl zb), oFig (cpl zc)] = _
      rw [ey, cb, cc]
    rw [el]
    have s2 := same_new hD (.lst [oFig (figs a), oFig b, oFig c])
    have t2 := s2 _ _ t1
    have t3 : upd H2 D (.lst [oFig (figs a), oFig b, oFig c]) D = some (.lst [oFig (figs a), oFig b, oFig c]) := upd_same
    generalize upd H2 D (.lst [oFig (figs a), oFig b, oFig c]) = H3 at s2 t2 t3 ⊢
    have s13 := s1.trans s2
    walk_at "rdx"
    refine rd_cut (fun σ' H' => H' = H3 ∧ IsNum a ∧ Figs b ∧ Figs c ∧ σ' = [some (.str z), some (.ref l), some (.int (if a.head? = some 45 then -1 else 1)), some (.ref D), none]) ?_ ?_
    · walk_at "rdx"
      refine ⟨D, _, rfl, .inl (SqL.of t3), rfl, flat_fig _ _ _, ?_⟩
      walk_at "rdx"
      by_cases F : Figs (figs a) ∧ Figs b ∧ Figs c
      rotate_left
      · rw [(in_fig _ _ _).mpr F]
        refine iteT (iteT ?_)
        walk_at "rdx"
        exact qn (noD fun h => F ⟨((num_iff a).mp h.1).1, ((plc_iff b).mp h.2.1).1, ((plc_iff c).mp h.2.2).1⟩) _ s13
      rw [show inV .non [oFig (figs a), oFig b, oFig c] = false from (Bool.not_eq_true _).mp fun z => (in_fig _ _ _).mp z F]
      refine iteF ?_
      obtain ⟨Fa, Fb, Fc⟩ := F
      rw [oFig_y Fa, oFig_y Fb, oFig_y Fc] at t3
      have la := figs_lt Fa
      have lb := figs_lt Fb
      have lc := figs_lt Fc
      generalize hna : PySem.NumText.digitsVal (figs a) = na at t3 la
      generalize hnb : PySem.NumText.digitsVal b = nb at t3 lb
      generalize hnc : PySem.NumText.digitsVal c = nc at t3 lc
      walk_at "rdx"
      refine rd_ixL (SqL.of t2) (v := .str y) rfl ?_
      walk_at "rdx"
      refine rd_ixL (SqL.of t3) (v := .int (na : Int)) rfl ?_
      refine ⟨_, rfl, log60 la, ?_⟩
      walk_at "rdx"
      have hc1 : V.str y = V.str (Str.ofString (toString (na : Int))) ↔ cpl (intT (na : Int)) = figs a := by
        rw [← ey]
        exact ⟨fun e => by rw [V.str.inj e]; rfl, fun e => congrArg V.str (str_ext e.symm)⟩
      by_cases c1 : cpl (intT (na : Int)) = figs a
      rotate_left
      · refine iteNN (fun e => c1 (hc1.mp e)) (iteT ?_)
        walk_at "rdx"
        exact qn (noD fun h => c1 (by rw [← hna]; exact ((num_iff a).mp h.1).2.1)) _ s13
      refine iteNS (hc1.mpr c1) ?_
      walk_at "rdx"
      by_cases hm : a.head? = some 45
      · rw [if_pos hm]
        refine iteD rfl ?_
        walk_at "rdx"
        refine rd_ixL (SqL.of t3) (v := .int (na : Int)) rfl ?_
        walk_at "rdx"
        by_cases n0 : na = 0
        · refine iteD (congrArg V.int (by omega)) ?_
          walk_at "rdx"
          exact qn (noD fun h => ((num_iff a).mp h.1).2.2 hm (by rw [hna]; exact n0)) _ s13
        · refine iteN (fun e => n0 (by have := V.int.inj e; omega)) ?_
          walk_at "rdx"
          exact ⟨rfl, (num_iff a).mpr ⟨Fa, by rw [hna]; exact c1, fun _ => by rw [hna]; exact n0⟩, Fb, Fc, rfl⟩
      · rw [if_neg hm]
        refine iteN (fun e => absurd (V.int.inj e) (by decide)) ?_
        walk_at "rdx"
        refine iteF ?_
        walk_at "rdx"
        exact ⟨rfl, (num_iff a).mpr ⟨Fa, by rw [hna]; exact c1, fun e => absurd e hm⟩, Fb, Fc, rfl⟩
    rintro σ' H4 ⟨rfl, N, Fb, Fc, rfl⟩
    have Fa := ((num_iff a).mp N).1
    rw [oFig_y Fa, oFig_y Fb, oFig_y Fc] at t3
    have la := figs_lt Fa
    have lb := figs_lt Fb
    have lc := figs_lt Fc
    generalize hna : PySem.NumText.digitsVal (figs a) = na at t3 la
    generalize hnb : PySem.NumText.digitsVal b = nb at t3 lb
    generalize hnc : PySem.NumText.digitsVal c = nc at t3 lc
    walk_at "rdx"
    refine rd_for (rd_iL ?_)
    walk_at "rdx"
    refine ⟨two', fun l5 hl5 => ?_⟩
    have s5 := same_new hl5 (.lst [.int 1, .int 2])
    have t5 : upd H4 l5 (.lst [.int 1, .int 2]) l5 = some (.lst [.int 1, .int 2]) := upd_same
    have t2 := s5 _ _ t2
    have t3 := s5 _ _ t3
    generalize upd H4 l5 (.lst [.int 1, .int 2]) = H5 at s5 t5 t2 t3 ⊢
    have s15 := s13.trans s5
    refine ⟨l5, rfl, ⟨_, SqL.of t5⟩, for_list (xs := [.int 1, .int 2]) (fun i σ' H' => H5 = H' ∧ (1 ≤ i → PlcT b) ∧ (2 ≤ i → PlcT c) ∧ ∃ v : Option V, σ' = [some (.str z), some (.ref l), some (.int (if a.head? = some 45 then -1 else 1)), some (.ref D), v]) ⟨rfl, (fun h => absurd h (by decide)), (fun h => absurd h (by decide)), _, rfl⟩ ?_ ?_ ?_⟩
    · rintro i σ' H' hi ⟨rfl, _⟩
      exact SqL.of t5
    · rintro i x σ' H' hx ⟨rfl, pb, pc, v, rfl⟩
      obtain ⟨k, zk, nk, wk, rfl, k1, k2, k3, k4, k5, k6, k7, k8⟩ : ∃ (k : Int) (zk : Str) (nk : Nat) (wk : List Nat), x = .int k ∧ atI [V.str y, .str zb, .str zc] k = some (.str zk) ∧ atI [V.int (na : Int), .int (nb : Int), .int (nc : Int)] k = some (.int (nk : Int)) ∧ cpl zk = wk ∧ Figs wk ∧ PySem.NumText.digitsVal wk = nk ∧ nk < 10 ^ 60 ∧ (PlcT wk → (1 ≤ i + 1 → PlcT b) ∧ (2 ≤ i + 1 → PlcT c)) ∧ (¬ PlcT wk → ¬ (IsNum a ∧ PlcT b ∧ PlcT c)) := by
        match i, hx with
        | 0, hx =>
          cases hx
          exact ⟨1, zb, nb, b, rfl, rfl, rfl, cb, Fb, hnb, lb, fun p => ⟨fun _ => p, fun h => absurd h (by decide)⟩, fun n h => n h.2.1⟩
        | 1, hx =>
          cases hx
          exact ⟨2, zc, nc, c, rfl, rfl, rfl, cc, Fc, hnc, lc, fun p => ⟨fun _ => pb (by decide), fun _ => p⟩, fun n h => n h.2.2⟩
        | (j + 2), hx => cases hx
      walk_at "rdx"
      refine rd_ixL (SqL.of t3) k2 ?_
      walk_at "rdx"
      by_cases n1 : (nk : Int) < 1
      · refine iteD n1 (iteT ?_)
        walk_at "rdx"
        exact qn (noD (k8 fun p => by have := ((plc_iff wk).mp p).2.1; omega)) _ s15
      refine iteN n1 ?_
      walk_at "rdx"
      refine rd_ixL (SqL.of t2) k1 ?_
      walk_at "rdx"
      refine rd_ixL (SqL.of t3) k2 ?_
      walk_at "rdx"
      refine ⟨nk, rfl, k6, fun z2 e2 tl2 => ?_⟩
      walk_at "rdx"
      by_cases w1 : wk = twoT nk
      · refine iteNS (congrArg V.str (str_ext (by rw [k3, e2, w1]))) ?_
        walk_at "rdx"
        have P := k7 ((plc_iff wk).mpr ⟨k4, by omega, by rw [k5]; exact w1⟩)
        exact ⟨rfl, P.1, P.2, _, rfl⟩
      · refine iteNN (fun e => w1 (by rw [← k3, V.str.inj e, e2])) ?_
        walk_at "rdx"
        exact qn (noD (k8 fun p => w1 (by have := ((plc_iff wk).mp p).2.2; rw [k5] at this; exact this))) _ s15
    rintro σ' H' ⟨rfl, pb, pc, v, rfl⟩
    replace pb := pb (by decide)
    replace pc := pc (by decide)
    have e60 : (10 : Nat) ^ 60 = 1000000000000000000000000000000000000000000000000000000000000 := by decide
    rw [e60] at la
    walk_at "rdx"
    refine rd_ixL (SqL.of t3) (v := .int (na : Int)) rfl ?_
    refine rd_i ⟨64, 200, (by unfold Bt; split <;> decide), bt_of (by omega) (by omega), by decide⟩ ?_
    walk_at "rdx"
    refine rd_ixL (SqL.of t3) (v := .int (nb : Int)) rfl ?_
    walk_at "rdx"
    refine rd_ixL (SqL.of t3) (v := .int (nc : Int)) rfl ?_
    walk_at "rdx"
    refine ⟨(by show 3 ≤ sizeLine; decide), fun p hp => ?_⟩
    refine q z a b c p _ rfl ⟨ec, N, pb, pc⟩ (s15.trans (same_new hp _)) ?_
    rw [num_val a, hna, plc_val pb, hnb, plc_val pc, hnc]
    exact upd_same
theorem sc_law_read : FnScope ["_law_handed", "_law_found", "_law_plain", "e"] ["_law_handed"] (defScope s_law_read) := ⟨rfl, rfl, rfl, by decide +kernel, rfl, by decide +kernel, by decide +kernel⟩
theorem ok_law_read {f : Addr} {fd : FuncData} (F : Fun K "_law_read" "_law_read" s_law_read f fd) (er : Errs K mg c_FeastError c_NoDate c_NoText) (c_read_date : CalE P w K mg base 4 "read_date" ["text"] (spReadD c_NoText)) (c__law_whole : Cal P w K mg base 1 "_law_whole" ["_law_found"] spWhole) (z_isinstance : mg "isinstance" = none) (z_tuple : mg "tuple" = none) (z_all : mg "all" = none) : FnOk P w K mg base CX0 5 f fd ["_law_handed"] spDue71 := by
  refine F.ok (k := 4) sc_law_read (fun vs H Q E h => ?_) (fun cdv A outer s H vs Q E hr h => ?_)
  · obtain ⟨v, rfl, _⟩ := h
    rfl
  obtain ⟨v, rfl, hv, q, qn⟩ := h
  refine ⟨_, (pss_cons (ps_set (i := 1) sc_law_read.nd rfl (by first | exact Or.inl rfl | exact Or.inr rfl) pe_non)
      (pss_cons (ps_set (i := 2) sc_law_read.nd rfl (by first | exact Or.inl rfl | exact Or.inr rfl) pe_bl)
      (pss_cons (ps_cut (ps_try rfl rfl (fun _ _ _ T => (pss_one (ps_set (i := 1) sc_law_read.nd rfl (by first | exact Or.inl rfl | exact Or.inr rfl) (pe_calE T c_read_date (hr.mono (by decide)) rfl (pa_cons (pv 0) pa_nil)))))
        (phs_consA (i := 3) er.h_NoText rfl sc_law_read.nd rfl rfl (fun _ => (pss_one (ps_set (i := 2) sc_law_read.nd rfl (by first | exact Or.inl rfl | exact Or.inr rfl) (pe_and (pe_callB call_isiX rfl z_isinstance PyProof.Rows.boot_isinstance (pa_cons (pv 3) (pa_cons (pe_glob rfl er.m_FeastError (rel_ref _)) pa_nil))) (pe_one (pe_not (pe_callB call_isiX rfl z_isinstance PyProof.Rows.boot_isinstance (pa_cons (pv 3) (pa_cons (pe_glob rfl er.m_NoDate (rel_ref _)) pa_nil)))))))))
        phs_nil)))
      (pss_cons (ps_if (pt_val (pv 2))
        (pss_one (ps_ret pe_non))
        pss_nil)
      (pss_cons (ps_if (PW.pt (pw_or (pt_not (pt_val (pe_callB call_isi rfl z_isinstance PyProof.Rows.boot_isinstance (pa_cons (pv 1) (pa_cons (pe_bltn rfl z_tuple PyProof.Rows.boot_tuple (rel_ty _)) pa_nil))))) (pw_or1 (pt_not (pt_val (pe_callB (call_all rfl) rfl z_all PyProof.Rows.boot_all (pa_cons (pe_comp rfl (compOk_nil ["_law_handed", "_law_found", "_law_plain", "e"] rfl (by decide +kernel) rfl (by decide +kernel) rfl (by decide +kernel) (by decide +kernel)) (pi_tup (pv 1)) (fun _ _ _ _ => pifs_nil) (fun _ _ _ _ => (pe_cal c__law_whole (hr.mono (by decide)) rfl (pa_cons (pv 0) pa_nil)))) pa_nil)))))))
        (pss_one (ps_ret pe_str))
        pss_nil)
      (pss_one (ps_ret (pv 1)))))))), ?_⟩
  walk_at "rdx"
  by_cases D : isDT v
  · obtain ⟨z, a, b, c, ez, D⟩ := D
    refine rd_cut (fun σ' H' => ∃ (p : Addr) (w' : Option V), Same H H' ∧ H' p = some (.tup [.int (numVal a), .int (plcVal b), .int (plcVal c)]) ∧ σ' = [some v, some (.ref p), some (.bl false), w']) ?_ ?_
    · walk_at "rdx"
      refine ⟨_, rfl, hv, fun z' a' b' c' p H3 ez' D' s3 t3 => ?_, fun hn => absurd ⟨z, a, b, c, ez, D⟩ hn⟩
      rw [ez] at ez'
      cases ez'
      have e := D.cut
      rw [D'.cut] at e
      injection e with e1 e
      injection e with e2 e
      injection e with e3 _
      subst e1 e2 e3
      walk_at "rdx"
      exact ⟨p, _, s3, t3, rfl⟩
    rintro σ' H4 ⟨p, w', s4, t4, rfl⟩
    walk_at "rdx"
    refine iteF ?_
    walk_at "rdx"
    refine rd_isi (.tup t4) (kit_tt K) ?_
    walk_at "rdx"
    refine iteF ?_
    walk_at "rdx"
    refine comp_wholeT (ns := [numVal a, plcVal b, plcVal c]) rfl (SqT.of t4) (by show 3 ≤ 1000; decide) fun D' hD => ?_
    walk_at "rdx"
    refine ⟨D', _, rfl, SqL.of upd_same, ?_⟩
    refine ⟨_, rfl, ?_⟩
    refine iteF ?_
    walk_at "rdx"
    have s5 := same_new hD (.lst (([numVal a, plcVal b, plcVal c].map fun _ => true).map V.bl))
    exact q z a b c p _ ez D (s4.trans s5) (s5 _ _ t4)
  · refine rd_cut (fun σ' H' => ∃ w' : Option V, Same H H' ∧ σ' = [some v, some .non, some (.bl true), w']) ?_ ?_
    · walk_at "rdx"
      refine ⟨_, rfl, hv, fun z' a' b' c' p H3 ez' D' s3 t3 => absurd ⟨z', a', b', c', ez', D'⟩ D, fun _ H3 s3 ea hea => ?_⟩
      refine rd_handA er.r_NoText_NoText ?_
      have s4 := same_new hea (ExcO ea (.ref c_NoText) none)
      have t4 : upd H3 ea (ExcO ea (.ref c_NoText) none) ea = some (ExcO ea (.ref c_NoText) none) := upd_same
      generalize upd H3 ea (ExcO ea (.ref c_NoText) none) = H4 at t4 s4 ⊢
      walk_at "rdx"
      refine rd_isiX t4 trivial er.g_NoText rfl er.i_NoText_FeastError ?_
      walk_at "rdx"
      refine iteT ?_
      walk_at "rdx"
      refine rd_isiX t4 trivial er.g_NoText rfl er.i_NoText_NoDate ?_
      walk_at "rdx"
      exact ⟨_, s3.trans s4, rfl⟩
    rintro σ' H4 ⟨w', s4, rfl⟩
    walk_at "rdx"
    refine iteT ?_
    walk_at "rdx"
    exact qn D _ s4
theorem sc_law : FnScope ["_law_script", "_law_year_here", "_law_date", "_law_text", "_law_shown", "_law_handed"] ["_law_script"] (defScope s_law) := ⟨rfl, rfl, rfl, by decide +kernel, rfl, by decide +kernel, by decide +kernel⟩
theorem ok_law {f : Addr} {fd : FuncData} (F : Fun K "law" "law" s_law f fd) (c__law_year : Cal P w K mg base 1 "_law_year" ["_law_cell"] spYear71) (c__law_cell_at : Cal P w K mg base 1 "_law_cell_at" ["_law_script", "_law_k"] (spCell K)) (c__law_part : Cal P w K mg base 1 "_law_part" ["_law_cell", "_law_most"] spPart71) (c__law_two : Cal P w K mg base 1 "_law_two" ["_law_number"] spPlText) (c_date_text : Cal P w K mg base 2 "date_text" ["date"] (spDateT K)) (c__law_read : Cal P w K mg base 5 "_law_read" ["_law_handed"] spDue71) (c__law_spoiled : Cal P w K mg base 2 "_law_spoiled" ["_law_way", "_law_text", "_law_cell"] spSpoil71) (c__law_due : Cal P w K mg base 2 "_law_due" ["_law_text"] spDue71) (z_str : mg "str" = none) (z_isinstance : mg "isinstance" = none) : FnOk P w K mg base CX0 6 f fd ["_law_script"] (spLaw K) := by
  refine F.ok (k := 5) sc_law (fun vs H Q E h => ?_) (fun cdv A outer s H vs Q E hr h => ?_)
  · obtain ⟨a, ns, rfl, _⟩ := h
    rfl
  obtain ⟨a, ns, rfl, hS, h63, hB, q⟩ := h
  refine ⟨_, (pss_cons (ps_set (i := 1) sc_law.nd rfl (by first | exact Or.inl rfl | exact Or.inr rfl) (pe_cal c__law_year (hr.mono (by decide)) rfl (pa_cons (pe_cal c__law_cell_at (hr.mono (by decide)) rfl (pa_cons (pv 0) (pa_cons pe_int pa_nil))) pa_nil)))
      (pss_cons (ps_set (i := 2) sc_law.nd rfl (by first | exact Or.inl rfl | exact Or.inr rfl) (pe_tup (pa_cons (pv 1) (pa_cons (pe_cal c__law_part (hr.mono (by decide)) rfl (pa_cons (pe_cal c__law_cell_at (hr.mono (by decide)) rfl (pa_cons (pv 0) (pa_cons pe_int pa_nil))) (pa_cons pe_int pa_nil))) (pa_cons (pe_cal c__law_part (hr.mono (by decide)) rfl (pa_cons (pe_cal c__law_cell_at (hr.mono (by decide)) rfl (pa_cons (pv 0) (pa_cons pe_int pa_nil))) (pa_cons pe_int pa_nil))) pa_nil)))))
      (pss_cons (ps_set (i := 3) sc_law.nd rfl (by first | exact Or.inl rfl | exact Or.inr rfl) (pe_op op_add_str (pe_op op_add_str (pe_op op_add_str (pe_op op_add_str (pe_callTy call_str_int rfl z_str PyProof.Rows.boot_str (pa_cons (pv 1) pa_nil)) pe_str) (pe_cal c__law_two (hr.mono (by decide)) rfl (pa_cons (pe_ix ix_tup (pv 2) pe_int (fun _ _ => rfl)) pa_nil))) pe_str) (pe_cal c__law_two (hr.mono (by decide)) rfl (pa_cons (pe_ix ix_tup (pv 2) pe_int (fun _ _ => rfl)) pa_nil))))
      (pss_cons (ps_set (i := 4) sc_law.nd rfl (by first | exact Or.inl rfl | exact Or.inr rfl) (pe_cal c_date_text (hr.mono (by decide)) rfl (pa_cons (pv 2) pa_nil)))
      (pss_cons (ps_if (PW.pt (pw_or (pt_not (pt_val (pe_callB call_isi rfl z_isinstance PyProof.Rows.boot_isinstance (pa_cons (pv 4) (pa_cons (pe_bltn rfl z_str PyProof.Rows.boot_str (rel_ty _)) pa_nil))))) (pw_or (pt_cmpR op_ne (pv 4) (pv 3) (nomark _)) (pw_or1 (pt_cmpR (op_neT hr.units0) (pe_cal c__law_read (hr.mono (by decide)) rfl (pa_cons (pv 3) pa_nil)) (pv 2) (nomark _))))))
        (pss_one (ps_ret pe_bl))
        pss_nil)
      (pss_cons (ps_set (i := 5) sc_law.nd rfl (by first | exact Or.inl rfl | exact Or.inr rfl) (pe_cal c__law_spoiled (hr.mono (by decide)) rfl (pa_cons (pe_op op_mod (pe_cal c__law_cell_at (hr.mono (by decide)) rfl (pa_cons (pv 0) (pa_cons pe_int pa_nil))) pe_int) (pa_cons (pv 3) (pa_cons (pe_cal c__law_cell_at (hr.mono (by decide)) rfl (pa_cons (pv 0) (pa_cons pe_int pa_nil))) pa_nil)))))
      (pss_one (ps_ret (pe_cmpR (op_eqO hr.units0) (pe_cal c__law_read (hr.mono (by decide)) rfl (pa_cons (pv 5) pa_nil)) (pe_cal c__law_due (hr.mono (by decide)) rfl (pa_cons (pv 5) pa_nil)) (nomark _)))))))))), ?_⟩
  walk_at "rdc"
  refine ⟨_, rfl, fun y H1 s1 hy => ?_⟩
  have hS1 := s1.seq hS
  walk_at "rdc"
  refine ⟨_, _, rfl, by decide, by decide, fun m m1 hm => ?_⟩
  walk_at "rdc"
  refine ⟨_, _, rfl, by decide, by decide, fun r r1 hr' => ?_⟩
  walk_at "rdc"
  refine ⟨(by show 3 ≤ sizeLine; decide), fun p hp => ?_⟩
  have s2 := same_new hp (.tup [.int y, .int (m : Int), .int (r : Int)])
  have t2 : upd H1 p (.tup [.int y, .int (m : Int), .int (r : Int)]) p = some (.tup [.int y, .int (m : Int), .int (r : Int)]) := upd_same
  generalize upd H1 p (.tup [.int y, .int (m : Int), .int (r : Int)]) = H2 at s2 t2 ⊢
  have hS2 := s2.seq hS1
  have ylog : y.natAbs.log2 < 1920 := by
    have e60 : (10 : Nat) ^ 60 = 1000000000000000000000000000000000000000000000000000000000000 := by decide
    rw [e60] at hy
    exact log_small (by omega) (by omega)
  have tly : TL 1921 (intT y) := TL.int ylog
  have qs : TL 1 (Str.ofString "/") := ⟨by decide +kernel, by decide +kernel⟩
  walk_at "rdc"
  refine ⟨_, rfl, ylog, ?_⟩
  have et : (Str.ofString (toString y)) = intT y := rfl
  rw [et]
  have ta := tly.app qs
  refine ⟨_, _, rfl, rfl, ?_, ?_⟩
  · have := tly.len
    have := qs.len
    rw [sizeLine_eq]
    omega
  walk_at "rdc"
  refine rd_ixT (SqT.of t2) (v := .int (m : Int)) rfl ?_
  walk_at "rdc"
  refine ⟨m, rfl, hm, fun z1 e1 tz1 => ?_⟩
  have tb := ta.app tz1
  refine ⟨_, _, rfl, rfl, ?_, ?_⟩
  · have := ta.len
    have := tz1.len
    rw [sizeLine_eq]
    omega
  walk_at "rdc"
  have tc := tb.app qs
  refine ⟨_, _, rfl, rfl, ?_, ?_⟩
  · have := tb.len
    have := qs.len
    rw [sizeLine_eq]
    omega
  walk_at "rdc"
  refine rd_ixT (SqT.of t2) (v := .int (r : Int)) rfl ?_
  walk_at "rdc"
  refine ⟨r, rfl, hr', fun z2 e2 tz2 => ?_⟩
  have td := tc.app tz2
  refine ⟨_, _, rfl, rfl, ?_, ?_⟩
  · have := tc.len
    have := tz2.len
    rw [sizeLine_eq]
    omega
  have cz : cpl (intT y ++ Str.ofString "/" ++ z1 ++ Str.ofString "/" ++ z2) = cpl (intT y) ++ 47 :: (twoT m ++ 47 :: twoT r) := by
    rw [cpl_app, cpl_app, cpl_app, cpl_app, e1, e2, e47, List.append_assoc, List.append_assoc, List.append_assoc]
    rfl
  have l1 : 1 ≤ (intT y ++ Str.ofString "/" ++ z1 ++ Str.ofString "/" ++ z2).length := by
    rw [← len_cpl, cz, List.length_append, List.length_cons]
    omega
  generalize intT y ++ Str.ofString "/" ++ z1 ++ Str.ofString "/" ++ z2 = z at cz td l1 ⊢
  have DT := date_t hy m1 hm r1 hr'
  rw [← cz] at DT
  have zok : TOk z := td.ok (by decide)
  walk_at "rdc"
  refine ⟨p, y, m, r, rfl, SqT.of t2, ylog, hm, hr', fun z' ez' => ?_⟩
  obtain rfl : z' = z := str_ext (by rw [ez', cz])
  walk_at "rdc"
  refine rd_isS (.txt z' zok) ?_
  walk_at "rdc"
  refine iteF ?_
  walk_at "rdc"
  refine iteNS rfl ?_
  walk_at "rdc"
  refine ⟨_, rfl, .txt z' zok, fun z0 a' b' c' p2 H3 ez D s3 t3 => ?_, fun hn => absurd ⟨z', _, _, _, rfl, DT⟩ hn⟩
  cases ez
  have ce := D.cut
  rw [DT.cut] at ce
  injection ce with ce1 ce
  injection ce with ce2 ce
  injection ce with ce3 _
  subst ce1 ce2 ce3
  have hS3 := s3.seq hS2
  walk_at "rdc"
  refine rd_neT (SqT.of t3) (SqT.of (s3 _ _ t2)) rfl rfl ?_
  rw [eq3 (figs_int hy).2.1 (two_plc m1 hm).2.1 (two_plc r1 hr').2.1]
  walk_at "rdc"
  refine iteF ?_
  walk_at "rdc"
  refine ⟨_, _, z', rfl, td.mono (by decide), l1, by rw [DT.cut]; rfl, fun v H4 s4 hv => ?_⟩
  walk_at "rdc"
  refine ⟨v, rfl, hv, fun z0 a' b' c' p3 H5 ez D s5 t5 => ?_, fun hn H5 s5 => ?_⟩
  · walk_at "rdc"
    refine ⟨v, rfl, hv.keep s5, fun z3 a3 b3 c3 p4 H6 ez3 D3 s6 t6 => ?_, fun hn => absurd ⟨z0, a', b', c', ez, D⟩ hn⟩
    rw [ez] at ez3
    cases ez3
    have ce := D.cut
    rw [D3.cut] at ce
    injection ce with ce1 ce
    injection ce with ce2 ce
    injection ce with ce3 _
    subst ce1 ce2 ce3
    refine .inr ⟨p3, p4, _, _, rfl, rfl, SqT.of (s6 _ _ t5), SqT.of t6, rfl, rfl, ?_⟩
    rw [eq3 rfl rfl rfl]
    exact q _
  · walk_at "rdc"
    exact ⟨v, rfl, hv.keep s5, fun z3 a3 b3 c3 p4 H6 ez3 D3 s6 t6 => absurd ⟨z3, a3, b3, c3, ez3, D3⟩ hn, fun _ H6 s6 => .inl ⟨rfl, rfl, q _⟩⟩
end
theorem all_mk {l : PySem.W.OpenLaw} {w : World} {K : PySem.W.Frag} {h : Heap} {mg : Str → Option Value} {fa f0 f1 f2 f3 f4 f5 f6 f7 f8 f9 f10 f11 f12 f13 f14 f15 f16 f17 : Addr} {c_FeastError c_NoDate c_NoText : Addr} (X : K.In h) (G : h.Ns mainGlobals mg) (hfa : mg "law" = some (.ref fa))
    {od0 an0 od1 an1 od2 an2 od3 an3 od4 an4 od5 an5 od6 an6 od7 an7 od8 an8 od9 an9 od10 an10 od11 an11 od12 an12 od13 an13 od14 an14 od15 an15 od16 an16 od17 an17 : Option Addr} {sl0 sl1 sl2 sl3 sl4 sl5 sl6 sl7 sl8 sl9 sl10 sl11 sl12 sl13 sl14 sl15 sl16 sl17 : Array (Option Value)} {oc0 kV0 dc0 pm0 cd0 ct0 oc1 kV1 dc1 pm1 cd1 ct1 oc2 kV2 dc2 pm2 cd2 ct2 oc3 kV3 dc3 pm3 cd3 ct3 oc4 kV4 dc4 pm4 cd4 ct4 oc5 kV5 dc5 pm5 cd5 ct5 oc6 kV6 dc6 pm6 cd6 ct6 oc7 kV7 dc7 pm7 cd7 ct7 oc8 kV8 dc8 pm8 cd8 ct8 oc9 kV9 dc9 pm9 cd9 ct9 oc10 kV10 dc10 pm10 cd10 ct10 oc11 kV11 dc11 pm11 cd11 ct11 oc12 kV12 dc12 pm12 cd12 ct12 oc13 kV13 dc13 pm13 cd13 ct13 oc14 kV14 dc14 pm14 cd14 ct14 oc15 kV15 dc15 pm15 cd15 ct15 oc16 kV16 dc16 pm16 cd16 ct16 oc17 kV17 dc17 pm17 cd17 ct17 : Value} {tk_MOST_FIGURES : Tok} {tk_FIGURES : Tok}
    (n_FeastError : PySem.W.nsIn K mainGlobals "FeastError" = some (some (.ref c_FeastError)))
    (n_NoDate : PySem.W.nsIn K mainGlobals "NoDate" = some (some (.ref c_NoDate)))
    (n_NoText : PySem.W.nsIn K mainGlobals "NoText" = some (some (.ref c_NoText)))
    (t_NoText : PySem.W.typeIn K (.ref c_NoText) = some (.type "type"))
    (k_NoText : PySem.W.hasDictIn K c_NoText = true)
    (b_NoText : PySem.W.mroIn K c_NoText (.type "BaseException") = some true)
    (e_NoText : PySem.W.excIn K c_NoText bmV "ValueError.__new__" = true)
    (ga_NoText : PySem.W.findIn K (.ref c_NoText) "__getattribute__" = some (some (.builtin "BaseException.__getattribute__")))
    (gk_NoText : PySem.W.findIn K (.ref c_NoText) "__getattr__" = some none)
    (ob_NoText : PySem.W.mroIn K c_NoText (.type "object") = some true)
    (ca_NoText : PySem.W.findIn K (.ref c_NoText) "__class__" = some (some (.builtin "object.__class__")))
    (i_NoText_FeastError : PySem.W.kitOne K (.ref c_NoText) (.ref c_FeastError) = some true)
    (i_NoText_NoDate : PySem.W.kitOne K (.ref c_NoText) (.ref c_NoDate) = some false)
    (r_NoText_NoText : PySem.W.mroIn K c_NoText (.ref c_NoText) = some true)
    (xsp : PySem.W.specialIn K (.builtin "object.__class__") "__get__" = some (some (.builtin "getset_descriptor.__get__")))
    (xtk : PySem.W.takesIn K (.builtin "object.__class__") = some true)
    (a0 : PySem.W.nsIn K mainGlobals "is_number" = some (some (.ref f0))) (l0 : K.lookup f0 = some ⟨oc0, od0, .func (PySem.W.fnOf "is_number" "is_number" (defArgs s_is_number) (defBody s_is_number) (defScope s_is_number) .none kV0 dc0 pm0 an0 cd0 ct0), sl0⟩) (c0 : PySem.W.codeIn K cd0 "is_number" = true) (k0 : PySem.W.keepIn K (.ref f0) = true)
    (a1 : PySem.W.nsIn K mainGlobals "read_number" = some (some (.ref f1))) (l1 : K.lookup f1 = some ⟨oc1, od1, .func (PySem.W.fnOf "read_number" "read_number" (defArgs s_read_number) (defBody s_read_number) (defScope s_read_number) .none kV1 dc1 pm1 an1 cd1 ct1), sl1⟩) (c1 : PySem.W.codeIn K cd1 "read_number" = true) (k1 : PySem.W.keepIn K (.ref f1) = true)
    (a2 : PySem.W.nsIn K mainGlobals "read_place" = some (some (.ref f2))) (l2 : K.lookup f2 = some ⟨oc2, od2, .func (PySem.W.fnOf "read_place" "read_place" (defArgs s_read_place) (defBody s_read_place) (defScope s_read_place) .none kV2 dc2 pm2 an2 cd2 ct2), sl2⟩) (c2 : PySem.W.codeIn K cd2 "read_place" = true) (k2 : PySem.W.keepIn K (.ref f2) = true)
    (a3 : PySem.W.nsIn K mainGlobals "read_date" = some (some (.ref f3))) (l3 : K.lookup f3 = some ⟨oc3, od3, .func (PySem.W.fnOf "read_date" "read_date" (defArgs s_read_date) (defBody s_read_date) (defScope s_read_date) .none kV3 dc3 pm3 an3 cd3 ct3), sl3⟩) (c3 : PySem.W.codeIn K cd3 "read_date" = true) (k3 : PySem.W.keepIn K (.ref f3) = true)
    (a4 : PySem.W.nsIn K mainGlobals "place_text" = some (some (.ref f4))) (l4 : K.lookup f4 = some ⟨oc4, od4, .func (PySem.W.fnOf "place_text" "place_text" (defArgs s_place_text) (defBody s_place_text) (defScope s_place_text) .none kV4 dc4 pm4 an4 cd4 ct4), sl4⟩) (c4 : PySem.W.codeIn K cd4 "place_text" = true) (k4 : PySem.W.keepIn K (.ref f4) = true)
    (a5 : PySem.W.nsIn K mainGlobals "date_text" = some (some (.ref f5))) (l5 : K.lookup f5 = some ⟨oc5, od5, .func (PySem.W.fnOf "date_text" "date_text" (defArgs s_date_text) (defBody s_date_text) (defScope s_date_text) .none kV5 dc5 pm5 an5 cd5 ct5), sl5⟩) (c5 : PySem.W.codeIn K cd5 "date_text" = true) (k5 : PySem.W.keepIn K (.ref f5) = true)
    (a6 : PySem.W.nsIn K mainGlobals "_law_cell_at" = some (some (.ref f6))) (l6 : K.lookup f6 = some ⟨oc6, od6, .func (PySem.W.fnOf "_law_cell_at" "_law_cell_at" (defArgs s_law_cell_at) (defBody s_law_cell_at) (defScope s_law_cell_at) .none kV6 dc6 pm6 an6 cd6 ct6), sl6⟩) (c6 : PySem.W.codeIn K cd6 "_law_cell_at" = true) (k6 : PySem.W.keepIn K (.ref f6) = true)
    (a7 : PySem.W.nsIn K mainGlobals "_law_whole" = some (some (.ref f7))) (l7 : K.lookup f7 = some ⟨oc7, od7, .func (PySem.W.fnOf "_law_whole" "_law_whole" (defArgs s_law_whole) (defBody s_law_whole) (defScope s_law_whole) .none kV7 dc7 pm7 an7 cd7 ct7), sl7⟩) (c7 : PySem.W.codeIn K cd7 "_law_whole" = true) (k7 : PySem.W.keepIn K (.ref f7) = true)
    (a8 : PySem.W.nsIn K mainGlobals "_law_year" = some (some (.ref f8))) (l8 : K.lookup f8 = some ⟨oc8, od8, .func (PySem.W.fnOf "_law_year" "_law_year" (defArgs s_law_year) (defBody s_law_year) (defScope s_law_year) .none kV8 dc8 pm8 an8 cd8 ct8), sl8⟩) (c8 : PySem.W.codeIn K cd8 "_law_year" = true) (k8 : PySem.W.keepIn K (.ref f8) = true)
    (a9 : PySem.W.nsIn K mainGlobals "_law_part" = some (some (.ref f9))) (l9 : K.lookup f9 = some ⟨oc9, od9, .func (PySem.W.fnOf "_law_part" "_law_part" (defArgs s_law_part) (defBody s_law_part) (defScope s_law_part) .none kV9 dc9 pm9 an9 cd9 ct9), sl9⟩) (c9 : PySem.W.codeIn K cd9 "_law_part" = true) (k9 : PySem.W.keepIn K (.ref f9) = true)
    (a10 : PySem.W.nsIn K mainGlobals "_law_two" = some (some (.ref f10))) (l10 : K.lookup f10 = some ⟨oc10, od10, .func (PySem.W.fnOf "_law_two" "_law_two" (defArgs s_law_two) (defBody s_law_two) (defScope s_law_two) .none kV10 dc10 pm10 an10 cd10 ct10), sl10⟩) (c10 : PySem.W.codeIn K cd10 "_law_two" = true) (k10 : PySem.W.keepIn K (.ref f10) = true)
    (a11 : PySem.W.nsIn K mainGlobals "_law_odd" = some (some (.ref f11))) (l11 : K.lookup f11 = some ⟨oc11, od11, .func (PySem.W.fnOf "_law_odd" "_law_odd" (defArgs s_law_odd) (defBody s_law_odd) (defScope s_law_odd) .none kV11 dc11 pm11 an11 cd11 ct11), sl11⟩) (c11 : PySem.W.codeIn K cd11 "_law_odd" = true) (k11 : PySem.W.keepIn K (.ref f11) = true)
    (a12 : PySem.W.nsIn K mainGlobals "_law_free" = some (some (.ref f12))) (l12 : K.lookup f12 = some ⟨oc12, od12, .func (PySem.W.fnOf "_law_free" "_law_free" (defArgs s_law_free) (defBody s_law_free) (defScope s_law_free) .none kV12 dc12 pm12 an12 cd12 ct12), sl12⟩) (c12 : PySem.W.codeIn K cd12 "_law_free" = true) (k12 : PySem.W.keepIn K (.ref f12) = true)
    (a13 : PySem.W.nsIn K mainGlobals "_law_spoiled" = some (some (.ref f13))) (l13 : K.lookup f13 = some ⟨oc13, od13, .func (PySem.W.fnOf "_law_spoiled" "_law_spoiled" (defArgs s_law_spoiled) (defBody s_law_spoiled) (defScope s_law_spoiled) .none kV13 dc13 pm13 an13 cd13 ct13), sl13⟩) (c13 : PySem.W.codeIn K cd13 "_law_spoiled" = true) (k13 : PySem.W.keepIn K (.ref f13) = true)
    (a14 : PySem.W.nsIn K mainGlobals "_law_value" = some (some (.ref f14))) (l14 : K.lookup f14 = some ⟨oc14, od14, .func (PySem.W.fnOf "_law_value" "_law_value" (defArgs s_law_value) (defBody s_law_value) (defScope s_law_value) .none kV14 dc14 pm14 an14 cd14 ct14), sl14⟩) (c14 : PySem.W.codeIn K cd14 "_law_value" = true) (k14 : PySem.W.keepIn K (.ref f14) = true)
    (a15 : PySem.W.nsIn K mainGlobals "_law_due" = some (some (.ref f15))) (l15 : K.lookup f15 = some ⟨oc15, od15, .func (PySem.W.fnOf "_law_due" "_law_due" (defArgs s_law_due) (defBody s_law_due) (defScope s_law_due) .none kV15 dc15 pm15 an15 cd15 ct15), sl15⟩) (c15 : PySem.W.codeIn K cd15 "_law_due" = true) (k15 : PySem.W.keepIn K (.ref f15) = true)
    (a16 : PySem.W.nsIn K mainGlobals "_law_read" = some (some (.ref f16))) (l16 : K.lookup f16 = some ⟨oc16, od16, .func (PySem.W.fnOf "_law_read" "_law_read" (defArgs s_law_read) (defBody s_law_read) (defScope s_law_read) .none kV16 dc16 pm16 an16 cd16 ct16), sl16⟩) (c16 : PySem.W.codeIn K cd16 "_law_read" = true) (k16 : PySem.W.keepIn K (.ref f16) = true)
    (a17 : PySem.W.nsIn K mainGlobals "law" = some (some (.ref f17))) (l17 : K.lookup f17 = some ⟨oc17, od17, .func (PySem.W.fnOf "law" "law" (defArgs s_law) (defBody s_law) (defScope s_law) .none kV17 dc17 pm17 an17 cd17 ct17), sl17⟩) (c17 : PySem.W.codeIn K cd17 "law" = true) (k17 : PySem.W.keepIn K (.ref f17) = true)
    (z_len : PySem.W.nsIn K mainGlobals "len" = some none)
    (z_all : PySem.W.nsIn K mainGlobals "all" = some none)
    (z_isinstance : PySem.W.nsIn K mainGlobals "isinstance" = some none)
    (z_str : PySem.W.nsIn K mainGlobals "str" = some none)
    (z_int : PySem.W.nsIn K mainGlobals "int" = some none)
    (z_bool : PySem.W.nsIn K mainGlobals "bool" = some none)
    (z_range : PySem.W.nsIn K mainGlobals "range" = some none)
    (z_tuple : PySem.W.nsIn K mainGlobals "tuple" = some none)
    (m_MOST_FIGURES : PySem.W.nsIn K mainGlobals "MOST_FIGURES" = some (some (.int 60 tk_MOST_FIGURES)))
    (m_FIGURES : PySem.W.nsIn K mainGlobals "FIGURES" = some (some (.str "0123456789" tk_FIGURES)))
    : ∃ fd : FuncData, (∀ (s : Shared) (v : Value), BindsTo s fd ⟨[v], []⟩ [("_law_script", v)]) ∧ ∀ base : Heap, K.In base → base.Ns mainGlobals mg → FnOk l.prog w K mg base CX0 6 fa fd ["_law_script"] (spLaw K) := by
  have e := hfa.symm.trans (PySem.W.mg_of X G a17)
  cases e
  have F0 := fun_mk (st := s_is_number) l0 c0 k0
  have b0 := F0.binds (ps := ["text"]) fun _ _ _ _ _ _ us hl => by obtain ⟨_, rfl⟩ := len1 hl; rfl
  have F1 := fun_mk (st := s_read_number) l1 c1 k1
  have b1 := F1.binds (ps := ["text"]) fun _ _ _ _ _ _ us hl => by obtain ⟨_, rfl⟩ := len1 hl; rfl
  have F2 := fun_mk (st := s_read_place) l2 c2 k2
  have b2 := F2.binds (ps := ["text"]) fun _ _ _ _ _ _ us hl => by obtain ⟨_, rfl⟩ := len1 hl; rfl
  have F3 := fun_mk (st := s_read_date) l3 c3 k3
  have b3 := F3.binds (ps := ["text"]) fun _ _ _ _ _ _ us hl => by obtain ⟨_, rfl⟩ := len1 hl; rfl
  have F4 := fun_mk (st := s_place_text) l4 c4 k4
  have b4 := F4.binds (ps := ["number"]) fun _ _ _ _ _ _ us hl => by obtain ⟨_, rfl⟩ := len1 hl; rfl
  have F5 := fun_mk (st := s_date_text) l5 c5 k5
  have b5 := F5.binds (ps := ["date"]) fun _ _ _ _ _ _ us hl => by obtain ⟨_, rfl⟩ := len1 hl; rfl
  have F6 := fun_mk (st := s_law_cell_at) l6 c6 k6
  have b6 := F6.binds (ps := ["_law_script", "_law_k"]) fun _ _ _ _ _ _ us hl => by obtain ⟨_, _, rfl⟩ := len2 hl; rfl
  have F7 := fun_mk (st := s_law_whole) l7 c7 k7
  have b7 := F7.binds (ps := ["_law_found"]) fun _ _ _ _ _ _ us hl => by obtain ⟨_, rfl⟩ := len1 hl; rfl
  have F8 := fun_mk (st := s_law_year) l8 c8 k8
  have b8 := F8.binds (ps := ["_law_cell"]) fun _ _ _ _ _ _ us hl => by obtain ⟨_, rfl⟩ := len1 hl; rfl
  have F9 := fun_mk (st := s_law_part) l9 c9 k9
  have b9 := F9.binds (ps := ["_law_cell", "_law_most"]) fun _ _ _ _ _ _ us hl => by obtain ⟨_, _, rfl⟩ := len2 hl; rfl
  have F10 := fun_mk (st := s_law_two) l10 c10 k10
  have b10 := F10.binds (ps := ["_law_number"]) fun _ _ _ _ _ _ us hl => by obtain ⟨_, rfl⟩ := len1 hl; rfl
  have F11 := fun_mk (st := s_law_odd) l11 c11 k11
  have b11 := F11.binds (ps := ["_law_cell"]) fun _ _ _ _ _ _ us hl => by obtain ⟨_, rfl⟩ := len1 hl; rfl
  have F12 := fun_mk (st := s_law_free) l12 c12 k12
  have b12 := F12.binds (ps := ["_law_cell", "_law_signs"]) fun _ _ _ _ _ _ us hl => by obtain ⟨_, _, rfl⟩ := len2 hl; rfl
  have F13 := fun_mk (st := s_law_spoiled) l13 c13 k13
  have b13 := F13.binds (ps := ["_law_way", "_law_text", "_law_cell"]) fun _ _ _ _ _ _ us hl => by obtain ⟨_, _, _, rfl⟩ := len3 hl; rfl
  have F14 := fun_mk (st := s_law_value) l14 c14 k14
  have b14 := F14.binds (ps := ["_law_text"]) fun _ _ _ _ _ _ us hl => by obtain ⟨_, rfl⟩ := len1 hl; rfl
  have F15 := fun_mk (st := s_law_due) l15 c15 k15
  have b15 := F15.binds (ps := ["_law_text"]) fun _ _ _ _ _ _ us hl => by obtain ⟨_, rfl⟩ := len1 hl; rfl
  have F16 := fun_mk (st := s_law_read) l16 c16 k16
  have b16 := F16.binds (ps := ["_law_handed"]) fun _ _ _ _ _ _ us hl => by obtain ⟨_, rfl⟩ := len1 hl; rfl
  have F17 := fun_mk (st := s_law) l17 c17 k17
  have y_len := PySem.W.mg_none_of X G z_len
  have y_all := PySem.W.mg_none_of X G z_all
  have y_isinstance := PySem.W.mg_none_of X G z_isinstance
  have y_str := PySem.W.mg_none_of X G z_str
  have y_int := PySem.W.mg_none_of X G z_int
  have y_bool := PySem.W.mg_none_of X G z_bool
  have y_range := PySem.W.mg_none_of X G z_range
  have y_tuple := PySem.W.mg_none_of X G z_tuple
  have y_MOST_FIGURES := PySem.W.mg_of X G m_MOST_FIGURES
  have y_FIGURES := PySem.W.mg_of X G m_FIGURES
  refine ⟨PySem.W.fnOf "law" "law" (defArgs s_law) (defBody s_law) (defScope s_law) .none kV17 dc17 pm17 an17 cd17 ct17, fun s v => .of_eq rfl, fun base _ _ => ?_⟩
  have er : Errs K mg c_FeastError c_NoDate c_NoText := ⟨PySem.W.mg_of X G n_FeastError, PySem.W.mg_of X G n_NoDate, ⟨PySem.W.mg_of X G n_NoText, t_NoText, has_cls k_NoText, b_NoText⟩, ⟨PySem.W.mg_of X G n_NoText, e_NoText⟩, ⟨ga_NoText, gk_NoText, b_NoText, ob_NoText, ca_NoText, has_cls k_NoText, xsp, xtk⟩, i_NoText_FeastError, i_NoText_NoDate, r_NoText_NoText⟩
  have C_is_number : Cal l.prog w K mg base 1 "is_number" ["text"] spIsNum := ⟨⟨f0, _, ok_is_number F0 y_len y_all y_MOST_FIGURES y_FIGURES, b0, k0, PySem.W.mg_of X G a0⟩⟩
  have C_read_number : CalE l.prog w K mg base 2 "read_number" ["text"] (spReadN c_NoText) := ⟨⟨f1, _, ok_read_number F1 er C_is_number y_isinstance y_str y_int, b1, k1, PySem.W.mg_of X G a1⟩⟩
  have C_read_place : CalE l.prog w K mg base 3 "read_place" ["text"] (spReadPl c_NoText) := ⟨⟨f2, _, ok_read_place F2 er C_read_number y_len, b2, k2, PySem.W.mg_of X G a2⟩⟩
  have C_read_date : CalE l.prog w K mg base 4 "read_date" ["text"] (spReadD c_NoText) := ⟨⟨f3, _, ok_read_date F3 er C_read_number C_read_place y_isinstance y_str y_len, b3, k3, PySem.W.mg_of X G a3⟩⟩
  have C_place_text : Cal l.prog w K mg base 1 "place_text" ["number"] spPlText := ⟨⟨f4, _, ok_place_text F4 y_str, b4, k4, PySem.W.mg_of X G a4⟩⟩
  have C_date_text : Cal l.prog w K mg base 2 "date_text" ["date"] (spDateT K) := ⟨⟨f5, _, ok_date_text F5 C_place_text, b5, k5, PySem.W.mg_of X G a5⟩⟩
  have C_law_cell_at : Cal l.prog w K mg base 1 "_law_cell_at" ["_law_script", "_law_k"] (spCell K) := ⟨⟨f6, _, ok_law_cell_at F6 y_len, b6, k6, PySem.W.mg_of X G a6⟩⟩
  have C_law_whole : Cal l.prog w K mg base 1 "_law_whole" ["_law_found"] spWhole := ⟨⟨f7, _, ok_law_whole F7 y_isinstance y_int y_bool, b7, k7, PySem.W.mg_of X G a7⟩⟩
  have C_law_year : Cal l.prog w K mg base 1 "_law_year" ["_law_cell"] spYear71 := ⟨⟨f8, _, ok_law_year F8, b8, k8, PySem.W.mg_of X G a8⟩⟩
  have C_law_part : Cal l.prog w K mg base 1 "_law_part" ["_law_cell", "_law_most"] spPart71 := ⟨⟨f9, _, ok_law_part F9, b9, k9, PySem.W.mg_of X G a9⟩⟩
  have C_law_two : Cal l.prog w K mg base 1 "_law_two" ["_law_number"] spPlText := ⟨⟨f10, _, ok_law_two F10 y_str y_len, b10, k10, PySem.W.mg_of X G a10⟩⟩
  have C_law_odd : Cal l.prog w K mg base 1 "_law_odd" ["_law_cell"] spOddT := ⟨⟨f11, _, ok_law_odd F11, b11, k11, PySem.W.mg_of X G a11⟩⟩
  have C_law_free : Cal l.prog w K mg base 1 "_law_free" ["_law_cell", "_law_signs"] spFreeT := ⟨⟨f12, _, ok_law_free F12 y_range y_len, b12, k12, PySem.W.mg_of X G a12⟩⟩
  have C_law_spoiled : Cal l.prog w K mg base 2 "_law_spoiled" ["_law_way", "_law_text", "_law_cell"] spSpoil71 := ⟨⟨f13, _, ok_law_spoiled F13 C_law_odd C_law_free y_len, b13, k13, PySem.W.mg_of X G a13⟩⟩
  have C_law_value : Cal l.prog w K mg base 1 "_law_value" ["_law_text"] spValue71 := ⟨⟨f14, _, ok_law_value F14 y_len y_int, b14, k14, PySem.W.mg_of X G a14⟩⟩
  have C_law_due : Cal l.prog w K mg base 2 "_law_due" ["_law_text"] spDue71 := ⟨⟨f15, _, ok_law_due F15 C_law_value C_law_two y_isinstance y_str, b15, k15, PySem.W.mg_of X G a15⟩⟩
  have C_law_read : Cal l.prog w K mg base 5 "_law_read" ["_law_handed"] spDue71 := ⟨⟨f16, _, ok_law_read F16 er C_read_date C_law_whole y_isinstance y_tuple y_all, b16, k16, PySem.W.mg_of X G a16⟩⟩
  exact ok_law F17 C_law_year C_law_cell_at C_law_part C_law_two C_date_text C_law_read C_law_spoiled C_law_due y_str y_isinstance
end Fw
def PySem.W.Fast.tw13696117565805778935 : Unit := ()
def PySem.W.Fast.tw8982398762052829361 : Unit := ()
def PySem.W.Fast.tw15672634031336795443 : Unit := ()
def PySem.W.Fast.tw1032161325181829465 : Unit := ()
def PySem.W.Fast.tw13288427461717670578 : Unit := ()
def PySem.W.Fast.tw12380900662511590552 : Unit := ()
open PySem PySem.W PyProof.Rows
set_option maxRecDepth 100000 in
set_option maxHeartbeats 0 in
theorem PySem.Challenge.cw_feastwheel_k71_dates_as_texts_holds : PySem.Challenge.rw_feastwheel_k71_dates_as_texts.Holds := by
  w_on; o_law; k_head; (case hw => w_witness2)
  k_fill
  refine L2.walk_ofB (l := PySem.Challenge.rw_feastwheel_k71_dates_as_texts) (k := 6) rfl rfl ⟨rfl, by decide, by decide, rfl⟩ (fun w h Y => PySem.W.kIn_of Y) ?F
  case F =>
    intro w mg fa h KX G hmg
    refine' Fw.all_mk KX G hmg ?n_FeastError ?n_NoDate ?n_NoText ?t_NoText ?k_NoText ?b_NoText ?e_NoText ?ga_NoText ?gk_NoText ?ob_NoText ?ca_NoText ?i_NoText_FeastError ?i_NoText_NoDate ?r_NoText_NoText ?xsp ?xtk ?a0 ?l0 ?c0 ?k0 ?a1 ?l1 ?c1 ?k1 ?a2 ?l2 ?c2 ?k2 ?a3 ?l3 ?c3 ?k3 ?a4 ?l4 ?c4 ?k4 ?a5 ?l5 ?c5 ?k5 ?a6 ?l6 ?c6 ?k6 ?a7 ?l7 ?c7 ?k7 ?a8 ?l8 ?c8 ?k8 ?a9 ?l9 ?c9 ?k9 ?a10 ?l10 ?c10 ?k10 ?a11 ?l11 ?c11 ?k11 ?a12 ?l12 ?c12 ?k12 ?a13 ?l13 ?c13 ?k13 ?a14 ?l14 ?c14 ?k14 ?a15 ?l15 ?c15 ?k15 ?a16 ?l16 ?c16 ?k16 ?a17 ?l17 ?c17 ?k17 ?z_len ?z_all ?z_isinstance ?z_str ?z_int ?z_bool ?z_range ?z_tuple ?m_MOST_FIGURES ?m_FIGURES
    (case n_FeastError => k_is)
    (case n_NoDate => k_is)
    (case n_NoText => k_is)
    (case t_NoText => k_is)
    (case k_NoText => k_is)
    (case b_NoText => k_is)
    (case e_NoText => k_exc)
    (case ga_NoText => k_is)
    (case gk_NoText => k_is)
    (case ob_NoText => k_is)
    (case ca_NoText => k_is)
    (case i_NoText_FeastError => kit_is)
    (case i_NoText_NoDate => kit_is)
    (case r_NoText_NoText => k_is)
    (case xsp => k_is)
    (case xtk => k_is)
    (case a0 => k_is)
    (case l0 => k_is)
    (case c0 => k_is)
    (case k0 => k_is)
    (case a1 => k_is)
    (case l1 => k_is)
    (case c1 => k_is)
    (case k1 => k_is)
    (case a2 => k_is)
    (case l2 => k_is)
    (case c2 => k_is)
    (case k2 => k_is)
    (case a3 => k_is)
    (case l3 => k_is)
    (case c3 => k_is)
    (case k3 => k_is)
    (case a4 => k_is)
    (case l4 => k_is)
    (case c4 => k_is)
    (case k4 => k_is)
    (case a5 => k_is)
    (case l5 => k_is)
    (case c5 => k_is)
    (case k5 => k_is)
    (case a6 => k_is)
    (case l6 => k_is)
    (case c6 => k_is)
    (case k6 => k_is)
    (case a7 => k_is)
    (case l7 => k_is)
    (case c7 => k_is)
    (case k7 => k_is)
    (case a8 => k_is)
    (case l8 => k_is)
    (case c8 => k_is)
    (case k8 => k_is)
    (case a9 => k_is)
    (case l9 => k_is)
    (case c9 => k_is)
    (case k9 => k_is)
    (case a10 => k_is)
    (case l10 => k_is)
    (case c10 => k_is)
    (case k10 => k_is)
    (case a11 => k_is)
    (case l11 => k_is)
    (case c11 => k_is)
    (case k11 => k_is)
    (case a12 => k_is)
    (case l12 => k_is)
    (case c12 => k_is)
    (case k12 => k_is)
    (case a13 => k_is)
    (case l13 => k_is)
    (case c13 => k_is)
    (case k13 => k_is)
    (case a14 => k_is)
    (case l14 => k_is)
    (case c14 => k_is)
    (case k14 => k_is)
    (case a15 => k_is)
    (case l15 => k_is)
    (case c15 => k_is)
    (case k15 => k_is)
    (case a16 => k_is)
    (case l16 => k_is)
    (case c16 => k_is)
    (case k16 => k_is)
    (case a17 => k_is)
    (case l17 => k_is)
    (case c17 => k_is)
    (case k17 => k_is)
    (case z_len => k_is)
    (case z_all => k_is)
    (case z_isinstance => k_is)
    (case z_str => k_is)
    (case z_int => k_is)
    (case z_bool => k_is)
    (case z_range => k_is)
    (case z_tuple => k_is)
    (case m_MOST_FIGURES => k_is)
    (case m_FIGURES => k_is)
#print axioms PySem.Challenge.cw_feastwheel_k71_dates_as_texts_holds


