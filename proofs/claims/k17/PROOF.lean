import PyProof.Rows.All
import Wide.All
import OpenK.AllK
import Wide.FinOn
import Lean
import PyProof.EqAt
import PyProof.EqKinds
import PyProof.TupleCall
import PySem.Challenge.RW_kindbags_k17_the_next_place
set_option Elab.async false
set_option linter.all false
set_option maxRecDepth 100000
/-! THE HAND LAYER, for ints, bools, texts, own classes, LISTS and tuples (index, slices, in, append, pop ..), calls, loops. Paste it whole ahead of your own text; what your proof does not reach may be deleted. -/
namespace L2
open PySem PySem.Spec PyProof.Rows

/-- a key: an int or a str -/
abbrev Key := Sum Int Str
def keyIs : Key → Value → Bool
  | .inl k, v => Value.isInt k v
  | .inr x, v => Value.isStrOf x v
def keyH (w : World) : Key → Int
  | .inl k => hashInt k
  | .inr x => hashStr w x
theorem keyIs_shape : ∀ {k : Key} {v : Value}, keyIs k v = true → (∃ i t, k = Sum.inl i ∧ v = Value.int i t) ∨ (∃ x t, k = Sum.inr x ∧ v = Value.str x t)
  | .inl i, v, h => by
    obtain ⟨t, e⟩ := Value.isInt_shape (k := i) (v := v) h
    exact .inl ⟨i, t, rfl, e⟩
  | .inr x, v, h => by
    obtain ⟨t, e⟩ := Value.isStrOf_shape (x := x) (v := v) h
    exact .inr ⟨x, t, rfl, e⟩
theorem keyIs_int (i : Int) (t : Tok) : keyIs (.inl i) (.int i t) = true := by simp [keyIs, Value.isInt]
theorem keyIs_str (x : Str) (t : Tok) : keyIs (.inr x) (.str x t) = true := by simp [keyIs, Value.isStrOf]
theorem key_ll (a b : Int) : decide ((Sum.inl a : Key) = Sum.inl b) = (a == b) := by
  by_cases e : a = b
  · subst e; simp
  · have h : ¬ (Sum.inl a : Key) = Sum.inl b := fun q => e (Sum.inl.inj q)
    rw [decide_eq_false h]
    exact (beq_eq_false_iff_ne.mpr e).symm
theorem key_rr (a b : Str) : decide ((Sum.inr a : Key) = Sum.inr b) = decide (a = b) := by
  by_cases e : a = b
  · subst e; simp
  · have h : ¬ (Sum.inr a : Key) = Sum.inr b := fun q => e (Sum.inr.inj q)
    rw [decide_eq_false h, decide_eq_false e]
theorem key_lr (a : Int) (b : Str) : decide ((Sum.inl a : Key) = Sum.inr b) = false := decide_eq_false (fun q => nomatch q)
theorem key_rl (a : Str) (b : Int) : decide ((Sum.inr a : Key) = Sum.inl b) = false := decide_eq_false (fun q => nomatch q)

def mixKind (prog : Program) (w : World) : PySem.KeyKind prog w Key where
  is := keyIs
  hash := keyH w
  inj := fun v a b ha hb => by
    rcases keyIs_shape ha with ⟨i, t, rfl, rfl⟩ | ⟨x, t, rfl, rfl⟩
    · rcases keyIs_shape hb with ⟨j, u, rfl, e⟩ | ⟨y, u, rfl, e⟩
      · injection e with e1 _; rw [e1]
      · exact nomatch e
    · rcases keyIs_shape hb with ⟨j, u, rfl, e⟩ | ⟨y, u, rfl, e⟩
      · exact nomatch e
      · injection e with e1 _; rw [e1]
  byValue := fun k v h => by
    rcases keyIs_shape h with ⟨i, t, rfl, rfl⟩ | ⟨x, t, rfl, rfl⟩ <;> rfl
  pyHash := fun hv h => by
    rcases keyIs_shape hv with ⟨i, t, rfl, rfl⟩ | ⟨x, t, rfl, rfl⟩
    · exact wpAny_pyHash_int h
    · exact wpAny_pyHash_str h
  eqBool := fun hu hv h => by
    rcases keyIs_shape hu with ⟨i, t, rfl, rfl⟩ | ⟨x, t, rfl, rfl⟩
    · rcases keyIs_shape hv with ⟨j, u, rfl, rfl⟩ | ⟨y, u, rfl, rfl⟩
      · rw [key_ll] at h; exact wpAny_eqBool_int h
      · rw [key_lr] at h; exact SeqAt.EqAt.int_str i t y u _ _ _ _ h
    · rcases keyIs_shape hv with ⟨j, u, rfl, rfl⟩ | ⟨y, u, rfl, rfl⟩
      · rw [key_rl] at h; exact SeqAt.EqAt.str_int x t j u _ _ _ _ h
      · rw [key_rr] at h; exact wpAny_eqBool_str h
  «strs» := fun k x t v h => by
    rcases keyIs_shape h with ⟨i, u, rfl, e⟩ | ⟨y, u, rfl, e⟩
    · exact nomatch e
    · injection e with e1 _
      subst e1
      cases v <;> rfl

theorem mixKind_is (prog : Program) (w : World) (k : Key) (v : Value) : (mixKind prog w).is k v = keyIs k v := rfl
theorem mixKind_int (prog : Program) (w : World) (i : Int) (t : Tok) : (mixKind prog w).is (.inl i) (.int i t) = true := keyIs_int i t
theorem mixKind_str (prog : Program) (w : World) (x : Str) (t : Tok) : (mixKind prog w).is (.inr x) (.str x t) = true := keyIs_str x t
end L2

namespace L2
open PySem PySem.Spec PyProof.Rows

/-- a value, without the heap -/
inductive V where
  | non | bl (b : Bool) | int (i : Int) | str (x : Str) | byt (b : Array UInt8) | flt (b : UInt64) | ref (a : Addr) | ty (n : String)
  deriving DecidableEq

def RelV : V → Value → Prop
  | .non, u => u = Value.none
  | .bl b, u => u = Value.bool b
  | .int i, u => ∃ t, u = Value.int i t
  | .str x, u => ∃ t, u = Value.str x t
  | .byt b, u => ∃ t, u = Value.bytes b t
  | .flt b, u => ∃ t, u = Value.float b t
  | .ref a, u => u = Value.ref a
  | .ty n, u => u = Value.type n

abbrev Vals : List V → List Value → Prop := Paired RelV
theorem Vals.length {xs : List V} {us : List Value} (r : Vals xs us) : xs.length = us.length := Paired.length r
theorem Vals.get : ∀ {xs : List V} {us : List Value} {i : Nat} {x : V}, Vals xs us → xs[i]? = some x → ∃ u, us[i]? = some u ∧ RelV x u
  | _, _, _, _, .nil, e => by simp at e
  | _, _, 0, _, .cons r _, e => by simp at e; subst e; exact ⟨_, rfl, r⟩
  | _, _, i + 1, x, .cons _ t, e => by
    obtain ⟨u, h1, h2⟩ := Vals.get (i := i) (x := x) t (by simpa using e)
    exact ⟨u, by simpa using h1, h2⟩
theorem Vals.set {x : V} {u : Value} (r : RelV x u) : ∀ {xs : List V} {us : List Value} (i : Nat), Vals xs us → Vals (xs.set i x) (us.set i u)
  | _, _, _, .nil => .nil
  | _, _, 0, .cons _ t => .cons r t
  | _, _, i + 1, .cons q t => .cons q (Vals.set r i t)
theorem Vals.append : ∀ {xs ys : List V} {us ws : List Value}, Vals xs us → Vals ys ws → Vals (xs ++ ys) (us ++ ws)
  | _, _, _, _, .nil, s => s
  | _, _, _, _, .cons r t, s => .cons r (Vals.append t s)
theorem Vals.take : ∀ {xs : List V} {us : List Value} (n : Nat), Vals xs us → Vals (xs.take n) (us.take n)
  | _, _, 0, _ => .nil
  | _, _, _ + 1, .nil => .nil
  | _, _, n + 1, .cons r t => .cons r (Vals.take n t)
theorem Vals.drop : ∀ {xs : List V} {us : List Value} (n : Nat), Vals xs us → Vals (xs.drop n) (us.drop n)
  | _, _, 0, r => r
  | _, _, _ + 1, .nil => .nil
  | _, _, n + 1, .cons _ t => Vals.drop n t
theorem Vals.none_of : ∀ {xs : List V} {us : List Value} {i : Nat}, Vals xs us → xs[i]? = none → us[i]? = none := fun {xs us i} r e => by
  have h1 := r.length
  have h2 : xs.length ≤ i := List.getElem?_eq_none_iff.mp e
  exact List.getElem?_eq_none_iff.mpr (by omega)

def RelO : Option V → Option Value → Prop
  | some v, some u => RelV v u
  | none, none => True
  | _, _ => False
def KV {κ : Type} : List (κ × V) → List (κ × Value) → Prop := Paired fun (p : κ × V) (q : κ × Value) => p.1 = q.1 ∧ RelV p.2 q.2

/-- a key of a dict (00_mix): an int or a text -/
def kV : Key → V
  | .inl i => .int i
  | .inr x => .str x

/-- what stands at a tracked address -/
inductive HO where
  /-- a list -/
  | lst (xs : List V)
  /-- a tuple (never changes) -/
  | tup (xs : List V)
  /-- a dict whose keys are ints and texts; one whose keys are tuples of ints and texts (the empty one is both) -/
  | dK (kvs : List (Key × V)) | dT (kvs : List (List Key × V))
  /-- a set of ints: its members, its size -/
  | set (S : Int → Bool) (n : Nat)
  /-- an instance of the class at C, its dict at dx, its attributes -/
  | ins (C dx : Addr) (fs : List (Str × V))
  /-- the dict of the instance at x -/
  | own (x : Addr)
  /-- the dict of an exception -/
  | xd (fs : List (Str × V))
  /-- a bound method, f of x -/
  | met (f x : Addr)
  /-- a range object lo, lo + 1, .. below hi -/
  | rng (lo hi : Int)
  /-- a thing that is known to the object (the script; a dict while a loop walks it): read, never written while it is so -/
  | frz (o : Obj) (u : HO)
  /-- a code object's table -/
  | tbl (ps : Array Value)
  /-- any other thing, by what is true of its one object (a def of one's own: SetO a S n := HO.ext fun h => ..) -/
  | ext (φ : Heap → Prop)

abbrev Hp := Addr → Option HO
def upd (H : Hp) (a : Addr) (o : HO) : Hp := fun b => if b = a then some o else H b
theorem upd_same {H : Hp} {a : Addr} {o : HO} : upd H a o a = some o := by unfold upd; rw [if_pos rfl]
theorem upd_ne {H : Hp} {a b : Addr} {o : HO} (h : b ≠ a) : upd H a o b = H b := by unfold upd; rw [if_neg h]
theorem upd_upd {H : Hp} {a : Addr} {o u : HO} : upd (upd H a o) a u = upd H a u := by
  funext b; unfold upd; split <;> rfl
/-- two objects of different content stand apart -/
theorem ne_of {H : Hp} {a b : Addr} {o u : HO} (h : H a = some o) (h' : H b = some u) (d : o ≠ u) : a ≠ b := by
  intro e; subst e; rw [h] at h'; exact d (Option.some.inj h')
theorem ne_of_none {H : Hp} {a b : Addr} {o : HO} (h : H a = some o) (h' : H b = none) : a ≠ b := by
  intro e; subst e; rw [h] at h'; cases h'

section
variable (P : Program) (w : World)
def ObjOk (H : Hp) (h : Heap) (a : Addr) : HO → Prop
  | .lst xs => xs.length ≤ sizeLine ∧ ∃ (its : List Value) (n : Nat), Vals xs its ∧ h.get? a = some { cls := .type "list", data := .seq its.toArray n }
  | .tup xs => xs.length ≤ sizeLine ∧ ∃ its : List Value, Vals xs its ∧ IsTup h a its.toArray
  | .dK kvs => kvs.length ≤ sizeLine ∧ (a == sysModules) = false ∧ ∃ vs, KV kvs vs ∧ h.DictOf (mixKind P w) a vs
  | .dT kvs => kvs.length ≤ sizeLine ∧ (a == sysModules) = false ∧ ∃ xs : List (List Key × Addr × Value),
      Paired (fun (p : List Key × V) (q : List Key × Addr × Value) => p.1 = q.1 ∧ H q.2.1 = some (.tup (p.1.map kV)) ∧ RelV p.2 q.2.2) kvs xs ∧
      ∃ o es ep, h.get? a = some o ∧ o.ExactDict ∧ o.data = .dict es ep ∧ es.toList = xs.map (entryOfKey (tupleKind (mixKind P w))) ∧ (xs.map (·.1)).Nodup
  | .set S n => h.SetOf (intKind P w) a S n
  | .ins C dx fs => H dx = some (.own a) ∧ fs.length ≤ 1000 ∧ dx ≠ a ∧ h.get? a = some (PySem.W.instObj C dx) ∧
      ∃ mA, h.Ns1 dx mA ∧ (∀ f, RelO (fs.lookup f) (mA f)) ∧ PySem.Within mA (fs.map (·.1))
  | .own _ => ∃ o, h.get? a = some o
  | .xd fs => ∃ mA, h.Ns1 a mA ∧ ∀ f, RelO (fs.lookup f) (mA f)
  | .rng lo hi => ∃ t u v, h.get? a = some { cls := .type "range", data := .fields #[.int lo t, .int hi u, .int 1 v] }
  | .frz o u => h.get? a = some o ∧ ObjOk H h a u
  | .tbl ps => h.get? a = some { cls := .none, data := .fields ps }
  | .met f x => h.get? a = some (PySem.W.methodObj (.ref f) (.ref x))
  | .ext φ => φ h ∧ (∃ o, h.get? a = some o) ∧ ∀ h1 h2 : Heap, φ h1 → (∀ o, h1.get? a = some o → h2.get? a = some o) → φ h2
/-- the abstract heap is held -/
def HOk (H : Hp) (h : Heap) : Prop := ∀ a o, H a = some o → ObjOk P w H h a o
end

section
variable {P : Program} {w : World} {H H' : Hp} {h h' : Heap} {a : Addr} {o : HO}
theorem ObjOk.lt (x : ObjOk P w H h a o) : a < h.objs.size := by
  cases o with
  | lst xs => obtain ⟨_, _, _, _, e⟩ := x; exact Heap.lt_size e
  | tup xs => obtain ⟨_, _, _, p⟩ := x; exact p.lt
  | dK kvs => obtain ⟨_, _, _, _, o, _, _, e, _⟩ := x; exact Heap.lt_size e
  | dT kvs => obtain ⟨_, _, _, _, o, _, _, e, _⟩ := x; exact Heap.lt_size e
  | set S n => obtain ⟨o, _, _, _, e, _⟩ := x; exact Heap.lt_size e
  | ins C dx fs => obtain ⟨_, _, _, e, _⟩ := x; exact Heap.lt_size e
  | own y => obtain ⟨_, e⟩ := x; exact Heap.lt_size e
  | xd fs => obtain ⟨_, ⟨_, _, _, e, _⟩, _⟩ := x; exact Heap.lt_size e
  | rng lo hi => obtain ⟨_, _, _, e⟩ := x; exact Heap.lt_size e
  | frz ob u => obtain ⟨e, _⟩ := x; exact Heap.lt_size e
  | tbl ps => exact Heap.lt_size (show h.get? a = some _ from x)
  | met f y => exact Heap.lt_size (show h.get? a = some _ from x)
  | ext φ => obtain ⟨_, ⟨_, e⟩, _⟩ := x; exact Heap.lt_size e
theorem Paired.mapP {α β : Type} {F G : α → β → Prop} : ∀ {l₁ : List α} {l₂ : List β}, Paired F l₁ l₂ → (∀ a b, F a b → G a b) → Paired G l₁ l₂
  | _, _, .nil, _ => .nil
  | _, _, .cons r t, f => .cons (f _ _ r) (Paired.mapP t f)
theorem Paired.imp' {α β : Type} {F G : α → β → Prop} (f : ∀ a b, F a b → G a b) {l₁ : List α} {l₂ : List β} (r : Paired F l₁ l₂) : Paired G l₁ l₂ := Paired.mapP r f
/-- what an object's description leans on: its own object, its own dict, the tuples -/
theorem ObjOk.stay (x : ObjOk P w H h a o) (k : ∀ b u, (b = a ∨ H b = some (.own a)) → h.get? b = some u → h'.get? b = some u)
    (ho : ∀ b, H b = some (.own a) → H' b = some (.own a)) (ht : ∀ b xs, H b = some (.tup xs) → H' b = some (.tup xs)) : ObjOk P w H' h' a o := by
  induction o with
  | lst xs => obtain ⟨z, its, n, r, e⟩ := x; exact ⟨z, its, n, r, k _ _ (.inl rfl) e⟩
  | tup xs => obtain ⟨z, its, r, ob, e, c⟩ := x; exact ⟨z, its, r, ob, k _ _ (.inl rfl) e, c⟩
  | dK kvs => obtain ⟨z, y, vs, r, ob, es, ep, e, c⟩ := x; exact ⟨z, y, vs, r, ob, es, ep, k _ _ (.inl rfl) e, c⟩
  | dT kvs =>
    obtain ⟨z, y, xs, r, ob, es, ep, e, c⟩ := x
    exact ⟨z, y, xs, Paired.mapP r fun p q z => ⟨z.1, ht _ _ z.2.1, z.2.2⟩, ob, es, ep, k _ _ (.inl rfl) e, c⟩
  | set S n => obtain ⟨ob, es, ep, t, e, c⟩ := x; exact ⟨ob, es, ep, t, k _ _ (.inl rfl) e, c⟩
  | ins C dx fs =>
    obtain ⟨d, z, ne, e, mA, ⟨od, es, ep, e2, c⟩, r⟩ := x
    exact ⟨ho _ d, z, ne, k _ _ (.inl rfl) e, mA, ⟨od, es, ep, k _ _ (.inr d) e2, c⟩, r⟩
  | own y => obtain ⟨ob, e⟩ := x; exact ⟨ob, k _ _ (.inl rfl) e⟩
  | xd fs => obtain ⟨mA, ⟨od, es, ep, e, c⟩, r⟩ := x; exact ⟨mA, ⟨od, es, ep, k _ _ (.inl rfl) e, c⟩, r⟩
  | rng lo hi => obtain ⟨t, u, v, e⟩ := x; exact ⟨t, u, v, k _ _ (.inl rfl) e⟩
  | frz ob u ih => obtain ⟨e, q⟩ := x; exact ⟨k _ _ (.inl rfl) e, ih q⟩
  | tbl ps =>
    have e : h.get? a = some { cls := .none, data := .fields ps } := x
    show h'.get? a = some { cls := .none, data := .fields ps }
    exact k a _ (.inl rfl) e
  | met f y =>
    have e : h.get? a = some (PySem.W.methodObj (.ref f) (.ref y)) := x
    show h'.get? a = some (PySem.W.methodObj (.ref f) (.ref y))
    exact k a _ (.inl rfl) e
  | ext φ => obtain ⟨p, ⟨o, e⟩, st⟩ := x; exact ⟨st _ _ p fun o q => k _ _ (.inl rfl) q, ⟨o, k _ _ (.inl rfl) e⟩, st⟩
theorem HOk.lt (x : HOk P w H h) (e : H a = some o) : a < h.objs.size := (x a o e).lt
theorem HOk.fresh (x : HOk P w H h) (e : h.objs.size ≤ a) : H a = none := by
  cases q : H a with
  | none => rfl
  | some u => exact absurd (Nat.lt_of_lt_of_le (x.lt q) e) (Nat.lt_irrefl _)
/-- every object of the heap is kept -/
theorem HOk.kept (x : HOk P w H h) (k : ∀ b u, h.get? b = some u → h'.get? b = some u) : HOk P w H h' := fun a o e =>
  (x a o e).stay (fun b u _ q => k b u q) (fun _ q => q) fun _ _ q => q
/-- a new object is laid and tracked -/
theorem HOk.laid (x : HOk P w H h) (k : ∀ b u, h.get? b = some u → h'.get? b = some u) (hp : h.objs.size ≤ a) (new : ObjOk P w (upd H a o) h' a o) : HOk P w (upd H a o) h' := fun b u e => by
  have hn := x.fresh hp
  by_cases hb : b = a
  · subst hb; rw [upd_same] at e; cases e; exact new
  · rw [upd_ne hb] at e
    exact (x b u e).stay (fun c v _ q => k c v q) (fun c q => by rw [upd_ne (ne_of_none q hn)]; exact q) fun c xs q => by rw [upd_ne (ne_of_none q hn)]; exact q
end

/-- what may be read as u: it is u, or a known u -/
def Rd (H : Hp) (a : Addr) (u : HO) : Prop := H a = some u ∨ ∃ o, H a = some (.frz o u)
theorem Rd.of {H : Hp} {a : Addr} {u : HO} (h : H a = some u) : Rd H a u := .inl h
theorem Rd.ok {P : Program} {w : World} {H : Hp} {h : Heap} {a : Addr} {u : HO} (r : Rd H a u) (x : HOk P w H h) : ObjOk P w H h a u := by
  rcases r with r | ⟨o, r⟩
  · exact x a u r
  · obtain ⟨_, q⟩ := x a _ r
    exact q
/-- what may be written -/
def Mut : Option HO → Prop
  | some (.lst _) => True
  | some (.dK _) => True
  | some (.dT _) => True
  | some (.set _ _) => True
  | some (.ins _ _ _) => True
  | some (.ext _) => True
  | _ => False
section
variable {P : Program} {w : World} {H : Hp} {h h' : Heap} {x e : Addr} {o' : HO}
/-- the object at e is changed: x itself, or the dict of the instance x -/
theorem HOk.write (ok : HOk P w H h) (mu : Mut (H x)) (he : e = x ∨ H e = some (.own x)) (k : ∀ b u, b ≠ e → h.get? b = some u → h'.get? b = some u) (heo : ∃ u, h'.get? e = some u)
    (new : ObjOk P w (upd H x o') h' x o') : HOk P w (upd H x o') h' := fun b u q => by
  have nown : ∀ c y, H c = some (.own y) → c ≠ x := fun c y r z => by subst z; rw [r] at mu; exact mu
  have ntup : ∀ c xs, H c = some (.tup xs) → c ≠ x := fun c xs r z => by subst z; rw [r] at mu; exact mu
  by_cases hb : b = x
  · subst hb; rw [upd_same] at q; cases q; exact new
  · rw [upd_ne hb] at q
    by_cases hbe : b = e
    · have q' : H b = some (.own x) := by
        rcases he with z | z
        · exact absurd (hbe.trans z) hb
        · rw [hbe]; exact z
      rw [q] at q'; cases q'
      obtain ⟨v, hv⟩ := heo
      exact ⟨v, by rw [hbe]; exact hv⟩
    · refine (ok b u q).stay (fun c v hc r => k c v ?_ r) (fun c r => by rw [upd_ne (nown c b r)]; exact r) fun c xs r => by rw [upd_ne (ntup c xs r)]; exact r
      rcases hc with rfl | hc
      · exact hbe
      · rintro rfl
        rcases he with z | z
        · exact nown c b hc z
        · rw [hc] at z; cases z; exact hb rfl
end

/-! ### kept unless tracked; of the frames at fs (the callers') the slots may change (an exception that passes writes there); of the records at ex (iterators) nothing is said -/
structure Un (fs ex : List Addr) (H H' : Hp) (h h' : Heap) : Prop where
  keep : ∀ b o, h.get? b = some o → H b = none → b ∉ fs → b ∉ ex → h'.get? b = some o
  slot : ∀ b o, h.get? b = some o → H b = none → b ∈ fs → b ∉ ex → ∃ sl, h'.get? b = some { o with slots := sl }
  free : ∀ b o, h.get? b = some o → H b = none → b ∉ ex → H' b = none
  there : ∀ b o, h.get? b = some o → b ∉ ex → ∃ o', h'.get? b = some o'
  tups : ∀ b xs, H b = some (.tup xs) → H' b = some (.tup xs)
  frzs : ∀ b o u, H b = some (.frz o u) → H' b = some (.frz o u)
  tbls : ∀ b ps, H b = some (.tbl ps) → ∃ more, H' b = some (.tbl (ps ++ more))
section
variable {fs fs' ex ex' : List Addr} {H H1 H2 : Hp} {h h1 h2 h' : Heap} {a x e : Addr} {o : HO}
theorem Un.any (u : Un fs ex H H1 h h1) {b : Addr} {ob : Obj} (q : h.get? b = some ob) (n : H b = none) (hx : b ∉ ex) : ∃ sl, h1.get? b = some { ob with slots := sl } := by
  by_cases hb : b ∈ fs
  · exact u.slot b ob q n hb hx
  · exact ⟨ob.slots, u.keep b ob q n hb hx⟩
theorem Un.trans (a : Un fs ex H H1 h h1) (b : Un fs ex H1 H2 h1 h2) : Un fs ex H H2 h h2 where
  keep := fun c ob q n hc hx => b.keep c ob (a.keep c ob q n hc hx) (a.free c ob q n hx) hc hx
  slot := fun c ob q n hc hx => by
    obtain ⟨sl, e1⟩ := a.slot c ob q n hc hx
    obtain ⟨sl', e2⟩ := b.slot c _ e1 (a.free c ob q n hx) hc hx
    exact ⟨sl', e2⟩
  free := fun c ob q n hx => by
    obtain ⟨o', e1⟩ := a.there c ob q hx
    exact b.free c o' e1 (a.free c ob q n hx) hx
  there := fun c ob q hx => by
    obtain ⟨o', e1⟩ := a.there c ob q hx
    exact b.there c o' e1 hx
  tups := fun c xs q => b.tups c xs (a.tups c xs q)
  frzs := fun c ob xs q => b.frzs c ob xs (a.frzs c ob xs q)
  tbls := fun c ps q => by
    obtain ⟨m1, e1⟩ := a.tbls c ps q
    obtain ⟨m2, e2⟩ := b.tbls c _ e1
    exact ⟨m1 ++ m2, by rw [e2, Array.append_assoc]⟩
theorem Un.kept (k : ∀ b u, h.get? b = some u → h'.get? b = some u) : Un fs ex H H h h' :=
  ⟨fun b ob q _ _ _ => k b ob q, fun b ob q _ _ _ => ⟨ob.slots, k b ob q⟩, fun _ _ _ n _ => n, fun b ob q _ => ⟨ob, k b ob q⟩, fun _ _ q => q, fun _ _ _ q => q, fun _ ps q => ⟨#[], by rw [q]; simp⟩⟩
theorem Un.refl : Un fs ex H H h h := Un.kept fun _ _ q => q
theorem Un.laid (k : ∀ b u, h.get? b = some u → h'.get? b = some u) (hp : h.objs.size ≤ a) (hn : H a = none) : Un fs ex H (upd H a o) h h' where
  keep := fun b u q _ _ _ => k b u q
  slot := fun b u q _ _ _ => ⟨u.slots, k b u q⟩
  free := fun b u q n _ => by rw [upd_ne (Nat.ne_of_lt (Nat.lt_of_lt_of_le (Heap.lt_size q) hp))]; exact n
  there := fun b u q _ => ⟨u, k b u q⟩
  tups := fun b xs q => by rw [upd_ne (ne_of_none q hn)]; exact q
  frzs := fun b u xs q => by rw [upd_ne (ne_of_none q hn)]; exact q
  tbls := fun b ps q => ⟨#[], by rw [upd_ne (ne_of_none q hn), q]; simp⟩
theorem Un.write (mu : Mut (H x)) (he : e = x ∨ H e = some (.own x)) (k : ∀ b u, b ≠ e → h.get? b = some u → h'.get? b = some u) (heo : ∃ u, h'.get? e = some u) : Un fs ex H (upd H x o) h h' := by
  have hx : ∀ b, H b = none → b ≠ x := fun b n z => by subst z; rw [n] at mu; exact mu
  have hb : ∀ b, H b = none → b ≠ e := fun b n z => by
    subst z
    rcases he with r | r
    · exact hx b n r
    · rw [n] at r; cases r
  have hm : ∀ b u, H b = some u → ¬ Mut (some u) → b ≠ x := fun b u q nm z => by subst z; rw [q] at mu; exact nm mu
  refine ⟨fun b u q n _ _ => k b u (hb b n) q, fun b u q n _ _ => ⟨u.slots, k b u (hb b n) q⟩, fun b u q n _ => by rw [upd_ne (hx b n)]; exact n, fun b u q _ => ?_,
    fun b xs q => by rw [upd_ne (hm b _ q fun z => z)]; exact q, fun b u xs q => by rw [upd_ne (hm b _ q fun z => z)]; exact q, fun b ps q => ⟨#[], by rw [upd_ne (hm b _ q fun z => z), q]; simp⟩⟩
  by_cases hbe : b = e
  · subst hbe; exact heo
  · exact ⟨u, k b u hbe q⟩
theorem Un.mono (u : Un fs ex H H1 h h1) (hs : ∀ b ∈ fs, b ∈ fs') (hx : ∀ b ∈ ex, b ∈ ex') : Un fs' ex' H H1 h h1 :=
  ⟨fun b ob q n hb he => u.keep b ob q n (fun z => hb (hs b z)) fun z => he (hx b z), fun _ _ q n _ he => u.any q n fun z => he (hx _ z), fun b ob q n he => u.free b ob q n fun z => he (hx b z), fun b ob q he => u.there b ob q fun z => he (hx b z), u.tups, u.frzs, u.tbls⟩
end

/-! ### the heap without what is tracked -/
def trk (h : Heap) (H : Hp) : List Addr := (List.range h.objs.size).filter fun a => (H a).isSome
def hidT (h : Heap) (H : Hp) : Heap := PySem.W.hideAll h (trk h H)
theorem hidT_size (h : Heap) (H : Hp) : (hidT h H).objs.size = h.objs.size := PySem.W.hideAll_size _ _
theorem hidT_get {h : Heap} {H : Hp} {b : Addr} {o : Obj} (e : h.get? b = some o) (n : H b = none) : (hidT h H).get? b = some o :=
  PySem.W.hideAll_get _ e fun hm => by
    have q : (H b).isSome = true := (List.mem_filter.mp hm).2
    rw [n] at q; simp at q
theorem of_hidT {h : Heap} {H : Hp} {b : Addr} {o : Obj} (e : (hidT h H).get? b = some o) : h.get? b = some o ∧ H b = none := by
  have e' : h.get? b = some o := PySem.W.of_hideAll (trk h H) e
  refine ⟨e', ?_⟩
  cases q : H b with
  | none => rfl
  | some x =>
    have hm : b ∈ trk h H := List.mem_filter.mpr ⟨List.mem_range.mpr (Heap.lt_size e'), by simp [q]⟩
    have z : (hidT h H).get? b = none := PySem.W.hideAll_none (trk h H) hm
    rw [z] at e; cases e

/-! ### OpenK's ledger, filled with every new object but one -/
def allNews (g h : Heap) (L : Addr) : List (Addr × Obj) := (List.range h.objs.size).filterMap fun a => if a = L ∨ (g.get? a).isSome = true then none else (h.get? a).map fun o => (a, o)
theorem mem_allNews {g h : Heap} {L a : Addr} {o : Obj} (h1 : a ≠ L) (h2 : g.get? a = none) (h3 : h.get? a = some o) : (a, o) ∈ allNews g h L :=
  List.mem_filterMap.mpr ⟨a, List.mem_range.mpr (Heap.lt_size h3), by simp [h1, h2, h3]⟩
theorem of_mem_allNews {g h : Heap} {L : Addr} {p : Addr × Obj} (hp : p ∈ allNews g h L) : p.1 ≠ L ∧ g.get? p.1 = none ∧ h.get? p.1 = some p.2 := by
  obtain ⟨b, _, e⟩ := List.mem_filterMap.mp hp
  split at e
  · cases e
  · rename_i hn
    cases q : h.get? b with
    | none => rw [q] at e; simp at e
    | some u =>
      rw [q] at e
      simp only [Option.map_some, Option.some.injEq] at e
      subst e
      refine ⟨fun z => hn (.inl z), ?_, q⟩
      show g.get? b = none
      cases r : g.get? b with
      | none => rfl
      | some v => exact (hn (.inr (by simp [r]))).elim
def rest (g h : Heap) (L d : Addr) : List (Addr × Obj) := (allNews g h L).filter fun p => decide (p.1 ≠ d)
theorem rest_ne {g h : Heap} {L d : Addr} : ∀ p ∈ rest g h L d, p.1 ≠ d := fun p hp => of_decide_eq_true (List.mem_filter.mp hp).2
theorem mem_rest {g h : Heap} {L d a : Addr} {o : Obj} (h1 : a ≠ L) (h2 : g.get? a = none) (h3 : h.get? a = some o) (h4 : a ≠ d) : (a, o) ∈ rest g h L d :=
  List.mem_filter.mpr ⟨mem_allNews h1 h2 h3, decide_eq_true h4⟩
theorem news_all {g h : Heap} {L : Addr} : News g L h (allNews g h L) := fun p hp => let ⟨a, b, c⟩ := of_mem_allNews hp; ⟨c, a, b⟩
theorem news_at {g h : Heap} {L d : Addr} {o : Obj} (h1 : d ≠ L) (h2 : g.get? d = none) (h3 : h.get? d = some o) : News g L h ((d, o) :: rest g h L d) := fun p hp => by
  rcases List.mem_cons.mp hp with rfl | hp
  · exact ⟨h3, h1, h2⟩
  · exact news_all p (List.mem_filter.mp hp).1
/-- behind a rule that changed d alone: all else but the frame is kept -/
theorem kept_of_news {g h h' : Heap} {L d : Addr} {m : Str → Option Value} (k : ∀ b o, g.get? b = some o → h.get? b = some o) (F : Fr g L h' m) (N : News g L h' (rest g h L d)) :
    ∀ b o, b ≠ L → b ≠ d → h.get? b = some o → h'.get? b = some o := fun b o h1 h2 e => by
  cases q : g.get? b with
  | some u =>
    have := k b u q
    rw [e] at this; cases this
    exact F.keep b _ q
  | none => exact (N (b, o) (mem_rest h1 q e h2)).1
end L2

namespace L2
open PySem PySem.Spec PyProof.Rows

/-- the module's facts, over the base: the heap at the law's entry without what is tracked there -/
structure Mod (K : PySem.W.Frag) (mg : Str → Option Value) (base : Heap) : Prop where
  kin : K.In base
  glob : base.Ns mainGlobals mg
  blt : ∃ mb, base.Ns builtinsNs mb ∧ ∀ x : Str, x ≠ "__name__" → mb x = bootBuiltins x
  nolimit : base.NoLimit

/-- the context: a def's body (or a comprehension's block) running. base: fixed through the whole law; s₀, H₀: the entry; outer: the frames whose slots others may change (a def's callers); stack: all frames that run;
   ex: iterators that were made ahead of the entry and are walked here (a comprehension's); fn: the names whose cells were made at the entry (a def: all; a comprehension's block: its own); calm: not within an except suite; pn: pins that every state bears; xe: what is wanted of an exception that leaves the code -/
structure Cx where
  prog : Program
  w : World
  K : PySem.W.Frag
  mg : Str → Option Value
  base : Heap
  A : Around
  N : List Str
  s₀ : Shared
  H₀ : Hp
  env : Env
  outer : List Env
  stack : List Env
  ex : List Addr
  fn : Str → Bool
  calm : Bool
  pn : List (Addr × Obj)
  xe : Value → Shared → Prop
/-- the callers' frames -/
def frs (l : List Env) : List Addr := l.filterMap (·.frame)
abbrev Cx.fs (X : Cx) : List Addr := frs X.outer

def Vis (sc : Scope) (x : Str) : Prop := sc.names.lookup x = some .local ∨ sc.names.lookup x = some .cell ∨ sc.names.lookup x = some .free
def Loc (sc : Scope) (x : Str) : Prop := sc.names.lookup x = some .local ∨ sc.names.lookup x = some .cell
def Look (env : Env) (h : Heap) (m : Str → Option Value) (x : Str) (u : Value) : Prop :=
  (env.kindOf x = some .local ∧ m x = some u) ∨ ((env.kindOf x = some .cell ∨ env.kindOf x = some .free) ∧ ∃ c, env.cells.lookup x = some c ∧ h.IsCell c (some u))

structure Cx.Ok (X : Cx) : Prop where
  mod : Mod X.K X.mg X.base
  kind : X.env.scope.kind = .function
  glob : X.env.globals = mainGlobals
  blt : X.env.builtins = builtinsNs
  above : X.s₀.heap.objs.size ≤ X.env.locals
  inj : ∀ x y c, X.env.cells.lookup x = some c → X.env.cells.lookup y = some c → x = y
  has : ∀ x, (X.env.kindOf x = some .cell ∨ X.env.kindOf x = some .free) → ∃ c, X.env.cells.lookup x = some c
  cab : ∀ x c, X.fn x = true → X.env.cells.lookup x = some c → X.s₀.heap.objs.size ≤ c
  hd : X.calm = true → X.A.handled = none
  frames : X.A.frames = some X.stack
  stk : X.stack = X.outer ∨ (X.stack = X.env :: X.outer ∧ X.env.frame = some X.env.locals)
  exf : ∀ b ∈ X.ex, b ≠ X.env.locals ∧ ∀ x c, X.env.cells.lookup x = some c → c ≠ b
  bs : ∀ b o, X.base.get? b = some o → X.s₀.heap.get? b = some o ∧ X.H₀ b = none
  bsz : X.base.objs.size ≤ X.s₀.heap.objs.size
  noex : ∀ b o, X.base.get? b = some o → b ∉ X.ex
  exfs : ∀ b ∈ X.ex, b ∉ X.fs
  funs : X.s₀.heap.FunFrames X.base X.outer
  frf : ∀ b ∈ X.fs, X.H₀ b = none

structure Inv (X : Cx) (pins : List (Addr × Obj)) (σ : List (Option V)) (H : Hp) (s : Shared) : Prop where
  ok : X.Ok
  os : s.os = X.s₀.os
  bare : AllBare s.gens
  base : Un X.fs X.ex X.H₀ H X.s₀.heap s.heap
  loc : ∃ m, s.heap.Ns X.env.locals m ∧ ∀ (i : Nat) (x : Str) (v : V), X.N[i]? = some x → σ[i]? = some (some v) → Vis X.env.scope x → ∃ u, RelV v u ∧ Look X.env s.heap m x u
  cell : ∀ x c, X.env.cells.lookup x = some c → ∃ v, s.heap.IsCell c v
  free : H X.env.locals = none
  freeC : ∀ x c, X.env.cells.lookup x = some c → H c = none
  pin : ∀ p ∈ X.pn ++ pins, s.heap.get? p.1 = some p.2 ∧ H p.1 = none ∧ p.1 ≠ X.env.locals ∧ p.1 ∉ X.fs ∧ ∀ v, p.2.data ≠ .cell v
  hok : HOk X.prog X.w H s.heap
  len : σ.length = X.N.length

section
variable {X : Cx} {pins : List (Addr × Obj)} {σ : List (Option V)} {H H' : Hp} {s : Shared} {h' : Heap}

theorem Cx.Ok.nofr (ok : X.Ok) {b : Addr} {o : Obj} (e : X.base.get? b = some o) : b ∉ X.fs := fun hb => by
  have := (ok.funs.mem hb).1
  rw [e] at this; cases this
theorem Inv.bs (I : Inv X pins σ H s) : ∀ b o, X.base.get? b = some o → s.heap.get? b = some o ∧ H b = none := fun b o e =>
  ⟨I.base.keep b o (I.ok.bs b o e).1 (I.ok.bs b o e).2 (I.ok.nofr e) (I.ok.noex b o e), I.base.free b o (I.ok.bs b o e).1 (I.ok.bs b o e).2 (I.ok.noex b o e)⟩
theorem Inv.bk (I : Inv X pins σ H s) : ∀ b o, X.base.get? b = some o → s.heap.get? b = some o := fun b o e => (I.bs b o e).1
theorem Inv.mod (I : Inv X pins σ H s) : Mod X.K X.mg X.base := I.ok.mod
theorem Inv.kIn (I : Inv X pins σ H s) : X.K.In s.heap := I.ok.mod.kin.keeps I.bk
theorem Inv.nolimit (I : Inv X pins σ H s) : s.heap.NoLimit := I.ok.mod.nolimit.keeps I.bk
/-- the frame over the base: for OpenK's rules (K.In X.base is I.mod.kin) -/
theorem Inv.fr (I : Inv X pins σ H s) : ∃ m, Fr X.base X.env.locals s.heap m :=
  let ⟨m, hn, _⟩ := I.loc
  ⟨m, hn, I.bk, Nat.le_trans I.ok.bsz I.ok.above⟩
theorem Inv.lt (I : Inv X pins σ H s) : X.env.locals < s.heap.objs.size := let ⟨_, hn, _⟩ := I.loc; hn.lt
theorem Inv.sz (I : Inv X pins σ H s) : X.s₀.heap.objs.size ≤ s.heap.objs.size := Nat.le_trans I.ok.above (Nat.le_of_lt I.lt)
theorem Inv.nofs (I : Inv X pins σ H s) {a : Addr} (h : s.heap.objs.size ≤ a) : a ∉ X.fs := fun hb => by
  obtain ⟨_, o, ho, _⟩ := I.ok.funs.mem hb
  exact absurd (Nat.lt_of_lt_of_le (Heap.lt_size ho) (Nat.le_trans I.sz h)) (Nat.lt_irrefl _)
theorem Inv.cne (I : Inv X pins σ H s) : ∀ x c, X.env.cells.lookup x = some c → c ≠ X.env.locals := fun x c e z => by
  obtain ⟨v, o, ho, hd⟩ := I.cell x c e
  obtain ⟨m, ⟨o', es, ep, ho', hd', _⟩, _⟩ := I.loc
  rw [z, ho'] at ho; cases ho; rw [hd'] at hd; cases hd
theorem Inv.funs (I : Inv X pins σ H s) : s.heap.FunFrames X.base X.outer := by
  have all : ∀ (l : List Env), (∀ b ∈ frs l, b ∈ X.fs) → X.s₀.heap.FunFrames X.base l → s.heap.FunFrames X.base l := by
    intro l
    induction l with
    | nil => intro _ _; trivial
    | cons env r ih =>
      intro hs hl
      obtain ⟨hk, ⟨L, o, hf, hn, ho, hd⟩, hr⟩ := hl
      have hL : L ∈ X.fs := hs L (by unfold frs; rw [List.filterMap_cons, hf]; exact List.mem_cons_self)
      obtain ⟨sl, e⟩ := I.base.slot L o ho (I.ok.frf L hL) hL fun z => I.ok.exfs L z hL
      exact ⟨hk, ⟨L, _, hf, hn, e, hd⟩, ih (fun b hb => hs b (by unfold frs; rw [List.filterMap_cons, hf]; exact List.mem_cons_of_mem _ hb)) hr⟩
  exact all X.outer (fun _ hb => hb) I.ok.funs

/-- the frames that run, for a call -/
theorem Inv.stack (I : Inv X pins σ H s) : s.heap.FunFrames X.base X.stack := by
  rcases I.ok.stk with e | ⟨e, hf⟩
  · rw [e]; exact I.funs
  · rw [e]
    obtain ⟨m, hn, _⟩ := I.loc
    refine .cons (by rw [I.ok.kind]; decide) hf hn ?_ I.funs
    exact Heap.get?_none_of_le (Nat.le_trans I.ok.bsz I.ok.above)
theorem Inv.stkSub (I : Inv X pins σ H s) : ∀ b ∈ frs X.stack, b ∈ X.env.locals :: X.fs := fun b hb => by
  rcases I.ok.stk with e | ⟨e, hf⟩
  · rw [e] at hb; exact List.mem_cons_of_mem _ hb
  · rw [e] at hb
    unfold frs at hb
    rw [List.filterMap_cons, hf] at hb
    exact hb
theorem Inv.stkFree (I : Inv X pins σ H s) : ∀ b ∈ frs X.stack, H b = none := fun b hb => by
  rcases List.mem_cons.mp (I.stkSub b hb) with e | hb
  · rw [e]; exact I.free
  · obtain ⟨_, o, ho, _⟩ := I.ok.funs.mem hb
    exact I.base.free b o ho (I.ok.frf b hb) fun z => I.ok.exfs b z hb

/-- THE STEP: the untracked objects but the frame and the records at ch are kept (the callers' frames up to slots), the frame's map is kept, the new abstract heap is held -/
theorem Inv.step {g' : Array GenState} {t' : Nat} {d' : Drawn} {ch : List Addr} (I : Inv X pins σ H s)
    (hch : ∀ b ∈ ch, (b ∈ X.ex ∨ X.s₀.heap.objs.size ≤ b) ∧ b ≠ X.env.locals ∧ (∀ x c, X.env.cells.lookup x = some c → c ≠ b) ∧ ∀ p ∈ X.pn ++ pins, p.1 ≠ b)
    (keep : ∀ b o, b ≠ X.env.locals → b ∉ X.fs → b ∉ ch → s.heap.get? b = some o → H b = none → h'.get? b = some o)
    (slot : ∀ b o, b ≠ X.env.locals → b ∈ X.fs → b ∉ ch → s.heap.get? b = some o → H b = none → ∃ sl, h'.get? b = some { o with slots := sl }) (free : ∀ b o, b ∉ ch → s.heap.get? b = some o → H b = none → H' b = none)
    (there : ∀ b o, b ∉ ch → s.heap.get? b = some o → ∃ o', h'.get? b = some o')
    (tups : ∀ b xs, H b = some (.tup xs) → H' b = some (.tup xs)) (frzs : ∀ b o u, H b = some (.frz o u) → H' b = some (.frz o u)) (tbls : ∀ b ps, H b = some (.tbl ps) → ∃ more, H' b = some (.tbl (ps ++ more)))
    (ns : ∀ m, s.heap.Ns X.env.locals m → h'.Ns X.env.locals m) (hok : HOk X.prog X.w H' h') (hg : AllBare g') :
    Inv X pins σ H' { s with heap := h', gens := g', drawn := d', toks := t' } := by
  have neL : ∀ b o, X.s₀.heap.get? b = some o → b ≠ X.env.locals := fun b o e => Nat.ne_of_lt (Nat.lt_of_lt_of_le (Heap.lt_size e) I.ok.above)
  have neC : ∀ b o, X.s₀.heap.get? b = some o → b ∉ X.ex → b ∉ ch := fun b o e hx hb => by
    rcases (hch b hb).1 with z | z
    · exact hx z
    · exact absurd (Nat.lt_of_lt_of_le (Heap.lt_size e) z) (Nat.lt_irrefl _)
  have cellK : ∀ x c, X.env.cells.lookup x = some c → ∀ v, s.heap.IsCell c v → h'.IsCell c v := fun x c e v ⟨o, ho, hd⟩ => by
    have nch : c ∉ ch := fun z => (hch c z).2.2.1 x c e rfl
    by_cases hc : c ∈ X.fs
    · obtain ⟨sl, q⟩ := slot c o (I.cne x c e) hc nch ho (I.freeC x c e)
      exact ⟨_, q, hd⟩
    · exact ⟨o, keep c o (I.cne x c e) hc nch ho (I.freeC x c e), hd⟩
  refine ⟨I.ok, I.os, hg, ⟨fun b o e n hb hx => ?_, fun b o e n hb hx => ?_, fun b o e n hx => ?_, fun b o e hx => ?_, fun b xs e => tups b xs (I.base.tups b xs e), fun b o xs e => frzs b o xs (I.base.frzs b o xs e), fun b ps e => ?_⟩, ?_, fun x c e => ?_, ?_, fun x c e => ?_, fun p hp => ?_, hok, I.len⟩
  · exact keep b o (neL b o e) hb (neC b o e hx) (I.base.keep b o e n hb hx) (I.base.free b o e n hx)
  · obtain ⟨sl, e1⟩ := I.base.slot b o e n hb hx
    obtain ⟨sl', e2⟩ := slot b _ (neL b o e) hb (neC b o e hx) e1 (I.base.free b o e n hx)
    exact ⟨sl', e2⟩
  · obtain ⟨o', e1⟩ := I.base.there b o e hx
    exact free b o' (neC b o e hx) e1 (I.base.free b o e n hx)
  · obtain ⟨o', e1⟩ := I.base.there b o e hx
    exact there b o' (neC b o e hx) e1
  · obtain ⟨m1, e1⟩ := I.base.tbls b ps e
    obtain ⟨m2, e2⟩ := tbls b _ e1
    exact ⟨m1 ++ m2, by rw [e2, Array.append_assoc]⟩
  · obtain ⟨m, hn, hl⟩ := I.loc
    refine ⟨m, ns m hn, fun i x v e1 e2 e3 => ?_⟩
    obtain ⟨u, r, l⟩ := hl i x v e1 e2 e3
    refine ⟨u, r, ?_⟩
    rcases l with l | ⟨k, c, e, z⟩
    · exact .inl l
    · exact .inr ⟨k, c, e, cellK x c e _ z⟩
  · obtain ⟨v, z⟩ := I.cell x c e
    exact ⟨v, cellK x c e v z⟩
  · obtain ⟨m, ⟨o, _, _, ho, _⟩, _⟩ := I.loc
    exact free _ o (fun z => (hch _ z).2.1 rfl) ho I.free
  · obtain ⟨v, o, ho, hd⟩ := I.cell x c e
    exact free c o (fun z => (hch c z).2.2.1 x c e rfl) ho (I.freeC x c e)
  · obtain ⟨e, n, ne, nf, d⟩ := I.pin p hp
    have nch : p.1 ∉ ch := fun z => (hch p.1 z).2.2.2 p hp rfl
    exact ⟨keep p.1 p.2 ne nf nch e n, free p.1 p.2 nch e n, ne, nf, d⟩
/-- .. where the frame's own object is kept too -/
theorem Inv.un {t' : Nat} (I : Inv X pins σ H s) (u : Un X.fs [] H H' s.heap h') (hok : HOk X.prog X.w H' h') : Inv X pins σ H' { s with heap := h', toks := t' } := by
  obtain ⟨m, ⟨o, es, ep, ho, r⟩, _⟩ := id I.loc
  obtain ⟨sl, hL⟩ := u.any ho I.free (by simp)
  exact I.step (g' := s.gens) (d' := s.drawn) (ch := []) (fun _ z => nomatch z) (fun b o _ hb _ e n => u.keep b o e n hb (by simp)) (fun b o _ hb _ e n => u.slot b o e n hb (by simp)) (fun b o _ e n => u.free b o e n (by simp)) (fun b o _ e => u.there b o e (by simp)) u.tups u.frzs u.tbls (fun m' hm => by
    obtain ⟨o', es', ep', ho', r'⟩ := hm
    rw [ho] at ho'; cases ho'
    exact ⟨_, es', ep', hL, r'⟩) hok I.bare
/-- behind a call (or a comprehension's block): the slots of this frame may have changed too, the records at ch may have turned -/
theorem Inv.call {g' : Array GenState} {t' : Nat} {d' : Drawn} {ch : List Addr} (I : Inv X pins σ H s) (u : Un (frs X.stack) ch H H' s.heap h') (hok : HOk X.prog X.w H' h') (hg : AllBare g')
    (hch : ∀ b ∈ ch, (b ∈ X.ex ∨ X.s₀.heap.objs.size ≤ b) ∧ b ≠ X.env.locals ∧ (∀ x c, X.env.cells.lookup x = some c → c ≠ b) ∧ ∀ p ∈ X.pn ++ pins, p.1 ≠ b) :
    Inv X pins σ H' { s with heap := h', gens := g', drawn := d', toks := t' } := by
  obtain ⟨m, ⟨o, es, ep, ho, r⟩, _⟩ := id I.loc
  obtain ⟨sl, hL⟩ := u.any ho I.free fun z => (hch _ z).2.1 rfl
  exact I.step (ch := ch) hch (fun b o hL hb hc e n => u.keep b o e n (fun z => (List.mem_cons.mp (I.stkSub b z)).elim hL hb) hc) (fun b o _ _ hc e n => u.any e n hc) (fun b o hc e n => u.free b o e n hc) (fun b o hc e => u.there b o e hc) u.tups u.frzs u.tbls (fun m' hm => by
    obtain ⟨o', es', ep', ho', r'⟩ := hm
    rw [ho] at ho'; cases ho'
    exact ⟨_, es', ep', hL, r'⟩) hok hg
/-- an untracked record of ours (an iterator) has turned -/
theorem Inv.turned {t' : Nat} {it : Addr} (I : Inv X pins σ H s) (k : ∀ b o, b ≠ it → s.heap.get? b = some o → h'.get? b = some o) (hn : H it = none) (hL : it ≠ X.env.locals)
    (h1 : it ∈ X.ex ∨ X.s₀.heap.objs.size ≤ it) (h2 : ∀ x c, X.env.cells.lookup x = some c → c ≠ it) (h3 : ∀ p ∈ X.pn ++ pins, p.1 ≠ it) : Inv X pins σ H { s with heap := h', toks := t' } := by
  have nit : ∀ b u, H b = some u → b ≠ it := fun b u e z => by rw [z, hn] at e; cases e
  refine I.step (g' := s.gens) (d' := s.drawn) (ch := [it]) (fun b hb => ?_) (fun b o _ _ hc e _ => k b o (fun z => hc (by simp [z])) e) (fun b o _ _ hc e _ => ⟨o.slots, k b o (fun z => hc (by simp [z])) e⟩) (fun _ _ _ _ n => n)
    (fun b o hc e => ⟨o, k b o (fun z => hc (by simp [z])) e⟩) (fun _ _ e => e) (fun _ _ _ e => e) (fun b ps e => ⟨#[], by rw [e]; simp⟩) (fun m hm => ?_) (fun b u e => ?_) I.bare
  · have e : b = it := by simpa using hb
    subst e
    exact ⟨h1, hL, h2, h3⟩
  · obtain ⟨o, es, ep, ho, r⟩ := hm
    exact ⟨o, es, ep, k _ o (Ne.symm hL) ho, r⟩
  · refine (I.hok b u e).stay (fun c v hc q => k c v ?_ q) (fun _ q => q) fun _ _ q => q
    rcases hc with z | z
    · rw [z]; exact nit b u e
    · exact nit c _ z
theorem Inv.tok (I : Inv X pins σ H s) (t : Nat) : Inv X pins σ H { s with toks := t } := I.un (h' := s.heap) (t' := t) Un.refl I.hok
/-- all objects kept -/
theorem Inv.kept {t' : Nat} (I : Inv X pins σ H s) (k : ∀ b u, s.heap.get? b = some u → h'.get? b = some u) : Inv X pins σ H { s with heap := h', toks := t' } := I.un (Un.kept k) (I.hok.kept k)
/-- a new object laid and tracked -/
theorem Inv.laid {a : Addr} {o : HO} {t' : Nat} (I : Inv X pins σ H s) (k : ∀ b u, s.heap.get? b = some u → h'.get? b = some u) (hp : s.heap.objs.size ≤ a) (new : ObjOk X.prog X.w (upd H a o) h' a o) :
    Inv X pins σ (upd H a o) { s with heap := h', toks := t' } := I.un (Un.laid k hp (I.hok.fresh hp)) (I.hok.laid k hp new)
/-- an object written -/
theorem Inv.write {x e : Addr} {o : HO} {t' : Nat} (I : Inv X pins σ H s) (mu : Mut (H x)) (he : e = x ∨ H e = some (.own x)) (k : ∀ b u, b ≠ e → s.heap.get? b = some u → h'.get? b = some u) (heo : ∃ u, h'.get? e = some u)
    (new : ObjOk X.prog X.w (upd H x o) h' x o) : Inv X pins σ (upd H x o) { s with heap := h', toks := t' } := I.un (Un.write mu he k heo) (I.hok.write mu he k heo new)
/-- forgetting slots, pins -/
theorem Inv.weak {σ' : List (Option V)} (I : Inv X pins σ H s) (hl : σ'.length = σ.length) (w : ∀ (i : Nat) v, σ'[i]? = some (some v) → σ[i]? = some (some v)) : Inv X pins σ' H s :=
  ⟨I.ok, I.os, I.bare, I.base, let ⟨m, hn, hl'⟩ := I.loc; ⟨m, hn, fun i x v e1 e2 e3 => hl' i x v e1 (w i v e2) e3⟩, I.cell, I.free, I.freeC, I.pin, I.hok, hl.trans I.len⟩
theorem Inv.pins_of {pins' : List (Addr × Obj)} (I : Inv X pins σ H s) (h : ∀ p ∈ pins', s.heap.get? p.1 = some p.2 ∧ H p.1 = none ∧ p.1 ≠ X.env.locals ∧ p.1 ∉ X.fs ∧ ∀ v, p.2.data ≠ .cell v) : Inv X pins' σ H s :=
  ⟨I.ok, I.os, I.bare, I.base, I.loc, I.cell, I.free, I.freeC, fun p hp => (List.mem_append.mp hp).elim (fun z => I.pin p (List.mem_append_left _ z)) (h p), I.hok, I.len⟩

theorem nodup_ix {N : List Str} (hN : N.Nodup) {i j : Nat} {x : Str} (a : N[i]? = some x) (b : N[j]? = some x) : i = j := by
  obtain ⟨h1, e1⟩ := List.getElem?_eq_some_iff.mp a
  obtain ⟨h2, e2⟩ := List.getElem?_eq_some_iff.mp b
  exact (List.getElem_inj hN).mp (e1.trans e2.symm)

/-- a name is stored; what changed -/
theorem store_ok2 {M : Model} {A : Around} {E : Value → Shared → Prop} {i : Nat} {x : Str} {v : V} {u : Value} {Q : Unit → Shared → Prop} (I : Inv X pins σ H s) (hN : X.N.Nodup) (hi : X.N[i]? = some x) (hx : Loc X.env.scope x) (r : RelV v u)
    (h : ∀ s', Inv X pins (σ.set i (some v)) H s' → (∃ a, Heap.SameBut a s.heap s'.heap ∧ (a = X.env.locals ∨ X.env.cells.lookup x = some a)) → Q () s') (hf : X.fn x = true ∨ X.env.scope.names.lookup x = some .local := by first | exact .inl rfl | exact .inr rfl | assumption) : wpAny M A (storeName X.env x u) Q E s := by
  obtain ⟨m, hn, hl⟩ := id I.loc
  have hcls : (X.env.scope.kind == .class || (X.env.scope.kind == .module && X.env.locals != X.env.globals)) = false := by rw [I.ok.kind]; rfl
  have hiσ : i < σ.length := by rw [I.len]; exact (List.getElem?_eq_some_iff.mp hi).1
  have cne := I.cne
  have tracked : ∀ {a : Addr} {h' : Heap}, (∃ o, s.heap.get? a = some o ∧ H a = none) → Heap.SameBut a s.heap h' → HOk X.prog X.w H h' := fun {a h'} ha hs b ob e => by
    obtain ⟨_, _, hfree⟩ := ha
    refine (I.hok b ob e).stay (fun c w' hc q => (hs.2 c ?_).trans q) (fun _ q => q) fun _ _ q => q
    rintro rfl
    rcases hc with rfl | hc
    · rw [hfree] at e; cases e
    · rw [hfree] at hc; cases hc
  rcases hx with hk | hk
  · refine wpAny_storeName_local hk hn (fun h' hn' hs => ?_) hcls
    obtain ⟨oL, _, _, hoL, _⟩ := id hn
    refine h _ ⟨I.ok, I.os, I.bare, ⟨fun b o e n hb hx => ?_, fun b o e n hb hx => ?_, I.base.free, fun b o e hx => ?_, I.base.tups, I.base.frzs, I.base.tbls⟩, ⟨_, hn', fun j y v' e1 e2 e3 => ?_⟩, fun y c e => ?_, I.free, I.freeC, fun p hp => ?_, tracked ⟨oL, hoL, I.free⟩ hs, by simpa using I.len⟩ ⟨_, hs, .inl rfl⟩
    · exact (hs.2 b (Nat.ne_of_lt (Nat.lt_of_lt_of_le (Heap.lt_size e) I.ok.above))).trans (I.base.keep b o e n hb hx)
    · obtain ⟨sl, e1⟩ := I.base.slot b o e n hb hx
      exact ⟨sl, (hs.2 b (Nat.ne_of_lt (Nat.lt_of_lt_of_le (Heap.lt_size e) I.ok.above))).trans e1⟩
    · obtain ⟨o', e1⟩ := I.base.there b o e hx
      exact ⟨o', (hs.2 b (Nat.ne_of_lt (Nat.lt_of_lt_of_le (Heap.lt_size e) I.ok.above))).trans e1⟩
    · by_cases hj : j = i
      · subst hj
        rw [hi] at e1; cases e1
        rw [List.getElem?_set_self hiσ] at e2
        cases e2
        exact ⟨u, r, .inl ⟨hk, by simp⟩⟩
      · rw [List.getElem?_set_ne (Ne.symm hj)] at e2
        obtain ⟨u', r', q⟩ := hl j y v' e1 e2 e3
        refine ⟨u', r', ?_⟩
        rcases q with ⟨k, e⟩ | ⟨k, c, e, z⟩
        · refine .inl ⟨k, ?_⟩
          have : y ≠ x := fun e => hj (nodup_ix hN e1 (e ▸ hi))
          simp [this, e]
        · exact .inr ⟨k, c, e, z.sameBut hs (cne y c e)⟩
    · obtain ⟨w', z⟩ := I.cell y c e
      exact ⟨w', z.sameBut hs (cne y c e)⟩
    · obtain ⟨e, n, ne, nf, d⟩ := I.pin p hp
      exact ⟨(hs.2 p.1 ne).trans e, n, ne, nf, d⟩
  · have hfn : X.fn x = true := by
      rcases hf with z | z
      · exact z
      · rw [z] at hk; cases hk
    obtain ⟨c, hc⟩ := I.ok.has x (.inl hk)
    obtain ⟨w', z⟩ := I.cell x c hc
    refine wpAny_storeName_cell I.ok.kind hk hc z (fun h' hc' hs => ?_)
    obtain ⟨oc, hoc, hocd⟩ := id z
    refine h { s with heap := h' } ⟨I.ok, I.os, I.bare, ⟨fun b o e n hb hx => ?_, fun b o e n hb hx => ?_, I.base.free, fun b o e hx => ?_, I.base.tups, I.base.frzs, I.base.tbls⟩, ⟨m, hn.sameBut hs (Ne.symm (cne x c hc)), fun j y v' e1 e2 e3 => ?_⟩, fun y c' e => ?_, I.free, I.freeC, fun p hp => ?_, tracked ⟨oc, hoc, I.freeC x c hc⟩ hs, by simpa using I.len⟩ ⟨c, hs, .inr hc⟩
    · exact (hs.2 b (Nat.ne_of_lt (Nat.lt_of_lt_of_le (Heap.lt_size e) (I.ok.cab x c hfn hc)))).trans (I.base.keep b o e n hb hx)
    · obtain ⟨sl, e1⟩ := I.base.slot b o e n hb hx
      exact ⟨sl, (hs.2 b (Nat.ne_of_lt (Nat.lt_of_lt_of_le (Heap.lt_size e) (I.ok.cab x c hfn hc)))).trans e1⟩
    · obtain ⟨o', e1⟩ := I.base.there b o e hx
      exact ⟨o', (hs.2 b (Nat.ne_of_lt (Nat.lt_of_lt_of_le (Heap.lt_size e) (I.ok.cab x c hfn hc)))).trans e1⟩
    · by_cases hj : j = i
      · subst hj
        rw [hi] at e1; cases e1
        rw [List.getElem?_set_self hiσ] at e2
        cases e2
        exact ⟨u, r, .inr ⟨.inl hk, c, hc, hc'⟩⟩
      · rw [List.getElem?_set_ne (Ne.symm hj)] at e2
        obtain ⟨u', r', q⟩ := hl j y v' e1 e2 e3
        refine ⟨u', r', ?_⟩
        rcases q with q | ⟨k, c', e, z'⟩
        · exact .inl q
        · refine .inr ⟨k, c', e, z'.sameBut hs ?_⟩
          rintro rfl
          exact hj (nodup_ix hN e1 (I.ok.inj _ _ _ e hc ▸ hi))
    · by_cases hcc : c' = c
      · subst hcc; exact ⟨_, hc'⟩
      · obtain ⟨w2, z2⟩ := I.cell y c' e
        exact ⟨w2, z2.sameBut hs hcc⟩
    · obtain ⟨e, n, ne, nf, d⟩ := I.pin p hp
      refine ⟨(hs.2 p.1 ?_).trans e, n, ne, nf, d⟩
      intro q
      rw [q, hoc] at e
      have q' : oc = p.2 := Option.some.inj e
      exact d w' (by rw [← q']; exact hocd)
theorem store_ok {M : Model} {A : Around} {E : Value → Shared → Prop} {i : Nat} {x : Str} {v : V} {u : Value} {Q : Unit → Shared → Prop} (I : Inv X pins σ H s) (hN : X.N.Nodup) (hi : X.N[i]? = some x) (hx : Loc X.env.scope x) (r : RelV v u)
    (h : ∀ s', Inv X pins (σ.set i (some v)) H s' → Q () s') (hf : X.fn x = true ∨ X.env.scope.names.lookup x = some .local := by first | exact .inl rfl | exact .inr rfl | assumption) : wpAny M A (storeName X.env x u) Q E s :=
  store_ok2 I hN hi hx r (fun s' I' _ => h s' I') hf
/-- behind a call or a block, the state as it is -/
theorem Inv.call' {s' : Shared} {ch : List Addr} (I : Inv X pins σ H s) (ho : s'.os = s.os) (u : Un (frs X.stack) ch H H' s.heap s'.heap) (hok : HOk X.prog X.w H' s'.heap) (hg : AllBare s'.gens)
    (hch : ∀ b ∈ ch, (b ∈ X.ex ∨ X.s₀.heap.objs.size ≤ b) ∧ b ≠ X.env.locals ∧ (∀ x c, X.env.cells.lookup x = some c → c ≠ b) ∧ ∀ p ∈ X.pn ++ pins, p.1 ≠ b) : Inv X pins σ H' s' := by
  obtain ⟨h', g', d', t', o'⟩ := s'
  have e : o' = s.os := ho
  subst e
  exact I.call (g' := g') (t' := t') (d' := d') u hok hg hch
end

/-! ### the judgements -/
/-- an exception: its class, its own dict's address (where it has one), the abstract heap behind it -/
abbrev XK := Value → Option Addr → Hp → Prop
abbrev St := List (Option V)
abbrev VK := V → Hp → Prop
/-- an expression's reading; a test's; an argument list's -/
abbrev TE := St → Hp → VK → Prop
abbrev TT := St → Hp → (Bool → Hp → Prop) → Prop
abbrev TA := St → Hp → (List V → Hp → Prop) → Prop
/-- what is wanted behind a statement -/
structure Ends where
  nx : St → Hp → Prop
  rt : VK
  bk : St → Hp → Prop := fun _ _ => False
  ct : St → Hp → Prop := fun _ _ => False
abbrev TS := Ends → St → Hp → Prop

def EP (X : Cx) (pins : List (Addr × Obj)) (σ : St) (Q : VK) (u : Value) (s' : Shared) : Prop := ∃ v H', Inv X pins σ H' s' ∧ RelV v u ∧ Q v H'
def TP (X : Cx) (pins : List (Addr × Obj)) (σ : St) (Q : Bool → Hp → Prop) (b : Bool) (s' : Shared) : Prop := ∃ H', Inv X pins σ H' s' ∧ Q b H'
def AP (X : Cx) (pins : List (Addr × Obj)) (σ : St) (Q : List V → Hp → Prop) (us : List Value) (s' : Shared) : Prop := ∃ vs H', Inv X pins σ H' s' ∧ Vals vs us ∧ Q vs H'
def SP (X : Cx) (pins : List (Addr × Obj)) (D : Ends) (f : Flow) (s' : Shared) : Prop :=
  match f with
  | .next => ∃ σ' H', Inv X pins σ' H' s' ∧ D.nx σ' H'
  | .brk => ∃ σ' H', Inv X pins σ' H' s' ∧ D.bk σ' H'
  | .cont => ∃ σ' H', Inv X pins σ' H' s' ∧ D.ct σ' H'
  | .ret u => ∃ v σ' H', Inv X pins σ' H' s' ∧ RelV v u ∧ D.rt v H'

def PE (X : Cx) (e : Expr) (t : TE) : Prop :=
  ∀ (pins : List (Addr × Obj)) (s : Shared) (σ : St) (H : Hp) (Q : VK), Inv X pins σ H s → t σ H Q → wpAny (model X.prog X.w) X.A (eval e X.env) (EP X pins σ Q) X.xe s
def PT (X : Cx) (e : Expr) (t : TT) : Prop :=
  ∀ (pins : List (Addr × Obj)) (s : Shared) (σ : St) (H : Hp) (Q : Bool → Hp → Prop), Inv X pins σ H s → t σ H Q → wpAny (model X.prog X.w) X.A (isTrue e X.env (eval e X.env)) (TP X pins σ Q) X.xe s
/-- a test whatever its 'whole' is (and, or) -/
def PW (X : Cx) (e : Expr) (t : TT) : Prop :=
  ∀ (whole : Sem Value) (pins : List (Addr × Obj)) (s : Shared) (σ : St) (H : Hp) (Q : Bool → Hp → Prop), Inv X pins σ H s → t σ H Q → wpAny (model X.prog X.w) X.A (isTrue e X.env whole) (TP X pins σ Q) X.xe s
theorem PW.pt {X : Cx} {e : Expr} {t : TT} (h : PW X e t) : PT X e t := h _
/-- an argument list (no star), from the left -/
def PA (X : Cx) (es : List Expr) (t : TA) : Prop :=
  ∀ (pos : Pos) (pins : List (Addr × Obj)) (s : Shared) (σ : St) (H : Hp) (Q : List V → Hp → Prop), Inv X pins σ H s → t σ H Q → wpAny (model X.prog X.w) X.A (spliced (backTo pos (starEach es X.env))) (AP X pins σ Q) X.xe s
def PS (X : Cx) (st : Stmt) (t : TS) : Prop :=
  ∀ (pins : List (Addr × Obj)) (s : Shared) (σ : St) (H : Hp) (D : Ends), Inv X pins σ H s → t D σ H → wpAny (model X.prog X.w) X.A (exec st X.env) (SP X pins D) X.xe s
def PSs (X : Cx) (st : List Stmt) (t : TS) : Prop :=
  ∀ (pins : List (Addr × Obj)) (s : Shared) (σ : St) (H : Hp) (D : Ends), Inv X pins σ H s → t D σ H → wpAny (model X.prog X.w) X.A (execs st X.env) (SP X pins D) X.xe s
/-- weaken the end -/
theorem thn {α : Type} {t : Sem α} {Q Q' : α → Shared → Prop} {M : Model} {A : Around} {E : Value → Shared → Prop} {s : Shared} (h : wpAny M A t Q E s) (hQ : ∀ a s, Q a s → Q' a s) : wpAny M A t Q' E s := wpAny_mono h hQ fun _ _ x => x
end L2

namespace L2
open PySem PySem.Spec PyProof.Rows
section
variable {X : Cx}

/-- two expressions in a row -/
theorem bin {a b : Expr} {ta tb : TE} (ha : PE X a ta) (hb : PE X b tb) {pins : List (Addr × Obj)} {s : Shared} {σ : St} {H : Hp} {R : V → V → Hp → Prop} (I : Inv X pins σ H s) (h : ta σ H fun x H1 => tb σ H1 fun y H2 => R x y H2)
    {α : Type} {Q : α → Shared → Prop} {f : Value → Value → Sem α}
    (hf : ∀ v u s2 x y H2, Inv X pins σ H2 s2 → RelV x v → RelV y u → R x y H2 → wpAny (model X.prog X.w) X.A (f v u) Q X.xe s2) :
    wpAny (model X.prog X.w) X.A (eval a X.env) (fun v s₁ => wpAny (model X.prog X.w) X.A (eval b X.env) (fun u s₂ => wpAny (model X.prog X.w) X.A (f v u) Q X.xe s₂) X.xe s₁) X.xe s := by
  refine thn (ha pins s σ H _ I h) fun v s1 ⟨x, H1, I1, r1, q1⟩ => ?_
  refine thn (hb pins s1 σ H1 _ I1 q1) fun u s2 ⟨y, H2, I2, r2, q2⟩ => ?_
  exact hf v u s2 x y H2 I2 r1 r2 q2

/-! ### names and constants -/
def tVar (i : Nat) : TE := fun σ H Q => ∃ v, σ[i]? = some (some v) ∧ Q v H
def tC (v : V) : TE := fun _ H Q => Q v H
theorem pe_var {i : Nat} {x : Str} {pos : Pos} (hN : X.N[i]? = some x) (hv : Vis X.env.scope x) (hd : (x == ("__debug__" : Str)) = false := by decide) (hcd : (x == ("__classdict__" : Str)) = false := by decide) : PE X (.Name x pos) (tVar i) := by
  intro pins s σ H Q I h
  obtain ⟨v, e, h⟩ := h
  obtain ⟨m, hn, hl⟩ := I.loc
  obtain ⟨u, r, l⟩ := hl i x v hN e hv
  have fin : EP X pins σ Q u s := ⟨v, H, I, r, h⟩
  rcases l with ⟨hk, hm⟩ | ⟨hk, c, hc, hcell⟩
  · exact wpAny_Name (wpAny_loadName_local I.ok.kind hk hn hm fin) hd
  · rcases hk with hk | hk
    · exact wpAny_Name (wpAny_loadName_cell I.ok.kind hk hc hcell fin) hd
    · exact wpAny_Name (wpAny_loadName_free I.ok.kind hk hc hcell fin hcd) hd
theorem pe_int {i j pos} : PE X (.Constant (.int i) j pos) (tC (.int i)) := fun _ _ _ H _ I h => wpAny_Constant_int ⟨.int i, H, I.tok _, ⟨_, rfl⟩, h⟩
theorem pe_bl {b j pos} : PE X (.Constant (.bool b) j pos) (tC (.bl b)) := fun _ _ _ H _ I h => Constant_bool ⟨.bl b, H, I, rfl, h⟩
theorem pe_non {j pos} : PE X (.Constant .none j pos) (tC .non) := fun _ _ _ H _ I h => Constant_none ⟨.non, H, I, rfl, h⟩
theorem pe_str {x j pos} : PE X (.Constant (.str x) j pos) (tC (.str x)) := fun _ _ _ H _ I h => Calls.Constant_str ⟨.str x, H, I.tok _, ⟨_, rfl⟩, h⟩

/-- a global name of the def -/
def Gl (X : Cx) (x : Str) : Prop := X.env.kindOf x = some .globalImplicit
theorem ld_glob {E : Value → Shared → Prop} {pins : List (Addr × Obj)} {s : Shared} {σ : St} {H : Hp} {x : Str} {u : Value} {pos : Pos} {Q : Value → Shared → Prop} (I : Inv X pins σ H s) (hg : Gl X x) (hm : X.mg x = some u) (h : Q u s)
    (hd : (x == ("__debug__" : Str)) = false := by decide) : wpAny (model X.prog X.w) X.A (eval (.Name x pos) X.env) Q E s :=
  Calls.Name_function_global I.ok.kind hg (Calls.loadGlobal_global (by rw [I.ok.glob]; exact I.mod.glob.keeps I.bk) hm h) hd
theorem ld_blt {E : Value → Shared → Prop} {pins : List (Addr × Obj)} {s : Shared} {σ : St} {H : Hp} {x : Str} {u : Value} {pos : Pos} {Q : Value → Shared → Prop} (I : Inv X pins σ H s) (hg : Gl X x) (hm : X.mg x = none) (hv : bootBuiltins x = some u) (h : Q u s)
    (hn : x ≠ "__name__" := by decide) (hd : (x == ("__debug__" : Str)) = false := by decide) : wpAny (model X.prog X.w) X.A (eval (.Name x pos) X.env) Q E s := by
  obtain ⟨mb, h1, h2⟩ := I.mod.blt
  exact Calls.Name_function_global I.ok.kind hg (Calls.loadGlobal_builtin (by rw [I.ok.glob]; exact I.mod.glob.keeps I.bk) hm (by rw [I.ok.blt]; exact h1.keeps I.bk) ((h2 x hn).trans hv) h) hd
/-- a module's constant, a class, a function, as a value -/
theorem pe_glob {x : Str} {v : V} {u : Value} {pos : Pos} (hg : Gl X x) (hm : X.mg x = some u) (r : RelV v u) (hd : (x == ("__debug__" : Str)) = false := by decide) : PE X (.Name x pos) (tC v) :=
  fun _ _ _ H _ I h => ld_glob I hg hm ⟨v, H, I, r, h⟩ hd
theorem pe_bltn {x : Str} {v : V} {u : Value} {pos : Pos} (hg : Gl X x) (hm : X.mg x = none) (hv : bootBuiltins x = some u) (r : RelV v u) (hn : x ≠ "__name__" := by decide) (hd : (x == ("__debug__" : Str)) = false := by decide) : PE X (.Name x pos) (tC v) :=
  fun _ _ _ H _ I h => ld_blt I hg hm hv ⟨v, H, I, r, h⟩ hn hd

/-! ### arithmetic -/
/-- two ints -/
def t2I (ta tb : TE) (k : Int → Int → Hp → Prop) : St → Hp → Prop := fun σ H => ta σ H fun x H1 => tb σ H1 fun y H2 => ∃ i j, x = .int i ∧ y = .int j ∧ k i j H2
def tAdd (ta tb : TE) : TE := fun σ H Q => t2I ta tb (fun i j H2 => Q (.int (i + j)) H2) σ H
def tSub (ta tb : TE) : TE := fun σ H Q => t2I ta tb (fun i j H2 => Q (.int (i - j)) H2) σ H
/-- the left factor below 2^64 -/
def tMul (ta tb : TE) : TE := fun σ H Q => t2I ta tb (fun i j H2 => (-(2 ^ 64) < i ∧ i < 2 ^ 64) ∧ Q (.int (i * j)) H2) σ H
variable {a b : Expr} {ta tb : TE} {pos : Pos}
theorem pe_add (ha : PE X a ta) (hb : PE X b tb) : PE X (.BinOp a .Add b pos) (tAdd ta tb) := by
  intro pins s σ H Q I h
  refine wpAny_BinOp (bin ha hb I h fun v u s2 x y H2 I2 rx ry q => ?_)
  obtain ⟨i, j, rfl, rfl, q⟩ := q
  obtain ⟨t, rfl⟩ := rx
  obtain ⟨t', rfl⟩ := ry
  exact add_int ⟨.int _, H2, I2.tok _, ⟨_, rfl⟩, q⟩
theorem pe_sub (ha : PE X a ta) (hb : PE X b tb) : PE X (.BinOp a .Sub b pos) (tSub ta tb) := by
  intro pins s σ H Q I h
  refine wpAny_BinOp (bin ha hb I h fun v u s2 x y H2 I2 rx ry q => ?_)
  obtain ⟨i, j, rfl, rfl, q⟩ := q
  obtain ⟨t, rfl⟩ := rx
  obtain ⟨t', rfl⟩ := ry
  exact sub_int ⟨.int _, H2, I2.tok _, ⟨_, rfl⟩, q⟩
theorem pe_mul (ha : PE X a ta) (hb : PE X b tb) : PE X (.BinOp a .Mult b pos) (tMul ta tb) := by
  intro pins s σ H Q I h
  refine wpAny_BinOp (bin ha hb I h fun v u s2 x y H2 I2 rx ry q => ?_)
  obtain ⟨i, j, rfl, rfl, ⟨q1, q2⟩, q⟩ := q
  obtain ⟨t, rfl⟩ := rx
  obtain ⟨t', rfl⟩ := ry
  exact mul_int ⟨.int _, H2, I2.tok _, ⟨_, rfl⟩, q⟩ (.of_left (intBits_le_64 q1 q2))

/-! ### comparisons -/
def PC (X : Cx) (op : CmpOp) (a b : Expr) (t : TE) : Prop :=
  ∀ (pins : List (Addr × Obj)) (s : Shared) (σ : St) (H : Hp) (Q : VK), Inv X pins σ H s → t σ H Q →
    wpAny (model X.prog X.w) X.A (eval a X.env) (fun v s₁ => wpAny (model X.prog X.w) X.A (eval b X.env) (fun u s₂ => wpAny (model X.prog X.w) X.A (compareOp op v u) (EP X pins σ Q) X.xe s₂) X.xe s₁) X.xe s
theorem nobehind (b : Expr) {op : CmpOp} (h : op ≠ .In) (h2 : op ≠ .NotIn) : behindInMarks op b = false := by
  have e1 : (op == CmpOp.In) = false := by cases op <;> first | rfl | exact absurd rfl h
  have e2 : (op == CmpOp.NotIn) = false := by cases op <;> first | rfl | exact absurd rfl h2
  cases b <;> simp [behindInMarks, e1, e2]
def tCmp (p : Int → Int → Bool) (ta tb : TE) : TE := fun σ H Q => t2I ta tb (fun i j H2 => Q (.bl (p i j)) H2) σ H
abbrev tLt : TE → TE → TE := tCmp fun i j => decide (i < j)
abbrev tLe : TE → TE → TE := tCmp fun i j => decide (i ≤ j)
abbrev tGt : TE → TE → TE := tCmp fun i j => decide (j < i)
abbrev tGe : TE → TE → TE := tCmp fun i j => decide (j ≤ i)
abbrev tEqI : TE → TE → TE := tCmp fun i j => decide (i = j)
abbrev tNeI : TE → TE → TE := tCmp fun i j => !decide (i = j)
/-- a comparison of two ints, by its rule -/
theorem pc_int {op : CmpOp} {p : Int → Int → Bool} (ha : PE X a ta) (hb : PE X b tb)
    (rule : ∀ (i j : Int) (t u : Tok) (Q : Value → Shared → Prop) (s : Shared), Q (.bool (p i j)) s → wpAny (model X.prog X.w) X.A (compareOp op (.int i t) (.int j u)) Q X.xe s) : PC X op a b (tCmp p ta tb) := by
  intro pins s σ H Q I h
  refine bin ha hb I h fun v u s2 x y H2 I2 rx ry q => ?_
  obtain ⟨i, j, rfl, rfl, q⟩ := q
  obtain ⟨t, rfl⟩ := rx
  obtain ⟨t', rfl⟩ := ry
  exact rule i j t t' _ s2 ⟨.bl _, H2, I2, rfl, q⟩
theorem pc_lt (ha : PE X a ta) (hb : PE X b tb) : PC X .Lt a b (tLt ta tb) := pc_int ha hb fun _ _ _ _ _ _ h => lt_int h
theorem pc_le (ha : PE X a ta) (hb : PE X b tb) : PC X .LtE a b (tLe ta tb) := pc_int ha hb fun _ _ _ _ _ _ h => le_int h
theorem pc_gt (ha : PE X a ta) (hb : PE X b tb) : PC X .Gt a b (tGt ta tb) := pc_int ha hb fun _ _ _ _ _ _ h => gt_int h
theorem pc_ge (ha : PE X a ta) (hb : PE X b tb) : PC X .GtE a b (tGe ta tb) := pc_int ha hb fun _ _ _ _ _ _ h => ge_int h
theorem pc_eqI (ha : PE X a ta) (hb : PE X b tb) : PC X .Eq a b (tEqI ta tb) := pc_int ha hb fun _ _ _ _ _ _ h => eq_int (by rw [Bool.beq_eq_decide_eq]; exact h)
theorem pc_neI (ha : PE X a ta) (hb : PE X b tb) : PC X .NotEq a b (tNeI ta tb) := pc_int ha hb fun _ _ _ _ _ _ h => ne_int (by rw [bne, Bool.beq_eq_decide_eq]; exact h)
/-- is None -/
def tIsN (ta : TE) : TE := fun σ H Q => ta σ H fun x H1 => Q (.bl (decide (x = .non))) H1
def tNotN (ta : TE) : TE := fun σ H Q => ta σ H fun x H1 => Q (.bl (!decide (x = .non))) H1
theorem RelV.none_iff {x : V} {v : Value} (r : RelV x v) : (v == Value.none) = decide (x = .non) := by
  cases x with
  | non => cases r; rfl
  | bl _ => cases r; rfl
  | int _ => obtain ⟨t, rfl⟩ := r; rfl
  | str _ => obtain ⟨t, rfl⟩ := r; rfl
  | byt _ => obtain ⟨t, rfl⟩ := r; rfl
  | flt _ => obtain ⟨t, rfl⟩ := r; rfl
  | ref _ => cases r; rfl
  | ty _ => cases r; rfl
theorem pc_isN {j pos'} (ha : PE X a ta) : PC X .Is a (.Constant .none j pos') (tIsN ta) := by
  intro pins s σ H Q I h
  refine thn (ha pins s σ H _ I h) fun v s1 ⟨x, H1, I1, r1, q1⟩ => ?_
  exact Constant_none (is_none_gen ⟨.bl _, H1, I1, by rw [r1.none_iff]; rfl, q1⟩)
theorem pc_notN {j pos'} (ha : PE X a ta) : PC X .IsNot a (.Constant .none j pos') (tNotN ta) := by
  intro pins s σ H Q I h
  refine thn (ha pins s σ H _ I h) fun v s1 ⟨x, H1, I1, r1, q1⟩ => ?_
  exact Constant_none (isnot_none_gen ⟨.bl _, H1, I1, by rw [r1.none_iff]; rfl, q1⟩)
/-- a comparison as a value, as a test -/
def tB (t : TE) : TT := fun σ H Q => t σ H fun x H1 => ∃ c, x = .bl c ∧ Q c H1
theorem pe_cmp {op : CmpOp} {t : TE} (h : PC X op a b t) (h1 : behindInMarks op b = false := by first | exact nobehind _ (by decide) (by decide) | rfl) : PE X (.Compare a [op] [b] pos) t := fun pins s σ H Q I hw => wpAny_Compare1 (h pins s σ H Q I hw) h1
theorem pt_cmp {op : CmpOp} {t : TE} (h : PC X op a b t) (h1 : behindInMarks op b = false := by first | exact nobehind _ (by decide) (by decide) | rfl) : PT X (.Compare a [op] [b] pos) (tB t) := by
  intro pins s σ H Q I hw
  refine wpAny_isTrue_Compare1 (thn (h pins s σ H _ I hw) fun v s1 h1 => thn h1 fun u s2 h2 => thn h2 fun c s3 ⟨x, H1, I1, r1, q1⟩ => ?_) h1
  obtain ⟨d, rfl, q⟩ := q1
  cases r1
  exact wpAny_truthy_bool ⟨H1, I1, q⟩
/-- an expression whose value is a bool, as a test -/
theorem pt_val {e : Expr} {t : TE} (h : PE X e t) (he : ∀ whole, isTrue e X.env whole = (do let v ← whole; standAt e.pos; holding [v] (truthy v)) := by intro _; rfl) : PT X e (tB t) := by
  intro pins s σ H Q I hw
  refine isTrue_plain (thn (h pins s σ H _ I hw) fun v s1 ⟨x, H1, I1, r1, q1⟩ => ?_) (he _)
  obtain ⟨d, rfl, q⟩ := q1
  cases r1
  exact wpAny_truthy_bool ⟨H1, I1, q⟩

/-! ### and, or, not -/
variable {tA tB' : TT} {rest : List Expr}
def tAnd (t u : TT) : TT := fun σ H Q => t σ H fun c H1 => if c = true then u σ H1 Q else Q false H1
def tOr (t u : TT) : TT := fun σ H Q => t σ H fun c H1 => if c = true then Q true H1 else u σ H1 Q
def tNot (t : TT) : TT := fun σ H Q => t σ H fun c H1 => Q (!c) H1
theorem pw_and1 (ha : PT X a tA) : PW X (.BoolOp .And [a] pos) tA := by
  intro wh pins s σ H Q I h
  refine isTrue_and (thn (ha pins s σ H Q I h) fun c s1 e => ?_)
  cases c with
  | true => exact isTrue_and_nil e
  | false => exact e
theorem pw_or1 (ha : PT X a tA) : PW X (.BoolOp .Or [a] pos) tA := by
  intro wh pins s σ H Q I h
  refine isTrue_or (thn (ha pins s σ H Q I h) fun c s1 e => ?_)
  cases c with
  | false => exact isTrue_or_nil e
  | true => exact e
theorem pw_and (ha : PT X a tA) (hb : PW X (.BoolOp .And (b :: rest) pos) tB') : PW X (.BoolOp .And (a :: b :: rest) pos) (tAnd tA tB') := by
  intro wh pins s σ H Q I h
  refine isTrue_and (thn (ha pins s σ H _ I h) fun c s1 ⟨H1, I1, q1⟩ => ?_)
  cases c with
  | true => exact hb wh pins s1 σ H1 Q I1 q1
  | false => exact ⟨H1, I1, q1⟩
theorem pw_or (ha : PT X a tA) (hb : PW X (.BoolOp .Or (b :: rest) pos) tB') : PW X (.BoolOp .Or (a :: b :: rest) pos) (tOr tA tB') := by
  intro wh pins s σ H Q I h
  refine isTrue_or (thn (ha pins s σ H _ I h) fun c s1 ⟨H1, I1, q1⟩ => ?_)
  cases c with
  | true => exact ⟨H1, I1, q1⟩
  | false => exact hb wh pins s1 σ H1 Q I1 q1
theorem pt_not (ha : PT X a tA) : PT X (.UnaryOp .Not a pos) (tNot tA) := by
  intro pins s σ H Q I h
  exact isTrue_not (ha pins s σ H (fun c H1 => Q (!c) H1) I h)
/-- .. as values (bools) -/
def tAndV (ta tb : TE) : TE := fun σ H Q => ta σ H fun x H1 => ∃ c, x = .bl c ∧ if c = true then tb σ H1 Q else Q (.bl false) H1
def tOrV (ta tb : TE) : TE := fun σ H Q => ta σ H fun x H1 => ∃ c, x = .bl c ∧ if c = true then Q (.bl true) H1 else tb σ H1 Q
def tNotV (ta : TE) : TE := fun σ H Q => ta σ H fun x H1 => ∃ c, x = .bl c ∧ Q (.bl (!c)) H1
theorem pe_one {op} {t : TE} (h : PE X a t) : PE X (.BoolOp op [a] pos) t := fun pins s σ H Q I hw => BoolOp_one (h pins s σ H Q I hw)
theorem pe_and (ha : PE X a ta) (hb : PE X (.BoolOp .And (b :: rest) pos) tb) : PE X (.BoolOp .And (a :: b :: rest) pos) (tAndV ta tb) := by
  intro pins s σ H Q I h
  refine BoolOp_and (thn (ha pins s σ H _ I h) fun v s1 ⟨x, H1, I1, r1, q1⟩ => ?_)
  obtain ⟨c, rfl, q1⟩ := q1
  cases r1
  refine wpAny_truthy_bool ?_
  cases c with
  | true => exact hb pins s1 σ H1 Q I1 q1
  | false => exact ⟨.bl false, H1, I1, rfl, q1⟩
theorem pe_or (ha : PE X a ta) (hb : PE X (.BoolOp .Or (b :: rest) pos) tb) : PE X (.BoolOp .Or (a :: b :: rest) pos) (tOrV ta tb) := by
  intro pins s σ H Q I h
  refine BoolOp_or (thn (ha pins s σ H _ I h) fun v s1 ⟨x, H1, I1, r1, q1⟩ => ?_)
  obtain ⟨c, rfl, q1⟩ := q1
  cases r1
  refine wpAny_truthy_bool ?_
  cases c with
  | false => exact hb pins s1 σ H1 Q I1 q1
  | true => exact ⟨.bl true, H1, I1, rfl, q1⟩
theorem pe_not (ha : PE X a ta) : PE X (.UnaryOp .Not a pos) (tNotV ta) := by
  intro pins s σ H Q I h
  refine UnaryOp_ (thn (ha pins s σ H _ I h) fun v s1 ⟨x, H1, I1, r1, q1⟩ => ?_)
  obtain ⟨c, rfl, q1⟩ := q1
  cases r1
  exact not_of (wpAny_truthy_bool ⟨.bl (!c), H1, I1, rfl, q1⟩)
/-- a if t else b -/
def tIf (t : TT) (ta tb : TE) : TE := fun σ H Q => t σ H fun c H1 => if c = true then ta σ H1 Q else tb σ H1 Q
theorem pe_ifExp {c : Expr} (hc : PT X c tA) (ha : PE X a ta) (hb : PE X b tb) : PE X (.IfExp c a b pos) (tIf tA ta tb) := by
  intro pins s σ H Q I h
  refine wpAny_IfExp (thn (hc pins s σ H _ I h) fun d s1 ⟨H1, I1, q1⟩ => ?_)
  cases d with
  | true => exact ha pins s1 σ H1 Q I1 q1
  | false => exact hb pins s1 σ H1 Q I1 q1
end
end L2

namespace L2
open PySem PySem.Spec PyProof.Rows

/-! ### a list, a tuple that is read: tracked, frozen, or an object of the module -/
def SqL (K : PySem.W.Frag) (H : Hp) (a : Addr) (xs : List V) : Prop :=
  Rd H a (.lst xs) ∨
    ∃ (o : Obj) (its : Array Value) (n : Nat), K.lookup a = some o ∧ o.cls = .type "list" ∧ o.dict = none ∧ o.data = .seq its n ∧ its.size ≤ sizeLine ∧ Vals xs its.toList
def SqT (K : PySem.W.Frag) (H : Hp) (a : Addr) (xs : List V) : Prop :=
  Rd H a (.tup xs) ∨
    ∃ (o : Obj) (its : Array Value) (n : Nat), K.lookup a = some o ∧ o.cls = .type "tuple" ∧ o.data = .seq its n ∧ its.size ≤ sizeLine ∧ Vals xs its.toList
def absV : Value → Option V
  | .none => some .non
  | .bool b => some (.bl b)
  | .int i _ => some (.int i)
  | .str x _ => some (.str x)
  | .bytes b _ => some (.byt b)
  | .float b _ => some (.flt b)
  | .ref a => some (.ref a)
  | .type n => some (.ty n)
  | _ => none
theorem RelV.abs {x : V} {u : Value} (r : RelV x u) : absV u = some x := by
  cases x with
  | non => cases r; rfl
  | bl _ => cases r; rfl
  | int _ => obtain ⟨t, rfl⟩ := r; rfl
  | str _ => obtain ⟨t, rfl⟩ := r; rfl
  | byt _ => obtain ⟨t, rfl⟩ := r; rfl
  | flt _ => obtain ⟨t, rfl⟩ := r; rfl
  | ref _ => cases r; rfl
  | ty _ => cases r; rfl
theorem RelV.inj {x y : V} {u : Value} (r : RelV x u) (q : RelV y u) : x = y := Option.some.inj (r.abs.symm.trans q.abs)
theorem Vals.inj : ∀ {xs ys : List V} {us : List Value}, Vals xs us → Vals ys us → xs = ys
  | _, _, _, .nil, .nil => rfl
  | _, _, _, .cons r t, .cons r' t' => by rw [r.inj r', Vals.inj t t']
section
variable {X : Cx} {pins : List (Addr × Obj)} {σ : St} {H : Hp} {s : Shared} {a : Addr} {xs ys : List V}
theorem SqL.of {K : PySem.W.Frag} (h : H a = some (.lst xs)) : SqL K H a xs := .inl (.inl h)
theorem SqT.of {K : PySem.W.Frag} (h : H a = some (.tup xs)) : SqT K H a xs := .inl (.inl h)
theorem Inv.list (I : Inv X pins σ H s) (h : SqL X.K H a xs) : ∃ its : List Value, Vals xs its ∧ PlainL s.heap a its.toArray ∧ xs.length ≤ sizeLine := by
  rcases h with h | ⟨o, its, n, hk, hc, hd, hs, hz, r⟩
  · obtain ⟨z, its, n, r, e⟩ := h.ok I.hok
    exact ⟨its, r, ⟨_, n, e, rfl, rfl, rfl⟩, z⟩
  · refine ⟨its.toList, r, ⟨o, n, I.kIn a o hk, hc, hd, by simpa using hs⟩, ?_⟩
    have e := r.length
    simp only [Array.length_toList] at e
    omega
theorem Inv.tuple (I : Inv X pins σ H s) (h : SqT X.K H a xs) : ∃ its : List Value, Vals xs its ∧ IsTup s.heap a its.toArray ∧ xs.length ≤ sizeLine := by
  rcases h with h | ⟨o, its, n, hk, hc, hs, hz, r⟩
  · obtain ⟨z, its, r, p⟩ := h.ok I.hok
    exact ⟨its, r, p, z⟩
  · refine ⟨its.toList, r, ⟨o, I.kIn a o hk, hc, n, by simpa using hs⟩, ?_⟩
    have e := r.length
    simp only [Array.length_toList] at e
    omega
theorem Inv.list_inj (I : Inv X pins σ H s) (h : SqL X.K H a xs) (h' : SqL X.K H a ys) : xs = ys := by
  obtain ⟨its, r, ⟨o, n, e, _, _, d⟩, _⟩ := I.list h
  obtain ⟨its', r', ⟨o', n', e', _, _, d'⟩, _⟩ := I.list h'
  rw [e] at e'; cases e'
  rw [d] at d'
  injection d' with d1 _
  have : its = its' := by simpa using congrArg Array.toList d1
  subst this
  exact r.inj r'
theorem Inv.tuple_inj (I : Inv X pins σ H s) (h : SqT X.K H a xs) (h' : SqT X.K H a ys) : xs = ys := by
  obtain ⟨its, r, ⟨o, e, _, n, d⟩, _⟩ := I.tuple h
  obtain ⟨its', r', ⟨o', e', _, n', d'⟩, _⟩ := I.tuple h'
  rw [e] at e'; cases e'
  rw [d] at d'
  injection d' with d1 _
  have : its = its' := by simpa using congrArg Array.toList d1
  subst this
  exact r.inj r'
end

/-! ### another wish about exceptions -/
abbrev Cx.wish (X : Cx) (E : Value → Shared → Prop) : Cx := { X with xe := E }
/-- no exception leaves -/
abbrev Cx.nox (X : Cx) : Cx := X.wish fun _ _ => False
theorem Cx.Ok.wish {X : Cx} (ok : X.Ok) (E : Value → Shared → Prop) : (X.wish E).Ok :=
  ⟨ok.mod, ok.kind, ok.glob, ok.blt, ok.above, ok.inj, ok.has, ok.cab, ok.hd, ok.frames, ok.stk, ok.exf, ok.bs, ok.bsz, ok.noex, ok.exfs, ok.funs, ok.frf⟩
theorem Cx.Ok.unwish {X : Cx} {E : Value → Shared → Prop} (ok : (X.wish E).Ok) : X.Ok :=
  ⟨ok.mod, ok.kind, ok.glob, ok.blt, ok.above, ok.inj, ok.has, ok.cab, ok.hd, ok.frames, ok.stk, ok.exf, ok.bs, ok.bsz, ok.noex, ok.exfs, ok.funs, ok.frf⟩
section
variable {X : Cx} {pins : List (Addr × Obj)} {σ : St} {H : Hp} {s : Shared} {E : Value → Shared → Prop}
theorem Inv.wish (I : Inv X pins σ H s) (E : Value → Shared → Prop) : Inv (X.wish E) pins σ H s := ⟨I.ok.wish E, I.os, I.bare, I.base, I.loc, I.cell, I.free, I.freeC, I.pin, I.hok, I.len⟩
theorem Inv.unwish (I : Inv (X.wish E) pins σ H s) : Inv X pins σ H s := ⟨I.ok.unwish, I.os, I.bare, I.base, I.loc, I.cell, I.free, I.freeC, I.pin, I.hok, I.len⟩
theorem SP.unwish {D : Ends} {f : Flow} {s' : Shared} (h : SP (X.wish E) pins D f s') : SP X pins D f s' := by
  cases f with
  | next => obtain ⟨σ', H', I, q⟩ := h; exact ⟨σ', H', I.unwish, q⟩
  | brk => obtain ⟨σ', H', I, q⟩ := h; exact ⟨σ', H', I.unwish, q⟩
  | cont => obtain ⟨σ', H', I, q⟩ := h; exact ⟨σ', H', I.unwish, q⟩
  | ret u => obtain ⟨v, σ', H', I, r, q⟩ := h; exact ⟨v, σ', H', I.unwish, r, q⟩
theorem PE.nox {e : Expr} {t : TE} (h : PE X.nox e t) : PE X e t := fun pins s σ H Q I hw =>
  wpAny_mono (h pins s σ H Q (I.wish _) hw) (fun _ _ ⟨v, H', I', r, q⟩ => ⟨v, H', I'.unwish, r, q⟩) fun _ _ z => False.elim z
theorem PT.nox {e : Expr} {t : TT} (h : PT X.nox e t) : PT X e t := fun pins s σ H Q I hw =>
  wpAny_mono (h pins s σ H Q (I.wish _) hw) (fun _ _ ⟨H', I', q⟩ => ⟨H', I'.unwish, q⟩) fun _ _ z => False.elim z
theorem PSs.nox {st : List Stmt} {t : TS} (h : PSs X.nox st t) : PSs X st t := fun pins s σ H D I hw =>
  wpAny_mono (h pins s σ H D (I.wish _) hw) (fun _ _ q => q.unwish) fun _ _ z => False.elim z
end

/-! ### blocks and small statements -/
section
variable {X : Cx} {st : Stmt} {rest : List Stmt} {t u : TS} {e : Expr} {te : TE} {pos : Pos}
def tNext : TS := fun D σ H => D.nx σ H
def tSeq (t u : TS) : TS := fun D σ H => t { D with nx := u D } σ H
theorem pss_nil : PSs X [] tNext := fun _ _ σ H _ I h => wpAny_execs_nil ⟨σ, H, I, h⟩
theorem pss_cons (h1 : PS X st t) (h2 : PSs X rest u) : PSs X (st :: rest) (tSeq t u) := by
  intro pins s σ H D I h
  refine wpAny_execs_cons (thn (h1 pins s σ H { D with nx := u D } I h) fun f s1 q => ?_)
  cases f with
  | next =>
    obtain ⟨σ', H', I', q⟩ := q
    exact h2 pins s1 σ' H' D I' q
  | ret v => exact q
  | brk => exact q
  | cont => exact q
theorem pss_one (h1 : PS X st t) : PSs X [st] t := by
  intro pins s σ H D I h
  refine wpAny_execs_cons (thn (h1 pins s σ H D I h) fun f s1 q => ?_)
  cases f with
  | next => exact wpAny_execs_nil q
  | ret v => exact q
  | brk => exact q
  | cont => exact q
def tBreak : TS := fun D σ H => D.bk σ H
def tCont : TS := fun D σ H => D.ct σ H
theorem ps_pass : PS X (.Pass pos) tNext := fun _ _ σ H _ I h => wpAny_Pass ⟨σ, H, I, h⟩
theorem ps_break : PS X (.Break pos) tBreak := fun _ _ σ H _ I h => wpAny_Break ⟨σ, H, I, h⟩
theorem ps_continue : PS X (.Continue pos) tCont := fun _ _ σ H _ I h => wpAny_Continue ⟨σ, H, I, h⟩
/-- in a def's body nothing is shown -/
theorem Inv.quiet {pins : List (Addr × Obj)} {σ : St} {H : Hp} {s : Shared} (I : Inv X pins σ H s) : interactive X.env = false := by simp [interactive, I.ok.kind]
/-- a docstring -/
theorem ps_doc {x j pos pos'} : PS X (.Expr (.Constant (.str x) j pos) pos') tNext := fun _ s σ H _ I h => wpAny_Expr (Calls.Constant_str (show SP X _ _ .next { s with toks := s.toks + 1 } from ⟨σ, H, I.tok _, h⟩)) I.quiet
/-- an expression whose value is dropped -/
def tDrop (te : TE) : TS := fun D σ H => te σ H fun _ H1 => D.nx σ H1
theorem ps_expr (he : PE X e te) (hs : swapsWith e none pos.line X.env = pure false := by rfl) : PS X (.Expr e pos) (tDrop te) := by
  intro pins s σ H D I h
  exact wpAny_Expr_any (thn (he pins s σ H _ I h) fun v s1 ⟨x, H1, I1, r1, q1⟩ => ⟨σ, H1, I1, q1⟩) I.quiet hs
def tRet (te : TE) : TS := fun D σ H => te σ H D.rt
theorem ps_ret (he : PE X e te) : PS X (.Return (some e) pos) (tRet te) := by
  intro pins s σ H D I h
  exact wpAny_Return_some (thn (he pins s σ H _ I h) fun v s1 ⟨x, H1, I1, r1, q1⟩ => ⟨x, σ, H1, I1, r1, q1⟩)
def tRetN : TS := fun D _ H => D.rt .non H
theorem ps_retN : PS X (.Return none pos) tRetN := fun _ _ σ H _ I h => wpAny_Return_none ⟨.non, σ, H, I, rfl, h⟩
def tIfS (c : TT) (t u : TS) : TS := fun D σ H => c σ H fun b H1 => if b = true then t D σ H1 else u D σ H1
theorem ps_if {c : Expr} {a b : List Stmt} {tc : TT} (hc : PT X c tc) (ha : PSs X a t) (hb : PSs X b u) : PS X (.If c a b pos) (tIfS tc t u) := by
  intro pins s σ H D I h
  refine wpAny_If (thn (hc pins s σ H _ I h) fun d s1 ⟨H1, I1, q1⟩ => ?_)
  cases d with
  | true => exact ha pins s1 σ H1 D I1 q1
  | false => exact hb pins s1 σ H1 D I1 q1
/-- code that the proof never comes to -/
def tNever : TS := fun _ _ _ => False
theorem ps_never : PS X st tNever := fun _ _ _ _ _ _ h => h.elim
theorem pss_never {sts : List Stmt} : PSs X sts tNever := fun _ _ _ _ _ _ h => h.elim
end

/-! ### targets -/
abbrev TG := V → St → Hp → (St → Hp → Prop) → Prop
abbrev TGs := List V → St → Hp → (St → Hp → Prop) → Prop
def PG (X : Cx) (target : Expr) (t : TG) : Prop :=
  ∀ (pins : List (Addr × Obj)) (s : Shared) (σ : St) (H : Hp) (v : V) (u : Value) (Q : St → Hp → Prop), Inv X pins σ H s → RelV v u → t v σ H Q →
    wpAny (model X.prog X.w) X.A (assign target X.env u) (fun _ s' => ∃ σ' H', Inv X pins σ' H' s' ∧ Q σ' H') X.xe s
/-- several targets, one after another -/
def PGs (X : Cx) (ts : List Expr) (t : TGs) : Prop :=
  ∀ (pins : List (Addr × Obj)) (s : Shared) (σ : St) (H : Hp) (vs : List V) (us : List Value) (Q : St → Hp → Prop), Inv X pins σ H s → Vals vs us → t vs σ H Q →
    wpAny (model X.prog X.w) X.A (assignInOrder ((assignEach ts X.env).map (·.2)) us) (fun _ s' => ∃ σ' H', Inv X pins σ' H' s' ∧ Q σ' H') X.xe s
/-- o[i] = v, by values -/
abbrev TSet := V → V → V → Hp → (Hp → Prop) → Prop
def PSet (X : Cx) (t : TSet) : Prop :=
  ∀ (pins : List (Addr × Obj)) (s : Shared) (σ : St) (H : Hp) (o i v : V) (ov iv u : Value) (Q : Hp → Prop), Inv X pins σ H s → RelV o ov → RelV i iv → RelV v u → t o i v H Q →
    wpAny (model X.prog X.w) X.A (setItem ov iv u) (fun _ s' => ∃ H', Inv X pins σ H' s' ∧ Q H') X.xe s
/-- a op= b, by values -/
abbrev TIp := V → V → Hp → VK → Prop
def PIp (X : Cx) (op : Operator) (t : TIp) : Prop :=
  ∀ (pins : List (Addr × Obj)) (s : Shared) (σ : St) (H : Hp) (x y : V) (v u : Value) (Q : VK), Inv X pins σ H s → RelV x v → RelV y u → t x y H Q →
    wpAny (model X.prog X.w) X.A (inplaceOp op v u) (EP X pins σ Q) X.xe s
section
variable {X : Cx} {pos : Pos}
def gName (i : Nat) : TG := fun v σ H Q => Q (σ.set i (some v)) H
theorem pg_name {i : Nat} {x : Str} (hN : X.N.Nodup) (hi : X.N[i]? = some x) (hx : Loc X.env.scope x) (hf : X.fn x = true ∨ X.env.scope.names.lookup x = some .local := by first | exact .inl rfl | exact .inr rfl | assumption) : PG X (.Name x pos) (gName i) := by
  intro pins s σ H v u Q I r h
  exact wpAny_assign_Name (store_ok I hN hi hx r (fun s' I' => ⟨_, H, I', h⟩) hf)
def gNil : TGs := fun vs σ H Q => vs = [] ∧ Q σ H
def gCons (t : TG) (u : TGs) : TGs := fun vs σ H Q => ∃ v r, vs = v :: r ∧ t v σ H fun σ' H' => u r σ' H' Q
theorem pgs_nil : PGs X [] gNil := by
  intro pins s σ H vs us Q I r h
  obtain ⟨e, h⟩ := h
  subst e
  cases r
  exact assignInOrder_nil ⟨σ, H, I, h⟩
theorem pgs_cons {e : Expr} {es : List Expr} {t : TG} {u : TGs} (h1 : PG X e t) (h2 : PGs X es u)
    (hs : (assignEach (e :: es) X.env).map (·.2) = assign e X.env :: (assignEach es X.env).map (·.2) := by rfl) : PGs X (e :: es) (gCons t u) := by
  intro pins s σ H vs us Q I r h
  obtain ⟨v, vr, e1, h⟩ := h
  subst e1
  cases r with
  | cons r rr =>
    rw [hs]
    refine assignInOrder_cons (thn (h1 pins s σ H _ _ _ I r h) fun _ s1 ⟨σ1, H1, I1, q1⟩ => ?_)
    exact h2 pins s1 σ1 H1 _ _ Q I1 rr q1
/-- (a, b, ..) = a tuple of that length -/
def gTup (K : PySem.W.Frag) (n : Nat) (t : TGs) : TG := fun v σ H Q => ∃ a xs, v = .ref a ∧ SqT K H a xs ∧ xs.length = n ∧ t xs σ H Q
theorem pg_tup {es : List Expr} {k : Nat} {t : TGs} {n : Nat} (hc : X.calm = true) (h : PGs X es t)
    (hn : (assignEach es X.env).length = n := by rfl) (hst : (assignEach es X.env).findIdx? (·.1) = none := by rfl) : PG X (.Tuple es k pos) (gTup X.K n t) := by
  intro pins s σ H v u Q I r hw
  obtain ⟨a, xs, e1, hq, hl, hw⟩ := hw
  subst e1
  cases r
  obtain ⟨its, rv, ht, hz⟩ := I.tuple hq
  refine assign_Tuple_tuple (I.ok.hd hc) ht (by simp [hn, ← hl, rv.length]) hst fun h' hx => ?_
  have I1 : Inv X pins σ H { s with heap := h' } := I.kept (t' := s.toks) fun b o e => hx b o (Nat.ne_of_lt (Heap.lt_size e)) e
  exact h pins _ σ H xs _ Q I1 (by simpa using rv) hw
/-- o[i] = .. -/
def gSub (to ti : TE) (t : TSet) : TG := fun v σ H Q => to σ H fun o H1 => ti σ H1 fun i H2 => t o i v H2 fun H3 => Q σ H3
theorem pg_sub {o i : Expr} {to ti : TE} {t : TSet} (ho : PE X o to) (hi : PE X i ti) (hs : PSet X t)
    (ha : ∀ v, assign (.Subscript o i pos) X.env v = (do
      let ov ← holding [v] (eval o X.env)
      let iv ← holding [v, ov] (eval i X.env)
      standAt pos
      holding [v, ov, iv] (setItem ov iv v)
      release [v, ov, iv] []) := by intro _; rfl) : PG X (.Subscript o i pos) (gSub to ti t) := by
  intro pins s σ H v u Q I r h
  rw [ha]
  refine wpAny_bind (wpAny_holding (thn (ho pins s σ H _ I h) fun ov s1 ⟨x, H1, I1, r1, q1⟩ => ?_))
  refine wpAny_bind (wpAny_holding (thn (hi pins s1 σ H1 _ I1 q1) fun iv s2 ⟨y, H2, I2, r2, q2⟩ => ?_))
  refine wpAny_bind (wpAny_standAt (wpAny_bind (wpAny_holding (thn (hs pins s2 σ H2 x y v ov iv u _ I2 r1 r2 r q2) fun _ s3 ⟨H3, I3, q3⟩ => ?_))))
  exact wpAny_release ⟨σ, H3, I3, q3⟩
/-- target = value -/
def tAsg (te : TE) (g : TG) : TS := fun D σ H => te σ H fun x H1 => g x σ H1 D.nx
theorem ps_asg {tg e : Expr} {te : TE} {g : TG} (he : PE X e te) (hg : PG X tg g) (hs : swapsWithSole [tg] e pos.line X.env = pure false := by rfl) (hw : swappedStores [tg] e X.env = pure none := by rfl)
    (h1 : (assignEach [tg] X.env).map (·.2) = [assign tg X.env] := by rfl) : PS X (.Assign [tg] e pos) (tAsg te g) := by
  intro pins s σ H D I h
  refine wpAny_Assign_stores (thn (he pins s σ H _ I h) fun v s1 ⟨x, H1, I1, r1, q1⟩ => ?_) hs hw
  rw [h1]
  exact thn (hg pins s1 σ H1 x v _ I1 r1 q1) fun _ s2 q => q
/-- name = value -/
theorem ps_set {i : Nat} {x : Str} {e : Expr} {te : TE} {pos' : Pos} (hN : X.N.Nodup) (hi : X.N[i]? = some x) (hx : Loc X.env.scope x) (he : PE X e te) (hs : swapsWith e (some (.Name x pos')) pos.line X.env = pure false := by rfl) (hf : X.fn x = true ∨ X.env.scope.names.lookup x = some .local := by first | exact .inl rfl | exact .inr rfl | assumption) :
    PS X (.Assign [.Name x pos'] e pos) (tAsg te (gName i)) := by
  intro pins s σ H D I h
  refine wpAny_Assign_Name (thn (he pins s σ H _ I h) fun v s1 ⟨y, H1, I1, r1, q1⟩ => ?_) hs
  exact store_ok I1 hN hi hx r1 (fun s2 I2 => ⟨_, H1, I2, q1⟩) hf
/-- a, b = x, y with plain local names: stored from the right; the pair itself is not tracked (the opening rows as in PyProof/Rows/TupAssign.lean:23) -/
def tPar (i j : Nat) (ta : TA) : TS := fun D σ H => ta σ H fun vs H1 => ∃ v w, vs = [v, w] ∧ D.nx ((σ.set i (some v)).set j (some w)) H1
theorem ps_par {i j : Nat} {x y : Str} {a b : Expr} {ta : TA} {px py pt : Pos} {kt k2 pt2} (hc : X.calm = true) (hN : X.N.Nodup) (hi : X.N[i]? = some x) (hj : X.N[j]? = some y) (hij : i ≠ j)
    (hx : X.env.scope.names.lookup x = some .local) (hy : X.env.scope.names.lookup y = some .local) (ha : PA X [a, b] ta)
    (hw : swappedStores [.Tuple [.Name x px, .Name y py] kt pt] (.Tuple [a, b] k2 pt2) X.env = pure (some [x, y]))
    (hs : swapsWithSole [.Tuple [.Name x px, .Name y py] kt pt] (.Tuple [a, b] k2 pt2) pos.line X.env = pure false := by rfl) :
    PS X (.Assign [.Tuple [.Name x px, .Name y py] kt pt] (.Tuple [a, b] k2 pt2) pos) (tPar i j ta) := by
  intro pins s σ H D I h
  rw [exec_Assign_arm]
  refine wpAny_bind (wpAny_standAt ?_)
  rw [hs]
  refine wpAny_bind (wpAny_pure ?_)
  rw [if_neg (by decide)]
  refine wpAny_bind (Tuple_ (thn (ha _ pins s σ H _ I h) fun us s1 ⟨vs, H1, I1, r1, q1⟩ => ?_))
  obtain ⟨v, w, e1, q1⟩ := q1
  subst e1
  obtain ⟨u1, u2, rfl, rv, rw'⟩ : ∃ u1 u2, us = [u1, u2] ∧ RelV v u1 ∧ RelV w u2 := by
    cases r1 with
    | cons p q =>
      cases q with
      | cons p' q' =>
        cases q'
        exact ⟨_, _, rfl, p, p'⟩
  refine wpAny_newObj_type ?_ (by show 2 ≤ sizeLine; decide)
  have I2 : Inv X pins σ H1 { s1 with heap := s1.heap.push { cls := .type "tuple", data := .seq [u1, u2].toArray } } := I1.kept (t' := s1.toks) fun b o e => Heap.get?_push_of_some _ e
  rw [hw]
  refine wpAny_bind (wpAny_pure ?_)
  show wpAny (model X.prog X.w) X.A (do rule "assign.swapped-stores"; let items ← unpackItems (.ref s1.heap.objs.size) 2 none; assignInOrder [fun v => bindName X.env y v, fun v => bindName X.env x v] items.reverse; pure Flow.next) _ _ _
  refine wpAny_bind (wpAny_rule (wpAny_bind (unpackItems_tuple (items := #[u1, u2]) (I.ok.hd hc) (IsTup.new s1.heap _) fun h' hx' => ?_)))
  have I3 := I2.kept (h' := h') (t' := s1.toks) fun b o e => hx' b o (Nat.ne_of_lt (Heap.lt_size e)) e
  show wpAny _ _ (assignInOrder [fun v => bindName X.env y v, fun v => bindName X.env x v] [u2, u1] >>= fun _ => pure Flow.next) _ _ _
  refine wpAny_bind (assignInOrder_cons (wpAny_bindName (store_ok I3 hN hj (.inl hy) rw' (fun s2 I4 => ?_) (.inr hy))))
  refine assignInOrder_cons (wpAny_bindName (store_ok I4 hN hi (.inl hx) rv (fun s3 I5 => assignInOrder_nil (wpAny_pure ?_)) (.inr hx)))
  rw [List.set_comm _ _ (Ne.symm hij)] at I5
  exact ⟨_, H1, I5, q1⟩
/-- name op= e -/
def tAug (i : Nat) (te : TE) (ti : TIp) : TS := fun D σ H => ∃ x, σ[i]? = some (some x) ∧ te σ H fun y H1 => ti x y H1 fun z H2 => D.nx (σ.set i (some z)) H2
theorem ps_aug {i : Nat} {x : Str} {e : Expr} {te : TE} {op : Operator} {ti : TIp} {pos' : Pos} (hN : X.N.Nodup) (hi : X.N[i]? = some x) (hx : Loc X.env.scope x) (he : PE X e te) (ho : PIp X op ti) (hf : X.fn x = true ∨ X.env.scope.names.lookup x = some .local := by first | exact .inl rfl | exact .inr rfl | assumption) :
    PS X (.AugAssign (.Name x pos') op e pos) (tAug i te ti) := by
  intro pins s σ H D I h
  obtain ⟨v, e1, h⟩ := h
  obtain ⟨m, hn, hl⟩ := I.loc
  have vis : Vis X.env.scope x := by rcases hx with k | k; exact .inl k; exact .inr (.inl k)
  obtain ⟨u, r, l⟩ := hl i x v hi e1 vis
  refine wpAny_AugAssign_Name ?_
  have go : wpAny (model X.prog X.w) X.A (eval e X.env) (fun w s₂ => wpAny (model X.prog X.w) X.A (inplaceOp op u w) (fun r s₃ => wpAny (model X.prog X.w) X.A (storeName X.env x r) (fun _ => SP X pins D .next) X.xe s₃) X.xe s₂) X.xe s := by
    refine thn (he pins s σ H _ I h) fun w s1 ⟨y, H1, I1, r1, q1⟩ => ?_
    refine thn (ho pins s1 σ H1 v y u w _ I1 r r1 q1) fun z s2 ⟨zv, H2, I2, r2, q2⟩ => ?_
    exact store_ok I2 hN hi hx r2 (fun s3 I3 => ⟨_, H2, I3, q2⟩) hf
  rcases l with ⟨hk, hm⟩ | ⟨hk, c, hc, hcell⟩
  · exact wpAny_loadName_local I.ok.kind hk hn hm go
  · rcases hk with hk | hk
    · exact wpAny_loadName_cell I.ok.kind hk hc hcell go
    · rcases hx with k | k
      · have : X.env.scope.names.lookup x = some .free := hk
        rw [k] at this; cases this
      · have : X.env.scope.names.lookup x = some .free := hk
        rw [k] at this; cases this
/-- o[i] op= e -/
def tAugS (to ti te : TE) (tget : V → V → Hp → VK → Prop) (tip : TIp) (tset : TSet) : TS := fun D σ H => to σ H fun o H1 => ti σ H1 fun i H2 => tget o i H2 fun x H3 => te σ H3 fun y H4 => tip x y H4 fun z H5 => tset o i z H5 fun H6 => D.nx σ H6
/-- o[i], by values -/
def PGet (X : Cx) (t : V → V → Hp → VK → Prop) : Prop :=
  ∀ (pins : List (Addr × Obj)) (s : Shared) (σ : St) (H : Hp) (o i : V) (ov iv : Value) (Q : VK), Inv X pins σ H s → RelV o ov → RelV i iv → t o i H Q →
    wpAny (model X.prog X.w) X.A (getItem ov iv) (EP X pins σ Q) X.xe s
theorem ps_augS {o i e : Expr} {to ti te : TE} {tget : V → V → Hp → VK → Prop} {tip : TIp} {tset : TSet} {op : Operator} {tpos : Pos} (ho : PE X o to) (hi : PE X i ti) (hg : PGet X tget) (he : PE X e te) (hp : PIp X op tip) (hs : PSet X tset)
    (ha : ∀ ov iv new, augStore i ov iv new = (do holding [new, ov, iv] (setItem ov iv new); release [new, ov, iv] []; pure .next) := by intros; rfl) : PS X (.AugAssign (.Subscript o i tpos) op e pos) (tAugS to ti te tget tip tset) := by
  intro pins s σ H D I h
  refine wpAny_AugAssign_SubscriptAny (thn (ho pins s σ H _ I h) fun ov s1 ⟨x1, H1, I1, r1, q1⟩ => ?_) ha
  refine thn (hi pins s1 σ H1 _ I1 q1) fun iv s2 ⟨x2, H2, I2, r2, q2⟩ => ?_
  refine thn (hg pins s2 σ H2 x1 x2 ov iv _ I2 r1 r2 q2) fun old s3 ⟨x3, H3, I3, r3, q3⟩ => ?_
  refine thn (he pins s3 σ H3 _ I3 q3) fun v s4 ⟨x4, H4, I4, r4, q4⟩ => ?_
  refine thn (hp pins s4 σ H4 x3 x4 old v _ I4 r3 r4 q4) fun new s5 ⟨x5, H5, I5, r5, q5⟩ => ?_
  exact thn (hs pins s5 σ H5 x1 x2 x5 ov iv new _ I5 r1 r2 r5 q5) fun _ s6 ⟨H6, I6, q6⟩ => ⟨σ, H6, I6, q6⟩
/-- ints -/
def ipI (f : Int → Int → Int) : TIp := fun x y H Q => ∃ i j, x = .int i ∧ y = .int j ∧ Q (.int (f i j)) H
theorem ip_add : PIp X .Add (ipI fun i j => i + j) := by
  intro pins s σ H x y v u Q I r1 r2 h
  obtain ⟨i, j, e1, e2, q⟩ := h
  subst e1; subst e2
  obtain ⟨t, rfl⟩ := r1
  obtain ⟨t', rfl⟩ := r2
  exact iadd_int ⟨.int _, H, I.tok _, ⟨_, rfl⟩, q⟩
theorem ip_sub : PIp X .Sub (ipI fun i j => i - j) := by
  intro pins s σ H x y v u Q I r1 r2 h
  obtain ⟨i, j, e1, e2, q⟩ := h
  subst e1; subst e2
  obtain ⟨t, rfl⟩ := r1
  obtain ⟨t', rfl⟩ := r2
  exact isub_int ⟨.int _, H, I.tok _, ⟨_, rfl⟩, q⟩
end

/-! ### while -/
section
variable {X : Cx} {pos : Pos}
/-- the invariant W with its measure -/
def tWhile (c : TT) (tb : TS) : TS := fun D σ H => ∃ W : Nat → St → Hp → Prop, (∃ m, W m σ H) ∧ ∀ m σ H, W m σ H →
  c σ H fun b H1 => if b = true then ∃ N : St → Hp → Prop, (∀ σ' H', N σ' H' → ∃ m', m' < m ∧ W m' σ' H') ∧ tb { D with nx := N, ct := N, bk := D.nx } σ H1 else D.nx σ H1
theorem ps_while {c : Expr} {body : List Stmt} {tc : TT} {tb : TS} (hp : PassesOwn (model X.prog X.w) X.A X.env X.xe) (hc : PT X c tc) (hb : PSs X body tb) : PS X (.While c body [] pos) (tWhile tc tb) := by
  intro pins s σ H D I h
  obtain ⟨W, ⟨m0, w0⟩, turn⟩ := h
  refine wpAny_While (codeAny_whileLoop (fun n s' => ∃ σ' H', Inv X pins σ' H' s' ∧ W n σ' H') ?_ m0 ⟨σ, H, I, w0⟩)
  rintro n s1 ⟨σ1, H1, I1, w1⟩
  refine wpAny_passesOwn hp (thn (hc pins s1 σ1 H1 _ I1 (turn n σ1 H1 w1)) fun b s2 ⟨H2, I2, q2⟩ => ?_)
  cases b with
  | true =>
    obtain ⟨N, hN, q2⟩ := q2
    rw [if_pos rfl]
    refine wpAny_passesOwn hp (thn (hb pins s2 σ1 H2 _ I2 q2) fun f s3 q3 => ?_)
    cases f with
    | next =>
      obtain ⟨σ3, H3, I3, n3⟩ := q3
      obtain ⟨m', hm, w3⟩ := hN σ3 H3 n3
      exact ⟨m', hm, σ3, H3, I3, w3⟩
    | cont =>
      obtain ⟨σ3, H3, I3, n3⟩ := q3
      obtain ⟨m', hm, w3⟩ := hN σ3 H3 n3
      exact ⟨m', hm, σ3, H3, I3, w3⟩
    | brk => exact q3
    | ret v => exact q3
  | false =>
    rw [if_neg Bool.false_ne_true]
    exact wpAny_execs_nil ⟨σ1, H2, I2, q2⟩
end

/-! ### what a loop or a comprehension walks -/
/-- at turn i: it yields x (the heap may grow), or it stops -/
structure It where
  go : Nat → Hp → Prop
  yld : Nat → Hp → V → Hp → Prop
  stop : Nat → Hp → Prop
/-- the iterator's own objects may turn: they are not the frame's, not pinned, younger than the entry (or a comprehension's own) -/
def FpOk (X : Cx) (pins : List (Addr × Obj)) (H : Hp) (b : Addr) : Prop :=
  H b = none ∧ b ≠ X.env.locals ∧ b ∉ X.fs ∧ (b ∈ X.ex ∨ X.s₀.heap.objs.size ≤ b) ∧ (∀ x c, X.env.cells.lookup x = some c → c ≠ b) ∧ ∀ p ∈ X.pn ++ pins, p.1 ≠ b
theorem Inv.fpOk {X : Cx} {pins : List (Addr × Obj)} {σ : St} {H H' : Hp} {s : Shared} {b : Addr} (I : Inv X pins σ H s) (hb : s.heap.objs.size ≤ b) (hn : H' b = none) : FpOk X pins H' b := by
  refine ⟨hn, Nat.ne_of_gt (Nat.lt_of_lt_of_le I.lt hb), I.nofs hb, .inr (Nat.le_trans I.sz hb), fun x c e z => ?_, fun p hp z => ?_⟩
  · obtain ⟨v, q⟩ := I.cell x c e
    exact absurd (Nat.lt_of_lt_of_le q.lt (by rw [z]; exact hb)) (Nat.lt_irrefl _)
  · exact absurd (Nat.lt_of_lt_of_le (Heap.lt_size (I.pin p hp).1) (by rw [z]; exact hb)) (Nat.lt_irrefl _)
structure Turn (P : Program) (w : World) (K : PySem.W.Frag) (tg : Expr) (J : It) (fp : List Addr) (it : Addr) (tn : Nat → Heap → Prop) : Prop where
  mem : it ∈ fp
  obj : ∀ i h, tn i h → ∀ b ∈ fp, ∃ o, h.get? b = some o ∧ ∀ v, o.data ≠ .cell v
  keep : ∀ i h h', tn i h → (∀ b ∈ fp, ∀ o, h.get? b = some o → h'.get? b = some o) → tn i h'
  item : ∀ (X : Cx), X.prog = P → X.w = w → X.K = K → X.calm = true → ∀ (i : Nat) (pins : List (Addr × Obj)) (s : Shared) (σ : St) (H : Hp) (E : Value → Shared → Prop), Inv X pins σ H s → (∀ b ∈ fp, FpOk X pins H b) → tn i s.heap → J.go i H →
    wpAny (model P w) X.A (pyNext (.ref it)) (fun r s1 => ∃ u, r = some u ∧
      wpAny (model P w) X.A (letOwnedTupleGo tg (.ref it) u) (fun _ s2 => ∃ x H', Inv X pins σ H' s2 ∧ RelV x u ∧ J.yld i H x H' ∧ tn (i + 1) s2.heap ∧ ∀ b ∈ fp, H' b = none) E s1) E s
  done : ∀ (X : Cx), X.prog = P → X.w = w → X.K = K → X.calm = true → ∀ (i : Nat) (pins : List (Addr × Obj)) (s : Shared) (σ : St) (H : Hp) (E : Value → Shared → Prop), Inv X pins σ H s → (∀ b ∈ fp, FpOk X pins H b) → tn i s.heap → J.stop i H →
    wpAny (model P w) X.A (pyNext (.ref it)) (fun r s1 => r = none ∧ Inv X pins σ H s1) E s
  self : ∀ (A : Around) (i : Nat) (s : Shared) (Q : Value → Shared → Prop) (E : Value → Shared → Prop), tn i s.heap → Q (.ref it) s → wpAny (model P w) A (pyIter (.ref it)) Q E s
abbrev TI := St → Hp → (It → Hp → Prop) → Prop
/-- an iterator has come -/
def PIE (X : Cx) (pins : List (Addr × Obj)) (σ : St) (tg : Expr) (R : It → Hp → Prop) (itv : Value) (s2 : Shared) : Prop :=
  ∃ (it : Addr) (fp : List Addr) (tn : Nat → Heap → Prop) (J : It) (H' : Hp), itv = .ref it ∧ Inv X pins σ H' s2 ∧ Turn X.prog X.w X.K tg J fp it tn ∧ tn 0 s2.heap ∧ (∀ b ∈ fp, FpOk X pins H' b) ∧ R J H'
def PI (X : Cx) (tg iter : Expr) (wi : TI) : Prop :=
  ∀ (pins : List (Addr × Obj)) (s : Shared) (σ : St) (H : Hp) (R : It → Hp → Prop), Inv X pins σ H s → wi σ H R →
    wpAny (model X.prog X.w) X.A (eval iter X.env) (fun v s1 => wpAny (model X.prog X.w) X.A (pyIter v) (PIE X pins σ tg R) X.xe s1) X.xe s

/-- the step ahead of the store is nothing for an iterator that keeps no tuple -/
theorem go_of {M : Model} {A : Around} {E : Value → Shared → Prop} {s : Shared} {tg : Expr} {it : Addr} {u : Value} {o : Obj} {n : String} {vs : Array Value} {Q : Unit → Shared → Prop} (ho : s.heap.get? it = some o) (hc : o.cls = .type n) (hd : o.data = .fields vs)
    (hn : ["enumerate", "zip", "dict_itemiterator", "dict_reverseitemiterator", "odict_iterator", "itertools.zip_longest", "itertools.pairwise"].contains n = false) (hQ : Q () s) : wpAny M A (letOwnedTupleGo tg (.ref it) u) Q E s := by
  unfold letOwnedTupleGo
  cases tg <;> first
    | exact wpAny_pure hQ
    | (cases u <;> first
        | exact wpAny_pure hQ
        | (refine wpAny_bind (wpAny_load ho ?_)
           rw [hc, hd]
           show wpAny M A (if (["enumerate", "zip", "dict_itemiterator", "dict_reverseitemiterator", "odict_iterator", "itertools.zip_longest", "itertools.pairwise"].contains n && vs[0]? == some (rawInt _)) = true then _ else _) Q E s
           rw [if_neg (by intro h; rw [hn, Bool.false_and] at h; cases h)]
           exact wpAny_pure hQ))

/-- the list at a, as it stands at each turn (a loop may append to it) -/
def Itl (K : PySem.W.Frag) (a : Addr) : It :=
  ⟨fun i H => ∃ xs x, SqL K H a xs ∧ xs[i]? = some x, fun i H x H' => H' = H ∧ ∀ xs, SqL K H a xs → xs[i]? = some x, fun i H => ∃ xs, SqL K H a xs ∧ xs.length ≤ i⟩
def Itt (K : PySem.W.Frag) (a : Addr) : It :=
  ⟨fun i H => ∃ xs x, SqT K H a xs ∧ xs[i]? = some x, fun i H x H' => H' = H ∧ ∀ xs, SqT K H a xs → xs[i]? = some x, fun i H => ∃ xs, SqT K H a xs ∧ xs.length ≤ i⟩
/-- lo, lo + 1, .. (n of them) -/
def Itr (lo : Int) (n : Nat) : It := ⟨fun i _ => i < n, fun i H x H' => H' = H ∧ x = .int (lo + i), fun i _ => n ≤ i⟩
theorem turn_list {P : Program} {w : World} {K : PySem.W.Frag} {tg : Expr} (a it : Addr) : Turn P w K tg (Itl K a) [it] it (fun i h => h.IsListIter it a i) where
  mem := by simp
  obj := fun i h st b hb => by
    have e : b = it := by simpa using hb
    subst e
    obtain ⟨o, e, c, d⟩ := st
    exact ⟨o, e, fun v z => by rw [d] at z; cases z⟩
  keep := fun i h h' st k => st.at fun o e => k it (by simp) o e
  item := by
    intro X hP hw hK hc i pins s σ H E I hf st hg
    subst hP hw hK
    obtain ⟨xs, x, hq, hx⟩ := hg
    obtain ⟨its, rv, p, hz⟩ := I.list hq
    obtain ⟨u, hu, ru⟩ := rv.get hx
    obtain ⟨f0, f1, f2, f3, f4, f5⟩ := hf it (by simp)
    refine wpAny_pyNext_list_item st p.isList (x := u) (by simpa using hu) fun h' st' sb => ?_
    have I1 : Inv X pins σ H { s with heap := h' } := I.turned (t' := s.toks) (fun b o hb e => (sb.2 b hb).trans e) f0 f1 f3 f4 f5
    obtain ⟨o, e, c, d⟩ := id st'
    exact ⟨u, rfl, go_of (s := { s with heap := h' }) e c d (by decide) ⟨x, H, I1, ru, ⟨rfl, fun ys hy => by rw [I.list_inj hy hq]; exact hx⟩, st', fun b hb => (hf b hb).1⟩⟩
  done := by
    intro X hP hw hK hc i pins s σ H E I hf st hg
    subst hP hw hK
    obtain ⟨xs, hq, hx⟩ := hg
    obtain ⟨its, rv, p, hz⟩ := I.list hq
    obtain ⟨f0, f1, f2, f3, f4, f5⟩ := hf it (by simp)
    have hl := rv.length
    exact wpAny_pyNext_list_end (I.ok.hd hc) st p.isList (by simp; omega) fun h' eb => ⟨rfl, I.turned (t' := s.toks) (fun b o hb e => eb b o hb e) f0 f1 f3 f4 f5⟩
  self := fun _ _ _ _ _ st h => wpAny_pyIter_listiter st h
theorem turn_tuple {P : Program} {w : World} {K : PySem.W.Frag} {tg : Expr} (a it : Addr) : Turn P w K tg (Itt K a) [it] it (fun i h => h.IsTupleIter it a i) where
  mem := by simp
  obj := fun i h st b hb => by
    have e : b = it := by simpa using hb
    subst e
    obtain ⟨o, e, c, d⟩ := st
    exact ⟨o, e, fun v z => by rw [d] at z; cases z⟩
  keep := fun i h h' st k => st.at fun o e => k it (by simp) o e
  item := by
    intro X hP hw hK hc i pins s σ H E I hf st hg
    subst hP hw hK
    obtain ⟨xs, x, hq, hx⟩ := hg
    obtain ⟨its, rv, p, hz⟩ := I.tuple hq
    obtain ⟨u, hu, ru⟩ := rv.get hx
    obtain ⟨f0, f1, f2, f3, f4, f5⟩ := hf it (by simp)
    refine wpAny_pyNext_tuple_item st (show s.heap.IsTuple a its.toArray from p) (x := u) (by simpa using hu) fun h' st' sb => ?_
    have I1 : Inv X pins σ H { s with heap := h' } := I.turned (t' := s.toks) (fun b o hb e => (sb.2 b hb).trans e) f0 f1 f3 f4 f5
    obtain ⟨o, e, c, d⟩ := id st'
    exact ⟨u, rfl, go_of (s := { s with heap := h' }) e c d (by decide) ⟨x, H, I1, ru, ⟨rfl, fun ys hy => by rw [I.tuple_inj hy hq]; exact hx⟩, st', fun b hb => (hf b hb).1⟩⟩
  done := by
    intro X hP hw hK hc i pins s σ H E I hf st hg
    subst hP hw hK
    obtain ⟨xs, hq, hx⟩ := hg
    obtain ⟨its, rv, p, hz⟩ := I.tuple hq
    obtain ⟨f0, f1, f2, f3, f4, f5⟩ := hf it (by simp)
    have hl := rv.length
    exact wpAny_pyNext_tuple_end (I.ok.hd hc) st (show s.heap.IsTuple a its.toArray from p) (by simp; omega) fun h' eb => ⟨rfl, I.turned (t' := s.toks) (fun b o hb e => eb b o hb e) f0 f1 f3 f4 f5⟩
  self := fun _ _ _ _ _ st h => wpAny_pyIter_tupleiter st h
theorem turn_range {P : Program} {w : World} {K : PySem.W.Frag} {tg : Expr} (it : Addr) (lo : Int) (n : Nat) : Turn P w K tg (Itr lo n) [it] it (fun i h => IsRangeIter h it (lo + (i : Nat) * 1) ((n : Int) - (i : Nat)) 1) where
  mem := by simp
  obj := fun i h st b hb => by
    have e : b = it := by simpa using hb
    subst e
    exact ⟨_, st, fun v z => by
      have z' : Data.fields _ = Data.cell v := z
      cases z'⟩
  keep := fun i h h' st k => k it (by simp) _ st
  item := by
    intro X hP hw hK hc i pins s σ H E I hf st hg
    subst hP hw hK
    obtain ⟨f0, f1, f2, f3, f4, f5⟩ := hf it (by simp)
    have W := Walks.range (prog := X.prog) (w := X.w) (I.ok.hd hc) it lo 1 n
    refine W.item i s _ _ hg st fun v h' tk hv st' kk => ?_
    obtain ⟨t, rfl⟩ := hv
    have I1 : Inv X pins σ H { s with heap := h', toks := tk } := I.turned (fun b o hb e => kk b o (by simpa using hb) e) f0 f1 f3 f4 f5
    refine ⟨_, rfl, go_of (s := { s with heap := h', toks := tk }) (n := "range_iterator") st' rfl rfl (by decide) ⟨.int (lo + i), H, I1, ⟨t, ?_⟩, ⟨rfl, rfl⟩, st', fun b hb => (hf b hb).1⟩⟩
    rw [Int.mul_one]
  done := by
    intro X hP hw hK hc i pins s σ H E I hf st hg
    subst hP hw hK
    obtain ⟨f0, f1, f2, f3, f4, f5⟩ := hf it (by simp)
    exact wpAny_pyNext_range_end (I.ok.hd hc) st (by have : n ≤ i := hg; omega) fun h' eb => ⟨rfl, I.turned (t' := s.toks) (fun b o hb e => eb b o hb e) f0 f1 f3 f4 f5⟩
  self := fun _ _ _ _ _ st h => wpAny_pyIter_rangeiter st h
end L2

namespace L2
open PySem PySem.Spec PyProof.Rows
section
variable {X : Cx} {tg : Expr}
def iList (K : PySem.W.Frag) (tl : TE) : TI := fun σ H R => tl σ H fun x H1 => ∃ a, x = .ref a ∧ (∃ xs, SqL K H1 a xs) ∧ R (Itl K a) H1
def iTup (K : PySem.W.Frag) (tl : TE) : TI := fun σ H R => tl σ H fun x H1 => ∃ a, x = .ref a ∧ (∃ xs, SqT K H1 a xs) ∧ R (Itt K a) H1
theorem pi_list {l : Expr} {tl : TE} (hl : PE X l tl) : PI X tg l (iList X.K tl) := by
  intro pins s σ H R I h
  refine thn (hl pins s σ H _ I h) fun v s1 ⟨x, H1, I1, r1, q1⟩ => ?_
  obtain ⟨a, e, ⟨xs, hq⟩, q⟩ := q1
  subst e
  cases r1
  obtain ⟨its, rv, p, hz⟩ := I1.list hq
  refine wpAny_pyIter_list p.isList ?_
  refine ⟨s1.heap.objs.size, [s1.heap.objs.size], _, _, H1, rfl, I1.kept (t' := s1.toks) fun b o e => Heap.get?_push_of_some _ e, turn_list a _, ⟨_, Heap.get?_push_size _ rfl, rfl, rfl⟩, fun b hb => ?_, q⟩
  have e : b = s1.heap.objs.size := by simpa using hb
  subst e
  exact I1.fpOk (Nat.le_refl _) (I1.hok.fresh (Nat.le_refl _))
theorem pi_tup {l : Expr} {tl : TE} (hl : PE X l tl) : PI X tg l (iTup X.K tl) := by
  intro pins s σ H R I h
  refine thn (hl pins s σ H _ I h) fun v s1 ⟨x, H1, I1, r1, q1⟩ => ?_
  obtain ⟨a, e, ⟨xs, hq⟩, q⟩ := q1
  subst e
  cases r1
  obtain ⟨its, rv, p, hz⟩ := I1.tuple hq
  refine wpAny_pyIter_tuple (show s1.heap.IsTuple a its.toArray from p) ?_
  refine ⟨s1.heap.objs.size, [s1.heap.objs.size], _, _, H1, rfl, I1.kept (t' := s1.toks) fun b o e => Heap.get?_push_of_some _ e, turn_tuple a _, ⟨_, Heap.get?_push_size _ rfl, rfl, rfl⟩, fun b hb => ?_, q⟩
  have e : b = s1.heap.objs.size := by simpa using hb
  subst e
  exact I1.fpOk (Nat.le_refl _) (I1.hok.fresh (Nat.le_refl _))
/-- a range object just made, walked -/
theorem range_it {pins : List (Addr × Obj)} {σ : St} {H : Hp} {s : Shared} {R : It → Hp → Prop} {E : Value → Shared → Prop} {lo hi : Int} {t u v : Tok} {tk : Nat} (I : Inv X pins σ H s) (h1 : -(2 ^ 62) ≤ lo) (h2 : lo < 2 ^ 62) (h3 : -(2 ^ 62) ≤ hi) (h4 : hi < 2 ^ 62)
    (q : R (Itr lo (hi - lo).toNat) H) : wpAny (model X.prog X.w) X.A (pyIter (.ref s.heap.objs.size)) (PIE X pins σ tg R) E { s with heap := s.heap.push { cls := .type "range", data := .fields #[.int lo t, .int hi u, .int 1 v] }, toks := tk } := by
  refine wpAny_pyIter_range (IsRange.new ..) (small_one h1 h2 h3 h4) ?_
  have I1 : Inv X pins σ H { s with heap := s.heap.push { cls := .type "range", data := .fields #[.int lo t, .int hi u, .int 1 v] }, toks := tk } := I.kept fun b o e => Heap.get?_push_of_some _ e
  refine ⟨(s.heap.push { cls := .type "range", data := .fields #[.int lo t, .int hi u, .int 1 v] }).objs.size, [(s.heap.push { cls := .type "range", data := .fields #[.int lo t, .int hi u, .int 1 v] }).objs.size], _, _, H, rfl,
    I1.kept (t' := tk) fun b o e => Heap.get?_push_of_some _ e, turn_range _ lo (hi - lo).toNat, ?_, fun b hb => ?_, q⟩
  · have e1 : lo + ((0 : Nat) : Int) * 1 = lo := by simp
    have e2 : (((hi - lo).toNat : Nat) : Int) - ((0 : Nat) : Int) = Builtin.Range.rangeSize lo hi 1 := by rw [rangeSize_one]; split <;> omega
    show IsRangeIter _ _ (lo + ((0 : Nat) : Int) * 1) ((((hi - lo).toNat : Nat) : Int) - ((0 : Nat) : Int)) 1
    rw [e1, e2]
    exact Heap.get?_push_size _ rfl
  · have e : b = (s.heap.push { cls := .type "range", data := .fields #[.int lo t, .int hi u, .int 1 v] }).objs.size := by simpa using hb
    subst e
    exact I1.fpOk (Nat.le_refl _) (I1.hok.fresh (Nat.le_refl _))
def iRng1 (ta : TA) : TI := fun σ H R => ta σ H fun vs H1 => ∃ j : Int, vs = [.int j] ∧ -(2 ^ 62) ≤ j ∧ j < 2 ^ 62 ∧ R (Itr 0 j.toNat) H1
def iRng2 (ta : TA) : TI := fun σ H R => ta σ H fun vs H1 => ∃ i j : Int, vs = [.int i, .int j] ∧ (-(2 ^ 62) ≤ i ∧ i < 2 ^ 62 ∧ -(2 ^ 62) ≤ j ∧ j < 2 ^ 62) ∧ R (Itr i (j - i).toNat) H1
theorem pi_range1 {a : Expr} {ta : TA} {p pos : Pos} (hg : Gl X "range") (hm : X.mg "range" = none) (ha : PA X [a] ta) (hs : starEach [a] X.env = [(false, eval a X.env)] := by rfl) : PI X tg (.Call (.Name "range" p) [a] [] pos) (iRng1 ta) := by
  intro pins s σ H R I h
  refine Call_ (ld_blt I hg hm boot_range (PyProof.Rows.callWith_type1 (thn (ha pos pins s σ H _ I h) fun us s1 ⟨vs, H1, I1, r1, q1⟩ => ?_) hs rfl))
  obtain ⟨j, e, q1, q2, q⟩ := q1
  subst e
  cases r1 with
  | cons r rr =>
    cases rr
    obtain ⟨t, rfl⟩ := r
    exact call_range_1 (range_it I1 (by omega) (by omega) q1 q2 (by simpa using q))
theorem pi_range2 {a b : Expr} {ta : TA} {p pos : Pos} (hg : Gl X "range") (hm : X.mg "range" = none) (ha : PA X [a, b] ta) (hs : starEach [a, b] X.env = [(false, eval a X.env), (false, eval b X.env)] := by rfl) (hs2 : starEach [b] X.env = [(false, eval b X.env)] := by rfl) :
    PI X tg (.Call (.Name "range" p) [a, b] [] pos) (iRng2 ta) := by
  intro pins s σ H R I h
  refine Call_ (ld_blt I hg hm boot_range (PyProof.Rows.callWith_type1 (thn (ha pos pins s σ H _ I h) fun us s1 ⟨vs, H1, I1, r1, q1⟩ => ?_) (by rw [hs, hs2]) (by rw [hs2]; rfl)))
  obtain ⟨i, j, e, ⟨q1, q2, q3, q4⟩, q⟩ := q1
  subst e
  cases r1 with
  | cons r rr =>
    cases rr with
    | cons r' rr =>
      cases rr
      obtain ⟨t, rfl⟩ := r
      obtain ⟨t', rfl⟩ := r'
      exact call_range_2 (range_it I1 q1 q2 q3 q4 q)

/-! ### for -/
/-- W: the invariant by the turn and a measure; N: what the body is to reach -/
def tFor (wi : TI) (g : TG) (tb : TS) : TS := fun D σ H => wi σ H fun J H1 => ∃ W : Nat → Nat → St → Hp → Prop, (∃ m, W 0 m σ H1) ∧ ∀ i m σ H, W i m σ H →
  (J.stop i H ∧ D.nx σ H) ∨ (J.go i H ∧ ∃ N : St → Hp → Prop, (∀ σ' H', N σ' H' → ∃ m', m' < m ∧ W (i + 1) m' σ' H') ∧ ∀ x H', J.yld i H x H' → g x σ H' fun σ2 H2 => tb { D with nx := N, ct := N, bk := D.nx } σ2 H2)
/-- the records at fp as they stand -/
def pinsAt (fp : List Addr) (h : Heap) : List (Addr × Obj) := fp.filterMap fun b => (h.get? b).map fun o => (b, o)
theorem mem_pinsAt {fp : List Addr} {h : Heap} {b : Addr} {o : Obj} (hb : b ∈ fp) (e : h.get? b = some o) : (b, o) ∈ pinsAt fp h := List.mem_filterMap.mpr ⟨b, hb, by rw [e]; rfl⟩
theorem of_pinsAt {fp : List Addr} {h : Heap} {p : Addr × Obj} (hp : p ∈ pinsAt fp h) : p.1 ∈ fp ∧ h.get? p.1 = some p.2 := by
  obtain ⟨b, hb, e⟩ := List.mem_filterMap.mp hp
  cases q : h.get? b with
  | none => rw [q] at e; cases e
  | some o =>
    rw [q] at e
    have e' : (b, o) = p := Option.some.inj e
    subst e'
    exact ⟨hb, q⟩
theorem Inv.pinned {pins : List (Addr × Obj)} {σ : St} {H : Hp} {s : Shared} {fp : List Addr} (I : Inv X pins σ H s) (hf : ∀ b ∈ fp, FpOk X pins H b) (ho : ∀ b ∈ fp, ∃ o, s.heap.get? b = some o ∧ ∀ v, o.data ≠ .cell v) : Inv X (pins ++ pinsAt fp s.heap) σ H s :=
  I.pins_of fun p hp => (List.mem_append.mp hp).elim (fun z => I.pin p (List.mem_append_right _ z)) fun z => by
    obtain ⟨hb, e⟩ := of_pinsAt z
    obtain ⟨f0, f1, f2, _⟩ := hf p.1 hb
    obtain ⟨o, e', d⟩ := ho p.1 hb
    rw [e] at e'; cases e'
    exact ⟨e, f0, f1, f2, d⟩
theorem Inv.unpinned {pins pl : List (Addr × Obj)} {σ : St} {H : Hp} {s : Shared} (I : Inv X (pins ++ pl) σ H s) : Inv X pins σ H s := I.pins_of fun p hp => I.pin p (List.mem_append_right _ (List.mem_append_left _ hp))
theorem ps_for {iter : Expr} {body : List Stmt} {wi : TI} {g : TG} {tb : TS} {pos : Pos} (hp : PassesOwn (model X.prog X.w) X.A X.env X.xe) (hc : X.calm = true) (hi : PI X tg iter wi) (hg : PG X tg g) (hb : PSs X body tb)
    (hs : ∀ x, foldedSetIterable iter X.env x = pure x := by intro _; rfl) : PS X (.For tg iter body [] pos) (tFor wi g tb) := by
  intro pins s σ H D I h
  refine wpAny_For (thn (hi pins s σ H _ I h) fun v s1 h1 => thn h1 fun itv s2 h2 => ?_) hs
  obtain ⟨it, fp, tn, J, H2, e, I2, T, st2, f2, W, ⟨m0, w0⟩, turn⟩ := h2
  subst e
  -- what stays true of the iterator's objects through the loop
  have stat : ∀ {H' : Hp}, (∀ b ∈ fp, H' b = none) → ∀ b ∈ fp, FpOk X pins H' b := fun hn b hb => ⟨hn b hb, (f2 b hb).2⟩
  refine codeAny_forLoop_any (fun n s' => ∃ i σ' H', Inv X pins σ' H' s' ∧ tn i s'.heap ∧ (∀ b ∈ fp, H' b = none) ∧ W i n σ' H') ?_ m0 ⟨0, σ, H2, I2, st2, fun b hb => (f2 b hb).1, w0⟩
  rintro n s3 ⟨i, σ3, H3, I3, st3, fr3, w3⟩
  rcases turn i n σ3 H3 w3 with ⟨stop, qn⟩ | ⟨go, N, hN, step⟩
  · refine wpAny_passesOwn hp (thn (T.done X rfl rfl rfl hc i pins s3 σ3 H3 X.xe I3 (stat fr3) st3 stop) fun r s4 ⟨hr, I4⟩ => ?_)
    subst hr
    exact wpAny_execs_nil ⟨σ3, H3, I4, qn⟩
  · refine wpAny_passesOwn hp (thn (T.item X rfl rfl rfl hc i pins s3 σ3 H3 X.xe I3 (stat fr3) st3 go) fun r s4 ⟨u, hr, h4⟩ => ?_)
    subst hr
    refine wpAny_passesOwn hp (thn h4 fun _ s5 ⟨x, H5, I5, r5, y5, st5, fr5⟩ => ?_)
    have I5' := I5.pinned (stat fr5) (T.obj _ _ st5)
    refine wpAny_passesOwn hp (thn (hg _ s5 σ3 H5 x u _ I5' r5 (step x H5 y5)) fun _ s6 ⟨σ6, H6, I6, q6⟩ => ?_)
    refine wpAny_passesOwn hp (thn (hb _ s6 σ6 H6 _ I6 q6) fun f s7 q7 => ?_)
    have again : ∀ {σ7 : St} {H7 : Hp}, Inv X (pins ++ pinsAt fp s5.heap) σ7 H7 s7 → N σ7 H7 → ∃ m, m < n ∧ ∃ i σ' H', Inv X pins σ' H' s7 ∧ tn i s7.heap ∧ (∀ b ∈ fp, H' b = none) ∧ W i m σ' H' := fun {σ7 H7} I7 n7 => by
      obtain ⟨m', hm, w7⟩ := hN σ7 H7 n7
      refine ⟨m', hm, i + 1, σ7, H7, I7.unpinned, T.keep _ _ _ st5 fun b hb o e => (I7.pin (b, o) (List.mem_append_right _ (List.mem_append_right _ (mem_pinsAt hb e)))).1, fun b hb => ?_, w7⟩
      obtain ⟨o, e, d⟩ := T.obj _ _ st5 b hb
      exact (I7.pin (b, o) (List.mem_append_right _ (List.mem_append_right _ (mem_pinsAt hb e)))).2.1
    cases f with
    | next => obtain ⟨σ7, H7, I7, n7⟩ := q7; exact again I7 n7
    | cont => obtain ⟨σ7, H7, I7, n7⟩ := q7; exact again I7 n7
    | brk => obtain ⟨σ7, H7, I7, q7⟩ := q7; exact ⟨σ7, H7, I7.unpinned, q7⟩
    | ret v => obtain ⟨x7, σ7, H7, I7, r7, q7⟩ := q7; exact ⟨x7, σ7, H7, I7.unpinned, r7, q7⟩
end

/-! ### the forms one uses -/
/-- over a list that the body leaves as it is -/
theorem for_list {K : PySem.W.Frag} {a : Addr} {xs : List V} {g : TG} {tb : TS} {D : Ends} {σ : St} {H : Hp} (Pv : Nat → St → Hp → Prop) (h0 : Pv 0 σ H) (hl : ∀ i σ H, i ≤ xs.length → Pv i σ H → SqL K H a xs)
    (hs : ∀ i x σ H, xs[i]? = some x → Pv i σ H → g x σ H fun σ2 H2 => tb { D with nx := Pv (i + 1), ct := Pv (i + 1), bk := D.nx } σ2 H2) (hd : ∀ σ H, Pv xs.length σ H → D.nx σ H) :
    ∃ W : Nat → Nat → St → Hp → Prop, (∃ m, W 0 m σ H) ∧ ∀ i m σ H, W i m σ H →
      ((Itl K a).stop i H ∧ D.nx σ H) ∨ ((Itl K a).go i H ∧ ∃ N : St → Hp → Prop, (∀ σ' H', N σ' H' → ∃ m', m' < m ∧ W (i + 1) m' σ' H') ∧ ∀ x H', (Itl K a).yld i H x H' → g x σ H' fun σ2 H2 => tb { D with nx := N, ct := N, bk := D.nx } σ2 H2) := by
  refine ⟨fun i m σ H => m = xs.length - i ∧ i ≤ xs.length ∧ Pv i σ H, ⟨xs.length, by simp, Nat.zero_le _, h0⟩, ?_⟩
  rintro i m σ H ⟨rfl, hi, p⟩
  have q := hl i σ H hi p
  by_cases hlt : i < xs.length
  · refine .inr ⟨⟨xs, xs[i], q, by simp [hlt]⟩, Pv (i + 1), fun σ' H' p' => ⟨xs.length - (i + 1), by omega, rfl, hlt, p'⟩, fun x H' y => ?_⟩
    obtain ⟨e, y⟩ := y
    subst e
    exact hs i x σ _ (y xs q) p
  · have e : i = xs.length := by omega
    subst e
    exact .inl ⟨⟨xs, q, Nat.le_refl _⟩, hd σ H p⟩
theorem for_tup {K : PySem.W.Frag} {a : Addr} {xs : List V} {g : TG} {tb : TS} {D : Ends} {σ : St} {H : Hp} (Pv : Nat → St → Hp → Prop) (h0 : Pv 0 σ H) (hl : ∀ i σ H, i ≤ xs.length → Pv i σ H → SqT K H a xs)
    (hs : ∀ i x σ H, xs[i]? = some x → Pv i σ H → g x σ H fun σ2 H2 => tb { D with nx := Pv (i + 1), ct := Pv (i + 1), bk := D.nx } σ2 H2) (hd : ∀ σ H, Pv xs.length σ H → D.nx σ H) :
    ∃ W : Nat → Nat → St → Hp → Prop, (∃ m, W 0 m σ H) ∧ ∀ i m σ H, W i m σ H →
      ((Itt K a).stop i H ∧ D.nx σ H) ∨ ((Itt K a).go i H ∧ ∃ N : St → Hp → Prop, (∀ σ' H', N σ' H' → ∃ m', m' < m ∧ W (i + 1) m' σ' H') ∧ ∀ x H', (Itt K a).yld i H x H' → g x σ H' fun σ2 H2 => tb { D with nx := N, ct := N, bk := D.nx } σ2 H2) := by
  refine ⟨fun i m σ H => m = xs.length - i ∧ i ≤ xs.length ∧ Pv i σ H, ⟨xs.length, by simp, Nat.zero_le _, h0⟩, ?_⟩
  rintro i m σ H ⟨rfl, hi, p⟩
  have q := hl i σ H hi p
  by_cases hlt : i < xs.length
  · refine .inr ⟨⟨xs, xs[i], q, by simp [hlt]⟩, Pv (i + 1), fun σ' H' p' => ⟨xs.length - (i + 1), by omega, rfl, hlt, p'⟩, fun x H' y => ?_⟩
    obtain ⟨e, y⟩ := y
    subst e
    exact hs i x σ _ (y xs q) p
  · have e : i = xs.length := by omega
    subst e
    exact .inl ⟨⟨xs, q, Nat.le_refl _⟩, hd σ H p⟩
theorem for_range {lo : Int} {n : Nat} {g : TG} {tb : TS} {D : Ends} {σ : St} {H : Hp} (Pv : Nat → St → Hp → Prop) (h0 : Pv 0 σ H)
    (hs : ∀ i σ H, i < n → Pv i σ H → g (.int (lo + i)) σ H fun σ2 H2 => tb { D with nx := Pv (i + 1), ct := Pv (i + 1), bk := D.nx } σ2 H2) (hd : ∀ σ H, Pv n σ H → D.nx σ H) :
    ∃ W : Nat → Nat → St → Hp → Prop, (∃ m, W 0 m σ H) ∧ ∀ i m σ H, W i m σ H →
      ((Itr lo n).stop i H ∧ D.nx σ H) ∨ ((Itr lo n).go i H ∧ ∃ N : St → Hp → Prop, (∀ σ' H', N σ' H' → ∃ m', m' < m ∧ W (i + 1) m' σ' H') ∧ ∀ x H', (Itr lo n).yld i H x H' → g x σ H' fun σ2 H2 => tb { D with nx := N, ct := N, bk := D.nx } σ2 H2) := by
  refine ⟨fun i m σ H => m = n - i ∧ i ≤ n ∧ Pv i σ H, ⟨n, by simp, Nat.zero_le _, h0⟩, ?_⟩
  rintro i m σ H ⟨rfl, hi, p⟩
  by_cases hlt : i < n
  · refine .inr ⟨hlt, Pv (i + 1), fun σ' H' p' => ⟨n - (i + 1), by omega, rfl, hlt, p'⟩, fun x H' y => ?_⟩
    obtain ⟨e, y⟩ := y
    subst e y
    exact hs i σ _ hlt p
  · have e : i = n := by omega
    subst e
    exact .inl ⟨Nat.le_refl _, hd σ H p⟩
/-- while, by a word and a measure of the state -/
theorem while_by {c : TT} {tb : TS} {D : Ends} {σ : St} {H : Hp} (Pv : St → Hp → Prop) (μ : St → Hp → Nat) (h0 : Pv σ H)
    (hs : ∀ σ H, Pv σ H → c σ H fun b H1 => if b = true then tb { D with nx := fun σ' H' => Pv σ' H' ∧ μ σ' H' < μ σ H, ct := fun σ' H' => Pv σ' H' ∧ μ σ' H' < μ σ H, bk := D.nx } σ H1 else D.nx σ H1)
    (mono : ∀ σ H Q Q', (∀ b H1, Q b H1 → Q' b H1) → c σ H Q → c σ H Q') : tWhile c tb D σ H := by
  refine ⟨fun m σ H => m = μ σ H ∧ Pv σ H, ⟨_, rfl, h0⟩, ?_⟩
  rintro m σ H ⟨rfl, p⟩
  refine mono σ H _ _ (fun b H1 q => ?_) (hs σ H p)
  cases b with
  | true => exact ⟨_, fun σ' H' ⟨p', l⟩ => ⟨_, l, rfl, p'⟩, q⟩
  | false => exact q
end L2

namespace L2
open PySem PySem.Spec PyProof.Rows

abbrev R2 := V → V → Hp → VK → Prop
/-- a two-place operation on values: f is binaryOp op, inplaceOp op or compareOp op -/
def OpR (X : Cx) (f : Value → Value → Sem Value) (r : R2) : Prop :=
  ∀ (pins : List (Addr × Obj)) (s : Shared) (σ : St) (H : Hp) (x y : V) (v u : Value) (Q : VK), Inv X pins σ H s → RelV x v → RelV y u → r x y H Q →
    wpAny (model X.prog X.w) X.A (f v u) (EP X pins σ Q) X.xe s
/-- a one-place operation -/
def UnR (X : Cx) (f : Value → Sem Value) (r : V → Hp → VK → Prop) : Prop :=
  ∀ (pins : List (Addr × Obj)) (s : Shared) (σ : St) (H : Hp) (x : V) (v : Value) (Q : VK), Inv X pins σ H s → RelV x v → r x H Q →
    wpAny (model X.prog X.w) X.A (f v) (EP X pins σ Q) X.xe s
/-- a call of a value that is known (a builtin, a type) with values -/
def CallR (X : Cx) (f : Value) (r : List V → Hp → VK → Prop) : Prop :=
  ∀ (pins : List (Addr × Obj)) (s : Shared) (σ : St) (H : Hp) (xs : List V) (us : List Value) (Q : VK), Inv X pins σ H s → Vals xs us → r xs H Q →
    wpAny (model X.prog X.w) X.A (call f us) (EP X pins σ Q) X.xe s
/-- a value's truth -/
def TruR (X : Cx) (r : V → Hp → (Bool → Hp → Prop) → Prop) : Prop :=
  ∀ (pins : List (Addr × Obj)) (s : Shared) (σ : St) (H : Hp) (x : V) (v : Value) (Q : Bool → Hp → Prop), Inv X pins σ H s → RelV x v → r x H Q →
    wpAny (model X.prog X.w) X.A (truthy v) (TP X pins σ Q) X.xe s

def tOp (r : R2) (ta tb : TE) : TE := fun σ H Q => ta σ H fun x H1 => tb σ H1 fun y H2 => r x y H2 Q
def tUn (r : V → Hp → VK → Prop) (ta : TE) : TE := fun σ H Q => ta σ H fun x H1 => r x H1 Q
/-- ints in, under C, and a value out -/
def rI (C : Int → Int → Prop) (g : Int → Int → V) : R2 := fun x y H Q => ∃ i j, x = .int i ∧ y = .int j ∧ C i j ∧ Q (g i j) H
def rI0 (g : Int → Int → V) : R2 := fun x y H Q => ∃ i j, x = .int i ∧ y = .int j ∧ Q (g i j) H
def rU (g : Int → V) : V → Hp → VK → Prop := fun x H Q => ∃ i, x = .int i ∧ Q (g i) H

section
variable {X : Cx} {a b c : Expr} {ta tb tc : TE} {pos : Pos}

theorem binT (ha : PE X a ta) (hb : PE X b tb) {pins : List (Addr × Obj)} {s : Shared} {σ : St} {H : Hp} {R : V → V → Hp → Prop} (I : Inv X pins σ H s)
    (h : ta σ H fun x H1 => tb σ H1 fun y H2 => R x y H2) {Q : Value → Shared → Prop} {f : Value → Value → Sem Value}
    (hf : ∀ v u s2 x y H2, Inv X pins σ H2 s2 → RelV x v → RelV y u → R x y H2 → wpAny (model X.prog X.w) X.A (f v u) Q X.xe s2) :
    wpAny (model X.prog X.w) X.A (eval a X.env) (fun v s₁ => wpAny (model X.prog X.w) X.A (eval b X.env) (fun u s₂ => wpAny (model X.prog X.w) X.A (f v u) Q X.xe s₂) X.xe s₁) X.xe s := by
  refine thn (ha pins s σ H _ I h) fun v s1 ⟨x, H1, I1, r1, q1⟩ => ?_
  refine thn (hb pins s1 σ H1 _ I1 q1) fun u s2 ⟨y, H2, I2, r2, q2⟩ => ?_
  exact hf v u s2 x y H2 I2 r1 r2 q2

theorem pe_op {op : Operator} {r : R2} (ho : OpR X (binaryOp op) r) (ha : PE X a ta) (hb : PE X b tb) : PE X (.BinOp a op b pos) (tOp r ta tb) := by
  intro pins s σ H Q I h
  exact wpAny_BinOp (binT ha hb I h fun v u s2 x y H2 I2 rx ry q => ho pins s2 σ H2 x y v u Q I2 rx ry q)
theorem pe_un {op : UnaryOp} {r : V → Hp → VK → Prop} (ho : UnR X (unaryOp op) r) (ha : PE X a ta) : PE X (.UnaryOp op a pos) (tUn r ta) := by
  intro pins s σ H Q I h
  exact UnaryOp_ (thn (ha pins s σ H _ I h) fun v s1 ⟨x, H1, I1, r1, q1⟩ => ho pins s1 σ H1 x v Q I1 r1 q1)
/-- a op= e at a name: the name's slot i -/
theorem augR {op : Operator} {r : R2} (ho : OpR X (inplaceOp op) r) {pins : List (Addr × Obj)} {s : Shared} {σ : St} {H : Hp} {x y : V} {v u : Value} {Q : VK} (I : Inv X pins σ H s)
    (rx : RelV x v) (ry : RelV y u) (q : r x y H Q) : wpAny (model X.prog X.w) X.A (inplaceOp op v u) (EP X pins σ Q) X.xe s := ho pins s σ H x y v u Q I rx ry q

/-! ### ints -/
theorem opI {f : Value → Value → Sem Value} {C : Int → Int → Prop} {g : Int → Int → Int}
    (rule : ∀ (i j : Int) (t u : Tok) (s : Shared) (Q : Value → Shared → Prop) (E : Value → Shared → Prop), C i j → Q (.int (g i j) s.toks) { s with toks := s.toks + 1 } → wpAny (model X.prog X.w) X.A (f (.int i t) (.int j u)) Q E s) :
    OpR X f (rI C fun i j => .int (g i j)) := by
  intro pins s σ H x y v u Q I rx ry h
  obtain ⟨i, j, rfl, rfl, hc, q⟩ := h
  obtain ⟨t, rfl⟩ := rx
  obtain ⟨t', rfl⟩ := ry
  exact rule i j t t' s _ _ hc ⟨.int (g i j), H, I.tok _, ⟨_, rfl⟩, q⟩
theorem opI0 {f : Value → Value → Sem Value} {g : Int → Int → Int}
    (rule : ∀ (i j : Int) (t u : Tok) (s : Shared) (Q : Value → Shared → Prop) (E : Value → Shared → Prop), Q (.int (g i j) s.toks) { s with toks := s.toks + 1 } → wpAny (model X.prog X.w) X.A (f (.int i t) (.int j u)) Q E s) :
    OpR X f (rI0 fun i j => .int (g i j)) := by
  intro pins s σ H x y v u Q I rx ry h
  obtain ⟨i, j, rfl, rfl, q⟩ := h
  obtain ⟨t, rfl⟩ := rx
  obtain ⟨t', rfl⟩ := ry
  exact rule i j t t' s _ _ ⟨.int (g i j), H, I.tok _, ⟨_, rfl⟩, q⟩
theorem opB0 {f : Value → Value → Sem Value} {g : Int → Int → Bool}
    (rule : ∀ (i j : Int) (t u : Tok) (s : Shared) (Q : Value → Shared → Prop) (E : Value → Shared → Prop), Q (.bool (g i j)) s → wpAny (model X.prog X.w) X.A (f (.int i t) (.int j u)) Q E s) :
    OpR X f (rI0 fun i j => .bl (g i j)) := by
  intro pins s σ H x y v u Q I rx ry h
  obtain ⟨i, j, rfl, rfl, q⟩ := h
  obtain ⟨t, rfl⟩ := rx
  obtain ⟨t', rfl⟩ := ry
  exact rule i j t t' s _ _ ⟨.bl (g i j), H, I, rfl, q⟩

def CDiv (i j : Int) : Prop := 0 < j ∧ j < 1073741824
def CDivN (i j : Int) : Prop := j ≠ 0 ∧ j.natAbs < 1073741824
def CPow (i j : Int) : Prop := 0 ≤ j ∧ j ≤ 1000000 ∧ i.natAbs < 2 ^ 64
def CMul (i j : Int) : Prop := (-(2 ^ 64) < i ∧ i < 2 ^ 64) ∨ (-(2 ^ 64) < j ∧ j < 2 ^ 64)
theorem CMul.ok {i j : Int} (h : CMul i j) : IntMulOk i j := by
  rcases h with ⟨h1, h2⟩ | ⟨h1, h2⟩
  · exact .of_left (intBits_le_64 h1 h2)
  · exact .of_right (intBits_le_64 h1 h2)
theorem two_pow_nn (k : Nat) : (0 : Int) ≤ 2 ^ k := by
  rw [two_pow_cast]
  exact Int.natCast_nonneg _

theorem op_add : OpR X (binaryOp .Add) (rI0 fun i j => .int (i + j)) := opI0 fun _ _ _ _ _ _ _ q => add_int q
theorem op_sub : OpR X (binaryOp .Sub) (rI0 fun i j => .int (i - j)) := opI0 fun _ _ _ _ _ _ _ q => sub_int q
theorem op_mul : OpR X (binaryOp .Mult) (rI CMul fun i j => .int (i * j)) := opI fun _ _ _ _ _ _ _ hc q => mul_int q hc.ok
/-- // by a positive divisor -/
theorem op_fdiv : OpR X (binaryOp .FloorDiv) (rI CDiv fun i j => .int (i / j)) := opI fun i j _ _ _ _ _ hc q => by
  have h1 : (0 : Int) < j := hc.1
  have h2 : j < 1073741824 := hc.2
  exact floordiv_int (by omega) (by rw [Int.fdiv_eq_ediv_of_nonneg i (by omega)]; exact q) (.inl (PyProof.noPylong_small (by omega)))
theorem op_fdivN : OpR X (binaryOp .FloorDiv) (rI CDivN fun i j => .int (i.fdiv j)) := opI fun _ _ _ _ _ _ _ hc q => floordiv_int hc.1 q (.inl (PyProof.noPylong_small hc.2))
/-- % by a positive divisor of any size -/
theorem op_mod : OpR X (binaryOp .Mod) (rI (fun _ j => 0 < j) fun i j => .int (i % j)) := opI fun i j _ _ _ _ _ hc q => by
  have h1 : (0 : Int) < j := hc
  exact mod_int' (by omega) (by rw [Int.fmod_eq_emod_of_nonneg i (by omega)]; exact q)
theorem op_modN : OpR X (binaryOp .Mod) (rI (fun _ j => j ≠ 0) fun i j => .int (i.fmod j)) := opI fun _ _ _ _ _ _ _ hc q => mod_int' hc q
theorem op_pow : OpR X (binaryOp .Pow) (rI CPow fun i j => .int (i ^ j.toNat)) := opI fun _ _ _ _ _ _ _ hc q => pow_int_small hc.1 hc.2.1 hc.2.2 q
theorem op_shl : OpR X (binaryOp .LShift) (rI CPow fun i j => .int (i * 2 ^ j.toNat)) := opI fun _ _ _ _ _ _ _ hc q => lshift_int_small hc.1 hc.2.1 hc.2.2 q
theorem op_shr : OpR X (binaryOp .RShift) (rI (fun _ j => 0 ≤ j) fun i j => .int (i / 2 ^ j.toNat)) := opI fun i j _ _ _ _ _ hc q =>
  rshift_int hc (by rw [Int.fdiv_eq_ediv_of_nonneg i (two_pow_nn _)]; exact q)
theorem op_and : OpR X (binaryOp .BitAnd) (rI0 fun i j => .int (Builtin.bitAnd i j)) := opI0 fun _ _ _ _ _ _ _ q => and_int q
theorem op_or : OpR X (binaryOp .BitOr) (rI0 fun i j => .int (Builtin.bitOr i j)) := opI0 fun _ _ _ _ _ _ _ q => or_int q
theorem op_xor : OpR X (binaryOp .BitXor) (rI0 fun i j => .int (Builtin.bitXor i j)) := opI0 fun _ _ _ _ _ _ _ q => xor_int q

theorem iop_add : OpR X (inplaceOp .Add) (rI0 fun i j => .int (i + j)) := opI0 fun _ _ _ _ _ _ _ q => iadd_int q
theorem iop_sub : OpR X (inplaceOp .Sub) (rI0 fun i j => .int (i - j)) := opI0 fun _ _ _ _ _ _ _ q => isub_int q
theorem iop_mul : OpR X (inplaceOp .Mult) (rI CMul fun i j => .int (i * j)) := opI fun _ _ _ _ _ _ _ hc q => imul_int q hc.ok
theorem iop_fdiv : OpR X (inplaceOp .FloorDiv) (rI CDiv fun i j => .int (i / j)) := opI fun i j _ _ _ _ _ hc q => by
  have h1 : (0 : Int) < j := hc.1
  have h2 : j < 1073741824 := hc.2
  exact ifloordiv_int (by omega) (by rw [Int.fdiv_eq_ediv_of_nonneg i (by omega)]; exact q) (.inl (PyProof.noPylong_small (by omega)))
theorem iop_mod : OpR X (inplaceOp .Mod) (rI (fun _ j => 0 < j) fun i j => .int (i % j)) := opI fun i j _ _ _ _ _ hc q => by
  have h1 : (0 : Int) < j := hc
  exact imod_int (by omega) (by rw [Int.fmod_eq_emod_of_nonneg i (by omega)]; exact q)
theorem iop_shl : OpR X (inplaceOp .LShift) (rI CPow fun i j => .int (i * 2 ^ j.toNat)) := opI fun _ _ _ _ _ _ _ hc q => ilshift_int_small hc.1 hc.2.1 hc.2.2 q
theorem iop_shr : OpR X (inplaceOp .RShift) (rI (fun _ j => 0 ≤ j) fun i j => .int (i / 2 ^ j.toNat)) := opI fun i j _ _ _ _ _ hc q =>
  irshift_int hc (by rw [Int.fdiv_eq_ediv_of_nonneg i (two_pow_nn _)]; exact q)
theorem iop_and : OpR X (inplaceOp .BitAnd) (rI0 fun i j => .int (Builtin.bitAnd i j)) := opI0 fun _ _ _ _ _ _ _ q => iand_int q
theorem iop_or : OpR X (inplaceOp .BitOr) (rI0 fun i j => .int (Builtin.bitOr i j)) := opI0 fun _ _ _ _ _ _ _ q => ior_int q
theorem iop_xor : OpR X (inplaceOp .BitXor) (rI0 fun i j => .int (Builtin.bitXor i j)) := opI0 fun _ _ _ _ _ _ _ q => ixor_int q

theorem unI {f : Value → Sem Value} {g : Int → Int}
    (rule : ∀ (i : Int) (t : Tok) (s : Shared) (Q : Value → Shared → Prop) (E : Value → Shared → Prop), Q (.int (g i) s.toks) { s with toks := s.toks + 1 } → wpAny (model X.prog X.w) X.A (f (.int i t)) Q E s) :
    UnR X f (rU fun i => .int (g i)) := by
  intro pins s σ H x v Q I rx h
  obtain ⟨i, rfl, q⟩ := h
  obtain ⟨t, rfl⟩ := rx
  exact rule i t s _ _ ⟨.int (g i), H, I.tok _, ⟨_, rfl⟩, q⟩
theorem un_neg : UnR X (unaryOp .USub) (rU fun i => .int (-i)) := unI fun _ _ _ _ _ q => neg_int q
theorem un_inv : UnR X (unaryOp .Invert) (rU fun i => .int (Builtin.bitNot i)) := unI fun _ _ _ _ _ q => invert_int q

/-! ### bools among ints: n += (a < b) -/
theorem op_add_ib : OpR X (binaryOp .Add) (fun x y H Q => ∃ i k, x = .int i ∧ y = .bl k ∧ Q (.int (i + b2i k)) H) := by
  intro pins s σ H x y v u Q I rx ry h
  obtain ⟨i, k, rfl, rfl, q⟩ := h
  obtain ⟨t, rfl⟩ := rx
  cases ry
  exact add_int_bool ⟨.int (i + b2i k), H, I.tok _, ⟨_, rfl⟩, q⟩
end

/-! ### comparisons -/
/-- the scalars that == tells apart as data does -/
def scal : V → V → Bool
  | .non, .non => true | .non, .int _ => true | .int _, .non => true | .non, .bl _ => true | .bl _, .non => true | .non, .str _ => true | .str _, .non => true
  | .int _, .int _ => true | .bl _, .bl _ => true | .str _, .str _ => true | .byt _, .byt _ => true
  | .int _, .str _ => true | .str _, .int _ => true | .bl _, .str _ => true | .str _, .bl _ => true
  | _, _ => false
def rEq : R2 := fun x y H Q => scal x y = true ∧ Q (.bl (decide (x = y))) H
def rNe : R2 := fun x y H Q => scal x y = true ∧ Q (.bl (!decide (x = y))) H

theorem dec_int {i j : Int} : decide (V.int i = V.int j) = (i == j) := by
  rw [Bool.eq_iff_iff]
  simp
theorem dec_bl {i j : Bool} : decide (V.bl i = V.bl j) = (i == j) := by
  rw [Bool.eq_iff_iff]
  simp
theorem dec_str {i j : Str} : decide (V.str i = V.str j) = (i == j) := by
  rw [Bool.eq_iff_iff]
  simp
theorem dec_byt {i j : Array UInt8} : decide (V.byt i = V.byt j) = (i.toList == j.toList) := by
  rw [Bool.eq_iff_iff]
  cases i
  cases j
  simp

section
variable {X : Cx} {a b c : Expr} {ta tb tc : TE} {pos : Pos}
theorem fin_bl {pins : List (Addr × Obj)} {σ : St} {H : Hp} {s : Shared} {Q : VK} {k k' : Bool} (I : Inv X pins σ H s) (q : Q (.bl k) H) (e : k = k') : EP X pins σ Q (.bool k') s := by
  subst e
  exact ⟨.bl k, H, I, rfl, q⟩
theorem op_eq : OpR X (compareOp .Eq) rEq := by
  intro pins s σ H x y v u Q I rx ry h
  obtain ⟨hs, q⟩ := h
  cases x with
  | non =>
    cases rx
    cases y with
    | non => cases ry; exact PySem.EqNone.eq_none_none (fin_bl I q (by simp))
    | bl j => cases ry; exact PySem.EqNone.eq_none_bool (fin_bl I q (by simp))
    | int j => obtain ⟨t', rfl⟩ := ry; exact PySem.EqNone.eq_none_int (fin_bl I q (by simp))
    | str j => obtain ⟨t', rfl⟩ := ry; exact PySem.EqNone.eq_none_str (fin_bl I q (by simp))
    | _ => exact absurd (show false = true from hs) Bool.false_ne_true
  | bl i =>
    cases rx
    cases y with
    | non => cases ry; exact PySem.EqNone.eq_bool_none (fin_bl I q (by simp))
    | bl j => cases ry; exact eq_bool (fin_bl I q dec_bl)
    | str j => obtain ⟨t', rfl⟩ := ry; exact PySem.EqMixed.eq_bool_str (fin_bl I q (by simp))
    | _ => exact absurd (show false = true from hs) Bool.false_ne_true
  | int i =>
    obtain ⟨t, rfl⟩ := rx
    cases y with
    | non => cases ry; exact PySem.EqNone.eq_int_none (fin_bl I q (by simp))
    | int j => obtain ⟨t', rfl⟩ := ry; exact eq_int (fin_bl I q dec_int)
    | str j => obtain ⟨t', rfl⟩ := ry; exact PySem.EqMixed.eq_int_str (fin_bl I q (by simp))
    | _ => exact absurd (show false = true from hs) Bool.false_ne_true
  | str i =>
    obtain ⟨t, rfl⟩ := rx
    cases y with
    | non => cases ry; exact PySem.EqNone.eq_str_none (fin_bl I q (by simp))
    | bl j => cases ry; exact PySem.EqMixed.eq_str_bool (fin_bl I q (by simp))
    | int j => obtain ⟨t', rfl⟩ := ry; exact PySem.EqMixed.eq_str_int (fin_bl I q (by simp))
    | str j => obtain ⟨t', rfl⟩ := ry; exact eq_str (fin_bl I q dec_str)
    | _ => exact absurd (show false = true from hs) Bool.false_ne_true
  | byt i =>
    obtain ⟨t, rfl⟩ := rx
    cases y with
    | byt j => obtain ⟨t', rfl⟩ := ry; exact PySem.W.eq_bytes (fin_bl I q dec_byt)
    | _ => exact absurd (show false = true from hs) Bool.false_ne_true
  | _ => cases y <;> exact absurd (show false = true from hs) Bool.false_ne_true
theorem op_ne : OpR X (compareOp .NotEq) rNe := by
  intro pins s σ H x y v u Q I rx ry h
  obtain ⟨hs, q⟩ := h
  cases x with
  | non =>
    cases rx
    cases y with
    | non => cases ry; exact PySem.EqNone.ne_none_none (fin_bl I q (by simp))
    | bl j => cases ry; exact PySem.EqNone.ne_none_bool (fin_bl I q (by simp))
    | int j => obtain ⟨t', rfl⟩ := ry; exact PySem.EqNone.ne_none_int (fin_bl I q (by simp))
    | str j => obtain ⟨t', rfl⟩ := ry; exact PySem.EqNone.ne_none_str (fin_bl I q (by simp))
    | _ => exact absurd (show false = true from hs) Bool.false_ne_true
  | bl i =>
    cases rx
    cases y with
    | non => cases ry; exact PySem.EqNone.ne_bool_none (fin_bl I q (by simp))
    | bl j => cases ry; exact ne_bool (fin_bl I q (congrArg not dec_bl))
    | str j => obtain ⟨t', rfl⟩ := ry; exact PySem.EqMixed.ne_bool_str (fin_bl I q (by simp))
    | _ => exact absurd (show false = true from hs) Bool.false_ne_true
  | int i =>
    obtain ⟨t, rfl⟩ := rx
    cases y with
    | non => cases ry; exact PySem.EqNone.ne_int_none (fin_bl I q (by simp))
    | int j => obtain ⟨t', rfl⟩ := ry; exact ne_int (fin_bl I q (congrArg not dec_int))
    | str j => obtain ⟨t', rfl⟩ := ry; exact PySem.EqMixed.ne_int_str (fin_bl I q (by simp))
    | _ => exact absurd (show false = true from hs) Bool.false_ne_true
  | str i =>
    obtain ⟨t, rfl⟩ := rx
    cases y with
    | non => cases ry; exact PySem.EqNone.ne_str_none (fin_bl I q (by simp))
    | bl j => cases ry; exact PySem.EqMixed.ne_str_bool (fin_bl I q (by simp))
    | int j => obtain ⟨t', rfl⟩ := ry; exact PySem.EqMixed.ne_str_int (fin_bl I q (by simp))
    | str j => obtain ⟨t', rfl⟩ := ry; exact ne_str (fin_bl I q (congrArg not dec_str))
    | _ => exact absurd (show false = true from hs) Bool.false_ne_true
  | byt i =>
    obtain ⟨t, rfl⟩ := rx
    cases y with
    | byt j => obtain ⟨t', rfl⟩ := ry; exact PySem.W.ne_bytes (fin_bl I q (congrArg not dec_byt))
    | _ => exact absurd (show false = true from hs) Bool.false_ne_true
  | _ => cases y <;> exact absurd (show false = true from hs) Bool.false_ne_true

theorem op_lt : OpR X (compareOp .Lt) (rI0 fun i j => .bl (decide (i < j))) := opB0 fun _ _ _ _ _ _ _ q => lt_int q
theorem op_le : OpR X (compareOp .LtE) (rI0 fun i j => .bl (decide (i ≤ j))) := opB0 fun _ _ _ _ _ _ _ q => le_int q
theorem op_gt : OpR X (compareOp .Gt) (rI0 fun i j => .bl (decide (j < i))) := opB0 fun _ _ _ _ _ _ _ q => gt_int q
theorem op_ge : OpR X (compareOp .GtE) (rI0 fun i j => .bl (decide (j ≤ i))) := opB0 fun _ _ _ _ _ _ _ q => ge_int q
theorem op_lt_str : OpR X (compareOp .Lt) (fun x y H Q => ∃ i j, x = .str i ∧ y = .str j ∧ Q (.bl (decide (i.cps.toList < j.cps.toList))) H) := by
  intro pins s σ H x y v u Q I rx ry h
  obtain ⟨i, j, rfl, rfl, q⟩ := h
  obtain ⟨t, rfl⟩ := rx
  obtain ⟨t', rfl⟩ := ry
  exact lt_str (fin_bl I q rfl)
/-- the one string within the other -/
theorem op_in_str : OpR X (compareOp .In) (fun x y H Q => ∃ i j, x = .str i ∧ y = .str j ∧ Q (.bl (!(Builtin.Str.occurrences j i 0 j.length 1).isEmpty)) H) := by
  intro pins s σ H x y v u Q I rx ry h
  obtain ⟨i, j, rfl, rfl, q⟩ := h
  obtain ⟨t, rfl⟩ := rx
  obtain ⟨t', rfl⟩ := ry
  exact in_str (fin_bl I q rfl)

/-- is None, is not None: the right side a value none -/
theorem op_isN : OpR X (compareOp .Is) (fun x y H Q => y = .non ∧ Q (.bl (decide (x = .non))) H) := by
  intro pins s σ H x y v u Q I rx ry h
  obtain ⟨rfl, q⟩ := h
  cases ry
  refine is_none_gen (fin_bl I q ?_)
  cases x <;> first
    | (cases rx; rfl)
    | (obtain ⟨t, rfl⟩ := rx; rfl)
theorem op_notN : OpR X (compareOp .IsNot) (fun x y H Q => y = .non ∧ Q (.bl (!decide (x = .non))) H) := by
  intro pins s σ H x y v u Q I rx ry h
  obtain ⟨rfl, q⟩ := h
  cases ry
  refine isnot_none_gen (fin_bl I q ?_)
  cases x <;> first
    | (cases rx; rfl)
    | (obtain ⟨t, rfl⟩ := rx; rfl)

theorem op_notin_str : OpR X (compareOp .NotIn) (fun x y H Q => ∃ i j, x = .str i ∧ y = .str j ∧ Q (.bl (!(!(Builtin.Str.occurrences j i 0 j.length 1).isEmpty))) H) := by
  intro pins s σ H x y v u Q I rx ry h
  obtain ⟨i, j, rfl, rfl, q⟩ := h
  obtain ⟨t, rfl⟩ := rx
  obtain ⟨t', rfl⟩ := ry
  exact notIn_str (fin_bl I q rfl)
/-- is, is not of two objects that are tracked lists or instances -/
def isObj : HO → Bool
  | .lst _ => true
  | .ins _ _ _ => true
  | _ => false
theorem obj_there {pins : List (Addr × Obj)} {s : Shared} {σ : St} {H : Hp} {a : Addr} {o : HO} (I : Inv X pins σ H s) (h : H a = some o) (p : isObj o = true) : ∃ ob, s.heap.get? a = some ob ∧ ob.cls ≠ .type "tuple" := by
  cases o with
  | lst xs =>
    obtain ⟨_, its, n, _, e⟩ : xs.length ≤ sizeLine ∧ ∃ (its : List Value) (n : Nat), Vals xs its ∧ s.heap.get? a = some { cls := .type "list", data := .seq its.toArray n } := I.hok a _ h
    exact ⟨_, e, (by show Value.type "list" ≠ .type "tuple"; decide +kernel)⟩
  | ins C dx fs =>
    have x := I.hok a _ h
    obtain ⟨_, _, _, e, _⟩ := x
    exact ⟨_, e, (by show Value.ref C ≠ .type "tuple"; exact fun z => by cases z)⟩
  | _ => exact absurd (show false = true from p) Bool.false_ne_true
theorem op_is_ref : OpR X (compareOp .Is) (fun x y H Q => ∃ a b oa ob, x = .ref a ∧ y = .ref b ∧ H a = some oa ∧ isObj oa = true ∧ H b = some ob ∧ isObj ob = true ∧ Q (.bl (decide (a = b))) H) := by
  intro pins s σ H x y v u Q I rx ry h
  obtain ⟨a, b, oa, ob, rfl, rfl, ha, pa, hb, pb, q⟩ := h
  cases rx
  cases ry
  obtain ⟨o1, e1, n1⟩ := obj_there I ha pa
  obtain ⟨o2, e2, _⟩ := obj_there I hb pb
  by_cases z : a = b
  · subst z
    exact wpAny_is_ref_self (fin_bl I q (by simp))
  · exact wpAny_is_ref_other z e1 e2 n1 (fin_bl I q (by simp [z]))
theorem op_isnot_ref : OpR X (compareOp .IsNot) (fun x y H Q => ∃ a b oa ob, x = .ref a ∧ y = .ref b ∧ H a = some oa ∧ isObj oa = true ∧ H b = some ob ∧ isObj ob = true ∧ Q (.bl (!decide (a = b))) H) := by
  intro pins s σ H x y v u Q I rx ry h
  obtain ⟨a, b, oa, ob, rfl, rfl, ha, pa, hb, pb, q⟩ := h
  cases rx
  cases ry
  obtain ⟨o1, e1, n1⟩ := obj_there I ha pa
  obtain ⟨o2, e2, _⟩ := obj_there I hb pb
  by_cases z : a = b
  · subst z
    exact wpAny_isNot_ref_self (fin_bl I q (by simp))
  · exact wpAny_isNot_ref_other z e1 e2 n1 (fin_bl I q (by simp [z]))

/-- two rules for one operation: by cases -/
theorem OpR.or {f : Value → Value → Sem Value} {r r' : R2} (h : OpR X f r) (h' : OpR X f r') : OpR X f (fun x y H Q => r x y H Q ∨ r' x y H Q) := by
  intro pins s σ H x y v u Q I rx ry q
  rcases q with q | q
  · exact h pins s σ H x y v u Q I rx ry q
  · exact h' pins s σ H x y v u Q I rx ry q

theorem nomark (b : Expr) {op : CmpOp} (h : op ≠ .In := by decide) (h2 : op ≠ .NotIn := by decide) : behindInMarks op b = false := by
  have e1 : (op == CmpOp.In) = false := by cases op <;> first | rfl | exact absurd rfl h
  have e2 : (op == CmpOp.NotIn) = false := by cases op <;> first | rfl | exact absurd rfl h2
  cases b <;> simp [behindInMarks, e1, e2]
/-- a comparison as a value; hm: nomark b, or (for in, not in) by with_unfolding_all rfl -/
theorem pe_cmpR {op : CmpOp} {r : R2} (ho : OpR X (compareOp op) r) (ha : PE X a ta) (hb : PE X b tb) (hm : behindInMarks op b = false) : PE X (.Compare a [op] [b] pos) (tOp r ta tb) := by
  intro pins s σ H Q I h
  exact wpAny_Compare1 (binT ha hb I h fun v u s2 x y H2 I2 rx ry q => ho pins s2 σ H2 x y v u Q I2 rx ry q) hm
/-- a reading of a value as a test -/
def tTest (t : TE) : TT := fun σ H Q => t σ H fun x H' => ∃ k, x = .bl k ∧ Q k H'
theorem pt_cmpR {op : CmpOp} {r : R2} (ho : OpR X (compareOp op) r) (ha : PE X a ta) (hb : PE X b tb) (hm : behindInMarks op b = false) : PT X (.Compare a [op] [b] pos) (tTest (tOp r ta tb)) := by
  intro pins s σ H Q I h
  refine wpAny_isTrue_Compare1 (thn (ha pins s σ H _ I h) fun v s1 ⟨x, H1, I1, r1, q1⟩ => thn (hb pins s1 σ H1 _ I1 q1) fun u s2 ⟨y, H2, I2, r2, q2⟩ =>
    thn (ho pins s2 σ H2 x y v u _ I2 r1 r2 q2) fun c s3 ⟨z, H3, I3, r3, k, e, q3⟩ => ?_) hm
  subst e
  cases r3
  exact wpAny_truthy_bool ⟨H3, I3, q3⟩
/-- a op1 b op2 c -/
def tChain (r r' : R2) (ta tb tc : TE) : TE := fun σ H Q => ta σ H fun x H1 => tb σ H1 fun y H2 => r x y H2 fun z H3 => ∃ k, z = .bl k ∧
  (if k = true then tc σ H3 fun w' H4 => r' y w' H4 Q else Q (.bl false) H3)
theorem pe_chain {op op' : CmpOp} {r r' : R2} (ho : OpR X (compareOp op) r) (ho' : OpR X (compareOp op') r') (ha : PE X a ta) (hb : PE X b tb) (hc : PE X c tc)
    (hm : lastMarks [op, op'] [b, c] = false := by with_unfolding_all rfl) : PE X (.Compare a [op, op'] [b, c] pos) (tChain r r' ta tb tc) := by
  intro pins s σ H Q I h
  refine Compare_chain (thn (ha pins s σ H _ I h) fun v s1 ⟨x, H1, I1, r1, q1⟩ => chain_link (thn (hb pins s1 σ H1 _ I1 q1) fun u s2 ⟨y, H2, I2, r2, q2⟩ =>
    thn (ho pins s2 σ H2 x y v u _ I2 r1 r2 q2) fun d s3 ⟨z, H3, I3, r3, k, e, q3⟩ => ?_)) hm
  subst e
  cases r3
  refine wpAny_truthy_bool ?_
  cases k with
  | false => exact ite_ff ⟨.bl false, H3, I3, rfl, q3⟩
  | true => exact ite_tt (chain_last (thn (hc pins s3 σ H3 _ I3 q3) fun w' s4 ⟨z', H4, I4, r4, q4⟩ => ho' pins s4 σ H4 y z' u w' Q I4 r2 r4 q4))
theorem pt_chain {op op' : CmpOp} {r r' : R2} (ho : OpR X (compareOp op) r) (ho' : OpR X (compareOp op') r') (ha : PE X a ta) (hb : PE X b tb) (hc : PE X c tc)
    (hm : lastMarks [op, op'] [b, c] = false := by with_unfolding_all rfl) : PT X (.Compare a [op, op'] [b, c] pos) (tTest (tChain r r' ta tb tc)) := by
  intro pins s σ H Q I h
  refine isTrue_chain (thn (ha pins s σ H _ I h) fun v s1 ⟨x, H1, I1, r1, q1⟩ => test_link (thn (hb pins s1 σ H1 _ I1 q1) fun u s2 ⟨y, H2, I2, r2, q2⟩ =>
    thn (ho pins s2 σ H2 x y v u _ I2 r1 r2 q2) fun d s3 ⟨z, H3, I3, r3, k, e, q3⟩ => ?_)) hm
  subst e
  cases r3
  refine wpAny_truthy_bool ?_
  cases k with
  | false =>
    obtain ⟨k', e', q'⟩ := q3
    cases e'
    exact ite_ff ⟨H3, I3, q'⟩
  | true =>
    refine ite_tt (test_last (thn (hc pins s3 σ H3 _ I3 q3) fun w' s4 ⟨z', H4, I4, r4, q4⟩ => thn (ho' pins s4 σ H4 y z' u w' _ I4 r2 r4 q4) fun d' s5 ⟨z2, H5, I5, r5, k2, e2, q5⟩ => ?_))
    subst e2
    cases r5
    exact wpAny_truthy_bool ⟨H5, I5, q5⟩

/-! ### truth -/
/-- a value's truth by the abstract heap -/
def TruV (K : PySem.W.Frag) (x : V) (H : Hp) (k : Bool) : Prop :=
  match x with
  | .non => k = false
  | .bl b => k = b
  | .int i => k = (i != 0)
  | .str y => y.length ≤ sizeLine ∧ k = ((y.length : Int) != 0)
  | .byt y => y.size ≤ sizeLine ∧ k = ((y.size : Int) != 0)
  | .ref p => (∃ xs, SqL K H p xs ∧ k = !xs.isEmpty) ∨ (∃ xs, SqT K H p xs ∧ k = !xs.isEmpty) ∨ ∃ kvs, H p = some (.dK kvs) ∧ k = !kvs.isEmpty
  | _ => False
theorem isEmpty_kv {κ : Type} {kvs : List (κ × V)} {vs : List (κ × Value)} (r : KV kvs vs) : (!vs.isEmpty) = !kvs.isEmpty := by
  cases r <;> rfl
theorem isEmpty_of {xs : List V} {its : List Value} (r : Vals xs its) : (!its.toArray.isEmpty) = !xs.isEmpty := by
  cases r <;> simp
theorem line63 : (sizeLine : Nat) < 2 ^ 63 := by rw [sizeLine_eq]; decide
theorem tru_ok : TruR X (fun x H Q => ∃ k, TruV X.K x H k ∧ Q k H) := by
  intro pins s σ H x v Q I rx h
  obtain ⟨k, e, q⟩ := h
  have hl := line63
  have hs : sizeLine = 16777216 := sizeLine_eq
  cases x with
  | non =>
    cases rx
    have e' : k = false := e
    subst e'
    exact truthy_none ⟨H, I, q⟩
  | bl b =>
    cases rx
    have e' : k = b := e
    subst e'
    exact wpAny_truthy_bool ⟨H, I, q⟩
  | int i =>
    obtain ⟨t, rfl⟩ := rx
    have e' : k = (i != 0) := e
    subst e'
    exact PySem.P.truthy_int ⟨H, I, q⟩
  | str y =>
    obtain ⟨t, rfl⟩ := rx
    obtain ⟨hy, e'⟩ : y.length ≤ sizeLine ∧ k = ((y.length : Int) != 0) := e
    subst e'
    exact PySem.P.truthy_str (by omega) ⟨H, I.tok _, q⟩
  | byt y =>
    obtain ⟨t, rfl⟩ := rx
    obtain ⟨hy, e'⟩ : y.size ≤ sizeLine ∧ k = ((y.size : Int) != 0) := e
    subst e'
    exact PySem.W.truthy_bytes (by omega) ⟨H, I.tok _, q⟩
  | ref p =>
    cases rx
    have e' : (∃ xs, SqL X.K H p xs ∧ k = !xs.isEmpty) ∨ (∃ xs, SqT X.K H p xs ∧ k = !xs.isEmpty) ∨ ∃ kvs, H p = some (.dK kvs) ∧ k = !kvs.isEmpty := e
    rcases e' with ⟨xs, hx, e'⟩ | ⟨xs, hx, e'⟩ | ⟨kvs, hx, e'⟩
    · subst e'
      obtain ⟨its, r, pl, hz⟩ := I.list hx
      have hlen := r.length
      exact wpAny_truthy_list pl.isList (by simp only [List.size_toArray]; omega) ⟨H, I.tok _, by rw [isEmpty_of r]; exact q⟩
    · subst e'
      obtain ⟨its, r, pl, hz⟩ := I.tuple hx
      have hlen := r.length
      exact truthy_tuple pl (by simp only [List.size_toArray]; omega) ⟨H, I.tok _, by rw [isEmpty_of r]; exact q⟩
    · subst e'
      obtain ⟨hz, hS, vs, r, m⟩ : kvs.length ≤ sizeLine ∧ (p == sysModules) = false ∧ ∃ vs, KV kvs vs ∧ s.heap.DictOf (mixKind X.prog X.w) p vs := I.hok p _ hx
      have hlen : kvs.length = vs.length := Paired.length r
      exact wpAny_truthy_dict hS m (by omega) ⟨H, I.tok _, by rw [isEmpty_kv r]; exact q⟩
  | _ => exact (show False from e).elim
/-- any expression whose test is its value's truth (a name, a call, a subscript, a field ..: he by fun _ => rfl) -/
theorem pt_truth (ha : PE X a ta) (he : ∀ whole, isTrue a X.env whole = (do let v ← whole; standAt a.pos; holding [v] (truthy v))) :
    PT X a (fun σ H Q => ta σ H fun x H' => ∃ k, TruV X.K x H' k ∧ Q k H') := by
  intro pins s σ H Q I h
  exact isTrue_plain (thn (ha pins s σ H _ I h) fun v s1 ⟨x, H1, I1, r1, q1⟩ => tru_ok pins s1 σ H1 x v Q I1 r1 q1) (he _)

/-! ### strs and bytes -/
theorem pe_byt {x : List UInt8} {k : Nat} : PE X (.Constant (.bytes x) k pos) (fun _ H Q => Q (.byt x.toArray) H) := fun _ _ _ H _ I h => PySem.W.Constant_bytes ⟨.byt x.toArray, H, I.tok _, ⟨_, rfl⟩, h⟩
theorem op_add_str : OpR X (binaryOp .Add) (fun x y H Q => ∃ i j, x = .str i ∧ y = .str j ∧ i.length + j.length ≤ sizeLine ∧ Q (.str (i ++ j)) H) := by
  intro pins s σ H x y v u Q I rx ry h
  obtain ⟨i, j, rfl, rfl, hz, q⟩ := h
  obtain ⟨t, rfl⟩ := rx
  obtain ⟨t', rfl⟩ := ry
  exact add_str (fun t' tk => ⟨.str (i ++ j), H, I.tok _, ⟨_, rfl⟩, q⟩) hz
theorem iop_add_str : OpR X (inplaceOp .Add) (fun x y H Q => ∃ i j, x = .str i ∧ y = .str j ∧ i.length + j.length ≤ sizeLine ∧ Q (.str (i ++ j)) H) := by
  intro pins s σ H x y v u Q I rx ry h
  obtain ⟨i, j, rfl, rfl, hz, q⟩ := h
  obtain ⟨t, rfl⟩ := rx
  obtain ⟨t', rfl⟩ := ry
  exact iadd_str (fun t' tk => ⟨.str (i ++ j), H, I.tok _, ⟨_, rfl⟩, q⟩) hz
theorem op_add_byt : OpR X (binaryOp .Add) (fun x y H Q => ∃ i j, x = .byt i ∧ y = .byt j ∧ i.size + j.size ≤ 16777216 ∧ Q (.byt (i ++ j)) H) := by
  intro pins s σ H x y v u Q I rx ry h
  obtain ⟨i, j, rfl, rfl, hz, q⟩ := h
  obtain ⟨t, rfl⟩ := rx
  obtain ⟨t', rfl⟩ := ry
  exact PySem.W.KBy.add_bytes hz (fun t' tk => ⟨.byt (i ++ j), H, I.tok _, ⟨_, rfl⟩, q⟩)

def PlainIxT (b : Expr) : Prop := ∀ o i, subscripted b false o i = operate [o, i] (getItem o i)
/-- s[i], 0 ≤ i < len -/
theorem pe_item_str (ha : PE X a ta) (hb : PE X b tb) (hs : PlainIxT b) :
    PE X (.Subscript a b pos) (tOp (fun x y H Q => ∃ z i c, x = .str z ∧ y = .int i ∧ 0 ≤ i ∧ i < 2 ^ 63 ∧ i < z.length ∧ z.cps[i.toNat]? = some c ∧ Q (.str ⟨#[c]⟩) H) ta tb) := by
  intro pins s σ H Q I h
  refine Subscript_ (binT ha hb I h fun v u s2 x y H2 I2 rx ry q => ?_)
  obtain ⟨z, i, c, rfl, rfl, h0, h63, h1, hc, q⟩ := q
  obtain ⟨t, rfl⟩ := rx
  obtain ⟨t', rfl⟩ := ry
  have e : seqIndex? i z.length = some i.toNat := PySem.StrLaws.seqIndex_nonneg h0 h1
  exact tail_any (typeIs_str s2 z t) slot_str_getitem.lookup (getItem_str (c := c) (by
    have e1 : decide (i < -(2 ^ 63 : Int)) = false := decide_eq_false (by omega)
    have e2 : decide (i ≥ 2 ^ 63) = false := decide_eq_false (by omega)
    rw [e1, e2] <;> rfl) (by rw [e]; exact hc) ⟨.str ⟨#[c]⟩, H2, I2.tok _, ⟨_, rfl⟩, q⟩) (hs _ _)
/-- b[i], 0 ≤ i < len -/
theorem pe_item_byt (ha : PE X a ta) (hb : PE X b tb) (hs : PlainIxT b) :
    PE X (.Subscript a b pos) (tOp (fun x y H Q => ∃ (z : List UInt8) (i : Int), x = .byt z.toArray ∧ y = .int i ∧ z.length ≤ sizeLine ∧ 0 ≤ i ∧ i < z.length ∧ Q (.int ((z.getD i.toNat 0).toNat : Nat)) H) ta tb) := by
  intro pins s σ H Q I h
  refine Subscript_ (binT ha hb I h fun v u s2 x y H2 I2 rx ry q => ?_)
  obtain ⟨z, i, rfl, rfl, hz, h0, h1, q⟩ := q
  obtain ⟨t, rfl⟩ := rx
  obtain ⟨t', rfl⟩ := ry
  have hl : sizeLine = 16777216 := sizeLine_eq
  exact tail_any (PySem.W.typeIs_bytes s2 z.toArray t) PySem.W.FB.slot_bytes_getitem.lookup (PySem.W.getItem_bytes (by omega) h0 h1 ⟨.int ((z.getD i.toNat 0).toNat : Nat), H2, I2.tok _, ⟨_, rfl⟩, q⟩) (hs _ _)

/-! ### scalar builtins, by CallR -/
theorem vals1 {x : V} {us : List Value} (r : Vals [x] us) : ∃ u, us = [u] ∧ RelV x u := by
  cases r with
  | cons r1 r2 => cases r2; exact ⟨_, rfl, r1⟩
theorem vals2 {x y : V} {us : List Value} (r : Vals [x, y] us) : ∃ u w', us = [u, w'] ∧ RelV x u ∧ RelV y w' := by
  cases r with
  | cons r1 r2 =>
    cases r2 with
    | cons r3 r4 => cases r4; exact ⟨_, _, rfl, r1, r3⟩
theorem call_abs : CallR X (.builtin "abs") (fun xs H Q => ∃ i, xs = [.int i] ∧ Q (.int (if i < 0 then -i else i)) H) := by
  intro pins s σ H xs us Q I r h
  obtain ⟨i, rfl, q⟩ := h
  obtain ⟨u, rfl, t, rfl⟩ := vals1 r
  exact call_abs_int fun u tk => ⟨.int (if i < 0 then -i else i), H, I.tok _, ⟨_, rfl⟩, q⟩
theorem call_max2 (hc : X.calm = true) : CallR X (.builtin "max") (fun xs H Q => ∃ i j, xs = [.int i, .int j] ∧ Q (.int (if j > i then j else i)) H) := by
  intro pins s σ H xs us Q I r h
  obtain ⟨i, j, rfl, q⟩ := h
  obtain ⟨u, w', rfl, ⟨t, rfl⟩, ⟨t', rfl⟩⟩ := vals2 r
  refine max_two_ints (I.ok.hd hc) fun h' tk k => ⟨_, H, I.kept k, ?_, q⟩
  by_cases hj : j > i
  · rw [if_pos hj, if_pos hj]; exact ⟨_, rfl⟩
  · rw [if_neg hj, if_neg hj]; exact ⟨_, rfl⟩
theorem call_min2 (hc : X.calm = true) : CallR X (.builtin "min") (fun xs H Q => ∃ i j, xs = [.int i, .int j] ∧ Q (.int (if j < i then j else i)) H) := by
  intro pins s σ H xs us Q I r h
  obtain ⟨i, j, rfl, q⟩ := h
  obtain ⟨u, w', rfl, ⟨t, rfl⟩, ⟨t', rfl⟩⟩ := vals2 r
  refine min_two_ints (I.ok.hd hc) fun h' tk k => ⟨_, H, I.kept k, ?_, q⟩
  by_cases hj : j < i
  · rw [if_pos hj, if_pos hj]; exact ⟨_, rfl⟩
  · rw [if_neg hj, if_neg hj]; exact ⟨_, rfl⟩
theorem call_int1 : CallR X (.type "int") (fun xs H Q => (∃ i, xs = [.int i] ∧ Q (.int i) H) ∨ ∃ k, xs = [.bl k] ∧ Q (.int (if k then 1 else 0)) H) := by
  intro pins s σ H xs us Q I r h
  rcases h with ⟨i, rfl, q⟩ | ⟨k, rfl, q⟩
  · obtain ⟨u, rfl, t, rfl⟩ := vals1 r
    exact call_int_int ⟨.int i, H, I, ⟨_, rfl⟩, q⟩
  · obtain ⟨u, rfl, r1⟩ := vals1 r
    cases r1
    exact call_int_bool ⟨.int (if k then 1 else 0), H, I.tok _, ⟨_, rfl⟩, q⟩
theorem call_bool1 : CallR X (.type "bool") (fun xs H Q => (∃ i, xs = [.int i] ∧ Q (.bl (i != 0)) H) ∨ ∃ k, xs = [.bl k] ∧ Q (.bl k) H) := by
  intro pins s σ H xs us Q I r h
  rcases h with ⟨i, rfl, q⟩ | ⟨k, rfl, q⟩
  · obtain ⟨u, rfl, t, rfl⟩ := vals1 r
    exact call_bool_int ⟨.bl (i != 0), H, I, rfl, q⟩
  · obtain ⟨u, rfl, r1⟩ := vals1 r
    cases r1
    exact call_bool_bool ⟨.bl k, H, I, rfl, q⟩
theorem call_str_int : CallR X (.type "str") (fun xs H Q => ∃ i, xs = [.int i] ∧ i.natAbs.log2 < 1920 ∧ Q (.str (toString i)) H) := by
  intro pins s σ H xs us Q I r h
  obtain ⟨i, rfl, hz, q⟩ := h
  obtain ⟨u, rfl, t, rfl⟩ := vals1 r
  exact PySem.P.str_of_int hz ⟨.str _, H, I.tok _, ⟨_, rfl⟩, q⟩
theorem call_ord : CallR X (.builtin "ord") (fun xs H Q => ∃ x, xs = [.str x] ∧ x.length = 1 ∧ Q (.int (x.cps.getD 0 0 : Nat)) H) := by
  intro pins s σ H xs us Q I r h
  obtain ⟨x, rfl, hz, q⟩ := h
  obtain ⟨u, rfl, t, rfl⟩ := vals1 r
  exact ord_of_one hz ⟨.int _, H, I.tok _, ⟨_, rfl⟩, q⟩
theorem call_chr : CallR X (.builtin "chr") (fun xs H Q => ∃ i, xs = [.int i] ∧ 0 ≤ i ∧ i ≤ 1114111 ∧ Q (.str ⟨#[i.toNat]⟩) H) := by
  intro pins s σ H xs us Q I r h
  obtain ⟨i, rfl, h0, h1, q⟩ := h
  obtain ⟨u, rfl, t, rfl⟩ := vals1 r
  exact chr_of_range h0 h1 ⟨.str _, H, I.tok _, ⟨_, rfl⟩, q⟩
/-- len of a str, a bytes, a list, a tuple -/
def LenV (K : PySem.W.Frag) (x : V) (H : Hp) (n : Nat) : Prop :=
  match x with
  | .str y => y.length ≤ sizeLine ∧ n = y.length
  | .byt y => y.size ≤ sizeLine ∧ n = y.size
  | .ref p => (∃ xs, SqL K H p xs ∧ n = xs.length) ∨ ∃ xs, SqT K H p xs ∧ n = xs.length
  | _ => False
theorem call_len : CallR X (.builtin "len") (fun xs H Q => ∃ x n, xs = [x] ∧ LenV X.K x H n ∧ Q (.int n) H) := by
  intro pins s σ H xs us Q I r h
  obtain ⟨x, n, rfl, e, q⟩ := h
  obtain ⟨u, rfl, rx⟩ := vals1 r
  have hl := line63
  have hs : sizeLine = 16777216 := sizeLine_eq
  cases x with
  | str y =>
    obtain ⟨t, rfl⟩ := rx
    obtain ⟨hy, e'⟩ : y.length ≤ sizeLine ∧ n = y.length := e
    subst e'
    exact len_str (by omega) ⟨.int _, H, I.tok _, ⟨_, rfl⟩, q⟩
  | byt y =>
    obtain ⟨t, rfl⟩ := rx
    obtain ⟨hy, e'⟩ : y.size ≤ sizeLine ∧ n = y.size := e
    subst e'
    exact PySem.W.len_bytes (by omega) ⟨.int _, H, I.tok _, ⟨_, rfl⟩, q⟩
  | ref p =>
    cases rx
    have e' : (∃ xs, SqL X.K H p xs ∧ n = xs.length) ∨ ∃ xs, SqT X.K H p xs ∧ n = xs.length := e
    rcases e' with ⟨xs, hx, e'⟩ | ⟨xs, hx, e'⟩
    · subst e'
      obtain ⟨its, r', pl, hz⟩ := I.list hx
      have hlen := r'.length
      exact Calls.call_len_list pl.isList (by simp only [List.size_toArray]; omega) ⟨.int xs.length, H, I.tok _, ⟨_, by simp only [List.size_toArray]; rw [hlen]⟩, q⟩
    · subst e'
      obtain ⟨its, r', pl, hz⟩ := I.tuple hx
      have hlen := r'.length
      exact len_tuple pl (by simp only [List.size_toArray]; omega) ⟨.int xs.length, H, I.tok _, ⟨_, by simp only [List.size_toArray]; rw [hlen]⟩, q⟩
  | _ => exact (show False from e).elim
/-- divmod: a new tuple -/
theorem call_divmod : CallR X (.builtin "divmod") (fun xs H Q => ∃ i j, xs = [.int i, .int j] ∧ CDiv i j ∧ ∀ p, H p = none → Q (.ref p) (upd H p (.tup [.int (i / j), .int (i % j)]))) := by
  intro pins s σ H xs us Q I r h
  obtain ⟨i, j, rfl, ⟨h1, h2⟩, q⟩ := h
  obtain ⟨u, w', rfl, ⟨t, rfl⟩, ⟨t', rfl⟩⟩ := vals2 r
  refine divmod_int (by omega) ?_ (.inl (PyProof.noPylong_small (by omega)))
  rw [Int.fdiv_eq_ediv_of_nonneg i (by omega), Int.fmod_eq_emod_of_nonneg i (by omega)]
  have hn : H s.heap.objs.size = none := I.hok.fresh (Nat.le_refl _)
  refine ⟨.ref s.heap.objs.size, _, ?_, rfl, q _ hn⟩
  refine I.laid (fun b o e => Heap.get?_push_of_some _ e) (Nat.le_refl _) ⟨by simp only [List.length_cons, List.length_nil]; rw [sizeLine_eq]; decide, [.int (i / j) s.toks, .int (i % j) (s.toks + 1)], .cons ⟨_, rfl⟩ (.cons ⟨_, rfl⟩ .nil), ?_⟩
  exact ⟨_, Heap.get?_push_size s.heap rfl, rfl, 0, rfl⟩
end
end L2

namespace L2
open PySem PySem.Spec PyProof.Rows

/-! ### an instance, its attributes a map -/
structure ObjM (h : Heap) (x dx C : Addr) (mA : Str → Option Value) : Prop where
  obj : h.get? x = some (PySem.W.instObj C dx)
  ns : h.Ns1 dx mA
  ne : dx ≠ x

theorem lookIn_ns {h : Heap} {dx : Addr} {mA : Str → Option Value} (n : h.Ns1 dx mA) : ∃ od, h.get? dx = some od ∧ ∀ name, PySem.W.lookIn name od = some (mA name) := by
  obtain ⟨o, es, ep, ho, hd, hk, _, hm⟩ := n
  refine ⟨o, ho, fun name => ?_⟩
  have e := hm name
  unfold nsFind findBy at e
  rw [← Array.find?_toList] at e
  unfold PySem.W.lookIn
  rw [hd]
  dsimp only
  split
  · rename_i y q
    rw [q] at e
    exact congrArg some e
  · rename_i q
    rw [q] at e
    have a : es.toList.any (·.refKey) = false := by
      rw [List.any_eq_false]
      intro y hy
      obtain ⟨z, t, hkey⟩ := hk y (Array.mem_toList_iff.mp hy)
      simp [DictEntry.refKey, hkey]
    have a' : ¬ es.toList.any (·.refKey) = true := by rw [a]; exact Bool.false_ne_true
    rw [if_neg a']
    exact congrArg some e

theorem ObjM.look {h : Heap} {x dx C : Addr} {mA : Str → Option Value} (I : ObjM h x dx C mA) : ∃ od, PySem.W.InstAt h x (PySem.W.instObj C dx) C (some od) ∧ ∀ name, PySem.W.lookIn name od = some (mA name) :=
  let ⟨od, ho, hl⟩ := lookIn_ns I.ns
  ⟨od, ⟨I.obj, rfl, rfl, ho⟩, hl⟩

section
variable {prog : Program} {w : World} {A : Around} {E : Value → Shared → Prop} {s : Shared} {K : PySem.W.Frag} {x dx C f : Addr} {mA : Str → Option Value} {name : Str} {v : Value}

theorem get_map {expr : Bool} {Q : Value → Shared → Prop} (X : K.In s.heap) (I : ObjM s.heap x dx C mA) (hg : PySem.W.plainGet K C name = true) (hh : PySem.W.hasDictIn K C = true)
    (ha : PySem.W.findIn K (.ref C) name = some none) (hv : mA name = some v) (hv' : PySem.W.handedIn v = true) (h : Q v { s with toks := s.toks + 1 }) :
    wpAny (model prog w) A (getAttr (.ref x) name expr) Q E s := by
  obtain ⟨od, J, hl⟩ := I.look
  exact PySem.W.get_value X J (PySem.W.plainGet_of hg).1 (PySem.W.findObj_own hh ha rfl (by rw [hl, hv])) hv' h

theorem get_const {expr : Bool} {a : Value} {Q : Value → Shared → Prop} (X : K.In s.heap) (I : ObjM s.heap x dx C mA) (hg : PySem.W.plainGet K C name = true) (hh : PySem.W.hasDictIn K C = true)
    (ha : PySem.W.findIn K (.ref C) name = some (some a)) (hn : PySem.W.specialIn K a "__get__" = some none) (hc : PySem.W.copiedNames.contains name = false) (hv : mA name = none) (hv' : PySem.W.handedIn a = true)
    (h : Q a { s with toks := s.toks + 1 }) : wpAny (model prog w) A (getAttr (.ref x) name expr) Q E s := by
  obtain ⟨od, J, hl⟩ := I.look
  exact PySem.W.get_value X J (PySem.W.plainGet_of hg).1 (PySem.W.findObj_cls hh ha hn hv' hc (by rw [hl, hv])) hv' h

theorem get_meth {pl : Sem Bool} {Q : Value × List Value → Shared → Prop} (X : K.In s.heap) (I : ObjM s.heap x dx C mA) (hg : PySem.W.plainGet K C name = true)
    (hf : PySem.W.findIn K (.ref C) name = some (some (.ref f))) (ht : PySem.W.isFn K (.ref f) = true) (hv : mA name = none) (h : Q (.ref f, [.ref x]) s) :
    wpAny (model prog w) A (getMethod (.ref x) name pl) Q E s := by
  obtain ⟨od, J, hl⟩ := I.look
  exact PySem.W.method_fn X J (PySem.W.plainGet_of hg).1 (PySem.W.plainGet_of hg).2 hf (beq_iff_eq.mp ht) (by show (PySem.W.lookIn name od).map (·.isSome) = some false; rw [hl, hv]; rfl) h

theorem set_map {ns : List Str} {Q : Unit → Shared → Prop} (X : K.In s.heap) (I : ObjM s.heap x dx C mA)
    (hs : PySem.W.findIn K (.ref C) "__setattr__" = some (some (.builtin "object.__setattr__"))) (hp : PySem.W.plainOver K C = true) (ht : PySem.W.takerIn K C name = some none) (hh : PySem.W.hasDictIn K C = true)
    (hw : PySem.Within mA ns) (hsz : ns.length ≤ sizeLine)
    (h : ∀ h', ObjM h' x dx C (fun y => if y = name then some v else mA y) → Heap.SameBut dx s.heap h' → Q () { s with heap := h', toks := s.toks + 2 }) :
    wpAny (model prog w) A (setAttr (.ref x) name v) Q E s := by
  obtain ⟨od, J, hl⟩ := I.look
  refine PySem.W.set_plain X J hs (PySem.W.osa_open (s := { s with toks := s.toks + 1 }) (r := none) X J hp ht fun b => ?_)
  obtain ⟨cd, hc, hd'⟩ := PySem.W.any_some hh
  have hx : s.heap.get? x = some ⟨.ref C, some dx, .plain, #[]⟩ := I.obj
  refine wpAny_bind (wpAny_pure (wpAny_bind (wpAny_bind (wpAny_loadPart hx (wpAny_bind (PySem.W.Looks.here (s := { s with toks := s.toks + 1 }) (PySem.W.looks_clsIn X hc) ?_))))))
  rw [hd']
  refine wpAny_pure (a := some dx) (wpAny_bind (wpAny_pure (wpAny_bind ?_)))
  refine wpAny_nsSet1 (s := { s with toks := s.toks + 1 }) I.ns fun h' hn2 hs2 => ?_
  obtain ⟨oD, esD, epD, hoD, hdD, hcD⟩ := hn2.count (PySem.Within.cons name v hw)
  refine wpAny_bind (wpAny_lookBehind hoD (by rw [hdD]; exact pastItsLine_dict (Nat.le_trans hcD (by rw [List.length_cons]; omega))) ?_)
  exact wpAny_pure (h _ ⟨(hs2.2 _ (Ne.symm I.ne)).trans I.obj, hn2, I.ne⟩ hs2)

/-- C(..): the dict at the heap's end, the instance behind it; then its __init__ -/
theorem make_map {R : Result → Shared → Prop} {vs : List Value} {kw : List (Str × Value)} (X : K.In s.heap) (hm : PySem.W.makesIn K C = true)
    (hi : PySem.W.findIn K (.ref C) "__init__" = some (some (.ref f))) (hf : PySem.W.typeIn K (.ref f) = some (.type "function"))
    (h : codeAny (model prog w) (A.under (.builtin "type.__call__" ⟨.ref C :: vs, kw⟩)) (.call (.ref f) ⟨.ref (s.heap.objs.size + 1) :: vs, kw⟩) (PySem.W.InitBack (s.heap.objs.size + 1) R)
      { s with heap := (s.heap.push PySem.W.emptyDict).push (PySem.W.instObj C s.heap.objs.size) }) :
    codeAny (model prog w) A (.call (.ref C) ⟨vs, kw⟩) R s := by
  obtain ⟨hh, g, d, t, os⟩ := s
  exact PySem.W.make_core (PySem.W.makes_of X hm) (PySem.W.looks_findIn X hi) (fun self => PySem.W.bind_fn X self hf) (.inl rfl) h
/-- C() where there is no __init__ but object's -/
theorem make_map0 {R : Result → Shared → Prop} (X : K.In s.heap) (hm : PySem.W.makesIn K C = true)
    (hi : PySem.W.findIn K (.ref C) "__init__" = some (some (.builtin "object.__init__")))
    (hb : ∀ self, PySem.W.Looks (model prog w) s.heap (bindSpecial (.builtin "object.__init__") self) (.builtin "object.__init__", [self]))
    (h : codeAny (model prog w) (A.under (.builtin "type.__call__" ⟨[.ref C], []⟩)) (.call (.builtin "object.__init__") ⟨[.ref (s.heap.objs.size + 1)], []⟩) (PySem.W.InitBack (s.heap.objs.size + 1) R)
      { s with heap := (s.heap.push PySem.W.emptyDict).push (PySem.W.instObj C s.heap.objs.size) }) :
    codeAny (model prog w) A (.call (.ref C) ⟨[], []⟩) R s := by
  obtain ⟨hh, g, d, t, os⟩ := s
  exact PySem.W.make_core (PySem.W.makes_of X hm) (PySem.W.looks_findIn X hi) hb (.inr ⟨rfl, rfl⟩) h
end

/-! ### the attributes as a list of pairs -/
def putF (f : Str) (v : V) : List (Str × V) → List (Str × V)
  | [] => [(f, v)]
  | (g, x) :: r => if g = f then (g, v) :: r else (g, x) :: putF f v r
theorem lookup_putF (f g : Str) (v : V) : ∀ fs : List (Str × V), (putF f v fs).lookup g = if g = f then some v else fs.lookup g
  | [] => by
    show List.lookup g [(f, v)] = _
    by_cases h : g = f
    · have hb : (g == f) = true := beq_iff_eq.mpr h
      simp only [List.lookup, hb, if_pos h]
    · have hb : (g == f) = false := beq_eq_false_iff_ne.mpr h
      simp only [List.lookup, hb, if_neg h]
  | (k, x) :: r => by
    have ih := lookup_putF f g v r
    rw [show putF f v ((k, x) :: r) = (if k = f then (k, v) :: r else (k, x) :: putF f v r) from rfl]
    by_cases hk : k = f
    · rw [if_pos hk]
      by_cases h : g = k
      · have hb : (g == k) = true := beq_iff_eq.mpr h
        simp only [List.lookup, hb, if_pos (h.trans hk)]
      · have hb : (g == k) = false := beq_eq_false_iff_ne.mpr h
        simp only [List.lookup, hb, if_neg (fun e : g = f => h (e.trans hk.symm))]
    · rw [if_neg hk]
      by_cases h : g = k
      · have hb : (g == k) = true := beq_iff_eq.mpr h
        simp only [List.lookup, hb, if_neg (fun e : g = f => hk (h.symm.trans e))]
      · have hb : (g == k) = false := beq_eq_false_iff_ne.mpr h
        simp only [List.lookup, hb]
        exact ih
theorem keys_putF (f : Str) (v : V) : ∀ fs : List (Str × V), f ∈ (putF f v fs).map (·.1) ∧ ∀ g, g ∈ fs.map (·.1) → g ∈ (putF f v fs).map (·.1)
  | [] => ⟨by simp [putF], fun g h => by simp at h⟩
  | (k, x) :: r => by
    obtain ⟨i1, i2⟩ := keys_putF f v r
    rw [show putF f v ((k, x) :: r) = (if k = f then (k, v) :: r else (k, x) :: putF f v r) from rfl]
    by_cases hk : k = f
    · rw [if_pos hk]
      subst hk
      exact ⟨by simp, fun g h => by simpa using h⟩
    · rw [if_neg hk]
      refine ⟨?_, fun g h => ?_⟩
      · rw [List.map_cons]
        exact List.mem_cons_of_mem _ i1
      · rw [List.map_cons] at h ⊢
        rcases List.mem_cons.mp h with e | e
        · exact List.mem_cons.mpr (.inl e)
        · exact List.mem_cons_of_mem _ (i2 g e)
theorem length_putF (f : Str) (v : V) : ∀ fs : List (Str × V), (putF f v fs).length ≤ fs.length + 1
  | [] => by simp [putF]
  | (k, x) :: r => by
    have ih := length_putF f v r
    rw [show putF f v ((k, x) :: r) = (if k = f then (k, v) :: r else (k, x) :: putF f v r) from rfl]
    by_cases hk : k = f
    · rw [if_pos hk, List.length_cons, List.length_cons]; omega
    · rw [if_neg hk, List.length_cons, List.length_cons]; omega

theorem RelO.some_of {v : V} {o : Option Value} (r : RelO (some v) o) : ∃ u, o = some u ∧ RelV v u := by
  cases o with
  | none => exact (show False from r).elim
  | some u => exact ⟨u, rfl, r⟩
theorem RelO.none_of {o : Option Value} (r : RelO none o) : o = none := by
  cases o with
  | none => rfl
  | some u => exact (show False from r).elim
theorem handed_of {v : V} {u : Value} (r : RelV v u) : PySem.W.handedIn u = true := by
  cases v with
  | non => cases (show u = Value.none from r); rfl
  | bl b => cases (show u = Value.bool b from r); rfl
  | int i => obtain ⟨t, e⟩ := (show ∃ t, u = Value.int i t from r); cases e; rfl
  | str x => obtain ⟨t, e⟩ := (show ∃ t, u = Value.str x t from r); cases e; rfl
  | byt b => obtain ⟨t, e⟩ := (show ∃ t, u = Value.bytes b t from r); cases e; rfl
  | flt b => obtain ⟨t, e⟩ := (show ∃ t, u = Value.float b t from r); cases e; rfl
  | ref a => cases (show u = Value.ref a from r); rfl
  | ty n => cases (show u = Value.type n from r); rfl

section
variable {P : Program} {w : World} {H H' : Hp} {h h' : Heap} {a C dx : Addr} {fs fs' : List (Str × V)}
theorem ins_get (hok : HOk P w H h) (e : H a = some (.ins C dx fs)) : ∃ mA, ObjM h a dx C mA ∧ (∀ f, RelO (fs.lookup f) (mA f)) ∧ PySem.Within mA (fs.map (·.1)) ∧ fs.length ≤ 1000 ∧ H dx = some (.own a) := by
  obtain ⟨d, z, ne, ob, mA, n, r, q⟩ := (show ObjOk P w H h a (.ins C dx fs) from hok a _ e)
  exact ⟨mA, ⟨ob, n, ne⟩, r, q, z, d⟩
end

/-! ### what of the text a class must have -/
structure Cls (K : PySem.W.Frag) (C : Addr) : Prop where
  pg : PySem.W.plainGet K C Str.empty = true
  hd : PySem.W.hasDictIn K C = true
  po : PySem.W.plainOver K C = true
  sa : PySem.W.findIn K (.ref C) "__setattr__" = some (some (.builtin "object.__setattr__"))
theorem Cls.get {K : PySem.W.Frag} {C : Addr} (c : Cls K C) (f : Str) : PySem.W.plainGet K C f = true := c.pg
/-- no class of it has the name -/
def NoAttr (K : PySem.W.Frag) (C : Addr) (f : Str) : Prop := PySem.W.findIn K (.ref C) f = some none
theorem NoAttr.taker {K : PySem.W.Frag} {C : Addr} {f : Str} (n : NoAttr K C f) : PySem.W.takerIn K C f = some none := by
  unfold PySem.W.takerIn
  rw [show PySem.W.findIn K (.ref C) f = some none from n]
  rfl
/-- a constant of the class -/
structure Con (K : PySem.W.Frag) (C : Addr) (f : Str) (v : V) (u : Value) : Prop where
  at_ : PySem.W.findIn K (.ref C) f = some (some u)
  rel : RelV v u
  get : PySem.W.specialIn K u "__get__" = some none
  cp : PySem.W.copiedNames.contains f = false
/-- a method: a plain def of the class or of one above it -/
structure Meth (K : PySem.W.Frag) (C : Addr) (m : Str) (f : Addr) : Prop where
  at_ : PySem.W.findIn K (.ref C) m = some (some (.ref f))
  fn : PySem.W.isFn K (.ref f) = true
  kp : PySem.W.keepIn K (.ref f) = true

section
variable {X : Cx} {pins : List (Addr × Obj)} {σ : St} {H : Hp} {s : Shared} {a C dx : Addr} {fs : List (Str × V)} {f : Str} {v : V} {A : Around} {E : Value → Shared → Prop}

theorem getattr_ok {b : Bool} {Q : Value → Shared → Prop} (I : Inv X pins σ H s) (e : H a = some (.ins C dx fs)) (c : Cls X.K C) (n : NoAttr X.K C f) (l : fs.lookup f = some v)
    (h : ∀ u s', Inv X pins σ H s' → RelV v u → Q u s') : wpAny (model X.prog X.w) A (getAttr (.ref a) f b) Q E s := by
  obtain ⟨mA, O, r, _, _, _⟩ := ins_get I.hok e
  obtain ⟨u, hu, ru⟩ := RelO.some_of (v := v) (o := mA f) (by rw [← l]; exact r f)
  exact get_map I.kIn O (c.get f) c.hd n hu (handed_of ru) (h u _ (I.tok _) ru)

theorem getcon_ok {b : Bool} {u : Value} {Q : Value → Shared → Prop} (I : Inv X pins σ H s) (e : H a = some (.ins C dx fs)) (c : Cls X.K C) (k : Con X.K C f v u) (l : fs.lookup f = none)
    (h : ∀ s', Inv X pins σ H s' → Q u s') : wpAny (model X.prog X.w) A (getAttr (.ref a) f b) Q E s := by
  obtain ⟨mA, O, r, _, _, _⟩ := ins_get I.hok e
  have hn : mA f = none := RelO.none_of (by rw [← l]; exact r f)
  exact get_const I.kIn O (c.get f) c.hd k.at_ k.get k.cp hn (handed_of k.rel) (h _ (I.tok _))

theorem getmeth_ok {m : Str} {g : Addr} {pl : Sem Bool} {Q : Value × List Value → Shared → Prop} (I : Inv X pins σ H s) (e : H a = some (.ins C dx fs)) (c : Cls X.K C) (k : Meth X.K C m g) (l : fs.lookup m = none)
    (h : Q (.ref g, [.ref a]) s) : wpAny (model X.prog X.w) A (getMethod (.ref a) m pl) Q E s := by
  obtain ⟨mA, O, r, _, _, _⟩ := ins_get I.hok e
  have hn : mA m = none := RelO.none_of (by rw [← l]; exact r m)
  exact get_meth I.kIn O (c.get m) k.at_ k.fn hn h

theorem setattr_ok {y : V} {u : Value} {Q : Unit → Shared → Prop} (I : Inv X pins σ H s) (e : H a = some (.ins C dx fs)) (c : Cls X.K C) (n : NoAttr X.K C f) (hl : fs.length < 1000) (ry : RelV y u)
    (h : ∀ s', Inv X pins σ (upd H a (.ins C dx (putF f y fs))) s' → Q () s') : wpAny (model X.prog X.w) A (setAttr (.ref a) f u) Q E s := by
  obtain ⟨mA, O, r, wi, _, ho⟩ := ins_get I.hok e
  have hz : (fs.map (·.1)).length ≤ sizeLine := by rw [List.length_map, sizeLine_eq]; omega
  refine set_map I.kIn O c.sa c.po n.taker c.hd wi hz fun h' O' sb => h _ ?_
  have hd : ∃ o, h'.get? dx = some o := let ⟨o, _, _, e', _⟩ := O'.ns; ⟨o, e'⟩
  refine I.write (x := a) (e := dx) (by rw [e]; exact True.intro) (.inr ho) (fun b q hb z => (sb.2 b hb).trans z) hd ?_
  refine ⟨by rw [upd_ne O.ne]; exact ho, ?_, O.ne, O'.obj, _, O'.ns, fun g => ?_, fun g hg => ?_⟩
  · have := length_putF f y fs; omega
  · show RelO ((putF f y fs).lookup g) (if g = f then some u else mA g)
    rw [lookup_putF]
    by_cases q : g = f
    · rw [if_pos q, if_pos q]; exact ry
    · rw [if_neg q, if_neg q]; exact r g
  · by_cases q : g = f
    · rw [q]; exact (keys_putF f y fs).1
    · refine (keys_putF f y fs).2 g (wi g fun z => hg ?_)
      show (if g = f then some u else mA g) = none
      rw [if_neg q]; exact z

/-- a new instance, tracked, without attributes -/
theorem Inv.made (I : Inv X pins σ H s) : Inv X pins σ (upd (upd H s.heap.objs.size (.own (s.heap.objs.size + 1))) (s.heap.objs.size + 1) (.ins C s.heap.objs.size []))
    { s with heap := (s.heap.push PySem.W.emptyDict).push (PySem.W.instObj C s.heap.objs.size) } := by
  have e1 : (s.heap.push PySem.W.emptyDict).get? s.heap.objs.size = some PySem.W.emptyDict := Heap.get?_push_size s.heap rfl
  have e2 : ((s.heap.push PySem.W.emptyDict).push (PySem.W.instObj C s.heap.objs.size)).get? (s.heap.objs.size + 1) = some (PySem.W.instObj C s.heap.objs.size) := by
    have := Heap.get?_push_size (s.heap.push PySem.W.emptyDict) (o := PySem.W.instObj C s.heap.objs.size) rfl
    rwa [Heap.size_push] at this
  have e3 : (s.heap.push PySem.W.emptyDict).Ns s.heap.objs.size (fun _ => none) := ⟨PySem.W.emptyDict, #[], _, e1, rfl, (fun e he => absurd he (by simp)), fun _ => rfl⟩
  have I1 := I.laid (a := s.heap.objs.size) (o := .own (s.heap.objs.size + 1)) (h' := s.heap.push PySem.W.emptyDict) (t' := s.toks) (fun b u q => Heap.get?_push_of_some _ q) (Nat.le_refl _) ⟨_, e1⟩
  refine I1.laid (a := s.heap.objs.size + 1) (o := .ins C s.heap.objs.size []) (t' := s.toks) (fun b u q => Heap.get?_push_of_some _ q) (Nat.le_of_eq (Heap.size_push _ _)) ?_
  have ne : s.heap.objs.size ≠ s.heap.objs.size + 1 := Nat.ne_of_lt (Nat.lt_succ_self _)
  refine ⟨by rw [upd_ne ne, upd_same], Nat.zero_le _, ne, e2, fun _ => none, (Heap.Ns1.of_empty e3).at fun o q => Heap.get?_push_of_some _ q, fun _ => True.intro, fun y hy => absurd rfl hy⟩

/-- e.f where nothing but the object is asked: through attributeBase (super) and the last hold -/
theorem attr_of {prog : Program} {w : World} {env : Env} {e : Expr} {f : Str} {pos : Pos} {s : Shared} {Q : Value → Shared → Prop} (hb : attributeBase e f env (eval e env) = eval e env)
    (h : wpAny (model prog w) A (eval e env) (fun o s₁ => wpAny (model prog w) A (getAttr o f true) Q E s₁) E s) : wpAny (model prog w) A (eval (.Attribute e f pos) env) Q E s :=
  Attribute_any_ h (by rw [arm_eval_Attribute, hb])
end

/-! ### readings and rules -/
/-- e.f, an attribute of the instance -/
def tFld (K : PySem.W.Frag) (ta : TE) (f : Str) : TE := fun σ H Q => ta σ H fun x H1 => ∃ a C dx fs v, x = .ref a ∧ H1 a = some (.ins C dx fs) ∧ Cls K C ∧ NoAttr K C f ∧ fs.lookup f = some v ∧ Q v H1
/-- e.f, a constant of the class -/
def tCon (K : PySem.W.Frag) (ta : TE) (f : Str) : TE := fun σ H Q => ta σ H fun x H1 => ∃ a C dx fs v u, x = .ref a ∧ H1 a = some (.ins C dx fs) ∧ Cls K C ∧ Con K C f v u ∧ fs.lookup f = none ∧ Q v H1
/-- e.f = value -/
def sFld (K : PySem.W.Frag) (ta tv : TE) (f : Str) : TS := fun D σ H => tv σ H fun y H1 => ta σ H1 fun x H2 => ∃ a C dx fs, x = .ref a ∧ H2 a = some (.ins C dx fs) ∧ Cls K C ∧ NoAttr K C f ∧ fs.length < 1000 ∧
  D.nx σ (upd H2 a (.ins C dx (putF f y fs)))
/-- an augmented operator on two values -/
def InOp (X : Cx) (op : Operator) (rd : V → V → Hp → VK → Prop) : Prop :=
  ∀ (pins : List (Addr × Obj)) (s : Shared) (σ : St) (H : Hp) (x y : V) (u v : Value) (Q : VK), Inv X pins σ H s → RelV x u → RelV y v → rd x y H Q → wpAny (model X.prog X.w) X.A (inplaceOp op u v) (EP X pins σ Q) X.xe s
/-- e.f op= value -/
def sFldAug (K : PySem.W.Frag) (ta tv : TE) (rd : V → V → Hp → VK → Prop) (f : Str) : TS := fun D σ H => ta σ H fun x H1 => ∃ a C dx fs v, x = .ref a ∧ H1 a = some (.ins C dx fs) ∧ Cls K C ∧ NoAttr K C f ∧ fs.lookup f = some v ∧
  tv σ H1 fun y H2 => rd v y H2 fun z H3 => ∃ dx' fs', H3 a = some (.ins C dx' fs') ∧ fs'.length < 1000 ∧ D.nx σ (upd H3 a (.ins C dx' (putF f z fs')))

section
variable {X : Cx} {o e value : Expr} {f : Str} {pos pos' tpos : Pos} {ta tv : TE}
theorem pe_fld (he : PE X e ta) (hb : attributeBase e f X.env (eval e X.env) = eval e X.env) : PE X (.Attribute e f pos) (tFld X.K ta f) := by
  intro pins s σ H Q I h
  refine attr_of hb (thn (he pins s σ H _ I h) fun u s1 ⟨x, H1, I1, rx, a, C, dx, fs, v, ex, ea, c, n, l, q⟩ => ?_)
  subst ex
  obtain rfl : u = Value.ref a := rx
  exact getattr_ok I1 ea c n l fun u' s2 I2 ru => ⟨v, H1, I2, ru, q⟩
theorem pe_con (he : PE X e ta) (hb : attributeBase e f X.env (eval e X.env) = eval e X.env) : PE X (.Attribute e f pos) (tCon X.K ta f) := by
  intro pins s σ H Q I h
  refine attr_of hb (thn (he pins s σ H _ I h) fun u s1 ⟨x, H1, I1, rx, a, C, dx, fs, v, u0, ex, ea, c, k, l, q⟩ => ?_)
  subst ex
  obtain rfl : u = Value.ref a := rx
  exact getcon_ok I1 ea c k l fun s2 I2 => ⟨v, H1, I2, k.rel, q⟩
theorem ps_fld (ha : PE X o ta) (hv : PE X value tv) (hs : swapsWith value (some (.Attribute o f pos')) pos.line X.env = pure false) : PS X (.Assign [.Attribute o f pos'] value pos) (sFld X.K ta tv f) := by
  intro pins s σ H D I h
  refine plainObj_wpAny_Assign_Attribute (thn (hv pins s σ H _ I h) fun u s1 ⟨y, H1, I1, ry, q⟩ => thn (ha pins s1 σ H1 _ I1 q) fun ov s2 ⟨x, H2, I2, rx, a, C, dx, fs, ex, ea, c, n, l, q2⟩ => ?_) hs
  subst ex
  obtain rfl : ov = Value.ref a := rx
  exact setattr_ok I2 ea c n l ry fun s3 I3 => ⟨σ, _, I3, q2⟩
theorem ps_fldaug {op : Operator} {rd : V → V → Hp → VK → Prop} (ha : PE X o ta) (hv : PE X value tv) (hop : InOp X op rd) : PS X (.AugAssign (.Attribute o f tpos) op value pos) (sFldAug X.K ta tv rd f) := by
  intro pins s σ H D I h
  refine wpAny_AugAssign_AttributeAny (thn (ha pins s σ H _ I h) fun ov s1 ⟨x, H1, I1, rx, a, C, dx, fs, v, ex, ea, c, n, l, q⟩ => ?_)
  subst ex
  obtain rfl : ov = Value.ref a := rx
  refine getattr_ok I1 ea c n l fun u s2 I2 ru => thn (hv pins s2 σ H1 _ I2 q) fun w3 s3 ⟨y, H2, I3, ry, q3⟩ => thn (hop pins s3 σ H2 v y u w3 _ I3 ru ry q3) fun w4 s4 ⟨z, H3, I4, rz, dx', fs', ea', l', q4⟩ => ?_
  exact setattr_ok I4 ea' c n l' rz fun s5 I5 => ⟨σ, _, I5, q4⟩
def rAdd : V → V → Hp → VK → Prop := fun x y H Q => ∃ i j, x = .int i ∧ y = .int j ∧ Q (.int (i + j)) H
def rSub : V → V → Hp → VK → Prop := fun x y H Q => ∃ i j, x = .int i ∧ y = .int j ∧ Q (.int (i - j)) H
theorem in_add : InOp X .Add rAdd := by
  rintro pins s σ H x y u v Q I rx ry ⟨i, j, rfl, rfl, q⟩
  obtain ⟨t, rfl⟩ := (show ∃ t, u = Value.int i t from rx)
  obtain ⟨t', rfl⟩ := (show ∃ t', v = Value.int j t' from ry)
  exact PyProof.Rows.iadd_int ⟨.int (i + j), H, I.tok _, ⟨_, rfl⟩, q⟩
theorem in_sub : InOp X .Sub rSub := by
  rintro pins s σ H x y u v Q I rx ry ⟨i, j, rfl, rfl, q⟩
  obtain ⟨t, rfl⟩ := (show ∃ t, u = Value.int i t from rx)
  obtain ⟨t', rfl⟩ := (show ∃ t', v = Value.int j t' from ry)
  exact PyProof.Rows.isub_int ⟨.int (i - j), H, I.tok _, ⟨_, rfl⟩, q⟩

/-- what is between an instance and its method: the tree of a method call -/
theorem methcall_of {pl : Sem Bool} {m : Str} {apos : Pos} {args : List Expr} {pins : List (Addr × Obj)} {s : Shared} {σ : St} {H : Hp} {Q : Value → Shared → Prop} {te : TE} (he : PE X e te) (I : Inv X pins σ H s)
    (h : te σ H fun x H1 => ∃ a C dx fs g, x = .ref a ∧ H1 a = some (.ins C dx fs) ∧ Cls X.K C ∧ Meth X.K C m g ∧ fs.lookup m = none ∧
      ∀ s1, Inv X pins σ H1 s1 → wpAny (model X.prog X.w) X.A (callWith pos (.ref g) [.ref a] (backTo pos (starEach args X.env)) (backToKw pos (keywordEach [] X.env))) Q X.xe s1)
    (ht : eval (.Call (.Attribute e m apos) args [] pos) X.env = (do
      let ov ← eval e X.env
      standAt apos.atName
      let (f, first) ← holding [ov] (getMethod ov m pl)
      callWith pos f first (backTo pos (starEach args X.env)) (backToKw pos (keywordEach [] X.env)))) :
    wpAny (model X.prog X.w) X.A (eval (.Call (.Attribute e m apos) args [] pos) X.env) Q X.xe s := by
  refine PySem.W.methodCall_KW (pl := pl) (thn (he pins s σ H _ I h) fun u s1 ⟨x, H1, I1, rx, a, C, dx, fs, g, ex, ea, c, k, l, q⟩ => ?_) ht
  subst ex
  obtain rfl : u = Value.ref a := rx
  exact getmeth_ok I1 ea c k l (q s1 I1)
end

/-! ### isinstance -/
section
variable {X : Cx} {pins : List (Addr × Obj)} {σ : St} {H : Hp} {s : Shared} {A : Around} {E : Value → Shared → Prop} {Q : Value → Shared → Prop} {c : Value} {b : Bool}
/-- the type of a value, as the fragment's deciders take it; for an instance its class -/
inductive TyOf (K : PySem.W.Frag) (H : Hp) : V → Value → Prop where
  | non : TyOf K H .non (.type "NoneType")
  | bl (x : Bool) : TyOf K H (.bl x) (.type "bool")
  | int (i : Int) : TyOf K H (.int i) (.type "int")
  | str (x : Str) : TyOf K H (.str x) (.type "str")
  | flt (x : UInt64) : TyOf K H (.flt x) (.type "float")
  | lst {a : Addr} {xs : List V} (e : H a = some (.lst xs)) : TyOf K H (.ref a) (.type "list")
  | frz {a : Addr} {o : Obj} {xs : List V} (e : H a = some (.frz o (.lst xs))) : TyOf K H (.ref a) (.type "list")
  | tup {a : Addr} {xs : List V} (e : H a = some (.tup xs)) : TyOf K H (.ref a) (.type "tuple")
  | dK {a : Addr} {kvs : List (Key × V)} (e : H a = some (.dK kvs)) : TyOf K H (.ref a) (.type "dict")
  | dT {a : Addr} {kvs : List (List Key × V)} (e : H a = some (.dT kvs)) : TyOf K H (.ref a) (.type "dict")
  | ins {a C dx : Addr} {fs : List (Str × V)} (e : H a = some (.ins C dx fs)) (cl : Cls K C) (ha : PySem.W.findIn K (.ref C) "__class__" = some (some (.builtin "object.__class__")))
      (hn : PySem.W.specialIn K (.builtin "object.__class__") "__get__" = some (some (.builtin "getset_descriptor.__get__"))) (htk : PySem.W.takesIn K (.builtin "object.__class__") = some true)
      (hm : PySem.W.mroIn K C (.type "object") = some true) : TyOf K H (.ref a) (.ref C)
/-- isinstance(x, c) for one class c, a built-in or an own one: kitOne's answer -/
theorem isinst_ok {x : V} {u t : Value} (I : Inv X pins σ H s) (rx : RelV x u) (ty : TyOf X.K H x t) (e : PySem.W.kitOne X.K t c = some b) (h : ∀ tk, Q (.bool b) { s with toks := tk }) :
    wpAny (model X.prog X.w) A (call (.builtin "isinstance") [u, c]) Q E s := by
  cases ty with
  | non => cases (show u = Value.none from rx); exact PySem.W.kia_one PySem.W.kitx_none I.kIn True.intro e (fun z => nomatch z) h
  | bl y => cases (show u = Value.bool y from rx); exact PySem.W.kia_one PySem.W.kitx_bool I.kIn True.intro e (fun z => nomatch z) h
  | int i => obtain ⟨t, q⟩ := (show ∃ t, u = Value.int i t from rx); cases q; exact PySem.W.kia_one PySem.W.kitx_int I.kIn True.intro e (fun z => nomatch z) h
  | str y => obtain ⟨t, q⟩ := (show ∃ t, u = Value.str y t from rx); cases q; exact PySem.W.kia_one PySem.W.kitx_str I.kIn True.intro e (fun z => nomatch z) h
  | flt y => obtain ⟨t, q⟩ := (show ∃ t, u = Value.float y t from rx); cases q; exact PySem.W.kia_one PySem.W.kitx_float I.kIn True.intro e (fun z => nomatch z) h
  | @lst a xs ea =>
    cases (show u = Value.ref a from rx)
    obtain ⟨_, _, n, _, h1⟩ := (show ObjOk X.prog X.w H s.heap a (.lst xs) from I.hok a _ ea)
    exact PySem.W.kia_one PySem.W.kitx_list I.kIn ⟨_, h1, rfl⟩ e (fun z => nomatch z) h
  | @frz a ob xs ea =>
    cases (show u = Value.ref a from rx)
    obtain ⟨_, _, _, n, _, h1⟩ := (show ObjOk X.prog X.w H s.heap a (.frz ob (.lst xs)) from I.hok a _ ea)
    exact PySem.W.kia_one PySem.W.kitx_list I.kIn ⟨_, h1, rfl⟩ e (fun z => nomatch z) h
  | @tup a xs ea =>
    cases (show u = Value.ref a from rx)
    obtain ⟨_, _, _, p⟩ := (show ObjOk X.prog X.w H s.heap a (.tup xs) from I.hok a _ ea)
    obtain ⟨o, h1, h2, _⟩ := p
    exact PySem.W.kia_one PySem.W.kitx_tuple I.kIn ⟨o, h1, h2⟩ e (fun z => nomatch z) h
  | @dK a kvs ea =>
    cases (show u = Value.ref a from rx)
    obtain ⟨_, _, vs, _, p⟩ := (show ObjOk X.prog X.w H s.heap a (.dK kvs) from I.hok a _ ea)
    obtain ⟨o, es, ep, h1, h2, _⟩ := p
    exact PySem.W.kia_one PySem.W.kitx_dict I.kIn ⟨o, h1, h2.1⟩ e (fun z => nomatch z) h
  | @dT a kvs ea =>
    cases (show u = Value.ref a from rx)
    obtain ⟨_, _, xs, _, o, es, ep, h1, h2, _⟩ := (show ObjOk X.prog X.w H s.heap a (.dT kvs) from I.hok a _ ea)
    exact PySem.W.kia_one PySem.W.kitx_dict I.kIn ⟨o, h1, h2.1⟩ e (fun z => nomatch z) h
  | @ins a C dx fs ea cl ha hn htk hm =>
    cases (show u = Value.ref a from rx)
    obtain ⟨mA, O, _⟩ := ins_get I.hok ea
    obtain ⟨od, J, _⟩ := O.look
    exact PySem.W.kia_one (PySem.W.kitx_own (cl.get _) cl.hd ha hn htk hm) I.kIn J e (fun z => nomatch z) h
end
end L2

namespace L2
open PySem PySem.Spec PyProof.Rows

/-! ### room -/
structure Room (k : Nat) (A : Around) : Prop where
  hd : A.handled = none
  dp : A.depth + 3 * k + 5 < recursionLimit
  un : A.units + 16 * k + 200 < cLine
theorem Room.mono {j k : Nat} {A : Around} (r : Room k A) (h : j ≤ k) : Room j A := ⟨r.hd, by have := r.dp; omega, by have := r.un; omega⟩
theorem Room.deeper {k : Nat} {A : Around} (r : Room (k + 1) A) (env : Env) : Room k (A.deeper env) :=
  ⟨r.hd, by have := r.dp; show A.depth + 1 + 3 * k + 5 < _; omega, by have := r.un; show A.units + 3 + 16 * k + 200 < _; omega⟩
theorem Room.in1 {k : Nat} {A : Around} (r : Room (k + 1) A) : Room k A.in1 :=
  ⟨r.hd, by have := r.dp; show A.depth + 3 * k + 5 < _; omega, by have := r.un; show A.units + 1 + 16 * k + 200 < _; omega⟩
theorem make_depth {A : Around} {C : Addr} {us : List Value} {kw : List (Str × Value)} : (A.under (.builtin "type.__call__" ⟨.ref C :: us, kw⟩)).depth = A.depth + 1 := by
  first | rfl | simp [Around.under, Code.weight, Code.isCreation, Code.isGuard, Code.isCaller, Code.frames, Code.isFrame, guardIds]
theorem make_units {A : Around} {C : Addr} {us : List Value} {kw : List (Str × Value)} : (A.under (.builtin "type.__call__" ⟨.ref C :: us, kw⟩)).units = A.units + 1 := by
  first | rfl | simp [Around.under, Code.cUnits, Code.frames, Code.isFrame]
theorem Room.make {k : Nat} {A : Around} (r : Room (k + 1) A) (C : Addr) (us : List Value) (kw : List (Str × Value)) : Room k (A.under (.builtin "type.__call__" ⟨.ref C :: us, kw⟩)) :=
  ⟨r.hd, by have := r.dp; rw [make_depth]; omega, by have := r.un; rw [make_units]; omega⟩
theorem Room.depth {k : Nat} {A : Around} (r : Room k A) : A.depth < recursionLimit := by have := r.dp; omega
theorem Room.units {k : Nat} {A : Around} (r : Room k A) : A.units + 64 < cLine := by have := r.un; omega
theorem Room.units0 {k : Nat} {A : Around} (r : Room k A) : A.units < cLine := by have := r.un; omega

/-! ### argument lists and displays -/
def tNil : TA := fun _ H Q => Q [] H
def tCons (ta : TE) (tr : TA) : TA := fun σ H Q => ta σ H fun x H1 => tr σ H1 fun xs H2 => Q (x :: xs) H2
section
variable {X : Cx} {e : Expr} {es : List Expr} {te : TE} {t : TA} {pos : Pos}
theorem pa_nil : PA X [] tNil := fun _ _ _ _ H Q I h => Calls.spliced_nil ⟨[], H, I, .nil, h⟩
theorem pa_cons (ha : PE X e te) (hr : PA X es t) (hs : starEach (e :: es) X.env = (false, eval e X.env) :: starEach es X.env := by rfl) : PA X (e :: es) (tCons te t) := by
  intro pos pins s σ H Q I h
  rw [hs]
  show wpAny _ _ (spliced ((false, eval e X.env) :: backTo pos (starEach es X.env))) _ _ s
  refine Calls.spliced_cons (thn (ha pins s σ H _ I h) fun u s1 ⟨x, H1, I1, r1, q1⟩ => ?_)
  exact thn (hr pos pins s1 σ H1 _ I1 q1) fun us s2 ⟨xs, H2, I2, r2, q2⟩ => ⟨x :: xs, H2, I2, .cons r1 r2, q2⟩

/-- a tuple, a list of written items -/
def tTup (t : TA) : TE := fun σ H Q => t σ H fun xs H1 => xs.length ≤ sizeLine ∧ ∀ p, H1 p = none → Q (.ref p) (upd H1 p (.tup xs))
def tLst (t : TA) : TE := fun σ H Q => t σ H fun xs H1 => xs.length ≤ sizeLine ∧ ∀ p, H1 p = none → Q (.ref p) (upd H1 p (.lst xs))
theorem pe_tup {x1} (h : PA X es t) : PE X (.Tuple es x1 pos) (tTup t) := by
  intro pins s σ H Q I hq
  refine wpAny_Tuple_spliced (thn (h pos pins s σ H _ I hq) fun us s1 ⟨xs, H1, I1, r, z, q⟩ => ⟨by rw [← r.length]; exact z, ?_⟩)
  have hf : H1 s1.heap.objs.size = none := I1.hok.fresh (Nat.le_refl _)
  refine ⟨.ref s1.heap.objs.size, upd H1 s1.heap.objs.size (.tup xs), I1.laid (t' := s1.toks) (fun b u e => Heap.get?_push_of_some _ e) (Nat.le_refl _) ?_, rfl, q _ hf⟩
  exact ⟨z, us, r, ⟨_, Heap.get?_push_size _ rfl, rfl, _, rfl⟩⟩
theorem pe_lst (h : PA X es t) : PE X (.List es pos) (tLst t) := by
  intro pins s σ H Q I hq
  refine wpAny_List_spliced (thn (h pos pins s σ H _ I hq) fun us s1 ⟨xs, H1, I1, r, z, q⟩ => ⟨by rw [← r.length]; exact z, ?_⟩)
  have hf : H1 s1.heap.objs.size = none := I1.hok.fresh (Nat.le_refl _)
  refine ⟨.ref s1.heap.objs.size, upd H1 s1.heap.objs.size (.lst xs), I1.laid (t' := s1.toks) (fun b u e => Heap.get?_push_of_some _ e) (Nat.le_refl _) ?_, rfl, q _ hf⟩
  exact ⟨z, us, 0, r, Heap.get?_push_size _ rfl⟩
end

/-! ### what a def promises -/
/-- a def's promise: the bound arguments in the parameters' order, the heap, the wanted end, the wanted exception -/
abbrev Sp := List V → Hp → VK → XK → Prop
/-- how an exception lies behind a call (file 08 gives it): the callers' frames, abstract heap and state ahead of the call, the wish, the exception, the state -/
abbrev CXT := List Env → Hp → Shared → XK → Value → Shared → Prop

/-- the state at a call -/
structure Env0 (P : Program) (w : World) (K : PySem.W.Frag) (mg : Str → Option Value) (base : Heap) (A : Around) (outer : List Env) (s : Shared) (H : Hp) : Prop where
  frames : A.frames = some outer
  mod : Mod K mg base
  bs : ∀ b o, base.get? b = some o → s.heap.get? b = some o ∧ H b = none
  bsz : base.objs.size ≤ s.heap.objs.size
  funs : s.heap.FunFrames base outer
  frf : ∀ b ∈ frs outer, H b = none
  hok : HOk P w H s.heap
  bare : AllBare s.gens
/-- a call's end -/
def CE (outer : List Env) (P : Program) (w : World) (H : Hp) (s : Shared) (Q : VK) (u : Value) (s' : Shared) : Prop :=
  ∃ v H', s'.os = s.os ∧ AllBare s'.gens ∧ Un (frs outer) [] H H' s.heap s'.heap ∧ HOk P w H' s'.heap ∧ RelV v u ∧ Q v H'
def CR (CX : CXT) (outer : List Env) (P : Program) (w : World) (H : Hp) (s : Shared) (Q : VK) (E : XK) (r : Result) (s' : Shared) : Prop :=
  match r with
  | .ok (.ret u) => CE outer P w H s Q u s'
  | .ok _ => False
  | .error e => CX outer H s E e s'
structure FnOk (P : Program) (w : World) (K : PySem.W.Frag) (mg : Str → Option Value) (base : Heap) (CX : CXT) (k : Nat) (f : Addr) (fd : FuncData) (ps : List Str) (sp : Sp) : Prop where
  len : ∀ vs H Q E, sp vs H Q E → vs.length = ps.length
  run : ∀ (A : Around) (outer : List Env) (s : Shared) (H : Hp) (args : Args) (us : List Value) (vs : List V) (Q : VK) (E : XK), Room k A → Env0 P w K mg base A outer s H → BindsTo s fd args (ps.zip us) → Vals vs us → sp vs H Q E →
    codeAny (model P w) A (.call (.ref f) args) (CR CX outer P w H s Q E) s
theorem FnOk.mono {P : Program} {w : World} {K : PySem.W.Frag} {mg : Str → Option Value} {base : Heap} {CX : CXT} {j k : Nat} {f : Addr} {fd : FuncData} {ps : List Str} {sp : Sp} (F : FnOk P w K mg base CX j f fd ps sp) (h : j ≤ k) :
    FnOk P w K mg base CX k f fd ps sp := ⟨F.len, fun A outer s H args us vs Q E hr => F.run A outer s H args us vs Q E (hr.mono h)⟩
/-- a weaker promise -/
theorem FnOk.imp {P : Program} {w : World} {K : PySem.W.Frag} {mg : Str → Option Value} {base : Heap} {CX : CXT} {k : Nat} {f : Addr} {fd : FuncData} {ps : List Str} {sp sp' : Sp} (F : FnOk P w K mg base CX k f fd ps sp)
    (h : ∀ vs H Q E, sp' vs H Q E → sp vs H Q E) : FnOk P w K mg base CX k f fd ps sp' :=
  ⟨fun vs H Q E q => F.len vs H Q E (h _ _ _ _ q), fun A outer s H args us vs Q E hr he hb hv hs => F.run A outer s H args us vs Q E hr he hb hv (h _ _ _ _ hs)⟩

theorem Env0.make {P : Program} {w : World} {K : PySem.W.Frag} {mg : Str → Option Value} {base : Heap} {A : Around} {outer : List Env} {s : Shared} {H : Hp} (e : Env0 P w K mg base A outer s H) (C : Addr) (us : List Value) (kw : List (Str × Value)) :
    Env0 P w K mg base (A.under (.builtin "type.__call__" ⟨.ref C :: us, kw⟩)) outer s H := ⟨by first | exact e.frames | (simpa [Around.under, Code.envs, Code.isFrame, pushEnvs] using e.frames), e.mod, e.bs, e.bsz, e.funs, e.frf, e.hok, e.bare⟩
theorem Env0.in1 {P : Program} {w : World} {K : PySem.W.Frag} {mg : Str → Option Value} {base : Heap} {A : Around} {outer : List Env} {s : Shared} {H : Hp} (e : Env0 P w K mg base A outer s H) :
    Env0 P w K mg base A.in1 outer s H := ⟨e.frames, e.mod, e.bs, e.bsz, e.funs, e.frf, e.hok, e.bare⟩

section
variable {X : Cx} {pins : List (Addr × Obj)} {σ : St} {H : Hp} {s s' : Shared}
/-- from a body: what a callee wants -/
theorem Inv.env0 (I : Inv X pins σ H s) : Env0 X.prog X.w X.K X.mg X.base X.A X.stack s H :=
  ⟨I.ok.frames, I.ok.mod, I.bs, Nat.le_trans I.ok.bsz I.sz, I.stack, I.stkFree, I.hok, I.bare⟩
/-- behind a call -/
theorem Inv.after {Q : VK} {u : Value} (I : Inv X pins σ H s) (h : CE X.stack X.prog X.w H s Q u s') : EP X pins σ Q u s' := by
  obtain ⟨v, H', os, bare, un, hok, r, q⟩ := h
  obtain ⟨hh, g, d, t, os'⟩ := s'
  obtain rfl : os' = s.os := os
  exact ⟨v, H', I.call (h' := hh) (g' := g) (d' := d) (t' := t) (ch := []) un hok bare (fun b z => absurd z (by simp)), r, q⟩
end

/-! ### calls -/
/-- f(..): the written arguments, then the defaults dvs; E: what is wanted of an exception -/
def tCall (sp : Sp) (dvs : List V) (E : XK) (t : TA) : TE := fun σ H Q => t σ H fun vs H1 => sp (vs ++ dvs) H1 Q E
/-- o.m(..) of an instance of the class at C -/
def tMeth (C : Addr) (m : Str) (sp : Sp) (dvs : List V) (E : XK) (ta : TE) (t : TA) : TE := fun σ H Q => ta σ H fun x H1 => ∃ a dx fs, x = .ref a ∧ H1 a = some (.ins C dx fs) ∧ fs.lookup m = none ∧
  t σ H1 fun vs H2 => sp (x :: (vs ++ dvs)) H2 Q E
/-- C(..): a new instance and its dict, then __init__ -/
def tMake (C : Addr) (sp : Sp) (dvs : List V) (E : XK) (t : TA) : TE := fun σ H Q => t σ H fun vs H1 => ∀ x dx, H1 x = none → H1 dx = none → dx ≠ x →
  sp (.ref x :: (vs ++ dvs)) (upd (upd H1 dx (.own x)) x (.ins C dx [])) (fun v H2 => v = .non ∧ Q (.ref x) H2) E

/-- how the parameters are bound: us the positional arguments, kw the keywords' values by name, ds the defaults that fill up -/
def Binds (K : PySem.W.Frag) (fd : FuncData) (ps : List Str) (ds : List Value) : Prop :=
  ∀ (s : Shared) (us : List Value), K.In s.heap → (us ++ ds).length = ps.length → BindsTo s fd ⟨us, []⟩ (ps.zip (us ++ ds))
/-- every parameter is given -/
theorem Binds.all {K : PySem.W.Frag} {fd : FuncData} {ps : List Str} (h : ∀ us : List Value, us.length = ps.length → bindArgs fd ⟨us, []⟩ = pure (ps.zip us)) : Binds K fd ps [] := fun s us _ hl => by
  rw [List.append_nil] at hl ⊢
  exact .of_eq (h us hl)

/-- an exception of a callee reaches what this body wants of exceptions -/
def Passes (CX : CXT) (X : Cx) (E : XK) : Prop := ∀ (pins : List (Addr × Obj)) (σ : St) (H : Hp) (s : Shared) (e : Value) (s' : Shared), Inv X pins σ H s → CX X.stack H s E e s' → X.xe e s'

section
variable {X : Cx} {CX : CXT} {k : Nat} {f C : Addr} {fd : FuncData} {ps : List Str} {sp : Sp} {dvs : List V} {ds : List Value} {E : XK} {x m : Str} {p pos apos : Pos} {e o : Expr} {es : List Expr} {ta : TE} {t : TA}

/-- the callee runs -/
theorem run_fn {pins : List (Addr × Obj)} {σ : St} {H : Hp} {s : Shared} {Q : VK} {us : List Value} {vs : List V} (F : FnOk X.prog X.w X.K X.mg X.base CX k f fd ps sp) (hr : Room k X.A) (hb : Binds X.K fd ps ds) (hd : Vals dvs ds) (hx : Passes CX X E)
    (I : Inv X pins σ H s) (r : Vals vs us) (h : sp (vs ++ dvs) H Q E) : wpAny (model X.prog X.w) X.A (call (.ref f) us) (EP X pins σ Q) X.xe s := by
  have r2 : Vals (vs ++ dvs) (us ++ ds) := r.append hd
  have hl : (us ++ ds).length = ps.length := by rw [← r2.length]; exact F.len _ _ _ _ h
  refine wpAny_call (codeAny_mono (F.run X.A X.stack s H ⟨us, []⟩ (us ++ ds) (vs ++ dvs) Q E hr I.env0 (hb s us I.kIn hl) r2 h) fun r s' hq => ?_)
  cases r with
  | error e => exact hx pins σ H s e s' I hq
  | ok fl =>
    cases fl with
    | ret u => exact I.after hq
    | next => exact False.elim hq
    | brk => exact False.elim hq
    | cont => exact False.elim hq

theorem pe_call (F : FnOk X.prog X.w X.K X.mg X.base CX k f fd ps sp) (hr : Room k X.A) (hg : Gl X x) (hm : X.mg x = some (.ref f)) (hk : PySem.W.keepIn X.K (.ref f) = true) (hb : Binds X.K fd ps ds) (hd : Vals dvs ds) (hx : Passes CX X E)
    (ha : PA X (e :: es) t) (hdb : (x == ("__debug__" : Str)) = false := by decide) (he : starEach (e :: es) X.env = (false, eval e X.env) :: starEach es X.env := by rfl) (hpl : (backTo pos (starEach es X.env)).any (·.1) = false := by rfl) :
    PE X (.Call (.Name x p) (e :: es) [] pos) (tCall sp dvs E t) := by
  intro pins s σ H Q I h
  refine wpAny_Call_Name_kw (ld_glob I hg hm ?_ hdb)
  refine PySem.W.callWith_K (h₀ := X.base) I.ok.mod.kin hk (thn (ha pos pins s σ H _ I h) fun us s1 ⟨vs, H1, I1, r, q⟩ => ⟨I1.kIn, ?_⟩) he hpl
  exact run_fn F hr hb hd hx I1 r q
theorem pe_call0 (F : FnOk X.prog X.w X.K X.mg X.base CX k f fd ps sp) (hr : Room k X.A) (hg : Gl X x) (hm : X.mg x = some (.ref f)) (hk : PySem.W.keepIn X.K (.ref f) = true) (hb : Binds X.K fd ps ds) (hd : Vals dvs ds) (hx : Passes CX X E)
    (hdb : (x == ("__debug__" : Str)) = false := by decide) : PE X (.Call (.Name x p) [] [] pos) (tCall sp dvs E tNil) := by
  intro pins s σ H Q I h
  refine wpAny_Call_Name_kw (ld_glob I hg hm ?_ hdb)
  exact PySem.W.callWith_K0 I.kIn hk (run_fn (us := []) F hr hb hd hx I .nil h)

/-- o.m(e, ..) -/
theorem pe_meth {pl : Sem Bool} (he : PE X o ta) (c : Cls X.K C) (hm : Meth X.K C m f) (F : FnOk X.prog X.w X.K X.mg X.base CX k f fd ps sp) (hr : Room k X.A) (hb : Binds X.K fd ps ds) (hd : Vals dvs ds) (hx : Passes CX X E) (ha : PA X (e :: es) t)
    (hst : starEach (e :: es) X.env = (false, eval e X.env) :: starEach es X.env := by rfl) (hpl : (backTo pos (starEach es X.env)).any (·.1) = false := by rfl)
    (ht : eval (.Call (.Attribute o m apos) (e :: es) [] pos) X.env = (do
      let ov ← eval o X.env
      standAt apos.atName
      let (f, first) ← holding [ov] (getMethod ov m pl)
      callWith pos f first (backTo pos (starEach (e :: es) X.env)) (backToKw pos (keywordEach [] X.env))) := by rfl) :
    PE X (.Call (.Attribute o m apos) (e :: es) [] pos) (tMeth C m sp dvs E ta t) := by
  intro pins s σ H Q I h
  refine PySem.W.methodCall_KW (pl := pl) (thn (he pins s σ H _ I h) fun u s1 ⟨x, H1, I1, rx, a, dx, fs, ex, ea, l, q⟩ => ?_) ht
  subst ex
  obtain rfl : u = Value.ref a := rx
  refine getmeth_ok I1 ea c hm l ?_
  refine PySem.W.callWith_K (first := [.ref a]) (h₀ := X.base) I.ok.mod.kin hm.kp (thn (ha pos pins s1 σ H1 _ I1 q) fun us s2 ⟨vs, H2, I2, r, q2⟩ => ⟨I2.kIn, ?_⟩) hst hpl
  exact run_fn (us := .ref a :: us) (vs := .ref a :: vs) F hr hb hd hx I2 (.cons rfl r) q2
/-- o.m() -/
theorem pe_meth0 {pl : Sem Bool} (he : PE X o ta) (c : Cls X.K C) (hm : Meth X.K C m f) (F : FnOk X.prog X.w X.K X.mg X.base CX k f fd ps sp) (hr : Room k X.A) (hb : Binds X.K fd ps ds) (hd : Vals dvs ds) (hx : Passes CX X E)
    (ht : eval (.Call (.Attribute o m apos) [] [] pos) X.env = (do
      let ov ← eval o X.env
      standAt apos.atName
      let (f, first) ← holding [ov] (getMethod ov m pl)
      callWith pos f first (backTo pos (starEach [] X.env)) (backToKw pos (keywordEach [] X.env))) := by rfl) :
    PE X (.Call (.Attribute o m apos) [] [] pos) (tMeth C m sp dvs E ta tNil) := by
  intro pins s σ H Q I h
  refine PySem.W.methodCall_KW (pl := pl) (thn (he pins s σ H _ I h) fun u s1 ⟨x, H1, I1, rx, a, dx, fs, ex, ea, l, q⟩ => ?_) ht
  subst ex
  obtain rfl : u = Value.ref a := rx
  refine getmeth_ok I1 ea c hm l ?_
  exact PySem.W.callWith_K0 (first := [.ref a]) I1.kIn hm.kp (run_fn (us := [.ref a]) (vs := [.ref a]) F hr hb hd hx I1 (.cons rfl .nil) q)

/-- what a class must have to be made -/
structure Mk (K : PySem.W.Frag) (C f : Addr) : Prop where
  makes : PySem.W.makesIn K C = true
  init : PySem.W.findIn K (.ref C) "__init__" = some (some (.ref f))
  fn : PySem.W.isFn K (.ref f) = true
  kp : PySem.W.keepIn K (.ref C) = true

theorem run_make {pins : List (Addr × Obj)} {σ : St} {H : Hp} {s : Shared} {Q : VK} {us : List Value} {vs : List V} (M : Mk X.K C f) (F : FnOk X.prog X.w X.K X.mg X.base CX k f fd ps sp) (hr : Room (k + 1) X.A) (hb : Binds X.K fd ps ds) (hd : Vals dvs ds)
    (hx : Passes CX X E) (I : Inv X pins σ H s) (r : Vals vs us)
    (h : ∀ x dx, H x = none → H dx = none → dx ≠ x → sp (.ref x :: (vs ++ dvs)) (upd (upd H dx (.own x)) x (.ins C dx [])) (fun v H2 => v = .non ∧ Q (.ref x) H2) E) :
    wpAny (model X.prog X.w) X.A (call (.ref C) us) (EP X pins σ Q) X.xe s := by
  have hq := h (s.heap.objs.size + 1) s.heap.objs.size (I.hok.fresh (Nat.le_succ _)) (I.hok.fresh (Nat.le_refl _)) (Nat.ne_of_lt (Nat.lt_succ_self _))
  have I2 := Inv.made (C := C) I
  have r2 : Vals (V.ref (s.heap.objs.size + 1) :: (vs ++ dvs)) (Value.ref (s.heap.objs.size + 1) :: (us ++ ds)) := .cons rfl (r.append hd)
  have hl : (Value.ref (s.heap.objs.size + 1) :: us ++ ds).length = ps.length := by
    have e := r2.length
    rw [F.len _ _ _ _ hq] at e
    exact e.symm
  refine wpAny_call (make_map (f := f) I.kIn M.makes M.init (beq_iff_eq.mp M.fn) (codeAny_mono (F.run _ X.stack _ _ ⟨Value.ref (s.heap.objs.size + 1) :: us, []⟩ (Value.ref (s.heap.objs.size + 1) :: (us ++ ds)) _ _ E (hr.make C us [])
    (I2.env0.make C us []) (hb _ (Value.ref (s.heap.objs.size + 1) :: us) I2.kIn hl) r2 hq) fun r s' hq' => ?_))
  cases r with
  | error e => exact hx pins σ _ _ e s' I2 hq'
  | ok fl =>
    cases fl with
    | ret u =>
      obtain ⟨v, H', I3, rv, ev, q3⟩ := I2.after hq'
      subst ev
      exact ⟨rv, ⟨V.ref (s.heap.objs.size + 1), H', I3, rfl, q3⟩⟩
    | next => exact False.elim hq'
    | brk => exact False.elim hq'
    | cont => exact False.elim hq'
theorem pe_make (M : Mk X.K C f) (F : FnOk X.prog X.w X.K X.mg X.base CX k f fd ps sp) (hr : Room (k + 1) X.A) (hg : Gl X x) (hm : X.mg x = some (.ref C)) (hb : Binds X.K fd ps ds) (hd : Vals dvs ds) (hx : Passes CX X E)
    (ha : PA X (e :: es) t) (hdb : (x == ("__debug__" : Str)) = false := by decide) (he : starEach (e :: es) X.env = (false, eval e X.env) :: starEach es X.env := by rfl) (hpl : (backTo pos (starEach es X.env)).any (·.1) = false := by rfl) :
    PE X (.Call (.Name x p) (e :: es) [] pos) (tMake C sp dvs E t) := by
  intro pins s σ H Q I h
  refine wpAny_Call_Name_kw (ld_glob I hg hm ?_ hdb)
  refine PySem.W.callWith_K (h₀ := X.base) I.ok.mod.kin M.kp (thn (ha pos pins s σ H _ I h) fun us s1 ⟨vs, H1, I1, r, q⟩ => ⟨I1.kIn, ?_⟩) he hpl
  exact run_make M F hr hb hd hx I1 r q
theorem pe_make0 (M : Mk X.K C f) (F : FnOk X.prog X.w X.K X.mg X.base CX k f fd ps sp) (hr : Room (k + 1) X.A) (hg : Gl X x) (hm : X.mg x = some (.ref C)) (hb : Binds X.K fd ps ds) (hd : Vals dvs ds) (hx : Passes CX X E)
    (hdb : (x == ("__debug__" : Str)) = false := by decide) : PE X (.Call (.Name x p) [] [] pos) (tMake C sp dvs E tNil) := by
  intro pins s σ H Q I h
  refine wpAny_Call_Name_kw (ld_glob I hg hm ?_ hdb)
  exact PySem.W.callWith_K0 I.kIn M.kp (run_make (us := []) M F hr hb hd hx I .nil h)
end

/-! ### keywords -/
/-- the values of the keywords, from the left -/
def PK (X : Cx) (kws : List Keyword) (t : TA) : Prop :=
  ∀ (pos : Pos) (pins : List (Addr × Obj)) (s : Shared) (σ : St) (H : Hp) (Q : List V → Hp → Prop), Inv X pins σ H s → t σ H Q → wpAny (model X.prog X.w) X.A (evalAll ((backToKw pos (keywordEach kws X.env)).map (·.2))) (AP X pins σ Q) X.xe s
section
variable {X : Cx} {CX : CXT} {k : Nat} {f C : Addr} {fd : FuncData} {ps ks : List Str} {sp : Sp} {E : XK} {x m : Str} {p pos apos kpos : Pos} {e o : Expr} {es : List Expr} {kws : List Keyword} {te ta : TE} {t tk : TA} {nm : Option Str}
theorem pk_nil : PK X [] tNil := fun _ _ _ _ H Q I h => wpAny_evalAll_nil ⟨[], H, I, .nil, h⟩
theorem pk_cons (ha : PE X e te) (hr : PK X kws t) : PK X (⟨nm, e, kpos⟩ :: kws) (tCons te t) := by
  intro pos pins s σ H Q I h
  show wpAny _ _ (evalAll ((do let v ← eval e X.env; standAt pos; pure v) :: (backToKw pos (keywordEach kws X.env)).map (·.2))) _ _ s
  refine wpAny_evalAll_cons (wpAny_bind (thn (ha pins s σ H _ I h) fun u s1 ⟨x, H1, I1, r1, q1⟩ => wpAny_bind (wpAny_standAt (wpAny_pure ?_))))
  exact thn (hr pos pins s1 σ H1 _ I1 q1) fun us s2 ⟨xs, H2, I2, r2, q2⟩ => ⟨x :: xs, H2, I2, .cons r1 r2, q2⟩

/-- how a call with keywords binds: g puts the positional values us and the keywords' values ws (names ks) in the parameters' order, defaults among them -/
structure KBinds (K : PySem.W.Frag) (fd : FuncData) (ps ks : List Str) (g : List Value → List Value → List Value) (gV : List V → List V → List V) : Prop where
  to : ∀ (s : Shared) (us ws : List Value), K.In s.heap → (g us ws).length = ps.length → BindsTo s fd ⟨us, ks.zip ws⟩ (ps.zip (g us ws))
  rel : ∀ {vs : List V} {us : List Value} {zs : List V} {ws : List Value}, Vals vs us → Vals zs ws → Vals (gV vs zs) (g us ws)
def tCallK (sp : Sp) (gV : List V → List V → List V) (E : XK) (t tk : TA) : TE := fun σ H Q => t σ H fun vs H1 => tk σ H1 fun zs H2 => sp (gV vs zs) H2 Q E
variable {g : List Value → List Value → List Value} {gV : List V → List V → List V}
theorem run_fnk {pins : List (Addr × Obj)} {σ : St} {H : Hp} {s : Shared} {Q : VK} {us ws : List Value} {vs zs : List V} (F : FnOk X.prog X.w X.K X.mg X.base CX k f fd ps sp) (hr : Room k X.A) (hb : KBinds X.K fd ps ks g gV) (hx : Passes CX X E)
    (I : Inv X pins σ H s) (r : Vals vs us) (rz : Vals zs ws) (h : sp (gV vs zs) H Q E) : wpAny (model X.prog X.w) X.A (call (.ref f) us (ks.zip ws)) (EP X pins σ Q) X.xe s := by
  have r2 := hb.rel r rz
  have hl : (g us ws).length = ps.length := by rw [← r2.length]; exact F.len _ _ _ _ h
  refine wpAny_call (codeAny_mono (F.run X.A X.stack s H ⟨us, ks.zip ws⟩ (g us ws) (gV vs zs) Q E hr I.env0 (hb.to s us ws I.kIn hl) r2 h) fun r s' hq => ?_)
  cases r with
  | error e => exact hx pins σ H s e s' I hq
  | ok fl =>
    cases fl with
    | ret u => exact I.after hq
    | next => exact False.elim hq
    | brk => exact False.elim hq
    | cont => exact False.elim hq
/-- f(e, .., k = v, ..) -/
theorem pe_callK (F : FnOk X.prog X.w X.K X.mg X.base CX k f fd ps sp) (hr : Room k X.A) (hg : Gl X x) (hm : X.mg x = some (.ref f)) (hk : PySem.W.keepIn X.K (.ref f) = true) (hb : KBinds X.K fd ps ks g gV) (hx : Passes CX X E)
    (ha : PA X (e :: es) t) (hkw : PK X kws tk) (hall : (backToKw pos (keywordEach kws X.env)).all (·.1.isSome) = true := by rfl) (hks : (backToKw pos (keywordEach kws X.env)).filterMap (·.1) = ks := by rfl)
    (hdb : (x == ("__debug__" : Str)) = false := by decide) (he : starEach (e :: es) X.env = (false, eval e X.env) :: starEach es X.env := by rfl)
    (hpl : ((backTo pos (starEach (e :: es) X.env)).any (·.1) || (backToKw pos (keywordEach kws X.env)).any (·.1.isNone)) = false := by rfl) :
    PE X (.Call (.Name x p) (e :: es) kws pos) (tCallK sp gV E t tk) := by
  intro pins s σ H Q I h
  refine wpAny_Call_Name_kw (ld_glob I hg hm ?_ hdb)
  refine PySem.W.callWith_KW (h₀ := X.base) I.ok.mod.kin hk hall (thn (ha pos pins s σ H _ I h) fun us s1 ⟨vs, H1, I1, r, q⟩ => ?_) hpl he
  refine thn (hkw pos pins s1 σ H1 _ I1 q) fun ws s2 ⟨zs, H2, I2, rz, q2⟩ => ⟨I2.kIn, ?_⟩
  rw [hks]
  exact run_fnk F hr hb hx I2 r rz q2
end

/-! ### a def's body keeps its promise -/
/-- names: the parameters first -/
structure FnScope (N P : List Str) (sc : Scope) : Prop where
  kind : sc.kind = .function
  co : sc.isCoroutine = false
  gen : sc.isGenerator = false
  nd : N.Nodup
  pre : N.take P.length = P
  par : ∀ x ∈ P, sc.names.lookup x = some .local ∨ sc.names.lookup x = some .cell
  nofree : ∀ y ∈ sc.names, y.2 ≠ .free

theorem bindL_out {kindOf : Str → Option NameKind} {x : Str} : ∀ {binds : List (Str × Value)} {m : Str → Option Value}, (∀ v, (x, v) ∉ binds) → bindL kindOf binds m x = m x
  | [], _, _ => rfl
  | (n, v) :: r, m, h => by
    unfold bindL
    rw [bindL_out fun w hw => h w (List.mem_cons_of_mem _ hw)]
    split
    · have : x ≠ n := by rintro rfl; exact h v List.mem_cons_self
      simp [this]
    · rfl
theorem bindC_out {kindOf : Str → Option NameKind} {x : Str} : ∀ {binds : List (Str × Value)} {m : Str → Option Value}, (∀ v, (x, v) ∉ binds) → bindC kindOf binds m x = m x
  | [], _, _ => rfl
  | (n, v) :: r, m, h => by
    unfold bindC
    rw [bindC_out fun w hw => h w (List.mem_cons_of_mem _ hw)]
    split
    · rfl
    · have : x ≠ n := by rintro rfl; exact h v List.mem_cons_self
      simp [this]
theorem bindL_get {kindOf : Str → Option NameKind} {x : Str} {v : Value} : ∀ {P : List Str} {vs : List Value} {i : Nat} {m : Str → Option Value}, P.Nodup → P[i]? = some x → vs[i]? = some v → kindOf x = some .local →
    bindL kindOf (P.zip vs) m x = some v
  | [], _, _, _, _, h, _, _ => by simp at h
  | _ :: _, [], _, _, _, _, h, _ => by simp at h
  | p :: P, w :: vs, 0, m, nd, h1, h2, hk => by
    simp at h1 h2; subst h1; subst h2
    show bindL kindOf ((p, w) :: P.zip vs) m p = _
    unfold bindL
    rw [bindL_out fun v hv => (List.nodup_cons.mp nd).1 (List.of_mem_zip hv).1, if_pos hk]
    simp
  | p :: P, w :: vs, i + 1, m, nd, h1, h2, hk => by
    show bindL kindOf ((p, w) :: P.zip vs) m x = _
    unfold bindL
    exact bindL_get (i := i) (List.nodup_cons.mp nd).2 (by simpa using h1) (by simpa using h2) hk
theorem bindC_get {kindOf : Str → Option NameKind} {x : Str} {v : Value} : ∀ {P : List Str} {vs : List Value} {i : Nat} {m : Str → Option Value}, P.Nodup → P[i]? = some x → vs[i]? = some v → kindOf x ≠ some .local →
    bindC kindOf (P.zip vs) m x = some v
  | [], _, _, _, _, h, _, _ => by simp at h
  | _ :: _, [], _, _, _, _, h, _ => by simp at h
  | p :: P, w :: vs, 0, m, nd, h1, h2, hk => by
    simp at h1 h2; subst h1; subst h2
    show bindC kindOf ((p, w) :: P.zip vs) m p = _
    unfold bindC
    rw [bindC_out fun v hv => (List.nodup_cons.mp nd).1 (List.of_mem_zip hv).1, if_neg hk]
    simp
  | p :: P, w :: vs, i + 1, m, nd, h1, h2, hk => by
    show bindC kindOf ((p, w) :: P.zip vs) m x = _
    unfold bindC
    exact bindC_get (i := i) (List.nodup_cons.mp nd).2 (by simpa using h1) (by simpa using h2) hk

/-- the names' values at the entry -/
def start (N : List Str) (vs : List V) : St := vs.map some ++ List.replicate (N.length - vs.length) none

/-- the context of a def's body, at its entry; an exception leaves the frame, then lies as CX says -/
def cxOf (CX : CXT) (P : Program) (w : World) (K : PySem.W.Frag) (mg : Str → Option Value) (base : Heap) (N : List Str) (qual : Str) (scope : Scope) (f : Addr) (cd : Value) (A : Around) (outer : List Env) (s : Shared) (H : Hp) (E : XK) : Cx where
  prog := P
  w := w
  K := K
  mg := mg
  base := base
  A := A.deeper (envOfC qual scope s.heap.objs.size f cd)
  N := N
  s₀ := s
  H₀ := H
  env := envOfC qual scope s.heap.objs.size f cd
  outer := outer
  stack := envOfC qual scope s.heap.objs.size f cd :: outer
  ex := []
  calm := true
  fn := fun _ => true
  pn := []
  xe := fun e s' => wpAny (model P w) (A.deeper (envOfC qual scope s.heap.objs.size f cd)) (leaving (envOfC qual scope s.heap.objs.size f cd) e) (fun _ s'' => CX outer H s E e s'') (fun e' s'' => CX outer H s E e' s'') s'

theorem cell_has {sc : Scope} {n : Nat} {x : Str} (h : sc.names.lookup x = some .cell) : ∃ c, (cellsFrom n sc.names []).lookup x = some c := by
  have q := PySem.W.cellsFrom_some sc.names n [] (.inl h)
  exact Option.isSome_iff_exists.mp q

theorem inv_start {CX : CXT} {P : Program} {w : World} {K : PySem.W.Frag} {mg : Str → Option Value} {base : Heap} {N ps : List Str} {qual : Str} {scope : Scope} {f : Addr} {cd : Value} {A : Around} {outer : List Env} {s s1 : Shared} {H : Hp} {E : XK} {us : List Value} {vs : List V}
    (S : FnScope N ps scope) (hd : A.handled = none) (e0 : Env0 P w K mg base A outer s H) (hl : vs.length = ps.length) (r : Vals vs us)
    (x : InCallC s s.heap.objs.size (bindL (envOfC qual scope s.heap.objs.size f cd).kindOf (ps.zip us) fun _ => none) (cellsFrom (s.heap.objs.size + 1) scope.names []) (bindC (envOfC qual scope s.heap.objs.size f cd).kindOf (ps.zip us) fun _ => none) s1) :
    Inv (cxOf CX P w K mg base N qual scope f cd A outer s H E) [] (start N vs) H s1 := by
  have hpl : ps.length ≤ N.length := by have := congrArg List.length S.pre; rw [List.length_take] at this; omega
  obtain ⟨h1, tk, rfl, hk⟩ := x.done
  have noA : ∀ b : Addr, b ∉ (cxOf CX P w K mg base N qual scope f cd A outer s H E).ex := fun b z => absurd (show b ∈ ([] : List Addr) from z) (by simp)
  refine ⟨⟨e0.mod, S.kind, rfl, rfl, Nat.le_refl _, fun y z c h1 h2 => ?_, fun y hy => ?_, fun y c _ h => ?_, fun _ => hd, Around.frames_deeper e0.frames, .inr ⟨rfl, rfl⟩, fun b z => absurd z (noA b), e0.bs, e0.bsz, fun b _ _ => noA b, fun b z => absurd z (noA b), e0.funs, e0.frf⟩,
    rfl, e0.bare, Un.kept hk, ⟨_, x.toInCall.ns, fun i y v h1 h2 h3 => ?_⟩, fun y c h => ⟨_, x.cell y c h⟩, e0.hok.fresh (Nat.le_refl _), fun y c h => ?_, fun p hp => absurd (show p ∈ ([] : List (Addr × Obj)) from hp) (by simp), e0.hok.kept hk, ?_⟩
  · exact name_of_addr x.apart (PySem.mem_of_lookup h1) (PySem.mem_of_lookup h2)
  · have hy : scope.names.lookup y = some .cell ∨ scope.names.lookup y = some .free := hy
    rcases hy with hy | hy
    · exact cell_has hy
    · exact absurd rfl (S.nofree _ (PySem.mem_of_lookup hy))
  · exact Nat.le_of_lt (x.above y c (PySem.mem_of_lookup h))
  · have hi : i < vs.length := by
      unfold start at h2
      by_cases hi : i < vs.length
      · exact hi
      · rw [List.getElem?_append_right (by simpa using hi)] at h2
        rw [List.getElem?_replicate] at h2
        split at h2 <;> cases h2
    have ha : vs[i]? = some v := by
      unfold start at h2
      rw [List.getElem?_append_left (by simpa using hi), List.getElem?_map] at h2
      cases e : vs[i]? with
      | none => rw [e] at h2; cases h2
      | some a => rw [e] at h2; cases h2; rfl
    obtain ⟨u, hu, rv⟩ := r.get ha
    have hp : ps[i]? = some y := by
      rw [← S.pre, List.getElem?_take_of_lt (by omega)]; exact h1
    have ndP : ps.Nodup := by rw [← S.pre]; exact S.nd.sublist (List.take_sublist _ _)
    refine ⟨u, rv, ?_⟩
    rcases S.par y (List.mem_of_getElem? hp) with k | k
    · exact .inl ⟨k, bindL_get ndP hp hu k⟩
    · obtain ⟨c, e⟩ := cell_has (n := s.heap.objs.size + 1) k
      refine .inr ⟨.inl k, c, e, ?_⟩
      have q := x.cell y c e
      rw [bindC_get ndP hp hu (by show scope.names.lookup y ≠ _; rw [k]; decide)] at q
      exact q
  · exact e0.hok.fresh (Nat.le_of_lt (x.above y c (PySem.mem_of_lookup h)))
  · unfold start
    show _ = N.length
    rw [List.length_append, List.length_map, List.length_replicate]
    omega

/-- THE RULE: a def (or a method) of the text, by its body. The body's reading t is chosen for each entry; it is run at the parameters' values -/
theorem fn_of {CX : CXT} {P : Program} {w : World} {K : PySem.W.Frag} {mg : Str → Option Value} {base : Heap} {k : Nat} {f : Addr} {name qual : Str} {params : Arguments} {body : List Stmt} {scope : Scope} {dV kV doc pm cdv ct oc : Value} {an od : Option Addr}
    {osl : Array (Option Value)} {N ps : List Str} {sp : Sp} (lk : K.lookup f = some ⟨oc, od, .func (PySem.W.fnOf name qual params body scope dV kV doc pm an cdv ct), osl⟩) (hcd : PySem.W.codeIn K cdv qual = true) (S : FnScope N ps scope)
    (len : ∀ vs H Q E, sp vs H Q E → vs.length = ps.length)
    (hbody : ∀ (A : Around) (outer : List Env) (s : Shared) (H : Hp) (vs : List V) (Q : VK) (E : XK), Room k (A.deeper (envOfC qual scope s.heap.objs.size f cdv)) → sp vs H Q E →
      ∃ t, PSs (cxOf CX P w K mg base N qual scope f cdv A outer s H E) body t ∧ t { nx := fun _ H' => Q .non H', rt := Q } (start N vs) H) :
    FnOk P w K mg base CX (k + 1) f (PySem.W.fnOf name qual params body scope dV kV doc pm an cdv ct) ps sp := by
  refine ⟨len, fun A outer s H args us vs Q E hr e0 hb r hsp => ?_⟩
  have hl := len _ _ _ _ hsp
  have KX : K.In s.heap := e0.mod.kin.keeps fun b o e => (e0.bs b o e).1
  have lim : s.heap.NoLimit := e0.mod.nolimit.keeps fun b o e => (e0.bs b o e).1
  have hkind : ∀ y ∈ ps.zip us, scope.names.lookup y.1 = some .local ∨ (scope.names.lookup y.1 = some .cell ∧ ((cellsFrom (s.heap.objs.size + 1) scope.names []).lookup y.1).isSome = true) := fun ⟨n, v⟩ hy => by
    rcases S.par n (List.of_mem_zip hy).1 with q | q
    · exact .inl q
    · exact .inr ⟨q, PySem.W.cellsFrom_some _ _ _ (.inl q)⟩
  refine codeAny_call_function hr.depth (KX _ _ lk) rfl S.co S.gen rfl (PySem.W.codeRec_of KX hcd) (hb _ _ _ _ ?_)
  refine wpAny_newFunctionEnv_cells S.kind hkind fun env he s1 x => ?_
  subst he
  refine ⟨lim.keeps x.toInCall.keep, codeAny_func ?_⟩
  obtain ⟨t, ht, hq⟩ := hbody A outer s H vs Q E (hr.deeper _) hsp
  have I : Inv (cxOf CX P w K mg base N qual scope f cdv A outer s H E) [] (start N vs) H s1 := inv_start S hr.hd e0 hl r x
  refine wpAny_mono (ht [] s1 (start N vs) H _ I hq) (fun fl s' hs => ?_) fun e s' hs => hs
  have fin : ∀ {σ' : St} {H' : Hp} {v : V} {u : Value}, Inv (cxOf CX P w K mg base N qual scope f cdv A outer s H E) [] σ' H' s' → RelV v u → Q v H' → CE outer P w H s Q u s' :=
    fun {σ' H' v u} J rv q => ⟨v, H', J.os, J.bare, J.base, J.hok, rv, q⟩
  cases fl with
  | ret u =>
    obtain ⟨v, σ', H', J, rv, q⟩ := hs
    exact fin J rv q
  | next =>
    obtain ⟨σ', H', J, q⟩ := hs
    exact fin (v := V.non) (u := Value.none) J rfl q
  | brk =>
    obtain ⟨_, _, _, q⟩ := hs
    exact False.elim q
  | cont =>
    obtain ⟨_, _, _, q⟩ := hs
    exact False.elim q
end L2

namespace L2
open PySem PySem.Spec PyProof.Rows
section
variable {X : Cx} {x : Str} {p pos : Pos} {e : Expr} {es : List Expr} {t : TA} {id T : String} {r : List V → Hp → VK → Prop}

def tCB (r : List V → Hp → VK → Prop) (t : TA) : TE := fun σ H Q => t σ H fun vs H1 => r vs H1 Q
/-- f(e, ..), f a built-in function -/
theorem pe_callB (hc : CallR X (.builtin id) r) (hg : Gl X x) (hm : X.mg x = none) (hv : bootBuiltins x = some (.builtin id)) (ha : PA X (e :: es) t) (hn : x ≠ "__name__" := by decide) (hdb : (x == ("__debug__" : Str)) = false := by decide)
    (he : starEach (e :: es) X.env = (false, eval e X.env) :: starEach es X.env := by rfl) (hpl : (backTo pos (starEach es X.env)).any (·.1) = false := by rfl) : PE X (.Call (.Name x p) (e :: es) [] pos) (tCB r t) := by
  intro pins s σ H Q I h
  refine wpAny_Call_Name_kw (ld_blt I hg hm hv ?_ hn hdb)
  exact PyProof.Rows.callWith_builtin1 (thn (ha pos pins s σ H _ I h) fun us s1 ⟨vs, H1, I1, r1, q1⟩ => hc pins s1 σ H1 vs us Q I1 r1 q1) he hpl
/-- T(e, ..), T a built-in type -/
theorem pe_callTy (hc : CallR X (.type T) r) (hg : Gl X x) (hm : X.mg x = none) (hv : bootBuiltins x = some (.type T)) (ha : PA X (e :: es) t) (hn : x ≠ "__name__" := by decide) (hdb : (x == ("__debug__" : Str)) = false := by decide)
    (he : starEach (e :: es) X.env = (false, eval e X.env) :: starEach es X.env := by rfl) (hpl : (backTo pos (starEach es X.env)).any (·.1) = false := by rfl) : PE X (.Call (.Name x p) (e :: es) [] pos) (tCB r t) := by
  intro pins s σ H Q I h
  refine wpAny_Call_Name_kw (ld_blt I hg hm hv ?_ hn hdb)
  exact PyProof.Rows.callWith_type1 (thn (ha pos pins s σ H _ I h) fun us s1 ⟨vs, H1, I1, r1, q1⟩ => hc pins s1 σ H1 vs us Q I1 r1 q1) he hpl
/-- T() -/
theorem pe_callTy0 (hc : CallR X (.type T) r) (hg : Gl X x) (hm : X.mg x = none) (hv : bootBuiltins x = some (.type T)) (hn : x ≠ "__name__" := by decide) (hdb : (x == ("__debug__" : Str)) = false := by decide) :
    PE X (.Call (.Name x p) [] [] pos) (tCB r tNil) := by
  intro pins s σ H Q I h
  refine wpAny_Call_Name_kw (ld_blt I hg hm hv ?_ hn hdb)
  exact PyProof.Rows.callWith_type0 (hc pins s σ H [] [] Q I .nil h)
end
end L2

namespace HT
open PySem PyProof.Rows

/-- t < u of tuples of ints -/
def lexLt : List Int → List Int → Bool
  | [], [] => false
  | [], _ :: _ => true
  | _ :: _, [] => false
  | x :: xs, y :: ys => if x = y then lexLt xs ys else decide (x < y)
theorem lexLt_cons (x y : Int) (xs ys : List Int) : lexLt (x :: xs) (y :: ys) = if x = y then lexLt xs ys else decide (x < y) := rfl
theorem lexLt_nil_nil : lexLt [] [] = false := rfl
theorem lexLt_nil_cons (y : Int) (ys : List Int) : lexLt [] (y :: ys) = true := rfl
theorem lexLt_cons_nil (x : Int) (xs : List Int) : lexLt (x :: xs) [] = false := rfl

theorem eqAt_int (A : Around) (s : Shared) (a : Int) (t : Tok) (c : Int) (u : Tok) : ∃ e, SeqAt.EqAt A s (.int a t) (.int c u) e ∧ (e = true ↔ a = c) :=
  ⟨(a == c), SeqAt.EqAt.int_int a t c u, by simp⟩
theorem rcLt_int (A : Around) (s : Shared) (a : Int) (t : Tok) (c : Int) (u : Tok) (prog : Program) (w : World) (E : Value → Shared → Prop) (Q : Value → Shared → Prop) (h : Q (.bool (decide (a < c))) s) :
    wpAny (model prog w) A (richCompare .Lt (.int a t) (.int c u)) Q E s :=
  (PyProof.Rows.lt_int h : wpAny (model prog w) A (compareOp .Lt (.int a t) (.int c u)) Q E s)

section
open PySem.SeqAt
open PySem.AutoSeq1 (wpAny_loadPart')
open PySem.MeetsSeq PySem.MeetsSeq2 PySem.MeetsSeq3

theorem tuple_lt_ints (l b : Addr) (items items2 : Array Value) (n n2 : Nat) (dd dd2 : Option Addr) (sl sl2 : Array (Option Value)) (ns ms : List Int) (hi : IntsAre items.toList ns) (hj : IntsAre items2.toList ms) :
    Meets (Builtin.«tuple.__lt__» ⟨[.ref l, .ref b], []⟩)
      (fun _ R s => s.heap.get? l = some { cls := .type "tuple", dict := dd, data := .seq items n, slots := sl } ∧ s.heap.get? b = some { cls := .type "tuple", dict := dd2, data := .seq items2 n2, slots := sl2 } ∧
        R (.ok (.ret (.bool (lexLt ns ms)))) s) :=
  .of_wp fun prog w A R s h => by
    obtain ⟨hp, g, d, tk, os⟩ := s; obtain ⟨hl, hb, h⟩ := h
    have f2 := AutoSeq1.sub_tuple_tuple
    have z1 : items.size = ns.length := by rw [← hi.length]; simp
    have z2 : items2.size = ms.length := by rw [← hj.length]; simp
    wp_walk using wpAny_loadPart' hl, wpAny_loadPart' hb, wpAny_forIn_list _ (fun rest b s' => b.1 = none ∧ s' = ⟨hp, g, d, tk, os⟩ ∧ ∃ (vs ws : List Value) (ns' ms' : List Int), rest = vs.zip ws ∧
      IntsAre vs ns' ∧ IntsAre ws ms' ∧ ns'.length + items2.size = ms'.length + items.size ∧ R (.ok (.ret (.bool (lexLt ns' ms')))) ⟨hp, g, d, tk, os⟩) _
    case turn =>
      rintro ⟨y, x⟩ rest b s' ⟨hb', rfl, vs, ws, ns', ms', hz, hvi, hwi, hlen, hR⟩
      cases hvi with
      | nil => rw [List.zip_nil_left] at hz; cases hz
      | cons a t hvi' =>
        cases hwi with
        | nil => rw [List.zip_nil_right] at hz; cases hz
        | cons c u hwi' =>
          rw [List.zip_cons_cons] at hz
          injection hz with hyx hrest
          injection hyx with hy hx
          subst hy hx
          rw [lexLt_cons] at hR
          simp only [List.length_cons] at hlen
          obtain ⟨e, he, hiff⟩ := eqAt_int A.in1 ⟨hp, g, d, tk, os⟩ a t c u
          refine wpAny_bind (he prog w _ _ ?_)
          cases e with
          | true =>
            rw [if_pos (hiff.mp rfl)] at hR
            wp_walk
            exact ⟨rfl, rfl, _, _, _, _, hrest, hvi', hwi', by omega, hR⟩
          | false =>
            rw [if_neg (fun q => absurd (hiff.mpr q) Bool.false_ne_true)] at hR
            have hri := rcLt_int A.in1 ⟨hp, g, d, tk, os⟩ a t c u prog w
            wp_walk using hri
            exact ⟨_, rfl, by simpa using hR⟩
    case fin =>
      rintro ⟨b1, b2⟩ s' ⟨hb', rfl, vs, ws, ns', ms', hz, hvi, hwi, hlen, hR⟩
      simp only at hb'
      subst hb'
      have hv : lexLt ns' ms' = decide (items.size < items2.size) := by
        cases hvi with
        | nil =>
          cases hwi with
          | nil =>
            simp only [List.length_nil] at hlen
            rw [lexLt_nil_nil]
            exact (decide_eq_false (by omega)).symm
          | cons c u hw =>
            simp only [List.length_nil, List.length_cons] at hlen
            rw [lexLt_nil_cons]
            exact (decide_eq_true (by omega)).symm
        | cons a t hv =>
          cases hwi with
          | nil =>
            simp only [List.length_nil, List.length_cons] at hlen
            rw [lexLt_cons_nil]
            exact (decide_eq_false (by omega)).symm
          | cons c u hw =>
            rw [List.zip_cons_cons] at hz
            cases hz
      rw [hv] at hR
      wp_walk
      exact ⟨_, rfl, by simpa [Builtin.Tuple.tupleCompareSizes] using hR⟩
    case h =>
      exact ⟨rfl, rfl, items.toList, items2.toList, ns, ms, rfl, hi, hj, by omega, h⟩
end

section
variable {prog : Program} {w : World} {A : Around} {E : Value → Shared → Prop} {s : Shared}

theorem lt_tupInts {l b : Addr} {items items2 : Array Value} {ns ms : List Int} {Q : Value → Shared → Prop} (hl : IsTup s.heap l items) (hb : IsTup s.heap b items2) (hi : IntsAre items.toList ns) (hj : IntsAre items2.toList ms)
    (hu : A.units < cLine) (h : Q (.bool (lexLt ns ms)) s) : wpAny (model prog w) A (compareOp .Lt (.ref l) (.ref b)) Q E s := by
  obtain ⟨⟨cls, dd, data, sl⟩, ho, hc, n, hd⟩ := id hl
  obtain ⟨⟨cls2, dd2, data2, sl2⟩, ho2, hc2, n2, hd2⟩ := id hb
  simp only at hc hd hc2 hd2
  subst hc hd hc2 hd2
  exact richCompare_meets_room (op := .Lt) ⟨_, ho, rfl⟩ ⟨_, ho2, rfl⟩ PySem.F.slot_tuple_lt PySem.F.entry_tuple_lt (PySem.F.args_tuple_lt_2 _ _) (tuple_lt_ints l b items items2 n n2 dd dd2 sl sl2 ns ms hi hj)
    ⟨ho, ho2, show Value.bool (lexLt ns ms) ≠ Value.notImplemented ∧ Q (.bool (lexLt ns ms)) s from ⟨(fun x => nomatch x), h⟩⟩ hu

/-- t + u, t not empty -/
theorem cat_tup {t b : Addr} {vs ws : List Value} {Q : Value → Shared → Prop} (ht : IsTup s.heap t vs.toArray) (hb : IsTup s.heap b ws.toArray) (hv : vs ≠ [])
    (h1 : ws = [] → Q (.ref t) s) (h2 : ws ≠ [] → Q (.ref s.heap.objs.size) { s with heap := s.heap.push { cls := .type "tuple", data := .seq (vs ++ ws).toArray } })
    (hsz : vs.length + ws.length ≤ sizeLine) : wpAny (model prog w) A (binaryOp .Add (.ref t) (.ref b)) Q E s := by
  obtain ⟨⟨cls, dd, data, sl⟩, ho, hc, n, hd⟩ := id ht
  obtain ⟨⟨cls2, dd2, data2, sl2⟩, ho2, hc2, n2, hd2⟩ := id hb
  simp only at hc hd hc2 hd2
  subst hc hd hc2 hd2
  have e : vs.toArray ++ ws.toArray = (vs ++ ws).toArray := by simp
  by_cases hw : ws = []
  · exact concat_meets ⟨_, ho, rfl⟩ ⟨_, ho2, rfl⟩ noFill_tuple_add seq_tuple_add PySem.F.slot_tuple_add PySem.F.entry_tuple_add (PySem.F.args_tuple_add_2 _ _)
      (tuple_addW1 t b vs.toArray ws.toArray n n2 dd dd2 sl sl2 (by simpa using hv) (by simp [hw])) ⟨ho, ho2, h1 hw⟩
  · refine concat_meets ⟨_, ho, rfl⟩ ⟨_, ho2, rfl⟩ noFill_tuple_add seq_tuple_add PySem.F.slot_tuple_add PySem.F.entry_tuple_add (PySem.F.args_tuple_add_2 _ _)
      (tuple_addW2 t b vs.toArray ws.toArray n n2 dd dd2 sl sl2 (by simpa using hv) (by simpa using hw) (by rw [List.size_toArray, List.size_toArray]; exact hsz)) ⟨ho, ho2, ?_⟩
    rw [e]
    exact h2 hw

/-! ### t[a:b], not the whole -/
/-- a slice's bound as a place among n (d where it is left out) -/
def sIx (n d : Nat) : Option Int → Nat
  | none => d
  | some v => if v < 0 then (v + (n : Int)).toNat else min v.toNat n
theorem sIx_none (n d : Nat) : sIx n d none = d := rfl
theorem sIx_nat (n d k : Nat) : sIx n d (some (k : Int)) = min k n := by
  show (if (k : Int) < 0 then ((k : Int) + (n : Int)).toNat else min (k : Int).toNat n) = min k n
  rw [if_neg (by omega), Int.toNat_natCast]
theorem sIx_le (n d : Nat) (hd : d ≤ n) (o : Option Int) : sIx n d o ≤ n := by
  cases o with
  | none => exact hd
  | some v =>
    show (if v < 0 then (v + (n : Int)).toNat else min v.toNat n) ≤ n
    by_cases hv : v < 0
    · rw [if_pos hv]; omega
    · rw [if_neg hv]; exact Nat.min_le_right _ _
theorem clip_eq (v : Int) (n d : Nat) : (if v < 0 then max (v + (n : Int)) 0 else min v (n : Int)) = ((sIx n d (some v) : Nat) : Int) := by
  show (if v < 0 then max (v + (n : Int)) 0 else min v (n : Int)) = (((if v < 0 then (v + (n : Int)).toNat else min v.toNat n) : Nat) : Int)
  by_cases hv : v < 0
  · simp only [if_pos hv]; omega
  · simp only [if_neg hv]; omega
theorem adjust_gen (lo hi : Option Int) (n : Nat) : Builtin.Slice.sliceAdjust lo hi 1 (n : Int) = (((sIx n 0 lo : Nat) : Int), ((sIx n n hi : Nat) : Int)) := by
  have h1 : ¬ ((1 : Int) < 0) := by omega
  unfold Builtin.Slice.sliceAdjust
  simp only [h1, if_false]
  refine Prod.ext ?_ ?_
  · cases lo with
    | none => rfl
    | some v => exact clip_eq v n 0
  · cases hi with
    | none => rfl
    | some v => exact clip_eq v n n
theorem places_gen (i j : Nat) : Builtin.Slice.slicePlaces (i : Int) (j : Int) 1 = j - i := by
  unfold Builtin.Slice.slicePlaces
  have h1 : (1 : Int) > 0 := by omega
  simp only [h1, if_true, Int.ediv_one]
  split <;> omega
theorem slicePart_ {v : Value} {o : Option Int} {Q : Option Int → Shared → Prop} (p : IsPart v o) (h : Q o s) : wpAny (model prog w) A (Builtin.Slice.slicePartIndex v) Q E s := by
  cases p with
  | none => exact slicePart_none h
  | int i t => exact slicePart_int h
theorem sliceApplied_gen {sl : Addr} {vl vu : Value} {lo hi : Option Int} {n : Nat} {Q : Int × Int × Nat → Shared → Prop} (hs : s.heap.IsSliceOf sl vl vu .none) (pl : IsPart vl lo) (pu : IsPart vu hi)
    (h : Q (((sIx n 0 lo : Nat) : Int), 1, sIx n n hi - sIx n 0 lo) s) : wpAny (model prog w) A (Builtin.Slice.sliceApplied (.ref sl) (pure (n : Int))) Q E s := by
  obtain ⟨os, hos, hcs, hds⟩ := id hs
  unfold Builtin.Slice.sliceApplied Builtin.Slice.sliceFields
  refine wpAny_bind (wpAny_bind (wpAny_field hos hds (x := vl) rfl (wpAny_bind (wpAny_field hos hds (x := vu) rfl (wpAny_bind (wpAny_field hos hds (x := .none) rfl (wpAny_pure ?_)))))))
  refine wpAny_bind (slicePart_none ?_)
  show wpAny _ _ (if ((1 : Int) == 0) = true then _ else _) _ _ s
  rw [if_neg (by decide)]
  refine wpAny_bind (slicePart_ pl (wpAny_bind (slicePart_ pu (wpAny_bind (wpAny_pure ?_)))))
  show wpAny _ _ (match Builtin.Slice.sliceAdjust lo hi 1 (n : Int) with | (lo, hi) => pure (lo, (1 : Int), Builtin.Slice.slicePlaces lo hi 1)) _ _ s
  rw [adjust_gen lo hi n]
  show wpAny _ _ (pure (((sIx n 0 lo : Nat) : Int), (1 : Int), Builtin.Slice.slicePlaces ((sIx n 0 lo : Nat) : Int) ((sIx n n hi : Nat) : Int) 1)) _ _ s
  rw [places_gen]
  exact wpAny_pure h
theorem pick_gen (xs : Array Value) (i k : Nat) : ((List.range k).filterMap fun (m : Nat) => xs[((i : Int) + (m : Int) * 1).toNat]?).toArray = ((xs.toList.drop i).take k).toArray := by
  have e : (fun (m : Nat) => xs[((i : Int) + (m : Int) * 1).toNat]?) = fun m => xs[i + m]? := by
    funext m
    have : ((i : Int) + (m : Int) * 1).toNat = i + m := by omega
    rw [this]
  rw [e]
  have := pick_run xs i k
  rw [List.filterMap_map] at this
  have e2 : ((fun x => xs[x]?) ∘ fun x => i + x) = fun m => xs[i + m]? := rfl
  rw [e2] at this
  rw [this]

theorem getItem_tuple_cut {t sl : Addr} {items : Array Value} {vl vu : Value} {lo hi : Option Int} {Q : Value → Shared → Prop} (ht : IsTup s.heap t items) (hs : s.heap.IsSliceOf sl vl vu .none) (pl : IsPart vl lo) (pu : IsPart vu hi)
    (hw : ¬ (sIx items.size 0 lo = 0 ∧ sIx items.size items.size hi = items.size))
    (h : Q (.ref s.heap.objs.size) { s with heap := s.heap.push { cls := .type "tuple", data := .seq ((items.toList.drop (sIx items.size 0 lo)).take (sIx items.size items.size hi - sIx items.size 0 lo)).toArray } })
    (hsz : items.size ≤ sizeLine) : wpAny (model prog w) A (getItem (.ref t) (.ref sl)) Q E s := by
  have htake : sizeOk (.seq ((items.toList.drop (sIx items.size 0 lo)).take (sIx items.size items.size hi - sIx items.size 0 lo)).toArray) := by
    show ((items.toList.drop (sIx items.size 0 lo)).take (sIx items.size items.size hi - sIx items.size 0 lo)).toArray.size ≤ sizeLine
    rw [List.size_toArray, List.length_take, List.length_drop, Array.length_toList]
    omega
  have hj : sIx items.size items.size hi ≤ items.size := sIx_le _ _ (Nat.le_refl _) hi
  obtain ⟨os, hos, hcs, hds⟩ := id hs
  have hTs : s.TypeIs (.ref sl) "slice" := ⟨os, hos, hcs⟩
  unfold getItem
  try with_reducible refine wpAny_holding ?_
  first | refine wpAny_bind (wpAny_pure ?_) | skip
  refine wpAny_bind (wpAny_sequenceKey ht.typeIs (by decide) ?_)
  refine wpAny_bind (wpAny_callSpecial?_slot (name := Str.ofString "__getitem__") ht.typeIs PyProof.Rows.slot_tuple_getitem
    (wpAny_call_entry PyProof.Rows.slot_tuple_getitem ht.typeIs entry_tuple_getitem ?_ (args_tuple_getitem _ _)))
  show wpAny _ _ (Builtin.Tuple.tupleItemsOf (.ref t) >>= _) _ _ s
  refine wpAny_bind (tupleItemsOf_ ht ?_)
  refine wpAny_bind (wpAny_typeOf hTs ?_)
  rw [if_pos (by decide)]
  refine wpAny_bind (sliceApplied_gen hs pl pu ?_)
  have hno : ¬ ((((sIx items.size 0 lo : Nat) : Int) == 0 && (1 : Int) == 1 && (sIx items.size items.size hi - sIx items.size 0 lo) == items.size) = true) := by
    intro q
    rw [Bool.and_eq_true, Bool.and_eq_true] at q
    have q1 : ((sIx items.size 0 lo : Nat) : Int) = 0 := eq_of_beq q.1.1
    have q2 : sIx items.size items.size hi - sIx items.size 0 lo = items.size := eq_of_beq q.2
    exact hw ⟨by omega, by omega⟩
  show wpAny _ _ (if (((sIx items.size 0 lo : Nat) : Int) == 0 && (1 : Int) == 1 && (sIx items.size items.size hi - sIx items.size 0 lo) == items.size) = true then _ else _) _ _ s
  rw [if_neg hno, pick_gen]
  first
    | exact wpAny_bind (m := Builtin.Tuple.tupleExact _) (wpAny_newObj_type (wpAny_pure ⟨_, rfl, wpAny_pure h⟩) htake)
    | exact wpAny_bind (m := Builtin.Tuple.tupleExact _) (wpAny_newObj_type (wpAny_bind (wpAny_pure (wpAny_pure ⟨_, rfl, wpAny_pure h⟩))) htake)
    | exact wpAny_bind (wpAny_bind (m := Builtin.Tuple.tupleExact _) (wpAny_newObj_type (wpAny_pure (wpAny_pure ⟨_, rfl, wpAny_pure h⟩)) htake))
    | exact wpAny_bind (wpAny_bind (m := Builtin.Tuple.tupleExact _) (wpAny_newObj_type (wpAny_pure ⟨_, rfl, wpAny_pure h⟩) htake))
end
end HT

namespace L2
open PySem PySem.Spec PyProof.Rows

/-! ### the parts of a slice -/
abbrev TO := St → Hp → (Option Int → Hp → Prop) → Prop
/-- a slice's part (left out, or an int) -/
def PO (X : Cx) (e : Option Expr) (t : TO) : Prop :=
  ∀ (pins : List (Addr × Obj)) (s : Shared) (σ : St) (H : Hp) (Q : Option Int → Hp → Prop), Inv X pins σ H s → t σ H Q →
    wpAny (model X.prog X.w) X.A (evalPart e X.env) (fun u s' => ∃ o H', Inv X pins σ H' s' ∧ IsPart u o ∧ Q o H') X.xe s
def tNoPart : TO := fun _ H Q => Q none H
def tPart (t : TE) : TO := fun σ H Q => t σ H fun x H1 => ∃ i, x = .int i ∧ Q (some i) H1

theorem intsAre_of {ns : List Int} : ∀ {us : List Value}, Vals (ns.map V.int) us → IntsAre us ns := by
  induction ns with
  | nil => intro us r; rw [List.map_nil] at r; cases r; exact .nil
  | cons n ns ih =>
    intro us r
    rw [List.map_cons] at r
    cases r with
    | cons r1 r2 =>
      obtain ⟨t, e⟩ := r1
      subst e
      exact .cons n t (ih r2)

section
variable {X : Cx} {e : Expr} {te : TE} {lo hi : Option Expr} {tl th : TO} {pos p2 : Pos}

theorem po_none : PO X none tNoPart := by
  intro pins s σ H Q I h
  rw [evalPart_none]
  exact wpAny_pure ⟨none, H, I, .none, h⟩
theorem po_some (h : PE X e te) : PO X (some e) (tPart te) := by
  intro pins s σ H Q I hw
  rw [evalPart_some]
  refine thn (h pins s σ H _ I hw) fun u s1 ⟨x, H1, I1, r1, q1⟩ => ?_
  obtain ⟨i, rfl, q⟩ := q1
  obtain ⟨t, rfl⟩ := r1
  exact ⟨some i, H1, I1, .int i t, q⟩

/-- what a slice of a value is, by values: the slice object stands at sl -/
def SlR (X : Cx) (r : V → Option Int → Option Int → Hp → VK → Prop) : Prop :=
  ∀ (pins : List (Addr × Obj)) (s : Shared) (σ : St) (H : Hp) (x : V) (v vl vu : Value) (lo hi : Option Int) (sl : Addr) (Q : VK), Inv X pins σ H s → RelV x v → s.heap.IsSliceOf sl vl vu .none → IsPart vl lo → IsPart vu hi → r x lo hi H Q →
    ∃ T id, typeLookup (.type T) "__getitem__" = pure (some (.builtin id)) ∧ s.TypeIs v T ∧ wpAny (model X.prog X.w) X.A (getItem v (.ref sl)) (EP X pins σ Q) X.xe s
theorem SlR.or {r r' : V → Option Int → Option Int → Hp → VK → Prop} (h : SlR X r) (h' : SlR X r') : SlR X (fun x lo hi H Q => r x lo hi H Q ∨ r' x lo hi H Q) := by
  intro pins s σ H x v vl vu lo hi sl Q I rx hs pl pu q
  rcases q with q | q
  · exact h pins s σ H x v vl vu lo hi sl Q I rx hs pl pu q
  · exact h' pins s σ H x v vl vu lo hi sl Q I rx hs pl pu q
def tSl (r : V → Option Int → Option Int → Hp → VK → Prop) (te : TE) (tl th : TO) : TE := fun σ H Q => te σ H fun x H1 => tl σ H1 fun l H2 => th σ H2 fun u H3 => r x l u H3 Q
/-- a[lo:hi], any a -/
theorem pe_slice {r : V → Option Int → Option Int → Hp → VK → Prop} (hr : SlR X r) (he : PE X e te) (hl : PO X lo tl) (hu : PO X hi th) : PE X (.Subscript e (.Slice lo hi none p2) pos) (tSl r te tl th) := by
  intro pins s σ H Q I h
  refine Subscript_ (thn (he pins s σ H _ I h) fun v s1 ⟨x, H1, I1, r1, q1⟩ => ?_)
  refine wpAny_Slice (thn (hl pins s1 σ H1 _ I1 q1) fun vl s2 ⟨l, H2, I2, pl, q2⟩ => thn (hu pins s2 σ H2 _ I2 q2) fun vu s3 ⟨u, H3, I3, pu, q3⟩ => ?_)
  rw [evalPart_none]
  refine wpAny_pure ?_
  have I4 : Inv X pins σ H3 { s3 with heap := s3.heap.push { cls := .type "slice", data := .fields #[vl, vu, .none] } } := I3.kept (t' := s3.toks) fun b ob q => Heap.get?_push_of_some _ q
  obtain ⟨T, id, hT, ht, hg⟩ := hr pins { s3 with heap := s3.heap.push { cls := .type "slice", data := .fields #[vl, vu, .none] } } σ H3 x v vl vu l u s3.heap.objs.size Q I4 r1 (Heap.IsSliceOf.new ..) pl pu q3
  show wpAny (model X.prog X.w) X.A (subscriptTail e (.Slice lo hi none p2) v (.ref s3.heap.objs.size)) (EP X pins σ Q) X.xe { s3 with heap := s3.heap.push { cls := .type "slice", data := .fields #[vl, vu, .none] } }
  exact tail_any (ops := [.ref s3.heap.objs.size, v]) ht hT hg (by with_unfolding_all rfl)

/-- the items of xs[lo:hi] -/
def cutV (xs : List V) (lo hi : Option Int) : List V := (xs.drop (HT.sIx xs.length 0 lo)).take (HT.sIx xs.length xs.length hi - HT.sIx xs.length 0 lo)
theorem cutV_length (xs : List V) (lo hi : Option Int) : (cutV xs lo hi).length ≤ xs.length := by
  unfold cutV
  rw [List.length_take, List.length_drop]
  omega
/-- t[lo:hi], not the whole of it (the whole would be t itself) -/
def rSlT (K : PySem.W.Frag) : V → Option Int → Option Int → Hp → VK → Prop := fun x lo hi H Q => ∃ a xs, x = .ref a ∧ SqT K H a xs ∧
  ¬ (HT.sIx xs.length 0 lo = 0 ∧ HT.sIx xs.length xs.length hi = xs.length) ∧ ∀ p, H p = none → Q (.ref p) (upd H p (.tup (cutV xs lo hi)))
theorem sl_tup : SlR X (rSlT X.K) := by
  intro pins s σ H x v vl vu lo hi sl Q I rx hs pl pu h
  obtain ⟨a, xs, rfl, hx, hw, q⟩ := h
  cases rx
  obtain ⟨its, r, ht, hz⟩ := I.tuple hx
  have hlen : its.toArray.size = xs.length := by rw [List.size_toArray]; exact r.length.symm
  refine ⟨"tuple", _, PyProof.Rows.slot_tuple_getitem.lookup, ht.typeIs, ?_⟩
  refine HT.getItem_tuple_cut ht hs pl pu (by rw [hlen]; exact hw) ?_ (by rw [hlen]; exact hz)
  rw [hlen]
  refine ⟨.ref s.heap.objs.size, _, I.laid (t' := s.toks) (o := .tup (cutV xs lo hi)) (fun b ob q => Heap.get?_push_of_some _ q) (Nat.le_refl _) ?_, rfl, q _ (I.hok.fresh (Nat.le_refl _))⟩
  exact ⟨Nat.le_trans (cutV_length xs lo hi) hz, _, (r.drop (HT.sIx xs.length 0 lo)).take (HT.sIx xs.length xs.length hi - HT.sIx xs.length 0 lo), IsTup.new _ _⟩

/-! ### t < u, t + u -/
def rLtT (K : PySem.W.Frag) : R2 := fun x y H Q => ∃ a b ns ms, x = .ref a ∧ y = .ref b ∧ SqT K H a (ns.map V.int) ∧ SqT K H b (ms.map V.int) ∧ Q (.bl (HT.lexLt ns ms)) H
theorem op_ltT (hu : X.A.units < cLine) : OpR X (compareOp .Lt) (rLtT X.K) := by
  intro pins s σ H x y v u Q I rx ry h
  obtain ⟨a, b, ns, ms, rfl, rfl, ha, hb, q⟩ := h
  cases rx
  cases ry
  obtain ⟨its, r1, p1, _⟩ := I.tuple ha
  obtain ⟨its2, r2, p2, _⟩ := I.tuple hb
  have i1 : IntsAre its.toArray.toList ns := intsAre_of r1
  have i2 : IntsAre its2.toArray.toList ms := intsAre_of r2
  exact HT.lt_tupInts p1 p2 i1 i2 hu ⟨.bl (HT.lexLt ns ms), H, I, rfl, q⟩
/-- t + u, t not empty: u empty gives t itself -/
def rCatT (K : PySem.W.Frag) : R2 := fun x y H Q => ∃ a b xs ys, x = .ref a ∧ y = .ref b ∧ SqT K H a xs ∧ SqT K H b ys ∧ xs ≠ [] ∧ xs.length + ys.length ≤ sizeLine ∧
  (ys = [] → Q (.ref a) H) ∧ (ys ≠ [] → ∀ p, H p = none → Q (.ref p) (upd H p (.tup (xs ++ ys))))
theorem Vals.nil_iff {xs : List V} {us : List Value} (r : Vals xs us) : us = [] ↔ xs = [] := by
  cases r with
  | nil => simp
  | cons _ _ => simp
theorem op_catT : OpR X (binaryOp .Add) (rCatT X.K) := by
  intro pins s σ H x y v u Q I rx ry h
  obtain ⟨a, b, xs, ys, rfl, rfl, ha, hb, hx, hz, q1, q2⟩ := h
  cases rx
  cases ry
  obtain ⟨its, r1, p1, _⟩ := I.tuple ha
  obtain ⟨its2, r2, p2, _⟩ := I.tuple hb
  refine HT.cat_tup p1 p2 (fun z => hx (r1.nil_iff.mp z)) (fun z => ⟨.ref a, H, I, rfl, q1 (r2.nil_iff.mp z)⟩) (fun z => ?_) (by rw [← r1.length, ← r2.length]; exact hz)
  refine ⟨.ref s.heap.objs.size, _, I.laid (t' := s.toks) (o := .tup (xs ++ ys)) (fun b ob q => Heap.get?_push_of_some _ q) (Nat.le_refl _) ?_, rfl, q2 (fun w => z (r2.nil_iff.mpr w)) _ (I.hok.fresh (Nat.le_refl _))⟩
  exact ⟨by rw [List.length_append]; exact hz, _, r1.append r2, IsTup.new _ _⟩
/-- tuple(t) -/
theorem call_tupleT : CallR X (.type "tuple") (fun xs H Q => ∃ a ys, xs = [.ref a] ∧ SqT X.K H a ys ∧ Q (.ref a) H) := by
  intro pins s σ H xs us Q I r h
  obtain ⟨a, ys, rfl, ha, q⟩ := h
  obtain ⟨u, rfl, ru⟩ := vals1 r
  cases ru
  obtain ⟨its, _, p1, _⟩ := I.tuple ha
  exact call_tuple_same (items := its.toArray) p1 ⟨.ref a, H, I, rfl, q⟩
end
end L2

namespace L2
open PySem PySem.Spec PyProof.Rows

/-! ### places -/
/-- the place that an index of any sign means -/
def ixN (n : Nat) (i : Int) : Option Nat := if 0 ≤ i then (if i < n then some i.toNat else none) else if -(n : Int) ≤ i then some (i + n).toNat else none
def atI {α : Type} (xs : List α) (i : Int) : Option α := (ixN xs.length i).bind fun j => xs[j]?
theorem ixN_seq {n : Nat} {i : Int} {j : Nat} (h : ixN n i = some j) : seqIndex? i n = some j ∧ j < n ∧ -(n : Int) ≤ i ∧ i < n := by
  unfold ixN at h
  by_cases h0 : 0 ≤ i
  · rw [if_pos h0] at h
    by_cases h1 : i < n
    · rw [if_pos h1] at h
      have e : i.toNat = j := Option.some.inj h
      exact ⟨by rw [seqIndex_of h0 h1, e], by omega, by omega, h1⟩
    · rw [if_neg h1] at h; cases h
  · rw [if_neg h0] at h
    by_cases h1 : -(n : Int) ≤ i
    · rw [if_pos h1] at h
      have e : (i + n).toNat = j := Option.some.inj h
      exact ⟨by rw [seqIndex_neg (by omega) h1, e], by omega, h1, by omega⟩
    · rw [if_neg h1] at h; cases h
theorem atI_get {α : Type} {xs : List α} {i : Int} {v : α} (h : atI xs i = some v) : ∃ j, seqIndex? i xs.length = some j ∧ xs[j]? = some v ∧ j < xs.length ∧ -(xs.length : Int) ≤ i ∧ i < xs.length := by
  unfold atI at h
  cases e : ixN xs.length i with
  | none => rw [e] at h; cases h
  | some j =>
    rw [e] at h
    obtain ⟨h1, h2, h3, h4⟩ := ixN_seq e
    exact ⟨j, h1, h, h2, h3, h4⟩
theorem atI_nat {α : Type} {xs : List α} {j : Nat} {v : α} (h : xs[j]? = some v) : atI xs (j : Int) = some v := by
  have hj : j < xs.length := (List.getElem?_eq_some_iff.mp h).1
  have e : ixN xs.length (j : Int) = some j := by
    unfold ixN
    rw [if_pos (by omega), if_pos (by omega)]; simp
  unfold atI; rw [e]; exact h
theorem atI_last {α : Type} (xs : List α) (v : α) : atI (xs ++ [v]) (-1) = some v := by
  have hl : (xs ++ [v]).length = xs.length + 1 := by simp
  have e : ixN (xs ++ [v]).length (-1) = some xs.length := by
    unfold ixN
    rw [hl, if_neg (by decide), if_pos (by omega)]
    congr 1
    omega
  unfold atI
  rw [e]
  show (xs ++ [v])[xs.length]? = some v
  simp

/-! ### what may be subscripted -/
/-- what stands as an index of a plain subscript -/
def PlainIx (b : Expr) : Prop := ∀ o i, subscripted b false o i = operate [o, i] (getItem o i)
/-- a subscript by values -/
def IxR (X : Cx) (r : R2) : Prop :=
  ∀ (value slice : Expr) (pins : List (Addr × Obj)) (s : Shared) (σ : St) (H : Hp) (x y : V) (v u : Value) (Q : VK), Inv X pins σ H s → RelV x v → RelV y u → r x y H Q →
    subscripted slice false v u = operate [v, u] (getItem v u) → wpAny (model X.prog X.w) X.A (subscriptTail value slice v u) (EP X pins σ Q) X.xe s
/-- a call of a builtin's method by values: the receiver, the arguments -/
def MtR (X : Cx) (id : String) (r : V → List V → Hp → VK → Prop) : Prop :=
  ∀ (pins : List (Addr × Obj)) (s : Shared) (σ : St) (H : Hp) (x : V) (xs : List V) (v : Value) (us : List Value) (Q : VK), Inv X pins σ H s → RelV x v → Vals xs us → r x xs H Q →
    wpAny (model X.prog X.w) X.A (call (.builtin id) (v :: us)) (EP X pins σ Q) X.xe s
section
variable {X : Cx} {a b : Expr} {ta tb : TE} {pos : Pos}
theorem IxR.or {r r' : R2} (h : IxR X r) (h' : IxR X r') : IxR X (fun x y H Q => r x y H Q ∨ r' x y H Q) := by
  intro value slice pins s σ H x y v u Q I rx ry q hs
  rcases q with q | q
  · exact h value slice pins s σ H x y v u Q I rx ry q hs
  · exact h' value slice pins s σ H x y v u Q I rx ry q hs
theorem MtR.or {id : String} {r r' : V → List V → Hp → VK → Prop} (h : MtR X id r) (h' : MtR X id r') : MtR X id (fun x xs H Q => r x xs H Q ∨ r' x xs H Q) := by
  intro pins s σ H x xs v us Q I rx rs q
  rcases q with q | q
  · exact h pins s σ H x xs v us Q I rx rs q
  · exact h' pins s σ H x xs v us Q I rx rs q
/-- a[b] -/
theorem pe_ix {r : R2} (hr : IxR X r) (ha : PE X a ta) (hb : PE X b tb) (hs : PlainIx b) : PE X (.Subscript a b pos) (tOp r ta tb) := by
  intro pins s σ H Q I h
  exact Subscript_ (binT ha hb I h fun v u s2 x y H2 I2 rx ry q => hr a b pins s2 σ H2 x y v u Q I2 rx ry q (hs _ _))

def rIxL (K : PySem.W.Frag) : R2 := fun x y H Q => ∃ p xs i v, x = .ref p ∧ y = .int i ∧ SqL K H p xs ∧ atI xs i = some v ∧ Q v H
def rIxT (K : PySem.W.Frag) : R2 := fun x y H Q => ∃ p xs i v, x = .ref p ∧ y = .int i ∧ SqT K H p xs ∧ atI xs i = some v ∧ Q v H
def rIxS : R2 := fun x y H Q => ∃ z i c, x = .str z ∧ y = .int i ∧ z.length ≤ sizeLine ∧ atI z.cps.toList i = some c ∧ Q (.str ⟨#[c]⟩) H
theorem ix_list : IxR X (rIxL X.K) := by
  intro value slice pins s σ H x y v u Q I rx ry h hs
  obtain ⟨p, xs, i, z, rfl, rfl, hq, he, q⟩ := h
  cases rx
  obtain ⟨t, rfl⟩ := ry
  obtain ⟨its, r, pl, hz⟩ := I.list hq
  obtain ⟨j, h1, h2, h3, h4, h5⟩ := atI_get he
  obtain ⟨w, ew, rw'⟩ := r.get h2
  have hl := r.length
  have hn := line63
  have fin : EP X pins σ Q w s := ⟨z, H, I, rw', q⟩
  by_cases h0 : 0 ≤ i
  · have hj : i.toNat = j := by
      rw [seqIndex_of h0 h5] at h1
      exact Option.some.inj h1
    exact item_listR pl.isList h0 (by omega) (by rw [hj]; simpa using ew) fin hs
  · have hj : (i + (its.toArray.size : Int)).toNat = j := by
      rw [seqIndex_neg (by omega) h4] at h1
      rw [List.size_toArray, ← hl]
      exact Option.some.inj h1
    exact subscriptTail_builtinR (x := w) pl.isList.typeIs slot_list_getitem.lookup
      (wpAny_getItem_list_neg (Q := fun r s' => r = w ∧ EP X pins σ Q r s') pl.isList (by omega) (by rw [List.size_toArray] <;> omega) (by omega) (by rw [hj]; simpa using ew) ⟨rfl, fin⟩) hs
theorem ix_tup : IxR X (rIxT X.K) := by
  intro value slice pins s σ H x y v u Q I rx ry h hs
  obtain ⟨p, xs, i, z, rfl, rfl, hq, he, q⟩ := h
  cases rx
  obtain ⟨t, rfl⟩ := ry
  obtain ⟨its, r, pl, hz⟩ := I.tuple hq
  obtain ⟨j, h1, h2, h3, h4, h5⟩ := atI_get he
  obtain ⟨w, ew, rw'⟩ := r.get h2
  have hl := r.length
  have hn := line63
  have fin : EP X pins σ Q w s := ⟨z, H, I, rw', q⟩
  exact subscriptTail_builtinR (x := w) pl.typeIs slot_tuple_getitem.lookup
    (getItem_tuple (j := j) (Q := fun r s' => r = w ∧ EP X pins σ Q r s') pl (by omega) (by omega) (by rw [List.size_toArray, ← hl]; exact h1) (by simpa using ew) ⟨rfl, fin⟩) hs
theorem ix_str : IxR X rIxS := by
  intro value slice pins s σ H x y v u Q I rx ry h hs
  obtain ⟨z, i, c, rfl, rfl, hz, he, q⟩ := h
  obtain ⟨t, rfl⟩ := rx
  obtain ⟨t', rfl⟩ := ry
  obtain ⟨j, h1, h2, h3, h4, h5⟩ := atI_get he
  have hl : z.cps.toList.length = z.length := by simp [Str.length]
  rw [hl] at h1 h4 h5
  have hn := line63
  exact tail_any (typeIs_str s z t) slot_str_getitem.lookup (getItem_str (c := c) (by
    have e1 : decide (i < -(2 ^ 63 : Int)) = false := decide_eq_false (by omega)
    have e2 : decide (i ≥ 2 ^ 63) = false := decide_eq_false (by omega)
    rw [e1, e2, Bool.or_false]) (by rw [h1]; simpa using h2) ⟨.str ⟨#[c]⟩, H, I.tok _, ⟨_, rfl⟩, q⟩) hs
/-- list, tuple or str -/
def rIx (K : PySem.W.Frag) : R2 := fun x y H Q => rIxL K x y H Q ∨ rIxT K x y H Q ∨ rIxS x y H Q
theorem ix_seq : IxR X (rIx X.K) := ix_list.or (ix_tup.or ix_str)

/-! ### xs[i] = v, any sign -/
/-- the list's object behind a store -/
theorem mapSeq_set (its : List Value) (n j : Nat) (u : Value) : Obj.mapSeq (·.setIfInBounds j u) { cls := .type "list", data := .seq its.toArray n } = { cls := .type "list", data := .seq (its.set j u).toArray n } := by
  simp [Obj.mapSeq]
theorem Inv.lst {pins : List (Addr × Obj)} {σ : St} {H : Hp} {s : Shared} {p : Addr} {xs : List V} (I : Inv X pins σ H s) (h : H p = some (.lst xs)) :
    ∃ (its : List Value) (n : Nat), Vals xs its ∧ s.heap.get? p = some { cls := .type "list", data := .seq its.toArray n } ∧ xs.length ≤ sizeLine := by
  obtain ⟨z, its, n, r, e⟩ := I.hok p _ h
  exact ⟨its, n, r, e, z⟩
/-- the list at p is written by an update of its object -/
theorem Inv.lstUpd {pins : List (Addr × Obj)} {σ : St} {H : Hp} {s : Shared} {p : Addr} {xs ys : List V} {its its' : List Value} {n n' : Nat} {f : Obj → Obj} (I : Inv X pins σ H s) (h : H p = some (.lst xs))
    (ho : s.heap.get? p = some { cls := .type "list", data := .seq its.toArray n }) (hf : f { cls := .type "list", data := .seq its.toArray n } = { cls := .type "list", data := .seq its'.toArray n' }) (r : Vals ys its') (hz : ys.length ≤ sizeLine) (t : Nat) :
    Inv X pins σ (upd H p (.lst ys)) { s with heap := s.heap.update p f, toks := t } := by
  have e : (s.heap.update p f).get? p = some { cls := .type "list", data := .seq its'.toArray n' } := by
    rw [Heap.get?_update_self f ho (by rw [hf] <;> rfl), hf]
  refine I.write (x := p) (e := p) (by rw [h]; trivial) (.inl rfl) (fun b u hb q => (Heap.get?_update_other _ _ (Ne.symm hb)).trans q) ⟨_, e⟩ ?_
  exact ⟨hz, its', n', r, e⟩
def rSetL : V → V → V → Hp → (Hp → Prop) → Prop := fun o i v H Q => ∃ p xs k j, o = .ref p ∧ i = .int k ∧ H p = some (.lst xs) ∧ ixN xs.length k = some j ∧ Q (upd H p (.lst (xs.set j v)))
theorem set_list : PSet X rSetL := by
  intro pins s σ H o i v ov iv u Q I ro ri rv h
  obtain ⟨p, xs, k, j, rfl, rfl, hp, hj, q⟩ := h
  cases ro
  obtain ⟨t, rfl⟩ := ri
  obtain ⟨its, n, r, ho, hz⟩ := I.lst hp
  obtain ⟨h1, h2, h3, h4⟩ := ixN_seq hj
  have hl := r.length
  have hn := line63
  have I' : Inv X pins σ (upd H p (.lst (xs.set j v))) { s with heap := s.heap.update p (Obj.mapSeq (·.setIfInBounds j u)) } :=
    I.lstUpd hp ho (mapSeq_set its n j u) (r.set rv j) (by rw [List.length_set]; exact hz) s.toks
  by_cases h0 : 0 ≤ k
  · have hk : k.toNat = j := by
      rw [seqIndex_of h0 h4] at h1
      exact Option.some.inj h1
    exact PySem.W.ki_setAt ho h0 (by omega) (by rw [List.size_toArray, ← hl]; exact h4) (by rw [hk]; exact ⟨_, I', q⟩)
  · have hk : (k + (its.toArray.size : Int)).toNat = j := by
      rw [seqIndex_neg (by omega) h3] at h1
      rw [List.size_toArray, ← hl]
      exact Option.some.inj h1
    exact PySem.W.ki_setBack ho (by omega) (by rw [List.size_toArray, ← hl]; exact h3) (by omega) (by rw [hk]; exact ⟨_, I', q⟩)

/-! ### slices -/
theorem slice_bounds (lo hi : Option Int) (n : Nat) : (sliceBounds lo hi none n).1 = ((HT.sIx n 0 lo : Nat) : Int) ∧ (sliceBounds lo hi none n).2.1 = ((HT.sIx n n hi : Nat) : Int) ∧ (sliceBounds lo hi none n).2.2 = 1 := by
  refine ⟨?_, ?_, rfl⟩
  · cases lo with
    | none => simp [sliceBounds, HT.sIx]
    | some i =>
      simp only [sliceBounds, HT.sIx, Option.getD_none, show (1 : Int) > 0 by decide, if_true]
      by_cases h : i < 0
      · simp only [h, if_true] <;> omega
      · simp only [h, if_false] <;> omega
  · cases hi with
    | none => simp [sliceBounds, HT.sIx]
    | some i =>
      simp only [sliceBounds, HT.sIx, Option.getD_none, show (1 : Int) > 0 by decide, if_true]
      by_cases h : i < 0
      · simp only [h, if_true] <;> omega
      · simp only [h, if_false] <;> omega
theorem slicePick_cut (its : List Value) (lo hi : Option Int) : slicePick its.toArray lo hi none = ((its.drop (HT.sIx its.length 0 lo)).take (HT.sIx its.length its.length hi - HT.sIx its.length 0 lo)).toArray := by
  obtain ⟨h1, h2, h3⟩ := slice_bounds lo hi its.toArray.size
  unfold slicePick
  rw [h1, h2, h3]
  simp only [sliceRange_one, pick_run, List.size_toArray] <;> rfl
/-- xs[lo:hi] of a list: a new list -/
def rSlL (K : PySem.W.Frag) : V → Option Int → Option Int → Hp → VK → Prop := fun x lo hi H Q => ∃ a xs, x = .ref a ∧ SqL K H a xs ∧ ∀ p, H p = none → Q (.ref p) (upd H p (.lst (cutV xs lo hi)))
theorem sl_list : SlR X (rSlL X.K) := by
  intro pins s σ H x v vl vu lo hi sl Q I rx hs pl pu h
  obtain ⟨a, xs, rfl, hx, q⟩ := h
  cases rx
  obtain ⟨its, r, ht, hz⟩ := I.list hx
  have hlen := r.length
  refine ⟨"list", _, slot_list_getitem.lookup, ht.isList.typeIs, ?_⟩
  refine wpAny_getItem_list_slice ht.isList hs pl pu .none (by simp) ?_ (by rw [List.size_toArray] <;> omega)
  rw [slicePick_cut, ← hlen]
  refine ⟨.ref s.heap.objs.size, _, I.laid (t' := s.toks) (o := .lst (cutV xs lo hi)) (fun b ob q => Heap.get?_push_of_some _ q) (Nat.le_refl _) ?_, rfl, q _ (I.hok.fresh (Nat.le_refl _))⟩
  exact ⟨Nat.le_trans (cutV_length xs lo hi) hz, _, 0, (r.drop (HT.sIx xs.length 0 lo)).take (HT.sIx xs.length xs.length hi - HT.sIx xs.length 0 lo), Heap.get?_push_size _ rfl⟩

/-! ### in, not in: flat items -/
def flatV : V → Bool
  | .non => true
  | .bl _ => true
  | .int _ => true
  | .str _ => true
  | _ => false
/-- == of flat values -/
def eqV : V → V → Bool
  | .non, .non => true
  | .bl a, .bl b => a == b
  | .bl a, .int b => (if a then 1 else 0) == b
  | .int a, .bl b => a == (if b then 1 else 0)
  | .int a, .int b => a == b
  | .str a, .str b => a == b
  | _, _ => false
theorem eqAt_V {A : Around} {s : Shared} {y x : V} {u v : Value} (ry : RelV y u) (rx : RelV x v) (fy : flatV y = true) (fx : flatV x = true) : SeqAt.EqAt A s u v (eqV y x) := by
  cases y with
  | non =>
    cases ry
    cases x with
    | non => cases rx; exact SeqAt.EqAt.same _
    | bl b => cases rx; exact SeqAt.EqAt.none_bool b
    | int b => obtain ⟨t, rfl⟩ := rx; exact SeqAt.EqAt.none_int b t
    | str b => obtain ⟨t, rfl⟩ := rx; exact SeqAt.EqAt.none_str b t
    | _ => exact absurd (show false = true from fx) Bool.false_ne_true
  | bl a =>
    cases ry
    cases x with
    | non => cases rx; exact SeqAt.EqAt.bool_none a
    | bl b => cases rx; exact SeqAt.EqAt.bool_bool a b
    | int b => obtain ⟨t, rfl⟩ := rx; exact SeqAt.EqAt.bool_int a b t
    | str b => obtain ⟨t, rfl⟩ := rx; exact SeqAt.EqAt.bool_str a b t
    | _ => exact absurd (show false = true from fx) Bool.false_ne_true
  | int a =>
    obtain ⟨t', rfl⟩ := ry
    cases x with
    | non => cases rx; exact SeqAt.EqAt.int_none a t'
    | bl b => cases rx; exact SeqAt.EqAt.int_bool a t' b
    | int b => obtain ⟨t, rfl⟩ := rx; exact SeqAt.EqAt.int_int a t' b t
    | str b => obtain ⟨t, rfl⟩ := rx; exact SeqAt.EqAt.int_str a t' b t
    | _ => exact absurd (show false = true from fx) Bool.false_ne_true
  | str a =>
    obtain ⟨t', rfl⟩ := ry
    cases x with
    | non => cases rx; exact SeqAt.EqAt.str_none a t'
    | bl b => cases rx; exact SeqAt.EqAt.str_bool a t' b
    | int b => obtain ⟨t, rfl⟩ := rx; exact SeqAt.EqAt.str_int a t' b t
    | str b => obtain ⟨t, rfl⟩ := rx; exact SeqAt.EqAt.str_str a t' b t
    | _ => exact absurd (show false = true from fx) Bool.false_ne_true
  | _ => exact absurd (show false = true from fy) Bool.false_ne_true
/-- the items' answers, read off the values (a value's own answer does not lean on its token) -/
def eqU (x : V) (u : Value) : Bool := match u with
  | .none => eqV .non x
  | .bool b => eqV (.bl b) x
  | .int i _ => eqV (.int i) x
  | .str z _ => eqV (.str z) x
  | _ => false
theorem eqU_of {x y : V} {u : Value} (r : RelV y u) (f : flatV y = true) : eqU x u = eqV y x := by
  cases y with
  | non => cases r; rfl
  | bl b => cases r; rfl
  | int i => obtain ⟨t, rfl⟩ := r; rfl
  | str z => obtain ⟨t, rfl⟩ := r; rfl
  | _ => exact absurd (show false = true from f) Bool.false_ne_true
theorem any_eqU {x : V} : ∀ {xs : List V} {us : List Value}, Vals xs us → xs.all flatV = true → us.any (eqU x) = xs.any fun y => eqV y x
  | _, _, .nil, _ => rfl
  | y :: xs, u :: us, .cons r t, f => by
    rw [List.all_cons, Bool.and_eq_true] at f
    rw [List.any_cons, List.any_cons, eqU_of r f.1, any_eqU t f.2]
theorem mem_eqAt {A : Around} {s : Shared} {x : V} {v : Value} (rx : RelV x v) (fx : flatV x = true) : ∀ {xs : List V} {us : List Value}, Vals xs us → xs.all flatV = true → ∀ u ∈ us, SeqAt.EqAt A s u v (eqU x u)
  | _, _, .nil, _ => fun u hu => by cases hu
  | y :: xs, u :: us, .cons r t, f => fun u' hu => by
    rw [List.all_cons, Bool.and_eq_true] at f
    rcases List.mem_cons.mp hu with rfl | hu
    · rw [eqU_of r f.1]; exact eqAt_V r rx f.1 fx
    · exact mem_eqAt rx fx t f.2 u' hu
def inV (x : V) (xs : List V) : Bool := xs.any fun y => eqV y x
/-- x in a list or tuple of flat items -/
def rIn (K : PySem.W.Frag) (neg : Bool) : R2 := fun x y H Q => ∃ p xs, y = .ref p ∧ (SqL K H p xs ∨ SqT K H p xs) ∧ flatV x = true ∧ xs.all flatV = true ∧ Q (.bl (if neg then !inV x xs else inV x xs)) H
theorem op_in_seq : OpR X (compareOp .In) (rIn X.K false) := by
  intro pins s σ H x y v u Q I rx ry h
  obtain ⟨p, xs, rfl, hq, fx, fs, q⟩ := h
  cases ry
  rcases hq with hq | hq
  · obtain ⟨its, r, pl, hz⟩ := I.list hq
    refine SeqAt.in_listAt (eqU x) pl.isList (fun w hw => mem_eqAt rx fx r fs w (by simpa using hw)) ⟨.bl _, H, I, rfl, ?_⟩
    rw [show its.toArray.any (eqU x) = its.any (eqU x) by simp, any_eqU r fs]
    exact q
  · obtain ⟨its, r, pl, hz⟩ := I.tuple hq
    refine SeqAt.in_tupleAt (eqU x) pl (fun w hw => mem_eqAt rx fx r fs w (by simpa using hw)) ⟨.bl _, H, I, rfl, ?_⟩
    rw [show its.toArray.any (eqU x) = its.any (eqU x) by simp, any_eqU r fs]
    exact q
theorem op_notIn_seq : OpR X (compareOp .NotIn) (rIn X.K true) := by
  intro pins s σ H x y v u Q I rx ry h
  obtain ⟨p, xs, rfl, hq, fx, fs, q⟩ := h
  cases ry
  rcases hq with hq | hq
  · obtain ⟨its, r, pl, hz⟩ := I.list hq
    refine SeqAt.notIn_listAt (eqU x) pl.isList (fun w hw => mem_eqAt rx fx r fs w (by simpa using hw)) ⟨.bl _, H, I, rfl, ?_⟩
    rw [show its.toArray.any (eqU x) = its.any (eqU x) by simp, any_eqU r fs]
    exact q
  · obtain ⟨its, r, pl, hz⟩ := I.tuple hq
    refine SeqAt.notIn_tupleAt (eqU x) pl (fun w hw => mem_eqAt rx fx r fs w (by simpa using hw)) ⟨.bl _, H, I, rfl, ?_⟩
    rw [show its.toArray.any (eqU x) = its.any (eqU x) by simp, any_eqU r fs]
    exact q
theorem op_notIn_str : OpR X (compareOp .NotIn) (fun x y H Q => ∃ i j, x = .str i ∧ y = .str j ∧ Q (.bl (!(!(Builtin.Str.occurrences j i 0 j.length 1).isEmpty))) H) := by
  intro pins s σ H x y v u Q I rx ry h
  obtain ⟨i, j, rfl, rfl, q⟩ := h
  obtain ⟨t, rfl⟩ := rx
  obtain ⟨t', rfl⟩ := ry
  exact notIn_str ⟨.bl _, H, I, rfl, q⟩

/-! ### len, list(x), tuple(x) of any list or tuple that is read -/
theorem call_len_seq : CallR X (.builtin "len") (fun xs H Q => ∃ p ys, xs = [.ref p] ∧ (SqL X.K H p ys ∨ SqT X.K H p ys) ∧ Q (.int ys.length) H) := by
  intro pins s σ H xs us Q I r h
  obtain ⟨p, ys, rfl, hq, q⟩ := h
  obtain ⟨u, rfl, rx⟩ := vals1 r
  cases rx
  have hn := line63
  rcases hq with hq | hq
  · obtain ⟨its, r', pl, hz⟩ := I.list hq
    have hlen := r'.length
    exact Calls.call_len_list pl.isList (by simp only [List.size_toArray] <;> omega) ⟨.int ys.length, H, I.tok _, ⟨s.toks + 1, by rw [List.size_toArray, hlen]⟩, q⟩
  · obtain ⟨its, r', pl, hz⟩ := I.tuple hq
    have hlen := r'.length
    exact len_tuple pl (by simp only [List.size_toArray] <;> omega) ⟨.int ys.length, H, I.tok _, ⟨s.toks + 1, by rw [List.size_toArray, hlen]⟩, q⟩
theorem call_len_str : CallR X (.builtin "len") (fun xs H Q => ∃ z, xs = [.str z] ∧ z.length ≤ sizeLine ∧ Q (.int z.length) H) := by
  intro pins s σ H xs us Q I r h
  obtain ⟨z, rfl, hz, q⟩ := h
  obtain ⟨u, rfl, t, rfl⟩ := vals1 r
  have hn := line63
  exact len_str (by omega) ⟨.int z.length, H, I.tok _, ⟨_, rfl⟩, q⟩
theorem CallR.or {f : Value} {r r' : List V → Hp → VK → Prop} (h : CallR X f r) (h' : CallR X f r') : CallR X f (fun xs H Q => r xs H Q ∨ r' xs H Q) := by
  intro pins s σ H xs us Q I rs q
  rcases q with q | q
  · exact h pins s σ H xs us Q I rs q
  · exact h' pins s σ H xs us Q I rs q
theorem call_list_of : CallR X (.type "list") (fun xs H Q => ∃ p ys, xs = [.ref p] ∧ (SqL X.K H p ys ∨ SqT X.K H p ys) ∧ ∀ l, H l = none → Q (.ref l) (upd H l (.lst ys))) := by
  intro pins s σ H xs us Q I r h
  obtain ⟨p, ys, rfl, hq, q⟩ := h
  obtain ⟨u, rfl, rx⟩ := vals1 r
  cases rx
  have fin : ∀ (its : List Value), Vals ys its → ys.length ≤ sizeLine → ∀ (h' : Heap) (c' : Nat), (∀ b o', s.heap.get? b = some o' → h'.get? b = some o') →
      h'.get? s.heap.objs.size = some { cls := .type "list", dict := none, data := .seq its.toArray c', slots := #[] } → EP X pins σ Q (.ref s.heap.objs.size) { s with heap := h' } := fun its r' hz h' c' kp e =>
    ⟨.ref s.heap.objs.size, _, I.laid (t' := s.toks) kp (Nat.le_refl _) (show ObjOk X.prog X.w _ h' _ (.lst ys) from ⟨hz, its, c', r', e⟩), rfl, q _ (I.hok.fresh (Nat.le_refl _))⟩
  rcases hq with hq | hq
  · obtain ⟨its, r', pl, hz⟩ := I.list hq
    have hlen := r'.length
    obtain ⟨o, ho, hc, n, hd⟩ := pl.isList
    exact call_list_seq p (.inl rfl) ho hc hd (fun h' c' kp e => fin its r' hz h' c' kp e) (by simp only [List.size_toArray] <;> omega)
  · obtain ⟨its, r', pl, hz⟩ := I.tuple hq
    have hlen := r'.length
    obtain ⟨o, ho, hc, n, hd⟩ := pl
    exact call_list_seq p (.inr rfl) ho hc hd (fun h' c' kp e => fin its r' hz h' c' kp e) (by simp only [List.size_toArray] <;> omega)
theorem call_tuple_of : CallR X (.type "tuple") (fun xs H Q => ∃ p ys, xs = [.ref p] ∧ ((SqL X.K H p ys ∧ ∀ l, H l = none → Q (.ref l) (upd H l (.tup ys))) ∨ (SqT X.K H p ys ∧ Q (.ref p) H))) := by
  intro pins s σ H xs us Q I r h
  obtain ⟨p, ys, rfl, h⟩ := h
  obtain ⟨u, rfl, rx⟩ := vals1 r
  cases rx
  rcases h with ⟨hq, q⟩ | ⟨hq, q⟩
  · obtain ⟨its, r', pl, hz⟩ := I.list hq
    have hlen := r'.length
    refine call_tuple_list pl.isList (fun h' kp => ?_) (by simp only [List.size_toArray] <;> omega)
    have I1 : Inv X pins σ H { s with heap := h' } := I.kept (t' := s.toks) kp
    have I2 : Inv X pins σ (upd H h'.objs.size (.tup ys)) { s with heap := h'.push { cls := .type "tuple", data := .seq its.toArray } } :=
      I1.laid (t' := s.toks) (fun b o e => Heap.get?_push_of_some _ e) (Nat.le_refl _) (show ObjOk X.prog X.w _ _ _ (.tup ys) from ⟨hz, its, r', IsTup.new _ _⟩)
    exact ⟨.ref h'.objs.size, _, I2, rfl, q _ (I1.hok.fresh (Nat.le_refl _))⟩
  · obtain ⟨its, r', pl, hz⟩ := I.tuple hq
    exact call_tuple_same pl ⟨.ref p, H, I, rfl, q⟩

/-! ### the call of a builtin's method: o.m(..) -/
/-- the value is of that builtin type -/
def tyV (K : PySem.W.Frag) (T : String) (x : V) (H : Hp) : Prop := match x with
  | .str _ => T = "str"
  | .int _ => T = "int"
  | .ref p => (T = "list" ∧ ∃ xs, SqL K H p xs) ∨ (T = "tuple" ∧ ∃ o, K.lookup p = some o ∧ o.cls = .type "tuple" ∧ o.dict = none) ∨
      (T = "dict" ∧ ((∃ kvs, H p = some (.dK kvs)) ∨ ∃ kvs, H p = some (.dT kvs))) ∨ (T = "set" ∧ ∃ S n, H p = some (.set S n))
  | _ => False
theorem tyV_is {pins : List (Addr × Obj)} {σ : St} {H : Hp} {s : Shared} {T : String} {x : V} {v : Value} (I : Inv X pins σ H s) (r : RelV x v) (ty : tyV X.K T x H) :
    s.TypeIs v T ∧ ∀ a, v = .ref a → ∃ ob, s.heap.get? a = some ob ∧ ob.dict = none := by
  cases x with
  | str z =>
    obtain ⟨t, rfl⟩ := r
    cases (show T = "str" from ty)
    exact ⟨typeIs_str s z t, fun _ e => nomatch e⟩
  | int i =>
    obtain ⟨t, rfl⟩ := r
    cases (show T = "int" from ty)
    exact ⟨typeIs_int s i t, fun _ e => nomatch e⟩
  | ref p =>
    cases r
    rcases ty with ⟨rfl, xs, hq⟩ | ⟨rfl, o, hk, hc, hd⟩ | ⟨rfl, hk⟩ | ⟨rfl, S, n, hk⟩
    · obtain ⟨its, _, pl, _⟩ := I.list hq
      refine ⟨pl.isList.typeIs, fun a e => ?_⟩
      cases e
      obtain ⟨o, n, e, c, hd, _⟩ := pl
      exact ⟨o, e, hd⟩
    · refine ⟨⟨o, I.kIn p o hk, hc⟩, fun a e => ?_⟩
      cases e
      exact ⟨o, I.kIn _ o hk, hd⟩
    · have z : ∃ o, s.heap.get? p = some o ∧ o.ExactDict := by
        rcases hk with ⟨kvs, hk⟩ | ⟨kvs, hk⟩
        · obtain ⟨_, _, _, _, o, _, _, e, ex, _⟩ := I.hok p _ hk
          exact ⟨o, e, ex⟩
        · obtain ⟨_, _, _, _, o, _, _, e, ex, _⟩ := I.hok p _ hk
          exact ⟨o, e, ex⟩
      obtain ⟨o, e, ex⟩ := z
      refine ⟨⟨o, e, ex.1⟩, fun a e2 => ?_⟩
      cases e2
      exact ⟨o, e, ex.2.1⟩
    · obtain ⟨o, _, _, _, e, ex, _⟩ := I.hok p _ hk
      refine ⟨⟨o, e, ex.1⟩, fun a e2 => ?_⟩
      cases e2
      exact ⟨o, e, ex.2.1⟩
  | _ => exact False.elim ty
def tBM0 (K : PySem.W.Frag) (T : String) (r : V → List V → Hp → VK → Prop) (to : TE) : TE := fun σ H Q => to σ H fun x H1 => tyV K T x H1 ∧ r x [] H1 Q
def tBM (K : PySem.W.Frag) (T : String) (r : V → List V → Hp → VK → Prop) (to : TE) (t : TA) : TE := fun σ H Q => to σ H fun x H1 => tyV K T x H1 ∧ t σ H1 fun xs H2 => r x xs H2 Q
variable {o e : Expr} {es : List Expr} {to : TE} {t : TA} {name : Str} {apos cpos : Pos} {T id : String} {r : V → List V → Hp → VK → Prop}
theorem pe_bm0 (pa : PlainAttrs T) (slot : Slot T name id) (hty : typeOf (.builtin id) = pure (.type "method_descriptor")) (hm : MtR X id r) (ho : PE X o to)
    (hbase : attributeBase o name X.env (eval o X.env) = eval o X.env := by rfl) (hline : (apos.endLine == cpos.line) = true := by rfl) : PE X (.Call (.Attribute o name apos) [] [] cpos) (tBM0 X.K T r to) := by
  intro pins s σ H Q I h
  refine wpAny_Call_method0_late hbase hline (thn (ho pins s σ H _ I h) fun v s1 ⟨x, H1, I1, r1, ty, q1⟩ => ?_)
  obtain ⟨h1, h2⟩ := tyV_is I1 r1 ty
  exact ⟨T, id, pa, slot, hty, h1, h2, Calls.callWith_builtin rfl (PySem.evalArgs_none (hm pins s1 σ H1 x [] v [] Q I1 r1 .nil q1))⟩
theorem pe_bm (pa : PlainAttrs T) (slot : Slot T name id) (hty : typeOf (.builtin id) = pure (.type "method_descriptor")) (hm : MtR X id r) (ho : PE X o to) (ha : PA X (e :: es) t)
    (hbase : attributeBase o name X.env (eval o X.env) = eval o X.env := by rfl)
    (hfew : ((backTo cpos (starEach (e :: es) X.env)).all (fun x => !x.1) && (backToKw cpos (keywordEach [] X.env)).all (fun x => x.1.isSome)
      && decide ((e :: es).length + ([] : List Keyword).length + (if ([] : List Keyword).isEmpty then 0 else 1) < 30)) = true := by rfl)
    (hline : (apos.endLine == cpos.line) = true := by rfl) (hs : starEach (e :: es) X.env = (false, eval e X.env) :: starEach es X.env := by rfl) (hplain : (backTo cpos (starEach es X.env)).any (·.1) = false := by rfl) :
    PE X (.Call (.Attribute o name apos) (e :: es) [] cpos) (tBM X.K T r to t) := by
  intro pins s σ H Q I h
  refine wpAny_Call_method_late hbase hfew hline rfl (thn (ho pins s σ H _ I h) fun v s1 ⟨x, H1, I1, r1, ty, q1⟩ => ?_)
  obtain ⟨h1, h2⟩ := tyV_is I1 r1 ty
  refine ⟨T, id, pa, slot, hty, h1, h2, ?_⟩
  have hA := ha cpos pins s1 σ H1 _ I1 q1
  rw [hs] at hA ⊢
  refine Calls.callWith_builtin (by show (false || (backTo cpos (starEach es X.env)).any (·.1)) = false; rw [hplain] <;> rfl) (Calls.evalArgs_plain ?_)
  exact thn hA fun us s2 ⟨vs, H2, I2, r2, q2⟩ => hm pins s2 σ H2 x vs v us Q I2 r1 r2 q2
/- xs.append(e), list.index on a module's tuple .. are MtR facts of 06m -/
end
end L2

namespace L2
open PySem PySem.Spec PyProof.Rows

def MtM (X : Cx) (id : String) (r : V → List V → Hp → VK → Prop) : Prop :=
  ∀ (pins : List (Addr × Obj)) (s : Shared) (σ : St) (H : Hp) (x : V) (xs : List V) (v : Value) (us : List Value) (Q : VK), Inv X pins σ H s → RelV x v → Vals xs us → r x xs H Q →
    wpAny (model X.prog X.w) X.A (call (.builtin id) (v :: us)) (EP X pins σ Q) X.xe s

/-! ### lists of values -/
theorem Vals.one : ∀ {x : V} {us : List Value}, Vals [x] us → ∃ u, us = [u] ∧ RelV x u
  | _, _, .cons r .nil => ⟨_, rfl, r⟩
theorem Vals.two : ∀ {x y : V} {us : List Value}, Vals [x, y] us → ∃ u v, us = [u, v] ∧ RelV x u ∧ RelV y v
  | _, _, _, .cons r (.cons q .nil) => ⟨_, _, rfl, r, q⟩
theorem Vals.zero : ∀ {us : List Value}, Vals [] us → us = []
  | _, .nil => rfl
theorem Vals.dropLast {xs : List V} {us : List Value} (h : Vals xs us) : Vals xs.dropLast us.dropLast := by
  induction h with
  | nil => exact .nil
  | cons r t ih =>
    cases t with
    | nil => exact .nil
    | cons q t' => exact .cons r ih
theorem Vals.eraseIdx : ∀ {xs : List V} {us : List Value} (i : Nat), Vals xs us → Vals (xs.eraseIdx i) (us.eraseIdx i)
  | _, _, _, .nil => .nil
  | _, _, 0, .cons _ t => t
  | _, _, i + 1, .cons r t => .cons r (Vals.eraseIdx i t)
theorem Vals.reverse {xs : List V} {us : List Value} (h : Vals xs us) : Vals xs.reverse us.reverse := by
  induction h with
  | nil => exact .nil
  | cons r t ih => rw [List.reverse_cons, List.reverse_cons]; exact Vals.append ih (.cons r .nil)
theorem Vals.rep {xs : List V} {us : List Value} (h : Vals xs us) : ∀ k : Nat, Vals (List.replicate k xs).flatten (List.replicate k us).flatten
  | 0 => .nil
  | k + 1 => by
    rw [List.replicate_succ, List.replicate_succ, List.flatten_cons, List.flatten_cons]
    exact Vals.append h (Vals.rep h k)
theorem erase_last {α : Type} (l : List α) : l.eraseIdx (l.length - 1) = l.dropLast := by
  induction l with
  | nil => rfl
  | cons a r ih =>
    cases r with
    | nil => rfl
    | cons b r =>
      have e : (a :: b :: r).length - 1 = ((b :: r).length - 1) + 1 := by
        have h1 : (a :: b :: r).length = r.length + 2 := rfl
        have h2 : (b :: r).length = r.length + 1 := rfl
        omega
      rw [e, List.eraseIdx_cons_succ, ih]
      all_goals rfl
theorem len_erase {α : Type} : ∀ (l : List α) (i : Nat), (l.eraseIdx i).length ≤ l.length
  | [], _ => Nat.le_refl _
  | _ :: _, 0 => Nat.le_succ _
  | _ :: r, i + 1 => Nat.succ_le_succ (len_erase r i)
theorem foldl_rep (its : List Value) : ∀ (k : Nat) (acc : List Value),
    List.foldl (fun x1 x2 => x1 ++ x2) acc.toArray (List.replicate k its.toArray) = (acc ++ (List.replicate k its).flatten).toArray
  | 0, acc => by simp
  | k + 1, acc => by
    have e : acc.toArray ++ its.toArray = (acc ++ its).toArray := by simp
    have e2 : (acc ++ its) ++ (List.replicate k its).flatten = acc ++ (List.replicate (k + 1) its).flatten := by
      rw [List.replicate_succ, List.flatten_cons, List.append_assoc]
    rw [← e2, ← foldl_rep its k (acc ++ its), ← e, List.replicate_succ, List.foldl_cons]

section
variable {X : Cx} {pins : List (Addr × Obj)} {σ : St} {H : Hp} {s : Shared} {l b : Addr} {xs ys zs : List V}

/-! ### the two steps: a tracked list is rewritten, a new list is laid -/
theorem Inv.lset {its its' : List Value} {n : Nat} {f : Array Value → Array Value} {t' : Nat} (I : Inv X pins σ H s) (hH : H l = some (.lst xs))
    (e : s.heap.get? l = some { cls := .type "list", data := .seq its.toArray n }) (hf : f its.toArray = its'.toArray) (hv : Vals ys its') (hz : ys.length ≤ sizeLine) :
    Inv X pins σ (upd H l (.lst ys)) { s with heap := s.heap.update l (Obj.mapSeq f), toks := t' } := by
  have q := PySem.IsL.update e f
  rw [hf] at q
  refine I.write (x := l) (e := l) (by rw [hH]; exact trivial) (.inl rfl) (fun b' u hb hu => (Heap.get?_update_other s.heap (Obj.mapSeq f) (Ne.symm hb)).trans hu) ⟨_, q⟩ ?_
  exact ⟨hz, its', _, hv, q⟩
theorem Inv.lnew {its : List Value} {t' : Nat} (I : Inv X pins σ H s) (hv : Vals ys its) (hz : ys.length ≤ sizeLine) :
    Inv X pins σ (upd H s.heap.objs.size (.lst ys)) { s with heap := s.heap.push { cls := .type "list", data := .seq its.toArray }, toks := t' } :=
  I.laid (fun _ _ q => Heap.get?_push_of_some _ q) (Nat.le_refl _) ⟨hz, its, 0, hv, Heap.get?_push_size _ rfl⟩
theorem Inv.fresh (I : Inv X pins σ H s) : H s.heap.objs.size = none := I.hok.fresh (Nat.le_refl _)
theorem Inv.lstM (I : Inv X pins σ H s) (hH : H l = some (.lst xs)) : xs.length ≤ sizeLine ∧ ∃ (its : List Value) (n : Nat), Vals xs its ∧ xs.length = its.length ∧ s.heap.get? l = some { cls := .type "list", data := .seq its.toArray n } := by
  obtain ⟨z, its, n, r, e⟩ := I.hok l _ hH
  exact ⟨z, its, n, r, r.length, e⟩

theorem notLongL {n : Nat} (h : n ≤ sizeLine) : Builtin.List.listTooLong n = false := by
  unfold Builtin.List.listTooLong
  exact decide_eq_false (by omega)
end

section
variable {X : Cx}

/-! ### methods -/
def rAppend : V → List V → Hp → VK → Prop := fun x vs H Q => ∃ l xs y, x = .ref l ∧ vs = [y] ∧ H l = some (.lst xs) ∧ xs.length < sizeLine ∧ Q .non (upd H l (.lst (xs ++ [y])))
theorem mt_append : MtM X "list.append" rAppend := by
  intro pins s σ H x vs v us Q I rx rv h
  obtain ⟨l, xs, y, rfl, rfl, hH, hz, q⟩ := h
  cases rx
  obtain ⟨u, rfl, ru⟩ := rv.one
  obtain ⟨z, its, n, r, hl, e⟩ := I.lstM hH
  refine call_meets F.slot_list_append ⟨_, e, rfl⟩ F.entry_list_append (F.args_list_append_2 _ _) (PySem.list_append l its.toArray n u (by rw [List.size_toArray]; omega)) ⟨e, ?_⟩
  refine ⟨.non, _, I.lset (its' := its ++ [u]) hH e (by simp) (r.append (.cons ru .nil)) ?_, rfl, q⟩
  rw [List.length_append, List.length_singleton]
  omega

def rExtend : V → List V → Hp → VK → Prop := fun x vs H Q => ∃ l b xs zs, x = .ref l ∧ vs = [.ref b] ∧ H l = some (.lst xs) ∧ H b = some (.lst zs) ∧ xs.length + zs.length ≤ sizeLine ∧ Q .non (upd H l (.lst (xs ++ zs)))
theorem mt_extend : MtM X "list.extend" rExtend := by
  intro pins s σ H x vs v us Q I rx rv h
  obtain ⟨l, b, xs, zs, rfl, rfl, hH, hB, hz, q⟩ := h
  cases rx
  obtain ⟨u, rfl, ru⟩ := rv.one
  cases ru
  obtain ⟨z, its, n, r, hl, e⟩ := I.lstM hH
  obtain ⟨z2, its2, n2, r2, hl2, e2⟩ := I.lstM hB
  have hsz : its.toArray.size + its2.toArray.size ≤ sizeLine := by rw [List.size_toArray, List.size_toArray]; omega
  have hlong : ¬ (!its.toArray.isEmpty && Builtin.List.listTooLong (its.toArray.size + its2.toArray.size)) = true := by
    rw [notLongL hsz, Bool.and_false]
    exact Bool.false_ne_true
  refine call_meets F.slot_list_extend ⟨_, e, rfl⟩ F.entry_list_extend (F.args_list_extend_2 _ _)
    (AutoSeq1.list_extend_list_list_0 l its.toArray n b its2.toArray n2 hlong (by rw [List.size_toArray]; omega) (by omega)) ⟨e, e2, ?_⟩
  refine ⟨.non, _, I.lset (its' := its ++ its2) hH e (by simp) (r.append r2) ?_, rfl, q⟩
  rw [List.length_append]
  omega

def rPop : V → List V → Hp → VK → Prop := fun x vs H Q => ∃ l xs y, x = .ref l ∧ vs = [] ∧ H l = some (.lst xs) ∧ xs[xs.length - 1]? = some y ∧ Q y (upd H l (.lst xs.dropLast))
theorem mt_pop : MtM X "list.pop" rPop := by
  intro pins s σ H x vs v us Q I rx rv h
  obtain ⟨l, xs, y, rfl, rfl, hH, hy, q⟩ := h
  cases rx
  have hus := rv.zero
  subst hus
  obtain ⟨z, its, n, r, hl, e⟩ := I.lstM hH
  obtain ⟨u, hu, ru⟩ := r.get hy
  have hy' : its.toArray[its.toArray.size - 1]? = some u := by
    show its.toArray[its.length - 1]? = some u
    rw [← Array.getElem?_toList, ← hl]
    exact hu
  refine call_meets F.slot_list_pop ⟨_, e, rfl⟩ F.entry_list_pop (F.args_list_pop_1 _) (MeetsSeq.list_pop_last l its.toArray n u hy' (by rw [List.size_toArray]; omega)) ⟨e, ?_⟩
  refine ⟨y, _, I.lset (its' := its.dropLast) hH e ?_ r.dropLast ?_, ru, q⟩
  · show its.toArray.eraseIdxIfInBounds (its.toArray.size - 1) = its.dropLast.toArray
    rw [List.size_toArray, List.eraseIdxIfInBounds_toArray, erase_last]
  · rw [List.length_dropLast]
    omega

def rPopAt : V → List V → Hp → VK → Prop := fun x vs H Q => ∃ l xs i k y, x = .ref l ∧ vs = [.int i] ∧ H l = some (.lst xs) ∧ -(2 ^ 63) ≤ i ∧ i < 2 ^ 63 ∧ seqIndex? i xs.length = some k ∧ xs[k]? = some y ∧ Q y (upd H l (.lst (xs.eraseIdx k)))
theorem mt_popAt : MtM X "list.pop" rPopAt := by
  intro pins s σ H x vs v us Q I rx rv h
  obtain ⟨l, xs, i, k, y, rfl, rfl, hH, h1, h2, hk, hy, q⟩ := h
  cases rx
  obtain ⟨u, rfl, ru⟩ := rv.one
  obtain ⟨t, rfl⟩ := ru
  obtain ⟨z, its, n, r, hl, e⟩ := I.lstM hH
  obtain ⟨w, hw, rw'⟩ := r.get hy
  refine call_meets F.slot_list_pop ⟨_, e, rfl⟩ F.entry_list_pop (F.args_list_pop_2 _ _)
    (MeetsSeq.list_pop_at l its.toArray n i t k w (fitsIndex_both h1 h2) (by rw [List.size_toArray, ← hl]; exact hk) (by rw [← Array.getElem?_toList]; exact hw) (by rw [List.size_toArray]; omega)) ⟨e, ?_⟩
  refine ⟨y, _, I.lset (its' := its.eraseIdx k) hH e ?_ (r.eraseIdx k) ?_, rw', q⟩
  · show its.toArray.eraseIdxIfInBounds k = (its.eraseIdx k).toArray
    rw [List.eraseIdxIfInBounds_toArray]
  · have := len_erase xs k
    omega

def rReverse : V → List V → Hp → VK → Prop := fun x vs H Q => ∃ l xs, x = .ref l ∧ vs = [] ∧ H l = some (.lst xs) ∧ Q .non (upd H l (.lst xs.reverse))
theorem mt_reverse : MtM X "list.reverse" rReverse := by
  intro pins s σ H x vs v us Q I rx rv h
  obtain ⟨l, xs, rfl, rfl, hH, q⟩ := h
  cases rx
  have hus := rv.zero
  subst hus
  obtain ⟨z, its, n, r, hl, e⟩ := I.lstM hH
  refine call_meets F.slot_list_reverse ⟨_, e, rfl⟩ F.entry_list_reverse (F.args_list_reverse_1 _) (AutoSeq1.list_reverse_list_0 l its.toArray n (by rw [List.size_toArray]; omega)) ⟨e, ?_⟩
  refine ⟨.non, _, I.lset (its' := its.reverse) hH e (by simp) r.reverse ?_, rfl, q⟩
  rw [List.length_reverse]
  omega

def rClear : V → List V → Hp → VK → Prop := fun x vs H Q => ∃ l xs, x = .ref l ∧ vs = [] ∧ H l = some (.lst xs) ∧ Q .non (upd H l (.lst []))
theorem mt_clear : MtM X "list.clear" rClear := by
  intro pins s σ H x vs v us Q I rx rv h
  obtain ⟨l, xs, rfl, rfl, hH, q⟩ := h
  cases rx
  have hus := rv.zero
  subst hus
  obtain ⟨z, its, n, r, hl, e⟩ := I.lstM hH
  refine call_meets F.slot_list_clear ⟨_, e, rfl⟩ F.entry_list_clear (F.args_list_clear_1 _) (AutoSeq1.list_clear_list_0 l its.toArray n (by rw [List.size_toArray]; omega)) ⟨e, ?_⟩
  exact ⟨.non, _, I.lset (its' := []) (ys := []) hH e rfl .nil (Nat.zero_le _), rfl, q⟩

/-! ### list + list, list += list, list * int -/
def rCat : R2 := fun x y H Q => ∃ l b xs zs, x = .ref l ∧ y = .ref b ∧ H l = some (.lst xs) ∧ H b = some (.lst zs) ∧ xs.length + zs.length ≤ sizeLine ∧ ∀ p, H p = none → Q (.ref p) (upd H p (.lst (xs ++ zs)))
theorem op_cat : OpR X (binaryOp .Add) rCat := by
  intro pins s σ H x y v u Q I rx ry h
  obtain ⟨l, b, xs, zs, rfl, rfl, hH, hB, hz, q⟩ := h
  cases rx
  cases ry
  obtain ⟨z, its, n, r, hl, e⟩ := I.lstM hH
  obtain ⟨z2, its2, n2, r2, hl2, e2⟩ := I.lstM hB
  refine PySem.P.add_list e e2 ?_ (by rw [List.size_toArray, List.size_toArray]; omega)
  have ea : its.toArray ++ its2.toArray = (its ++ its2).toArray := by simp
  rw [ea]
  exact ⟨.ref _, _, I.lnew (t' := s.toks) (r.append r2) (by rw [List.length_append]; omega), rfl, q _ I.fresh⟩
/-- a list times an int (a negative one is nothing) -/
def rRep : R2 := fun x y H Q => ∃ l k xs, x = .ref l ∧ y = .int k ∧ H l = some (.lst xs) ∧ -(2 ^ 63) ≤ k ∧ k < 2 ^ 63 ∧ xs.length * k.toNat ≤ sizeLine ∧
  ∀ p, H p = none → Q (.ref p) (upd H p (.lst (List.replicate k.toNat xs).flatten))
theorem len_rep {α : Type} (xs : List α) (k : Nat) : (List.replicate k xs).flatten.length = k * xs.length := by
  induction k with
  | zero => simp
  | succ k ih => rw [List.replicate_succ, List.flatten_cons, List.length_append, ih, Nat.succ_mul, Nat.add_comm]
theorem op_rep : OpR X (binaryOp .Mult) rRep := by
  intro pins s σ H x y v u Q I rx ry h
  obtain ⟨l, k, xs, rfl, rfl, hH, h1, h2, hz, q⟩ := h
  cases rx
  obtain ⟨t, rfl⟩ := ry
  obtain ⟨z, its, n, r, hl, e⟩ := I.lstM hH
  have hlen : its.toArray.size * k.toNat ≤ sizeLine := by rw [List.size_toArray, ← hl]; exact hz
  have hcap : ¬ its.toArray.size * k.toNat > (2 ^ 63 - 1) / 8 := by
    have : (sizeLine : Nat) ≤ (2 ^ 63 - 1) / 8 := by decide
    omega
  have hfit : ¬ (!Builtin.List.listFitsIndex k) = true := by
    rw [fitsIndex_both h1 h2]
    exact Bool.false_ne_true
  have hlong : ¬ Builtin.List.listTooLong (its.toArray.size * k.toNat) = true := by
    rw [notLongL hlen]
    exact Bool.false_ne_true
  have hnew : List.foldl (fun x1 x2 => x1 ++ x2) #[] (List.replicate (if its.toArray.isEmpty = true then 0 else k.toNat) its.toArray) = (List.replicate k.toNat its).flatten.toArray := by
    have f0 : ∀ m : Nat, List.foldl (fun x1 x2 => x1 ++ x2) #[] (List.replicate m its.toArray) = (List.replicate m its).flatten.toArray := fun m => by
      have := foldl_rep its m []
      rw [List.nil_append] at this
      exact this
    rw [f0]
    cases its with
    | nil => simp
    | cons a r' => rw [if_neg (by simp)]
  refine wpAny_binaryOp_repeat_ref (T := "list") (U := "int") (by decide) ⟨_, e, rfl⟩ (fun s' => typeIs_int s' k t) noFill_list_mul F.fills_int_mul F.slot_int_rmul repeat_list F.slot_int_index.lookup
    (call_meets F.slot_int_rmul (typeIs_int s k t) F.entry_int_rmul (F.args_int_rmul_2 _ _) (int___rmul___int_list k t l its.toArray n)
      ⟨e, rfl, ⟨_, e, rfl⟩, call_meets F.slot_list_mul ⟨_, e, rfl⟩ F.entry_list_mul (F.args_list_mul_2 _ _) (AutoListH.list___mul___list_int_3 l its.toArray n k t hfit hcap hlong) ⟨e, ?_⟩⟩)
  rw [hnew]
  exact ⟨.ref _, _, I.lnew (t' := s.toks) (r.rep k.toNat) (by rw [len_rep, Nat.mul_comm]; exact hz), rfl, q _ I.fresh⟩

/-! ### del xs[i] -/
theorem del_list {pins : List (Addr × Obj)} {s : Shared} {σ : St} {H : Hp} {l : Addr} {xs : List V} {i : Int} {t : Tok} {k : Nat} {Q : Unit → Shared → Prop} (I : Inv X pins σ H s) (hH : H l = some (.lst xs))
    (h1 : -(2 ^ 63) ≤ i) (h2 : i < 2 ^ 63) (hk : seqIndex? i xs.length = some k) (h : ∀ s', Inv X pins σ (upd H l (.lst (xs.eraseIdx k))) s' → Q () s') :
    wpAny (model X.prog X.w) X.A (delItem (.ref l) (.int i t)) Q X.xe s := by
  obtain ⟨z, its, n, r, hl, e⟩ := I.lstM hH
  refine PySem.P.delItem_list (k := k) e (fitsIndex_both h1 h2) (by rw [List.size_toArray, ← hl]; exact hk) (h _ ?_) (by rw [List.size_toArray]; omega)
  refine I.lset (its' := its.eraseIdx k) (t' := s.toks) hH e ?_ (r.eraseIdx k) ?_
  · show its.toArray.eraseIdxIfInBounds k = (its.eraseIdx k).toArray
    rw [List.eraseIdxIfInBounds_toArray]
  · have := len_erase xs k
    omega
end

/-! ### xs[a:b] = ys -/
section
variable {prog : Program} {w : World} {A : Around} {E : Value → Shared → Prop} {s : Shared}
theorem splice_eq (its its2 : List Value) (a c : Nat) : its.toArray.extract 0 a ++ its2.toArray ++ its.toArray.extract c its.toArray.size = (its.take a ++ its2 ++ its.drop c).toArray := by
  apply Array.toList_inj.mp
  first
    | (simp
       exact List.take_of_length_le (by simp))
    | simp [List.take_of_length_le]
    | simp
theorem bounds_run {a c n : Nat} (hac : a ≤ c) (hc : c ≤ n) : sliceBounds (some (a : Int)) (some (c : Int)) none n = ((a : Int), (c : Int), 1) := by
  simp only [sliceBounds, Option.getD_none]
  have h1 : ¬ ((a : Int) < 0) := by omega
  have h2 : ¬ ((c : Int) < 0) := by omega
  simp only [h1, h2, if_false, show (1 : Int) > 0 by decide, if_true]
  congr 1
  · omega
  · congr 1; omega
set_option maxRecDepth 100000 in
/-- list.__setitem__ with a slice of step one and another list -/
theorem setItem_slice {l b sl : Addr} {items new : Array Value} {n n2 : Nat} {vl vu : Value} {a c : Nat} {Q : Unit → Shared → Prop}
    (e : s.heap.get? l = some { cls := .type "list", data := .seq items n }) (e2 : s.heap.get? b = some { cls := .type "list", data := .seq new n2 }) (hne : l ≠ b)
    (hs : s.heap.IsSliceOf sl vl vu .none) (pl : IsPart vl (some (a : Int))) (pu : IsPart vu (some (c : Int))) (hac : a ≤ c) (hc : c ≤ items.size)
    (hsz : items.size + new.size ≤ sizeLine) (h : Q () { s with heap := s.heap.update l (Obj.mapSeq fun xs => xs.extract 0 a ++ new ++ xs.extract c xs.size) }) :
    wpAny (model prog w) A (setItem (.ref l) (.ref sl) (.ref b)) Q E s := by
  have hl : s.heap.IsList l items := PySem.IsL.isList e
  have hb : s.heap.IsList b new := PySem.IsL.isList e2
  obtain ⟨os, hos, hcs, hds⟩ := id hs
  have hTs : s.TypeIs (.ref sl) "slice" := ⟨os, hos, hcs⟩
  have hstep : ¬ ((rawPart none == rawInt 0) = true) := Bool.false_ne_true
  have hsame : Builtin.List.listSameRef (.ref l) (.ref b) = false := by
    unfold Builtin.List.listSameRef
    exact beq_eq_false_iff_ne.mpr hne
  have hmax : (max (a : Int) (c : Int)).toNat = c := by omega
  have hz' : ((fun xs : Array Value => xs.extract 0 a ++ new ++ xs.extract c xs.size) items).size ≤ sizeLine + 1 := by
    simp only [Array.size_append, Array.size_extract]
    omega
  unfold setItem
  try with_reducible refine wpAny_holding ?_
  first | refine wpAny_bind (wpAny_pure ?_) | skip
  refine wpAny_bind (wpAny_sequenceKey hl.typeIs (by decide) ?_)
  refine wpAny_bind (wpAny_callSpecial?_slot (name := Str.ofString "__setitem__") hl.typeIs slot_list_setitem
    (wpAny_call_entry slot_list_setitem hl.typeIs entry_list_setitem ?_ (args_list_setitem _ _ _)))
  show wpAny _ _ (Builtin.List.listSubscript? (.ref sl) >>= _) _ _ s
  refine wpAny_bind ?_
  unfold Builtin.List.listSubscript?
  refine wpAny_bind (wpAny_specialOf hTs slice_no_index ?_)
  simp only [Option.isNone_none, if_true]
  refine wpAny_pure ?_
  show wpAny _ _ (typeOf (.ref sl) >>= _) _ _ s
  refine wpAny_bind (wpAny_typeOf hTs ?_)
  first
    | rw [if_neg (by decide)]
    | refine PySem.W.KFB.if_not (by decide) ?_
  rw [listSliceParts_eq]
  refine wpAny_bind (wpAny_bind (wpAny_field hos hds (x := .none) rfl (wpAny_bind (wpAny_listPart .none ?_))))
  rw [if_neg hstep]
  refine wpAny_bind (wpAny_field hos hds (x := vl) rfl (wpAny_bind (wpAny_listPart pl ?_)))
  refine wpAny_bind (wpAny_field hos hds (x := vu) rfl (wpAny_bind (wpAny_listPart pu (wpAny_pure ?_))))
  first
    | simp only [hsame, Bool.false_eq_true, if_false]
    | refine PySem.W.KFB.if_not hsame ?_
    | (dsimp only
       rw [if_neg (by rw [hsame]; exact Bool.false_ne_true)])
  refine wpAny_bind (m := Builtin.List.listAllItems (.ref b) "must assign iterable to extended slice") ?_
  unfold Builtin.List.listAllItems
  refine wpAny_bind (wpAny_typeOf hb.typeIs ?_)
  first
    | refine PySem.W.KFB.if_so (by decide) ?_
    | rw [if_pos (by decide)]
    | simp only [beq_self_eq_true, Bool.true_or, if_true]
  unfold Builtin.List.listItems
  refine wpAny_bind (wpAny_seqItems e2 rfl (wpAny_pure ?_))
  refine wpAny_bind (wpAny_bind (wpAny_seqItems e rfl (wpAny_pure ?_)))
  refine wpAny_bind (wpAny_of_eq ((sliceIndices_raw (some (a : Int)) (some (c : Int)) none items.size (by simp)).trans (congrArg (pure : Int × Int × Int → Sem (Int × Int × Int)) (bounds_run hac hc))) ?_)
  show wpAny _ _ (if ((1 : Int) == 1) = true then _ else _) _ _ s
  rw [if_pos (by decide)]
  refine wpAny_bind (wpAny_rule ?_)
  first
    | simp only [notLongL hsz, Bool.false_eq_true, if_false]
    | refine PySem.W.KFB.if_not (notLongL hsz) ?_
  first | refine wpAny_bind (wpAny_pure ?_) | skip
  show wpAny _ _ (updateSeq l (fun xs => xs.extract 0 ((a : Int)).toNat ++ new ++ xs.extract (max (a : Int) (c : Int)).toNat xs.size) >>= _) _ _ s
  rw [hmax, Int.toNat_natCast]
  refine wpAny_bind (wpAny_updateSeq (hz := Nat.le_trans (Nat.le_add_right _ _) hsz) (_hz' := hz') e rfl ?_)
  refine wpAny_bind (wpAny_letGo ?_)
  first
    | exact wpAny_bind (wpAny_pure (wpAny_pure ⟨.none, rfl, wpAny_pure h⟩))
    | exact wpAny_pure ⟨.none, rfl, wpAny_pure h⟩
end

section
variable {X : Cx}
/-- xs[a:c] = ys of another list, at the value level: sl is the slice object that was just made -/
theorem set_slice {pins : List (Addr × Obj)} {s : Shared} {σ : St} {H : Hp} {l b sl : Addr} {xs ys : List V} {a c : Int} {vl vu : Value} {Q : Unit → Shared → Prop} (I : Inv X pins σ H s)
    (hH : H l = some (.lst xs)) (hB : H b = some (.lst ys)) (hne : l ≠ b) (hs : s.heap.IsSliceOf sl vl vu .none) (ra : RelV (.int a) vl) (rc : RelV (.int c) vu) (h0 : 0 ≤ a) (hac : a ≤ c) (hc : c ≤ xs.length)
    (hz : xs.length + ys.length ≤ sizeLine) (h : ∀ s', Inv X pins σ (upd H l (.lst (xs.take a.toNat ++ ys ++ xs.drop c.toNat))) s' → Q () s') :
    wpAny (model X.prog X.w) X.A (setItem (.ref l) (.ref sl) (.ref b)) Q X.xe s := by
  obtain ⟨ta, rfl⟩ := ra
  obtain ⟨tc, rfl⟩ := rc
  obtain ⟨z, its, n, r, hl, e⟩ := I.lstM hH
  obtain ⟨z2, its2, n2, r2, hl2, e2⟩ := I.lstM hB
  obtain ⟨a', rfl⟩ := Int.eq_ofNat_of_zero_le h0
  obtain ⟨c', rfl⟩ := Int.eq_ofNat_of_zero_le (Int.le_trans h0 hac)
  simp only [Int.toNat_natCast] at h
  refine setItem_slice (a := a') (c := c') e e2 hne hs (.int _ _) (.int _ _) (by omega) (by rw [List.size_toArray]; omega) (by rw [List.size_toArray, List.size_toArray]; omega) (h _ ?_)
  refine I.lset (its' := its.take a' ++ its2 ++ its.drop c') (t' := s.toks) hH e ?_ (Vals.append (Vals.append (r.take _) r2) (r.drop _)) ?_
  · exact splice_eq its its2 a' c'
  · rw [List.length_append, List.length_append, List.length_take, List.length_drop]
    omega
end
end L2

namespace Att
open PySem PySem.W PySem.Calls PyProof.Rows

/-! ### the script -/
theorem ints_of_wellAll {P : Params} {h : Heap} : ∀ (ns : List Int) (vs : List Value), WellAll P h vs (ns.map WData.int) → IntsAre vs ns := by
  intro ns
  induction ns with
  | nil =>
    intro vs w
    rw [List.map_nil] at w
    cases w
    exact .nil
  | cons n ns ih =>
    intro vs w
    rw [List.map_cons] at w
    cases w with
    | cons a b =>
      cases a
      exact .cons _ _ (ih _ b)

theorem script_of {l : OpenLaw} {n : Nat} (hn : l.most = some n) {P : Params} {h : Heap} {args : List WData} {vals : List Value}
    (hpre : l.row.toRowW.claim.pre args = true) (hwl : WellAll P h vals args) :
    ∃ a vs ns, vals = [Value.ref a] ∧ args = [WData.list (ns.map WData.int)] ∧ h.get? a = some { cls := .type "list", data := .seq vs.toArray } ∧ IntsAre vs ns ∧ ns.length ≤ n := by
  have hsh : WShape.hasAll [] args [.list .int] = true := (pre_splitW hpre).1
  have hc : l.pre.holds [] { args := args } = true := (pre_splitW hpre).2
  obtain ⟨d, r, rfl, h1, h2⟩ := hasAllW_cons hsh
  obtain rfl := hasAllW_nil h2
  obtain ⟨xs, rfl, h3⟩ := hasW_list h1
  obtain ⟨ns, rfl⟩ := items_int h3
  have hlen : ns.length ≤ n := by
    unfold OpenLaw.pre at hc
    have h4 : (WTm.not (.lt (.lit (.int (n : Int))) (.len (.arg 0)))).holds [] { args := [.list (ns.map .int)] } = true := by
      have h4 := (holds_andW hc).1
      rw [hn] at h4
      exact h4
    have h5 := condW_of h4 (w_not (w_lt w_lit (w_len_list (w_arg rfl))))
    rw [List.length_map] at h5
    refine Nat.le_of_not_lt fun q => ?_
    have q' : (n : Int) < ((ns.length : Nat) : Int) := by omega
    first
      | (rw [decide_eq_true q'] at h5; exact absurd h5 (by decide))
      | (simp at h5; omega)
  cases hwl with
  | cons w1 w2 =>
    cases w2
    cases w1 with
    | list ho hall => exact ⟨_, _, ns, rfl, rfl, ho, ints_of_wellAll ns _ hall, hlen⟩

theorem post_true (l : OpenLaw) (args : List WData) : l.row.toRowW.claim.post args (.bool true) args = true :=
  postW_of (r := l.row.toRowW) (X := (true == true))
    (show WShape.has [] (.bool true) .bool = true by first | rfl | decide | simp [WShape.has, WShape.arms, WShape.armsAll])
    (show (WTm.eq .res (.lit (.bool true))).value [] { args := args, res := some (.bool true), after := args } = some (.bool (true == true)) from w_eq_bool (w_res rfl) w_lit) rfl

/-! ### the attachment: holds_open's last premise (the goal 'hc' behind k_head) from a wpAny of the law's body -/
theorem attach {l : OpenLaw} {n : Nat} {q : Program} {loose : List Str} {XP : (Str → Option Value) → Heap → Prop} {YP : World → Heap → Prop} {d : DefRec} {x : Str}
    (hn : l.most = some n) (hdf : d.params.defaults = [])
    (hbind : ∀ pm cd doc v : Value, bindArgs (docDef d.name d.params d.body d.scope pm cd doc) ⟨[v], []⟩ = pure [(x, v)])
    (hx : d.scope.names.lookup x = some .local ∨ d.scope.names.lookup x = some .cell)
    (hk : d.scope.kind = .function) (hco : d.scope.isCoroutine = false) (hgen : d.scope.isGenerator = false)
    (body : ∀ (w : World) (s₀ s₁ s : Shared) (mg mb : Str → Option Value) (fa : Addr) (o : Obj) (pm cd doc : Value) (a : Addr) (vs : List Value) (ns : List Int),
      Ground q loose [] XP w s₀ mg mb s₁.heap → YP w s₁.heap →
      s₁.heap.get? fa = some o → o.data = .func (docDef d.name d.params d.body d.scope pm cd doc) → s₁.heap.CodeRec cd d.name → mg d.name = some (.ref fa) →
      s₁.heap.get? a = some { cls := .type "list", data := .seq vs.toArray } → IntsAre vs ns → ns.length ≤ n →
      s.gens = #[] → s.os = s₁.os →
      Fr s₁.heap s₁.heap.objs.size s.heap (bindL (envOfC d.name d.scope s₁.heap.objs.size fa cd).kindOf [(x, .ref a)] fun _ => none) →
      Cl s₁.heap.objs.size (cellsFrom (s₁.heap.objs.size + 1) d.scope.names []) s.heap (bindC (envOfC d.name d.scope s₁.heap.objs.size fa cd).kindOf [(x, .ref a)] fun _ => none) →
      wpAny (model l.prog w) (callerA.deeper (envOfC d.name d.scope s₁.heap.objs.size fa cd)) (execs d.body (envOfC d.name d.scope s₁.heap.objs.size fa cd))
        (fun f s' => f = .ret (.bool true) ∧ OldK s₁.heap s'.heap ∧ s'.os = s₁.os ∧ AllBare s'.gens) (fun _ _ => False) s) :
    WalkO q loose XP YP l.row.toRowW d [] (fun f vs => PySem.call f vs) := by
  intro w s₀ s₁ mg mb G Y fa o pm cd doc dV kV ho hd hcd hD hmg hg args vals as hpre hlay hrd hwl hlo
  obtain rfl : dV = .none := Dflts.none hD hdf
  obtain rfl : kV = .none := Dflts.noKw hD
  obtain ⟨a, vs, ns, rfl, rfl, hobj, hints, hlen⟩ := script_of hn hpre hwl
  refine enter_call ?_
  refine call_cells_ret (o := o) (by rw [depth_caller]; decide) ho (fd_plain hd) G.T.nolimit hcd (hbind pm cd doc (.ref a)) (fun y hy => ?_) (fun h₁ tk F X => ?_) hco hgen hk
  · obtain rfl : y = (x, Value.ref a) := List.mem_singleton.mp hy
    rcases hx with e | e
    · exact .inl e
    · exact .inr ⟨e, cellsFrom_some _ _ _ (.inl e)⟩
  · refine wpAny_mono (body w s₀ s₁ { s₁ with heap := h₁, toks := tk } mg mb fa o pm cd doc a vs ns G Y ho (fd_plain hd) hcd hmg hobj hints hlen hg rfl F X) (fun f s' hq => ?_) (fun _ _ hq => hq)
    obtain ⟨rfl, h2, h3, h4⟩ := hq
    exact ⟨.inl ⟨.bool true, .bool true, [], rfl, fun _ => rfl, .bool true, post_true l _, fun _ => ⟨List.Pairwise.nil, fun _ hm => (nomatch hm)⟩⟩, h2, h3, h4⟩

/-- the same from a codeAny of the CALL (for a layer whose function contracts speak of calls) -/
theorem attach_call {l : OpenLaw} {n : Nat} {q : Program} {loose : List Str} {XP : (Str → Option Value) → Heap → Prop} {YP : World → Heap → Prop} {d : DefRec}
    (hn : l.most = some n) (hdf : d.params.defaults = [])
    (call : ∀ (w : World) (s₀ s₁ : Shared) (mg mb : Str → Option Value) (fa : Addr) (o : Obj) (pm cd doc : Value) (a : Addr) (vs : List Value) (ns : List Int),
      Ground q loose [] XP w s₀ mg mb s₁.heap → YP w s₁.heap →
      s₁.heap.get? fa = some o → o.data = .func (docDef d.name d.params d.body d.scope pm cd doc) → s₁.heap.CodeRec cd d.name → mg d.name = some (.ref fa) →
      s₁.heap.get? a = some { cls := .type "list", data := .seq vs.toArray } → IntsAre vs ns → ns.length ≤ n → s₁.gens = #[] →
      codeAny (model l.prog w) callerA (.call (.ref fa) ⟨[.ref a], []⟩) (fun r s' => r = .ok (.ret (.bool true)) ∧ OldK s₁.heap s'.heap ∧ s'.os = s₁.os ∧ AllBare s'.gens) s₁) :
    WalkO q loose XP YP l.row.toRowW d [] (fun f vs => PySem.call f vs) := by
  intro w s₀ s₁ mg mb G Y fa o pm cd doc dV kV ho hd hcd hD hmg hg args vals as hpre hlay hrd hwl hlo
  obtain rfl : dV = .none := Dflts.none hD hdf
  obtain rfl : kV = .none := Dflts.noKw hD
  obtain ⟨a, vs, ns, rfl, rfl, hobj, hints, hlen⟩ := script_of hn hpre hwl
  refine enter_call (codeAny_mono (call w s₀ s₁ mg mb fa o pm cd doc a vs ns G Y ho (fd_plain hd) hcd hmg hobj hints hlen hg) fun r s' hq => ?_)
  obtain ⟨rfl, h2, h3, h4⟩ := hq
  exact ⟨.inl ⟨.bool true, .bool true, [], rfl, fun _ => rfl, .bool true, post_true l _, fun _ => ⟨List.Pairwise.nil, fun _ hm => (nomatch hm)⟩⟩, h2, h3, h4⟩

/-- the same where the top left finished generators (o_head chose holds_openN): nothing may have changed at all and no generator may be left -/
theorem attachN {l : OpenLaw} {n : Nat} {q : Program} {loose : List Str} {XP : (Str → Option Value) → Heap → Prop} {YP : World → Heap → Prop} {d : DefRec} {x : Str}
    (hn : l.most = some n) (hdf : d.params.defaults = [])
    (hbind : ∀ pm cd doc v : Value, bindArgs (docDef d.name d.params d.body d.scope pm cd doc) ⟨[v], []⟩ = pure [(x, v)])
    (hx : d.scope.names.lookup x = some .local ∨ d.scope.names.lookup x = some .cell)
    (hk : d.scope.kind = .function) (hco : d.scope.isCoroutine = false) (hgen : d.scope.isGenerator = false)
    (body : ∀ (w : World) (s₀ s₁ s : Shared) (mg mb : Str → Option Value) (fa : Addr) (o : Obj) (pm cd doc : Value) (a : Addr) (vs : List Value) (ns : List Int),
      Ground q loose [] XP w s₀ mg mb s₁.heap → YP w s₁.heap →
      s₁.heap.get? fa = some o → o.data = .func (docDef d.name d.params d.body d.scope pm cd doc) → s₁.heap.CodeRec cd d.name → mg d.name = some (.ref fa) →
      s₁.heap.get? a = some { cls := .type "list", data := .seq vs.toArray } → IntsAre vs ns → ns.length ≤ n →
      s.gens = #[] → s.os = s₁.os →
      Fr s₁.heap s₁.heap.objs.size s.heap (bindL (envOfC d.name d.scope s₁.heap.objs.size fa cd).kindOf [(x, .ref a)] fun _ => none) →
      Cl s₁.heap.objs.size (cellsFrom (s₁.heap.objs.size + 1) d.scope.names []) s.heap (bindC (envOfC d.name d.scope s₁.heap.objs.size fa cd).kindOf [(x, .ref a)] fun _ => none) →
      wpAny (model l.prog w) (callerA.deeper (envOfC d.name d.scope s₁.heap.objs.size fa cd)) (execs d.body (envOfC d.name d.scope s₁.heap.objs.size fa cd))
        (fun f s' => f = .ret (.bool true) ∧ (∀ b o, s₁.heap.get? b = some o → s'.heap.get? b = some o) ∧ s'.os = s₁.os ∧ s'.gens = #[]) (fun _ _ => False) s) :
    WalkN q loose XP YP l.row.toRowW d [] (fun f vs => PySem.call f vs) := by
  intro w s₀ s₁ mg mb G Y fa o pm cd doc dV kV ho hd hcd hD hmg hg args vals as hpre hlay hrd hwl hlo
  obtain rfl : dV = .none := Dflts.none hD hdf
  obtain rfl : kV = .none := Dflts.noKw hD
  obtain ⟨a, vs, ns, rfl, rfl, hobj, hints, hlen⟩ := script_of hn hpre hwl
  refine enter_callW ?_
  refine call_cells_ret (o := o) (by rw [depth_caller]; decide) ho (fd_plain hd) G.T.nolimit hcd (hbind pm cd doc (.ref a)) (fun y hy => ?_) (fun h₁ tk F X => ?_) hco hgen hk
  · obtain rfl : y = (x, Value.ref a) := List.mem_singleton.mp hy
    rcases hx with e | e
    · exact .inl e
    · exact .inr ⟨e, cellsFrom_some _ _ _ (.inl e)⟩
  · refine wpAny_mono (body w s₀ s₁ { s₁ with heap := h₁, toks := tk } mg mb fa o pm cd doc a vs ns G Y ho (fd_plain hd) hcd hmg hobj hints hlen hg rfl F X) (fun f s' hq => ?_) (fun _ _ hq => hq)
    obtain ⟨rfl, h2, h3, h4⟩ := hq
    exact ⟨.inl ⟨.bool true, .bool true, [], rfl, fun _ => rfl, .bool true, post_true l _, fun _ => ⟨List.Pairwise.nil, fun _ hm => (nomatch hm)⟩⟩, h2, h3, h4⟩

/-! ### rules over ANY heap (no ledger) from facts about the written part K: the library's own take a ledger (News) for what they write -/
section
variable {prog : Program} {w : World} {A : Around} {E : Value → Shared → Prop} {s : Shared} {K : Frag}

/-- a def of the module, or a method (qual 'C.m'), entered: the frame is the next address; cells behind it -/
theorem call_fn {R : Result → Shared → Prop} {name qual : Str} {params : Arguments} {body : List Stmt} {scope : Scope} {dV kV doc pm cdv ct oc : Value} {an od : Option Addr} {osl : Array (Option Value)} {f : Addr} {args : Args} {binds : List (Str × Value)}
    (X : K.In s.heap) (hlim : s.heap.NoLimit) (ho : K.lookup f = some ⟨oc, od, .func (fnOf name qual params body scope dV kV doc pm an cdv ct), osl⟩) (hcd : codeIn K cdv qual = true) (hroom : A.depth < recursionLimit)
    (hbind : BindsTo s (fnOf name qual params body scope dV kV doc pm an cdv ct) args binds)
    (hkind : (binds.all fun y => scope.names.lookup y.1 == some .local || scope.names.lookup y.1 == some .cell) = true)
    (h : ∀ s₁, InCallC s s.heap.objs.size (bindL (envOfC qual scope s.heap.objs.size f cdv).kindOf binds fun _ => none) (cellsFrom (s.heap.objs.size + 1) scope.names [])
        (bindC (envOfC qual scope s.heap.objs.size f cdv).kindOf binds fun _ => none) s₁ →
      wpAny (model prog w) (A.deeper (envOfC qual scope s.heap.objs.size f cdv)) (execs body (envOfC qual scope s.heap.objs.size f cdv))
        (fun fl s' => R (.ok (.ret (match fl with | .ret v => v | _ => .none))) s')
        (fun e s' => wpAny (model prog w) (A.deeper (envOfC qual scope s.heap.objs.size f cdv)) (leaving (envOfC qual scope s.heap.objs.size f cdv) e) (fun _ s'' => R (.error e) s'') (fun e' s'' => R (.error e') s'') s') s₁)
    (hco : scope.isCoroutine = false) (hgen : scope.isGenerator = false) (hk : scope.kind = .function) : codeAny (model prog w) A (.call (.ref f) args) R s := by
  refine codeAny_call_function hroom (X _ _ ho) rfl hco hgen rfl (codeRec_of X hcd) (hbind _ _ _ _ ?_)
  refine wpAny_newFunctionEnv_cells hk (kindsX hkind _) fun env he s₁ x => ?_
  subst he
  exact ⟨hlim.keeps x.toInCall.keep, codeAny_func (h s₁ x)⟩

/-- C(..): dict at size, instance at size + 1, then __init__ -/
theorem make_obj {R : Result → Shared → Prop} {C fI : Addr} {rest : List Value} {kw : List (Str × Value)}
    (X : K.In s.heap) (hm : makesIn K C = true) (hi : findIn K (.ref C) "__init__" = some (some (.ref fI))) (hf : isFn K (.ref fI) = true)
    (h : codeAny (model prog w) (A.under (.builtin "type.__call__" ⟨.ref C :: rest, kw⟩)) (.call (.ref fI) ⟨.ref (s.heap.objs.size + 1) :: rest, kw⟩) (InitBack (s.heap.objs.size + 1) R)
      { s with heap := (s.heap.push emptyDict).push (instObj C s.heap.objs.size) }) : codeAny (model prog w) A (.call (.ref C) ⟨rest, kw⟩) R s := by
  obtain ⟨hh, g, d, t, os⟩ := s
  exact make_core (makes_of X hm) (looks_findIn X hi) (fun self => bind_fn X self (beq_iff_eq.mp hf)) (.inl rfl) h

/-- x.name where the instance's dict holds the name and the class does not -/
theorem get_field {x C : Addr} {ox : Obj} {es : List DictEntry} {n : Nat} {name : Str} {expr : Bool} {v : Value} {Q : Value → Shared → Prop}
    (X : K.In s.heap) (I : PySem.W.InstAt s.heap x ox C (some (dictOf es n))) (hg : plainGet K C name = true) (hh : hasDictIn K C = true) (ha : findIn K (.ref C) name = some none)
    (hl : getL name es = some (some v)) (hv : handedIn v = true) (h : Q v { s with toks := s.toks + 1 }) : wpAny (model prog w) A (getAttr (.ref x) name expr) Q E s :=
  get_value X I (plainGet_of hg).1 (findObj_own hh ha rfl hl) hv h

/-- x.m(..): the method found in the class -/
theorem get_method {x C f : Addr} {ox : Obj} {es : List DictEntry} {n : Nat} {name : Str} {pl : Sem Bool} {Q : Value × List Value → Shared → Prop}
    (X : K.In s.heap) (I : PySem.W.InstAt s.heap x ox C (some (dictOf es n))) (hg : plainGet K C name = true) (hf : findIn K (.ref C) name = some (some (.ref f))) (ht : isFn K (.ref f) = true)
    (hl : getL name es = some none) (h : Q (.ref f, [.ref x]) s) : wpAny (model prog w) A (getMethod (.ref x) name pl) Q E s :=
  method_fn X I (plainGet_of hg).1 (plainGet_of hg).2 hf (beq_iff_eq.mp ht) (by show (lookIn name (dictOf es n)).map _ = _; rw [lookIn_dict, hl]; rfl) h

/-! the whole heap as the ledger: makes every rule that writes through a ledger a rule over any heap -/
def noObjs (h : Heap) : Heap := { h with objs := #[] }
theorem noObjs_get (h : Heap) (b : Addr) : (noObjs h).get? b = none := by
  cases e : (noObjs h).get? b with
  | none => rfl
  | some o => exact absurd (Heap.lt_size e) (Nat.not_lt_zero _)
def ledger (h : Heap) (L d : Addr) : List (Addr × Obj) := (List.range h.objs.size).filterMap fun a => if a = L ∨ a = d then none else (h.get? a).map fun o => (a, o)
theorem mem_ledger {h : Heap} {L d a : Addr} {o : Obj} : (a, o) ∈ ledger h L d ↔ a ≠ L ∧ a ≠ d ∧ h.get? a = some o := by
  unfold ledger
  rw [List.mem_filterMap]
  constructor
  · rintro ⟨b, _, e⟩
    split at e
    · cases e
    · rename_i hb
      obtain ⟨o', ho, e'⟩ := Option.map_eq_some_iff.mp e
      cases e'
      exact ⟨fun q => hb (.inl q), fun q => hb (.inr q), ho⟩
  · rintro ⟨n1, n2, ho⟩
    refine ⟨a, List.mem_range.mpr (Heap.lt_size ho), ?_⟩
    rw [if_neg (show ¬ (a = L ∨ a = d) from fun q => q.elim n1 n2), ho] <;> rfl
theorem news_ledger {h : Heap} {L d : Addr} {od : Obj} (hne : d ≠ L) (ho : h.get? d = some od) : News (noObjs h) L h ([] ++ (d, od) :: ledger h L d) := by
  rintro ⟨a, o⟩ hp
  rcases List.mem_cons.mp hp with e | hp
  · cases e
    exact ⟨ho, hne, noObjs_get _ _⟩
  · obtain ⟨n1, n2, e⟩ := mem_ledger.mp hp
    exact ⟨e, n1, noObjs_get _ _⟩
theorem fr_all {h : Heap} {L : Addr} {m : Str → Option Value} (n : h.Ns L m) : Fr (noObjs h) L h m :=
  ⟨n, fun b o e => (by rw [noObjs_get] at e; cases e), Nat.zero_le _⟩
/-- Upd of the head entry (for append_K, setItem_K ..) -/
theorem upd_ledger {h : Heap} {L d : Addr} {o o' : Obj} : Upd d o o' ((d, o) :: ledger h L d) ((d, o') :: ledger h L d) :=
  .head fun ⟨_, _⟩ hp => (mem_ledger.mp hp).2.1

/-- x.name = v over any heap: L is any namespace of the heap (the frame's, say): its map stays, its object is not told; all else but the dict stays -/
theorem set_field {x C dx L : Addr} {ox : Obj} {m : Str → Option Value} {es es' : List DictEntry} {n n' : Nat} {name : Str} {v : Value} {Q : Unit → Shared → Prop}
    (X : K.In s.heap) (I : PySem.W.InstAt s.heap x ox C (some (dictOf es n))) (hd : ox.dict = some dx) (hL : s.heap.Ns L m) (hne : dx ≠ L)
    (hs : findIn K (.ref C) "__setattr__" = some (some (.builtin "object.__setattr__"))) (hp : plainOver K C = true) (ht : takerIn K C name = some none) (hh : hasDictIn K C = true) (hl : (getL name es).isSome = true)
    (e : (putL name (PyData.keyHash w.params name) (.str name (s.toks + 1)) v es, putN name es n) = (es', n')) (hz : es'.length ≤ 1000)
    (h : ∀ h' : Heap, h'.Ns L m → h'.get? dx = some (dictOf es' n') → (∀ b o, b ≠ dx → b ≠ L → s.heap.get? b = some o → h'.get? b = some o) → Q () { s with heap := h', toks := s.toks + 2 }) :
    wpAny (model prog w) A (setAttr (.ref x) name v) Q E s := by
  obtain ⟨e1, e2⟩ := Prod.mk.inj e
  have hdx : s.heap.get? dx = some (dictOf es n) := by
    have := I.dict
    rw [hd] at this
    exact this
  refine set_plain X I hs (osa_dict (s := { s with toks := s.toks + 1 }) (h₀ := noObjs s.heap) (L := L) (m := m) (od := dictOf es n) (od' := dictOf es' n') (es := es') (n := n') (pre := []) (post := ledger s.heap L dx)
    (fr_all hL) (news_ledger hne hdx) X I hd hp ht hh hl (fun _ q => nomatch q) (fun ⟨_, _⟩ q => (mem_ledger.mp q).2.1) (by rw [putName_dict, e1, e2]) rfl hz fun h' F' N' => ?_)
  exact h h' F'.ns (N'.get (List.Mem.head _)) fun b o n1 n2 ho => N'.get (List.Mem.tail _ (mem_ledger.mpr ⟨n2, n1, ho⟩))
end
end Att

namespace L2
open PySem PySem.Spec PyProof.Rows

theorem vals_ints : ∀ {vs : List Value} {ns : List Int}, IntsAre vs ns → Vals (ns.map V.int) vs
  | _, _, .nil => .nil
  | _, _, .cons n t h => .cons ⟨t, rfl⟩ (vals_ints h)

/-- nothing is tracked but the script, known to the object (or it is an object of the module) -/
def Only (H : Hp) : Prop := ∀ b, H b = none ∨ ∃ o xs, H b = some (.frz o (.lst xs))

/-- THE HEAD: the law's promise, at the heap behind the top. F, the promise of the law's def, may use that base is part of the heap (so K.In base, base.Ns mainGlobals mg stand in Mod) -/
theorem law_call {P : Program} {w : World} {K : PySem.W.Frag} {mg mb : Str → Option Value} {CX : CXT} {k : Nat} {fa a : Addr} {fd : FuncData} {x : Str} {sp : Sp} {s₁ : Shared} {vs : List Value} {ns : List Int}
    (KX : K.In s₁.heap) (hns : s₁.heap.Ns mainGlobals mg) (hb : s₁.heap.Ns builtinsNs mb) (hbb : ∀ x : Str, x ≠ "__name__" → mb x = bootBuiltins x) (hlim : s₁.heap.NoLimit) (hg : s₁.gens = #[])
    (ha : s₁.heap.get? a = some { cls := .type "list", data := .seq vs.toArray }) (hi : IntsAre vs ns) (hl : ns.length ≤ sizeLine) (hr : Room k callerA)
    (F : ∀ base : Heap, K.In base → base.Ns mainGlobals mg → FnOk P w K mg base CX k fa fd [x] sp) (hbind : ∀ (s : Shared) (u : Value), BindsTo s fd ⟨[u], []⟩ [(x, u)])
    (hsp : ∀ H : Hp, Only H → SqL K H a (ns.map V.int) → sp [.ref a] H (fun v _ => v = .bl true) fun _ _ _ => False)
    (hCX : ∀ H e s', CX [] H s₁ (fun _ _ _ => False) e s' → False) :
    codeAny (model P w) callerA (.call (.ref fa) ⟨[.ref a], []⟩) (fun r s' => r = .ok (.ret (.bool true)) ∧ OldK s₁.heap s'.heap ∧ s'.os = s₁.os ∧ AllBare s'.gens) s₁ := by
  have rv := vals_ints hi
  have lenV := hi.length
  -- from an abstract heap in which nothing but the script may be tracked
  have core : ∀ H : Hp, Only H → SqL K H a (ns.map V.int) → HOk P w H s₁.heap → (∀ b, H b ≠ none → b = a) → (H a ≠ none → K.lookup a = none) →
      codeAny (model P w) callerA (.call (.ref fa) ⟨[.ref a], []⟩) (fun r s' => r = .ok (.ret (.bool true)) ∧ OldK s₁.heap s'.heap ∧ s'.os = s₁.os ∧ AllBare s'.gens) s₁ := by
    intro H hO hS hok hA hK
    have base_of : ∀ {b : Addr} {o : Obj}, s₁.heap.get? b = some o → H b = none → (hidT s₁.heap H).get? b = some o := fun e n => hidT_get e n
    have noA : ∀ {b : Addr} {o : Obj} {es : Array DictEntry} {ep : Nat}, s₁.heap.get? b = some o → o.data = .dict es ep → H b = none := fun {b o es ep} e d => by
      cases q : H b with
      | none => rfl
      | some u =>
        have e' : b = a := hA b (by rw [q]; simp)
        subst e'
        rw [ha] at e; cases e
        have d' : Data.seq vs.toArray _ = Data.dict es ep := d
        cases d'
    have nsK : ∀ {b : Addr} {m : Str → Option Value}, s₁.heap.Ns b m → (hidT s₁.heap H).Ns b m := fun {b m} ⟨o, es, ep, e, d, r⟩ => ⟨o, es, ep, base_of e (noA e d), d, r⟩
    have hKb : K.In (hidT s₁.heap H) := fun b o e => base_of (KX b o e) (by
      cases q : H b with
      | none => rfl
      | some u =>
        have e' : b = a := hA b (by rw [q]; simp)
        subst e'
        rw [hK (by rw [q]; simp)] at e; cases e)
    have hM : Mod K mg (hidT s₁.heap H) := ⟨hKb, nsK hns, ⟨mb, nsK hb, hbb⟩, let ⟨mc, h1, h2⟩ := hlim; ⟨mc, nsK h1, h2⟩⟩
    have e0 : Env0 P w K mg (hidT s₁.heap H) callerA [] s₁ H := ⟨rfl, hM, fun b o e => of_hidT e, Nat.le_of_eq (hidT_size _ _), trivial, fun b hb => absurd (show b ∈ ([] : List Addr) from hb) (by simp), hok, .of_eq hg⟩
    refine codeAny_mono ((F _ hKb (nsK hns)).run callerA [] s₁ H ⟨[.ref a], []⟩ [.ref a] [.ref a] _ _ hr e0 (hbind s₁ (.ref a)) (.cons rfl .nil) (hsp H hO hS)) fun r s' h => ?_
    cases r with
    | error e => exact (hCX H e s' h).elim
    | ok fl =>
      cases fl with
      | next => exact False.elim h
      | brk => exact False.elim h
      | cont => exact False.elim h
      | ret u =>
        obtain ⟨v, H', os, bare, un, hok', r', q⟩ := h
        have q' : v = .bl true := q
        subst q'
        obtain rfl : u = Value.bool true := r'
        refine ⟨rfl, OldK.of_keep fun b o e => ?_, os, bare⟩
        cases q : H b with
        | none => exact un.keep b o e q (by intro z; exact absurd (show b ∈ ([] : List Addr) from z) (by simp)) (by simp)
        | some u =>
          rcases hO b with z | ⟨ob, xs, z⟩
          · rw [q] at z; cases z
          · have z2 := un.frzs b ob _ z
            obtain ⟨e1, _⟩ := hok b _ z
            obtain ⟨e2, _⟩ := hok' b _ z2
            rw [e] at e1; cases e1
            exact e2
  cases hk : K.lookup a with
  | some o =>
    -- the script is one of the module's own objects
    have e := KX a o hk
    rw [ha] at e
    cases e
    refine core (fun _ => none) (fun _ => .inl rfl) (.inr ⟨_, vs.toArray, _, hk, rfl, rfl, rfl, by rw [List.size_toArray, lenV]; exact hl, by simpa using rv⟩) (fun b u z => by have z' : (none : Option HO) = some u := z; cases z') (fun b z => absurd rfl z) fun z => absurd rfl z
  | none =>
    refine core (fun b => if b = a then some (.frz { cls := .type "list", data := .seq vs.toArray } (.lst (ns.map V.int))) else none) (fun b => ?_) (.inl (.inr ⟨{ cls := .type "list", data := .seq vs.toArray }, if_pos rfl⟩)) (fun b u z => ?_) (fun b z => ?_) fun _ => hk
    · by_cases hb : b = a
      · exact .inr ⟨_, _, if_pos hb⟩
      · exact .inl (if_neg hb)
    · by_cases hb : b = a
      · have z' := (if_pos hb).symm.trans z
        cases z'
        subst hb
        exact ⟨ha, by rw [List.length_map]; exact hl, vs, _, rv, ha⟩
      · have z' := (if_neg hb).symm.trans z
        cases z'
    · by_cases hb : b = a
      · exact hb
      · exact absurd (if_neg hb) z
end L2

namespace L2
open PySem PySem.Spec PyProof.Rows

abbrev KOf {K : PySem.W.Frag} {h : Heap} (_ : K.In h) : PySem.W.Frag := K

/-- the goal that k_head leaves (case hc), from the law's promise. F gives the function object fd (K's own) once, then the promise over every base -/
theorem walk_of {l : PySem.W.OpenLaw} {n k : Nat} {q : Program} {loose : List Str} {XP : (Str → Option Value) → Heap → Prop} {YP : World → Heap → Prop} {d : DefRec} {K : Params → PySem.W.Frag} {CX : World → CXT} {sp : World → Sp} {x : Str}
    (hn : l.most = some n) (hn2 : n ≤ sizeLine) (hdf : d.params.defaults = []) (hr : Room k callerA)
    (hY : ∀ (w : World) (h : Heap), YP w h → (K w.params).In h)
    (F : ∀ (w : World) (mg : Str → Option Value) (fa : Addr) (h : Heap), (K w.params).In h → h.Ns mainGlobals mg → mg d.name = some (.ref fa) →
      ∃ fd : FuncData, (∀ (s : Shared) (u : Value), BindsTo s fd ⟨[u], []⟩ [(x, u)]) ∧
        ∀ base : Heap, (K w.params).In base → base.Ns mainGlobals mg → FnOk l.prog w (K w.params) mg base (CX w) k fa fd [x] (sp w))
    (hsp : ∀ (w : World) (H : Hp) (a : Addr) (ns : List Int), ns.length ≤ n → Only H → SqL (K w.params) H a (ns.map V.int) → sp w [.ref a] H (fun v _ => v = .bl true) fun _ _ _ => False)
    (hCX : ∀ (w : World) (H : Hp) (s : Shared) (e : Value) (s' : Shared), CX w [] H s (fun _ _ _ => False) e s' → False) :
    PySem.W.WalkO q loose XP YP l.row.toRowW d [] (fun f vs => PySem.call f vs) := by
  refine Att.attach_call hn hdf fun w s₀ s₁ mg mb fa o pm cd doc a vs ns G Y ho hd hcd hmg hobj hints hlen hg => ?_
  have KX := hY w _ Y
  obtain ⟨fd, hb, hF⟩ := F w mg fa _ KX G.T.g hmg
  exact law_call KX G.T.g G.T.b G.T.builtins G.T.nolimit hg hobj hints (Nat.le_trans hlen hn2) hr hF hb (fun H hO hS => hsp w H a ns hlen hO hS) fun H e s' => hCX w H s₁ e s'
/-- the same where the promise hangs on the written part alone: (sp := My.sp_law), no hole under a binder -/
theorem walk_ofK {l : PySem.W.OpenLaw} {n k : Nat} {q : Program} {loose : List Str} {XP : (Str → Option Value) → Heap → Prop} {YP : World → Heap → Prop} {d : DefRec} {K : Params → PySem.W.Frag} {CX : CXT} {sp : PySem.W.Frag → Sp} {x : Str}
    (hn : l.most = some n) (hn2 : n ≤ sizeLine) (hdf : d.params.defaults = []) (hr : Room k callerA)
    (hY : ∀ (w : World) (h : Heap), YP w h → (K w.params).In h)
    (F : ∀ (w : World) (mg : Str → Option Value) (fa : Addr) (h : Heap), (K w.params).In h → h.Ns mainGlobals mg → mg d.name = some (.ref fa) →
      ∃ fd : FuncData, (∀ (s : Shared) (u : Value), BindsTo s fd ⟨[u], []⟩ [(x, u)]) ∧
        ∀ base : Heap, (K w.params).In base → base.Ns mainGlobals mg → FnOk l.prog w (K w.params) mg base CX k fa fd [x] (sp (K w.params)))
    (hsp : ∀ (K : PySem.W.Frag) (H : Hp) (a : Addr) (ns : List Int), ns.length ≤ n → Only H → SqL K H a (ns.map V.int) → sp K [.ref a] H (fun v _ => v = .bl true) fun _ _ _ => False)
    (hCX : ∀ (H : Hp) (s : Shared) (e : Value) (s' : Shared), CX [] H s (fun _ _ _ => False) e s' → False) :
    PySem.W.WalkO q loose XP YP l.row.toRowW d [] (fun f vs => PySem.call f vs) :=
  walk_of (K := K) (CX := fun _ => CX) (sp := fun w => sp (K w.params)) hn hn2 hdf hr hY F (fun w H a ns h1 h2 h3 => hsp (K w.params) H a ns h1 h2 h3) fun _ H s e s' => hCX H s e s'
end L2

/- THE LAST THEOREM (shape; LID, My.* are yours):
   My.Adr: a structure of the addresses that your layer names (classes, functions); My.Txt K t: a structure (Prop) of the equations over K;
   My.txt_mk : {K} {implicit addresses ..} (e1 : nsIn K mainGlobals "law" = some (some (.ref f))) (e2 : K.lookup f = some ⟨oc, od, .func (fnOf "law" "law" params body scope dV kV doc pm an cdv ct), sl⟩) (e3 : codeIn K cdv "law" = true) .. : ∃ t, My.Txt K t

set_option maxRecDepth 100000 in
set_option maxHeartbeats 0 in
theorem PySem.Challenge.cw_LID_holds : PySem.Challenge.rw_LID.Holds := by
  w_on; o_law; k_head; (case hw => w_witness2)
  k_fill
  refine L2.walk_of (l := PySem.Challenge.rw_LID) (n := 63) (k := 40) (x := "script") (CX := fun w => ..) (sp := fun _ => My.sp_law) rfl (by decide) rfl ⟨rfl, by decide, by decide⟩ (fun w h Y => PySem.W.kIn_of Y) ?F ?S ?C
  case F =>
    intro w mg fa h KX G hmg
    have T : ∃ t, My.Txt (L2.KOf KX) t := by
      dsimp only [L2.KOf]                          -- K must stand as «<heap const> w.params» for k_is
      refine' My.txt_mk ?e1 ?e2 ?e3 ..
      (case e1 => PySem.W.k_is)                    -- in the order: a name -> its address -> its object -> its parts
      (case e2 => PySem.W.k_is)
      ..
    obtain ⟨t, T⟩ := T
    have e0 := hmg.symm.trans (PySem.W.mg_of KX G T.law)
    cases e0                                       -- fa is the law's own address
    exact ⟨_, fun s u => .of_eq rfl, fun base kb nb => My.law_fn T kb nb⟩     -- if «.of_eq rfl» comes too early: refine' ⟨_, ?b, fun base kb nb => My.law_fn T kb nb⟩; exact fun s u => .of_eq rfl
  case S => exact fun w H a ns hl hO hS => ..
  case C => exact ..
(the tactic k_is has no namespace: write k_is) -/

/-! SHORT WORDS over the layer: a def of the text, its body, what a loop and a test want. -/
namespace L2
open PySem PySem.Spec PyProof.Rows

/-! ### the text by places -/
/-- the j-th statement of a class's body -/
def inClass (s : Stmt) (j : Nat) : Stmt := match s with
  | .ClassDef _ _ _ body _ _ _ _ _ _ _ => body.getD j (.Pass ⟨0, 0, 0, 0⟩)
  | _ => .Pass ⟨0, 0, 0, 0⟩
def defArgs (s : Stmt) : Arguments := match s with
  | .FunctionDef _ a _ _ _ _ _ _ _ _ => a
  | _ => { posonlyargs := [], args := [], vararg := none, kwonlyargs := [], kw_defaults := [], kwarg := none, defaults := [] }
def defBody (s : Stmt) : List Stmt := match s with
  | .FunctionDef _ _ b _ _ _ _ _ _ _ => b
  | _ => []
def defScope (s : Stmt) : Scope := match s with
  | .FunctionDef _ _ _ _ _ _ sc _ _ _ => sc
  | _ => { kind := .function, names := [], isGenerator := false, isCoroutine := false }

/-! ### no exception leaves a def -/
abbrev CX0 : CXT := fun _ _ _ _ _ _ => False
abbrev E0 : XK := fun _ _ _ => False
theorem pass0 {X : Cx} : Passes CX0 X E0 := fun _ _ _ _ _ _ _ h => h.elim

/-! ### a def (or method) of the text as it stands behind the top -/
structure Fun (K : PySem.W.Frag) (x qual : Str) (st : Stmt) (f : Addr) (fd : FuncData) : Prop where
  ex : ∃ (oc : Value) (od : Option Addr) (kV doc pm : Value) (an : Option Addr) (cdv ct : Value) (osl : Array (Option Value)),
    fd = PySem.W.fnOf x qual (defArgs st) (defBody st) (defScope st) .none kV doc pm an cdv ct ∧ K.lookup f = some ⟨oc, od, .func fd, osl⟩ ∧ PySem.W.codeIn K cdv qual = true
  kp : PySem.W.keepIn K (.ref f) = true
section
variable {P : Program} {w : World} {K : PySem.W.Frag} {mg : Str → Option Value} {base : Heap}
/-- THE RULE for a def: its body as a term of rules, and the reading of that term -/
theorem Fun.ok {x qual : Str} {st : Stmt} {f : Addr} {fd : FuncData} {N ps : List Str} {k : Nat} {sp : Sp} (F : Fun K x qual st f fd) (S : FnScope N ps (defScope st)) (len : ∀ vs H Q E, sp vs H Q E → vs.length = ps.length)
    (hbody : ∀ (cdv : Value) (A : Around) (outer : List Env) (s : Shared) (H : Hp) (vs : List V) (Q : VK) (E : XK), Room k (A.deeper (envOfC qual (defScope st) s.heap.objs.size f cdv)) → sp vs H Q E →
      ∃ t, PSs (cxOf CX0 P w K mg base N qual (defScope st) f cdv A outer s H E).nox (defBody st) t ∧ t { nx := fun _ H' => Q .non H', rt := Q } (start N vs) H) : FnOk P w K mg base CX0 (k + 1) f fd ps sp := by
  obtain ⟨oc, od, kV, doc, pm, an, cdv, ct, osl, rfl, lk, hcd⟩ := F.ex
  refine fn_of lk hcd S len fun A outer s H vs Q E hr hsp => ?_
  obtain ⟨t, h, q⟩ := hbody cdv A outer s H vs Q E hr hsp
  exact ⟨t, h.nox, q⟩
/-- how its arguments bind (no defaults): h is «fun _ _ _ _ _ _ us hl => match us, hl with | [_, _], _ => rfl», one _ a parameter -/
theorem Fun.binds {x qual : Str} {st : Stmt} {f : Addr} {fd : FuncData} {ps : List Str} (F : Fun K x qual st f fd)
    (h : ∀ (kV doc pm : Value) (an : Option Addr) (cdv ct : Value) (us : List Value), us.length = ps.length → bindArgs (PySem.W.fnOf x qual (defArgs st) (defBody st) (defScope st) .none kV doc pm an cdv ct) ⟨us, []⟩ = pure (ps.zip us)) : Binds K fd ps [] := by
  obtain ⟨oc, od, kV, doc, pm, an, cdv, ct, osl, rfl, lk, hcd⟩ := F.ex
  exact .all (h kV doc pm an cdv ct)
theorem fun_mk {x qual : Str} {st : Stmt} {f : Addr} {oc : Value} {od an : Option Addr} {osl : Array (Option Value)} {kV doc pm cdv ct : Value} (l : K.lookup f = some ⟨oc, od, .func (PySem.W.fnOf x qual (defArgs st) (defBody st) (defScope st) .none kV doc pm an cdv ct), osl⟩)
    (c : PySem.W.codeIn K cdv qual = true) (k : PySem.W.keepIn K (.ref f) = true) : Fun K x qual st f (PySem.W.fnOf x qual (defArgs st) (defBody st) (defScope st) .none kV doc pm an cdv ct) := ⟨⟨oc, od, kV, doc, pm, an, cdv, ct, osl, rfl, l, c⟩, k⟩
end
theorem hu_of {A : Around} {k : Nat} (hr : Room k A) : A.units + 1 < cLine := Nat.lt_of_le_of_lt (Nat.add_le_add_left (by decide : 1 ≤ 64) _) hr.units
theorem small1000 {n : Nat} (h : n ≤ 1000) : n < sizeLine := Nat.lt_of_le_of_lt h (by decide)

/-! ### expressions in short: the name that stands in the i-th slot -/
section
variable {X : Cx}
theorem pv (i : Nat) {x : Str} {pos : Pos} (hN : X.N[i]? = some x := by rfl) (hv : Vis X.env.scope x := by first | exact Or.inl rfl | exact Or.inr (Or.inl rfl) | exact Or.inr (Or.inr rfl)) (hd : (x == ("__debug__" : Str)) = false := by decide)
    (hcd : (x == ("__classdict__" : Str)) = false := by decide) : PE X (.Name x pos) (tVar i) := pe_var hN hv hd hcd
end

/-! ### tests -/
theorem iteF {A B : Prop} (h : B) : if false = true then A else B := by
  rw [if_neg Bool.false_ne_true]
  exact h
theorem iteT {A B : Prop} (h : A) : if true = true then A else B := by
  rw [if_pos rfl]
  exact h
theorem ite2 {c A B : Prop} [Decidable c] (h1 : c → A) (h2 : ¬ c → B) : if c then A else B := by
  by_cases h : c
  · rw [if_pos h]
    exact h1 h
  · rw [if_neg h]
    exact h2 h
theorem iteNS {c A B : Prop} [Decidable c] (hc : c) (h : B) : if (!decide c) = true then A else B := by
  rw [decide_eq_true hc]
  exact iteF h

/-! ### heaps -/
/-- all that was tracked is as it was -/
def Same (H H' : Hp) : Prop := ∀ b o, H b = some o → H' b = some o
theorem Same.refl (H : Hp) : Same H H := fun _ _ h => h
theorem Same.trans {H H1 H2 : Hp} (a : Same H H1) (b : Same H1 H2) : Same H H2 := fun c o h => b c o (a c o h)
theorem Same.free {H H' : Hp} (e : Same H H') {l : Addr} (h : H' l = Option.none) : H l = Option.none := by
  cases q : H l with
  | none => rfl
  | some o =>
    rw [e l o q] at h
    cases h
theorem Same.seq {K : PySem.W.Frag} {H H' : Hp} {a : Addr} {xs : List V} (e : Same H H') (h : SqL K H a xs) : SqL K H' a xs := by
  rcases h with (h | ⟨o, h⟩) | h
  · exact .inl (.inl (e _ _ h))
  · exact .inl (.inr ⟨o, e _ _ h⟩)
  · exact .inr h

end L2
/-! MORE RULES over the hand layer (own work): a comprehension's block, lists and tuples together, == of trees. -/
namespace L2
open PySem PySem.Spec PyProof.Rows

/-! ### what a comprehension's block captures -/
def closL (cells : List (Str × Addr)) : List (Str × NameKind) → List (Str × Addr) → List (Str × Addr)
  | [], acc => acc
  | (n, k) :: r, acc => closL cells r (if k = .free then (n, (cells.lookup n).getD 0) :: acc else acc)
theorem forIn_fold {α β : Type} {f : α → β → Sem (ForInStep β)} (g : β → α → β) : ∀ (l : List α) (c : β), (∀ x ∈ l, ∀ c, f x c = pure (.yield (g c x))) → forIn l c f = pure (l.foldl g c)
  | [], _, _ => rfl
  | x :: l, c, h => by
    rw [List.forIn_cons, h x List.mem_cons_self, pure_bind]
    exact forIn_fold g l _ fun y hy => h y (List.mem_cons_of_mem _ hy)
theorem closL_fold (cells : List (Str × Addr)) : ∀ (names : List (Str × NameKind)) (acc : List (Str × Addr)),
    names.foldl (fun c y => if y.2 = .free then (y.1, (cells.lookup y.1).getD 0) :: c else c) acc = closL cells names acc
  | [], _ => rfl
  | (n, k) :: r, acc => by
    rw [List.foldl_cons, closL]
    exact closL_fold cells r _
theorem clos_ok {scope : Scope} {env : Env} (h : ∀ y ∈ scope.names, y.2 = .free → ∃ c, env.cells.lookup y.1 = some c) : closureFor scope env = pure (closL env.cells scope.names []) := by
  rw [← closL_fold]
  simp only [closureFor]
  rw [forIn_fold (fun c y => if y.2 = .free then (y.1, (env.cells.lookup y.1).getD 0) :: c else c) scope.names [] fun x hx c => ?_]
  · rfl
  · obtain ⟨n, k⟩ := x
    by_cases hk : k = .free
    · subst hk
      obtain ⟨a, e⟩ := h _ hx rfl
      have e' : env.cells.lookup n = some a := e
      simp [cellOf, e']
    · have hb : (k == NameKind.free) = false := by simpa using hk
      simp [hb, hk]
theorem closL_in {cells : List (Str × Addr)} : ∀ (names : List (Str × NameKind)) (acc : List (Str × Addr)), (∀ y ∈ names, y.2 = .free → ∃ c, cells.lookup y.1 = some c) → (∀ x c, acc.lookup x = some c → cells.lookup x = some c) →
    ∀ x c, (closL cells names acc).lookup x = some c → cells.lookup x = some c
  | [], _, _, ha => ha
  | (n, k) :: r, acc, h, ha => by
    rw [closL]
    refine closL_in r _ (fun y hy => h y (List.mem_cons_of_mem _ hy)) fun x c e => ?_
    by_cases hk : k = .free
    · rw [if_pos hk] at e
      obtain ⟨a, ea⟩ := h (n, k) List.mem_cons_self hk
      have ea' : cells.lookup n = some a := ea
      rw [List.lookup_cons] at e
      cases hx : x == n with
      | true =>
        rw [hx] at e
        have e2 : some ((cells.lookup n).getD 0) = some c := e
        rw [ea'] at e2
        have e3 : a = c := Option.some.inj e2
        rw [eq_of_beq hx, ea', e3]
      | false =>
        rw [hx] at e
        exact ha x c e
    · rw [if_neg hk] at e
      exact ha x c e
theorem closL_acc {cells : List (Str × Addr)} {x : Str} : ∀ (names : List (Str × NameKind)) (acc : List (Str × Addr)), (acc.lookup x).isSome = true → ((closL cells names acc).lookup x).isSome = true
  | [], _, h => h
  | (n, k) :: r, acc, h => by
    rw [closL]
    refine closL_acc r _ ?_
    by_cases hk : k = .free
    · rw [if_pos hk, List.lookup_cons]
      cases hx : x == n with
      | true => rfl
      | false => exact h
    · rw [if_neg hk]; exact h
theorem closL_has {cells : List (Str × Addr)} {x : Str} : ∀ (names : List (Str × NameKind)) (acc : List (Str × Addr)), (x, NameKind.free) ∈ names → ((closL cells names acc).lookup x).isSome = true
  | [], _, h => nomatch h
  | (n, k) :: r, acc, h => by
    rw [closL]
    rcases List.mem_cons.mp h with e | h
    · cases e
      refine closL_acc r _ ?_
      rw [if_pos rfl, List.lookup_cons, beq_self_eq_true]; rfl
    · exact closL_has r _ h
theorem lookup_map {g : Str → NameKind → NameKind} {x : Str} : ∀ names : List (Str × NameKind), (names.map fun y => (y.1, g y.1 y.2)).lookup x = (names.lookup x).map (g x)
  | [] => rfl
  | (n, k) :: r => by
    rw [List.map_cons, List.lookup_cons, List.lookup_cons]
    cases hx : x == n with
    | true =>
      have e := eq_of_beq hx
      subst e; rfl
    | false => exact lookup_map r
theorem relabel_names (scope : Scope) (env : Env) : (relabel scope env).names = scope.names.map fun y => (y.1, if (y.2 == .free && env.scope.kind == .function && env.kindOf y.1 == some .cell) = true then NameKind.cell else y.2) := by
  unfold relabel
  refine List.map_congr_left fun y _ => ?_
  obtain ⟨n, k⟩ := y
  show (if (k == .free && env.scope.kind == .function && env.kindOf n == some .cell) = true then (n, NameKind.cell) else (n, k)) = _
  split <;> simp_all
theorem relabel_look (scope : Scope) (env : Env) (x : Str) : (relabel scope env).names.lookup x = (scope.names.lookup x).map fun k => if (k == .free && env.scope.kind == .function && env.kindOf x == some .cell) = true then NameKind.cell else k := by
  rw [relabel_names]
  exact lookup_map (g := fun n k => if (k == .free && env.scope.kind == .function && env.kindOf n == some .cell) = true then NameKind.cell else k) scope.names

/-! ### the block's context -/
def cxComp (X : Cx) (scope : Scope) (N' : List Str) (C : Addr) (ex : List Addr) (s : Shared) (H : Hp) : Cx :=
  { X with N := N', s₀ := s, H₀ := H, env := compEnvC scope (closL X.env.cells scope.names []) C X.env, outer := X.stack, stack := X.stack, ex := ex, fn := fun _ => false, pn := [], xe := fun _ _ => False }
/-- the names' values at the block's start: nt targets, then the captured ones (their slots around) -/
def compSt (nt : Nat) (cap : List Nat) (σ : St) : St := List.replicate nt none ++ cap.map fun i => (σ[i]?).join
structure CompOk (X : Cx) (scope : Scope) (N' : List Str) (nt : Nat) (cap : List Nat) : Prop where
  kind : scope.kind = .function
  nocell : ∀ y ∈ scope.names, y.2 ≠ .cell
  locs : ∀ y ∈ scope.names, y.2 = .local → scope.names.lookup y.1 = some .local
  frees : ∀ y ∈ scope.names, y.2 = .free → X.env.scope.names.lookup y.1 = some .cell ∨ X.env.scope.names.lookup y.1 = some .free
  len : N'.length = nt + cap.length
  caps : ∀ (j i : Nat) (x : Str), cap[j]? = some i → N'[nt + j]? = some x → X.N[i]? = some x ∧ scope.names.lookup x = some .free

section
variable {X : Cx} {scope : Scope} {N' : List Str} {nt : Nat} {cap : List Nat} {pins : List (Addr × Obj)} {σ : St} {H : Hp} {s : Shared}
theorem CompOk.has (c : CompOk X scope N' nt cap) (ok : X.Ok) : ∀ y ∈ scope.names, y.2 = .free → ∃ a, X.env.cells.lookup y.1 = some a := fun y hy hk => ok.has y.1 (c.frees y hy hk)
theorem CompOk.cells (c : CompOk X scope N' nt cap) (ok : X.Ok) {x : Str} {a : Addr} (e : (closL X.env.cells scope.names []).lookup x = some a) : X.env.cells.lookup x = some a :=
  closL_in scope.names [] (c.has ok) (fun _ _ z => by simp at z) x a e
theorem CompOk.free_of (c : CompOk X scope N' nt cap) {x : Str} (h : (relabel scope X.env).names.lookup x = some .cell ∨ (relabel scope X.env).names.lookup x = some .free) : (x, NameKind.free) ∈ scope.names := by
  rw [relabel_look] at h
  cases q : scope.names.lookup x with
  | none => rw [q] at h; simp at h
  | some k =>
    have hm := PySem.mem_of_lookup q
    have nc : k ≠ .cell := c.nocell _ hm
    rw [q] at h
    by_cases hk : k = .free
    · subst hk; exact hm
    · have hb : (k == NameKind.free) = false := by simpa using hk
      simp only [Option.map_some, hb, Bool.false_and, Bool.false_eq_true, if_false, Option.some.injEq] at h
      rcases h with h | h
      · exact absurd h nc
      · exact absurd h hk
/-- the block's start: the frame C was just made -/
theorem Inv.comp (I : Inv X pins σ H s) (c : CompOk X scope N' nt cap) {fp : List Addr} (hf : ∀ b ∈ fp, FpOk X pins H b) (hfs : ∀ b ∈ fp, b < s.heap.objs.size) {h' : Heap} {m : Str → Option Value} {t' : Nat}
    (hk : ∀ b o, s.heap.get? b = some o → h'.get? b = some o) (hn : h'.Ns s.heap.objs.size m) :
    Inv (cxComp X scope N' s.heap.objs.size fp s H) [] (compSt nt cap σ) H { s with heap := h', toks := t' } := by
  have cl := fun {x : Str} {a : Addr} (e : (closL X.env.cells scope.names []).lookup x = some a) => c.cells I.ok e
  have cellLt : ∀ x a, X.env.cells.lookup x = some a → a < s.heap.objs.size := fun x a e => by
    obtain ⟨v, q⟩ := I.cell x a e
    exact q.lt
  refine ⟨⟨I.ok.mod, c.kind, I.ok.glob, I.ok.blt, Nat.le_refl _, fun x y a e1 e2 => I.ok.inj x y a (cl e1) (cl e2), fun x hx => ?_, fun x a hx => absurd hx Bool.false_ne_true, I.ok.hd, I.ok.frames, .inl rfl, fun b hb => ⟨?_, fun x a e => ?_⟩,
      fun b o e => I.bs b o e, Nat.le_trans I.ok.bsz I.sz, fun b o e hb => ?_, fun b hb hbf => ?_, I.stack, fun b hb => I.stkFree b hb⟩,
    rfl, I.bare, Un.kept hk, ⟨m, hn, fun i x v e1 e2 e3 => ?_⟩, fun x a e => ?_, I.hok.fresh (Nat.le_refl _), fun x a e => I.freeC x a (cl e), fun p hp => absurd (show p ∈ ([] : List (Addr × Obj)) from hp) (by simp), I.hok.kept hk, ?_⟩
  · exact Option.isSome_iff_exists.mp (closL_has scope.names [] (c.free_of hx))
  · exact Nat.ne_of_lt (hfs b hb)
  · exact (hf b hb).2.2.2.2.1 x a (cl e)
  · obtain ⟨f0, f1, f2, f3, _⟩ := hf b hb
    rcases f3 with z | z
    · exact I.ok.noex b o e z
    · exact absurd (Nat.lt_of_lt_of_le (Heap.lt_size e) (Nat.le_trans I.ok.bsz z)) (Nat.lt_irrefl _)
  · obtain ⟨f0, f1, f2, _⟩ := hf b hb
    rcases List.mem_cons.mp (I.stkSub b hbf) with z | z
    · exact f1 z
    · exact f2 z
  · -- a captured name
    have e1' : N'[i]? = some x := e1
    have hi : nt ≤ i := by
      refine Nat.le_of_not_lt fun q => ?_
      unfold compSt at e2
      rw [List.getElem?_append_left (by simpa using q), List.getElem?_replicate, if_pos q] at e2
      cases e2
    obtain ⟨j, rfl⟩ := Nat.exists_eq_add_of_le hi
    unfold compSt at e2
    rw [List.getElem?_append_right (by simp), List.length_replicate, Nat.add_sub_cancel_left, List.getElem?_map] at e2
    cases q : cap[j]? with
    | none => rw [q] at e2; cases e2
    | some k =>
      rw [q] at e2
      have e2' : (σ[k]?).join = some v := Option.some.inj e2
      have e4 : σ[k]? = some (some v) := by
        cases z : σ[k]? with
        | none => rw [z] at e2'; cases e2'
        | some w' => rw [z] at e2'; exact congrArg some e2'
      obtain ⟨n1, n2⟩ := c.caps j k x q e1'
      have hmem := PySem.mem_of_lookup n2
      have hkind := c.frees _ hmem rfl
      obtain ⟨m0, _, hl⟩ := I.loc
      obtain ⟨u, r, lk⟩ := hl k x v n1 e4 (.inr hkind)
      refine ⟨u, r, .inr ⟨?_, ?_⟩⟩
      · show (relabel scope X.env).names.lookup x = some .cell ∨ (relabel scope X.env).names.lookup x = some .free
        rw [relabel_look, n2]
        by_cases z : ((NameKind.free == .free && X.env.scope.kind == .function && X.env.kindOf x == some .cell) = true)
        · exact .inl (by rw [Option.map_some, if_pos z])
        · exact .inr (by rw [Option.map_some, if_neg z])
      · rcases lk with ⟨k1, _⟩ | ⟨_, a, e, z⟩
        · have k1' : X.env.scope.names.lookup x = some .local := k1
          rcases hkind with y | y <;> (rw [k1'] at y; cases y)
        · obtain ⟨a', ea⟩ := Option.isSome_iff_exists.mp (closL_has (cells := X.env.cells) scope.names [] hmem)
          have e' := cl ea
          rw [e] at e'; cases e'
          obtain ⟨o, ho, hd⟩ := z
          exact ⟨a, ea, o, hk _ _ ho, hd⟩
  · obtain ⟨v, o, ho, hd⟩ := I.cell x a (cl e)
    exact ⟨v, o, hk _ _ ho, hd⟩
  · show (compSt nt cap σ).length = N'.length
    unfold compSt
    rw [List.length_append, List.length_replicate, List.length_map, c.len]
/-- behind the block: the frame C is let go -/
theorem Inv.uncomp {C : Addr} {fp : List Addr} {σ' : St} {H' : Hp} {s' : Shared} (I : Inv X pins σ H s) (hC : C = s.heap.objs.size) (hf : ∀ b ∈ fp, FpOk X pins H b) {N' : List Str} (J : Inv (cxComp X scope N' C fp s H) [] σ' H' s') :
    ∃ m, s'.heap.Ns C m ∧ ∀ h', Heap.SameBut C s'.heap h' → Inv X pins σ H' { s' with heap := h' } := by
  subst hC
  obtain ⟨m, hn, _⟩ := J.loc
  refine ⟨m, hn, fun h' hs => ?_⟩
  have ne : ∀ b o, s.heap.get? b = some o → b ≠ s.heap.objs.size := fun b o e => Nat.ne_of_lt (Heap.lt_size e)
  have B := J.base
  refine I.call' (ch := fp) J.os ⟨fun b o e n hb hx => ?_, fun b o e n hb hx => ?_, B.free, fun b o e hx => ?_, B.tups, B.frzs, B.tbls⟩ (fun b u e => ?_) J.bare fun b hb => ?_
  · exact (hs.2 b (ne b o e)).trans (B.keep b o e n hb hx)
  · obtain ⟨sl, q⟩ := B.slot b o e n hb hx
    exact ⟨sl, (hs.2 b (ne b o e)).trans q⟩
  · obtain ⟨o', q⟩ := B.there b o e hx
    exact ⟨o', (hs.2 b (ne b o e)).trans q⟩
  · have hCn : H' s.heap.objs.size = none := J.free
    refine (J.hok b u e).stay (fun d w' hd q => (hs.2 d ?_).trans q) (fun _ q => q) fun _ _ q => q
    intro z
    subst z
    rcases hd with z | z
    · rw [← z, hCn] at e; cases e
    · rw [hCn] at z; cases z
  · obtain ⟨f0, f1, f2, f3, f4, f5⟩ := hf b hb
    exact ⟨f3, f1, f4, f5⟩
end
end L2
namespace L2
open PySem PySem.Spec PyProof.Rows
/-! ### [elt for tg in iter], [elt for tg in iter if c] -/
/-- W: by the turn, a measure, the items so far, the block's names, the heap -/
def tComp (wi : TI) (g : TG) (te : TE) (nt : Nat) (cap : List Nat) : TE := fun σ H Q => wi σ H fun J H1 => ∀ acc, H1 acc = none →
  ∃ W : Nat → Nat → List V → St → Hp → Prop, (∃ m, W 0 m [] (compSt nt cap σ) (upd H1 acc (.lst []))) ∧ ∀ i m ys σ' H', W i m ys σ' H' →
    (J.stop i H' ∧ Q (.ref acc) H') ∨ (J.go i H' ∧ ∀ x H2, J.yld i H' x H2 → g x σ' H2 fun σ3 H3 => te σ3 H3 fun y H4 =>
      H4 acc = some (.lst ys) ∧ ys.length < sizeLine ∧ ∃ m', m' < m ∧ W (i + 1) m' (ys ++ [y]) σ3 (upd H4 acc (.lst (ys ++ [y]))))
def tCompIf (wi : TI) (g : TG) (tc : TT) (te : TE) (nt : Nat) (cap : List Nat) : TE := fun σ H Q => wi σ H fun J H1 => ∀ acc, H1 acc = none →
  ∃ W : Nat → Nat → List V → St → Hp → Prop, (∃ m, W 0 m [] (compSt nt cap σ) (upd H1 acc (.lst []))) ∧ ∀ i m ys σ' H', W i m ys σ' H' →
    (J.stop i H' ∧ Q (.ref acc) H') ∨ (J.go i H' ∧ ∀ x H2, J.yld i H' x H2 → g x σ' H2 fun σ3 H3 => tc σ3 H3 fun b H5 => if b = true then te σ3 H5 fun y H4 =>
      H4 acc = some (.lst ys) ∧ ys.length < sizeLine ∧ ∃ m', m' < m ∧ W (i + 1) m' (ys ++ [y]) σ3 (upd H4 acc (.lst (ys ++ [y])))
      else ∃ m', m' < m ∧ W (i + 1) m' ys σ3 H5)
theorem compTurn_one (elt target iter c : Expr) (scope : Scope) (pos : Pos) (it acc : Value) (env : Env) :
    compTurn (.ListComp elt [⟨target, iter, [c], 0⟩] scope pos) 0 it acc env = (standAt iter.pos >>= fun _ => pyNext it >>= fun r => match r with
      | none => pure (.done .next)
      | some v => letOwnedTupleGo target it v >>= fun _ => assign target env v >>= fun _ => (forIn [c] true fun c r => if r = true then do let ok ← isTrue c env (eval c env); pure (ForInStep.yield ok) else pure (ForInStep.yield r)) >>= fun ok =>
        if ok = true then (eval elt env >>= fun x => call (.builtin "list.append") [acc, x] >>= fun _ => pure ()) >>= fun _ => again (.compLoop (.ListComp elt [⟨target, iter, [c], 0⟩] scope pos) 0 it acc env)
        else again (.compLoop (.ListComp elt [⟨target, iter, [c], 0⟩] scope pos) 0 it acc env)) := by
  rfl
theorem forIn_one (c : Expr) (env : Env) : (forIn [c] true fun c r => if r = true then do let ok ← isTrue c env (eval c env); pure (ForInStep.yield ok) else pure (ForInStep.yield r)) = isTrue c env (eval c env) := by
  rw [List.forIn_cons, if_pos rfl]
  simp only [bind_assoc, pure_bind, List.forIn_nil, bind_pure]
theorem compTurn_ifs (elt target iter c : Expr) (scope : Scope) (pos : Pos) (it acc : Value) (env : Env) :
    compTurn (.ListComp elt [⟨target, iter, [c], 0⟩] scope pos) 0 it acc env = (standAt iter.pos >>= fun _ => pyNext it >>= fun r => match r with
      | none => pure (.done .next)
      | some v => letOwnedTupleGo target it v >>= fun _ => assign target env v >>= fun _ => isTrue c env (eval c env) >>= fun ok =>
        if ok = true then (eval elt env >>= fun x => call (.builtin "list.append") [acc, x] >>= fun _ => pure ()) >>= fun _ => again (.compLoop (.ListComp elt [⟨target, iter, [c], 0⟩] scope pos) 0 it acc env)
        else again (.compLoop (.ListComp elt [⟨target, iter, [c], 0⟩] scope pos) 0 it acc env)) := by
  rw [compTurn_one, forIn_one]
section
variable {X : Cx} {scope : Scope} {N' : List Str} {nt : Nat} {cap : List Nat} {elt iter tg : Expr} {pos : Pos} {wi : TI} {g : TG} {te : TE}
theorem pe_comp (hc : X.calm = true) (c : CompOk X scope N' nt cap) (hi : PI X tg iter wi) (hg : ∀ C ex s H, PG (cxComp X scope N' C ex s H) tg g) (he : ∀ C ex s H, PE (cxComp X scope N' C ex s H) elt te)
    (hs : ∀ x, foldedSetIterable iter X.env x = pure x := by intro _; rfl) : PE X (.ListComp elt [⟨tg, iter, [], 0⟩] scope pos) (tComp wi g te nt cap) := by
  intro pins s σ H Q I h
  rw [eval_ListComp]
  refine wpAny_comprehension_free (use := none) rfl hs (clos_ok (c.has I.ok)) c.kind c.locs (thn (hi pins s σ H _ I h) fun v s1 h1 => thn h1 fun itv s2 h2 => ?_)
  obtain ⟨it, fp, tn, J, H2, rfl, I2, T, st2, f2, R⟩ := h2
  have hD : H2 s2.heap.objs.size = none := I2.hok.fresh (Nat.le_refl _)
  obtain ⟨W, ⟨m0, w0⟩, turn⟩ := R _ hD
  have I3 : Inv X pins σ (upd H2 s2.heap.objs.size (.lst [])) { s2 with heap := s2.heap.push { cls := .type "list", dict := none, data := .seq ([] : List Value).toArray } } :=
    I2.laid (t' := s2.toks) (fun b u e => Heap.get?_push_of_some _ e) (Nat.le_refl _) ⟨Nat.zero_le _, [], 0, .nil, Heap.get?_push_size _ rfl⟩
  have fpLt : ∀ b ∈ fp, b < s2.heap.objs.size := fun b hb => by
    obtain ⟨o, e, _⟩ := T.obj _ _ st2 b hb
    exact Heap.lt_size e
  have f3 : ∀ b ∈ fp, FpOk X pins (upd H2 s2.heap.objs.size (.lst [])) b := fun b hb => ⟨by rw [upd_ne (Nat.ne_of_lt (fpLt b hb))]; exact (f2 b hb).1, (f2 b hb).2⟩
  have st3 : tn 0 (s2.heap.push { cls := .type "list", dict := none, data := .seq ([] : List Value).toArray }) := T.keep _ _ _ st2 fun b _ o e => Heap.get?_push_of_some _ e
  generalize hh3 : s2.heap.push { cls := .type "list", dict := none, data := .seq ([] : List Value).toArray } = h3 at I3 st3
  have sz3 : s2.heap.objs.size < h3.objs.size := by rw [← hh3, Heap.size_push]; exact Nat.lt_succ_self _
  generalize hDD : s2.heap.objs.size = D at I3 f3 hD w0 turn sz3 fpLt
  refine wpAny_newObj_type ?_
  rw [hDD, hh3]
  refine wpAny_newFunctionEnv c.nocell (by intro y hy; simp at hy) (fun h4 hns4 hsb4 => ?_) c.kind
  dsimp only at hns4 hsb4 ⊢
  have keep4 : ∀ b o, h3.get? b = some o → h4.get? b = some o := fun b o e => (hsb4.2 b (Nat.ne_of_lt (Heap.lt_size e))).trans (Heap.get?_push_of_some _ e)
  have I4 := I3.comp (t' := s2.toks + ([] : List (Str × Value)).length) c f3 (fun b hb => Nat.lt_trans (fpLt b hb) sz3) keep4 hns4
  have st4 : tn 0 h4 := T.keep _ _ _ st3 fun b _ o e => keep4 b o e
  dsimp only at I4
  -- what is asked of the end
  have fin : ∀ {σ' : St} {H' : Hp} {s' : Shared}, Inv (cxComp X scope N' h3.objs.size fp { s2 with heap := h3 } (upd H2 D (.lst []))) [] σ' H' s' → Q (.ref D) H' →
      compPost (model X.prog X.w) X.A X.xe none (EP X pins σ Q) (.ref D) h3.objs.size (.ok .next) s' := fun {σ' H' s'} J' q => by
    obtain ⟨m, hn, hh⟩ := I3.uncomp rfl f3 J'
    exact ⟨m, hn, fun h' hs' => ⟨.ref D, H', hh h' hs', rfl, q⟩⟩
  have stat : ∀ {H' : Hp}, (∀ b ∈ fp, H' b = none) → ∀ b ∈ fp, FpOk (cxComp X scope N' h3.objs.size fp { s2 with heap := h3 } (upd H2 D (.lst []))) [] H' b := fun {H'} hn b hb => by
    refine ⟨hn b hb, Nat.ne_of_lt (Nat.lt_trans (fpLt b hb) sz3), fun z => ?_, .inl hb, fun x a e => (f3 b hb).2.2.2.2.1 x a (c.cells I.ok e), fun p hp => absurd (show p ∈ ([] : List (Addr × Obj)) from hp) (by simp)⟩
    rcases List.mem_cons.mp (I.stkSub b z) with y | y
    · exact (f3 b hb).2.1 y
    · exact (f3 b hb).2.2.1 y
  have loop : codeAny (model X.prog X.w) X.A (.compLoop (.ListComp elt [⟨tg, iter, [], 0⟩] scope pos) 0 (.ref it) (.ref D) (compEnvC scope (closL X.env.cells scope.names []) h3.objs.size X.env))
      (compPost (model X.prog X.w) X.A X.xe none (EP X pins σ Q) (.ref D) h3.objs.size) { s2 with heap := h4, toks := s2.toks + ([] : List (Str × Value)).length } := by
    refine codeAny_loop rfl (fun n s' => ∃ i ys σ' H', Inv (cxComp X scope N' h3.objs.size fp { s2 with heap := h3 } (upd H2 D (.lst []))) [] σ' H' s' ∧ tn i s'.heap ∧ (∀ b ∈ fp, H' b = none) ∧ W i n ys σ' H') (fun n s5 hI => ?_) m0 ⟨0, [], _, _, I4, st4, fun b hb => (f3 b hb).1, w0⟩
    obtain ⟨i, ys, σ5, H5, I5, st5, fr5, w5⟩ := hI
    show wpAny _ X.A ((compTurn (.ListComp elt [⟨tg, iter, [], 0⟩] scope pos) 0 (.ref it) (.ref D) (compEnvC scope (closL X.env.cells scope.names []) h3.objs.size X.env)).onRaise (fun x => do noteFrame x (compEnvC scope (closL X.env.cells scope.names []) h3.objs.size X.env); theTreesLotGoes x)) _ _ s5
    refine wpAny_noted ?_
    rw [compTurn_list1]
    rcases turn i n ys σ5 H5 w5 with ⟨stop, qn⟩ | ⟨go, step⟩
    · refine wpAny_bind (wpAny_standAt (wpAny_bind (wpAny_mono (T.done (cxComp X scope N' h3.objs.size fp { s2 with heap := h3 } (upd H2 D (.lst []))) rfl rfl rfl hc i [] s5 σ5 H5 (fun _ _ => False) I5 (stat fr5) st5 stop) (fun r s6 ⟨hr, I6⟩ => ?_) fun _ _ z => z.elim)))
      subst hr
      exact wpAny_pure (fin I6 qn)
    · refine wpAny_bind (wpAny_standAt (wpAny_bind (wpAny_mono (T.item (cxComp X scope N' h3.objs.size fp { s2 with heap := h3 } (upd H2 D (.lst []))) rfl rfl rfl hc i [] s5 σ5 H5 (fun _ _ => False) I5 (stat fr5) st5 go) (fun r s6 ⟨u, hr, h6⟩ => ?_) fun _ _ z => z.elim)))
      subst hr
      refine wpAny_bind (wpAny_mono h6 (fun _ s7 ⟨x, H7, I7, r7, y7, st7, fr7⟩ => ?_) fun _ _ z => z.elim)
      have I7' := I7.pinned (stat fr7) (T.obj _ _ st7)
      refine wpAny_bind (wpAny_mono (hg _ _ _ _ _ s7 σ5 H7 x u _ I7' r7 (step x H7 y7)) (fun _ s8 ⟨σ8, H8, I8, q8⟩ => ?_) fun _ _ z => z.elim)
      refine wpAny_bind (wpAny_bind (wpAny_mono (he _ _ _ _ _ s8 σ8 H8 _ I8 q8) (fun yv s9 ⟨y, H9, I9, r9, e9, z9, m', hm', w9⟩ => ?_) fun _ _ z => z.elim))
      refine wpAny_bind (wpAny_mono (mt_append (X := cxComp X scope N' h3.objs.size fp { s2 with heap := h3 } (upd H2 D (.lst []))) _ s9 σ8 H9 (.ref D) [y] (.ref D) [yv] (fun v H10 => v = .non ∧ H10 = upd H9 D (.lst (ys ++ [y]))) I9 rfl (.cons r9 .nil) ⟨D, ys, y, rfl, rfl, e9, z9, rfl, rfl⟩)
        (fun _ s10 ⟨v10, H10, I10, _, _, e10⟩ => ?_) fun _ _ z => z.elim)
      subst e10
      refine wpAny_pure (wpAny_pure ⟨rfl, m', hm', i + 1, ys ++ [y], σ8, _, I10.unpinned, ?_, fun b hb => ?_, w9⟩)
      · exact T.keep _ _ _ st7 fun b hb o e => (I10.pin (b, o) (List.mem_append_right _ (List.mem_append_right _ (mem_pinsAt hb e)))).1
      · obtain ⟨o, e, d⟩ := T.obj _ _ st7 b hb
        exact (I10.pin (b, o) (List.mem_append_right _ (List.mem_append_right _ (mem_pinsAt hb e)))).2.1
  exact codeAny_compStart_list loop (T.self _ 0 _ _ _ st4 loop)
end
end L2
namespace L2
open PySem PySem.Spec PyProof.Rows
/-! ### a def that keeps its promise, found by its name -/
structure Got (P : Program) (w : World) (K : PySem.W.Frag) (mg : Str → Option Value) (base : Heap) (k : Nat) (x : Str) (ps : List Str) (sp : Sp) : Prop where
  ex : ∃ (f : Addr) (fd : FuncData), FnOk P w K mg base CX0 k f fd ps sp ∧ mg x = some (.ref f) ∧ PySem.W.keepIn K (.ref f) = true ∧ Binds K fd ps []
section
variable {X : Cx} {k j : Nat} {x : Str} {ps : List Str} {sp : Sp} {p pos : Pos} {e : Expr} {es : List Expr} {t : TA}
theorem pe_cg (G : Got X.prog X.w X.K X.mg X.base k x ps sp) (hr : Room j X.A) (hk : k ≤ j) (hg : Gl X x) (ha : PA X (e :: es) t) (hdb : (x == ("__debug__" : Str)) = false := by decide)
    (he : starEach (e :: es) X.env = (false, eval e X.env) :: starEach es X.env := by rfl) (hpl : (backTo pos (starEach es X.env)).any (·.1) = false := by rfl) :
    PE X (.Call (.Name x p) (e :: es) [] pos) (tCall sp [] E0 t) := by
  obtain ⟨f, fd, F, hm, kp, b⟩ := G.ex
  exact pe_call F (hr.mono hk) hg hm kp b .nil pass0 ha hdb he hpl
end

/-! ### either of two readings -/
theorem PI.or {X : Cx} {tg iter : Expr} {w1 w2 : TI} (h1 : PI X tg iter w1) (h2 : PI X tg iter w2) : PI X tg iter (fun σ H R => w1 σ H R ∨ w2 σ H R) := by
  intro pins s σ H R I h
  rcases h with h | h
  · exact h1 pins s σ H R I h
  · exact h2 pins s σ H R I h
section
variable {X : Cx}
/-! ### // by a positive number of any usual size -/
theorem op_fdivL : OpR X (binaryOp .FloorDiv) (rI (fun _ j => 0 < j ∧ j < 2 ^ 64) fun i j => .int (i / j)) := opI fun i j t u s E Q hc q => by
  have h0 : j ≠ 0 := by omega
  have h1 : j.natAbs.log2 < 9000 := by
    have e1 : j.natAbs < 2 ^ 64 := by omega
    exact Nat.lt_trans ((Nat.log2_lt (by omega)).mpr e1) (by decide)
  have e : i.fdiv j = i / j := Int.fdiv_eq_ediv_of_nonneg i (by omega)
  exact floordiv_int h0 (by rw [e]; exact q) (.inl (PyProof.noPylong_of_log2 h1))

/-! ### xs.extend(ys), ys a list or a tuple -/
theorem ext_tup (l b : Addr) (items items2 : Array Value) (n n2 : Nat) (dd2 : Option Addr) (sl2 : Array (Option Value)) (h0 : ¬(!items.isEmpty && Builtin.List.listTooLong (items.size + items2.size)) = true) (h1 : items.size ≤ sizeLine) (h2 : items.size + items2.size ≤ sizeLine + 1) :
    Meets (Builtin.«list.extend» ⟨[.ref l, .ref b], []⟩) (fun _ R s => s.heap.get? l = some { cls := .type "list", dict := none, data := .seq items n, slots := #[] } ∧
      s.heap.get? b = some { cls := .type "tuple", dict := dd2, data := .seq items2 n2, slots := sl2 } ∧ R (.ok (.ret Value.none)) { s with heap := s.heap.update l (Obj.mapSeq fun x => x ++ items2), toks := s.toks }) :=
  .of_wp fun prog w A R s h => by
    obtain ⟨hp, g, d, tk, os⟩ := s
    obtain ⟨hl, hb, h⟩ := h
    have f1 := AutoSeq1.idx_int
    have f2 := AutoSeq1.sub_tuple_tuple
    have f3 := AutoSeq1.sub_list_list
    have f4 := AutoSeq1.sub_tuple_list
    have f5 := AutoSeq1.sub_list_tuple
    have hz' : (items ++ items2).size ≤ sizeLine + 1 := by rw [Array.size_append]; exact h2
    wp_walk using (wpAny_updateSeq hl rfl (hz := h1) (_hz' := hz')), wpAny_loadPart' hl, wpAny_loadPart' hb
    exact ⟨_, rfl, h⟩
def rExtT (K : PySem.W.Frag) : V → List V → Hp → VK → Prop := fun x vs H Q => ∃ l b xs zs, x = .ref l ∧ vs = [.ref b] ∧ H l = some (.lst xs) ∧ SqT K H b zs ∧ xs.length + zs.length ≤ sizeLine ∧ Q .non (upd H l (.lst (xs ++ zs)))
theorem mt_extT : MtM X "list.extend" (rExtT X.K) := by
  intro pins s σ H x vs v us Q I rx rv h
  obtain ⟨l, b, xs, zs, rfl, rfl, hH, hB, hz, q⟩ := h
  cases rx
  obtain ⟨u, rfl, ru⟩ := rv.one
  cases ru
  obtain ⟨z, its, n, r, hl, e⟩ := I.lstM hH
  obtain ⟨its2, r2, ⟨⟨c2, dd2, da2, sl2⟩, e2, hc2, n2, hd2⟩, hz2⟩ := I.tuple hB
  simp only at hc2 hd2
  subst hc2 hd2
  have hl2 := r2.length
  have hsz : its.toArray.size + its2.toArray.size ≤ sizeLine := by rw [List.size_toArray, List.size_toArray]; omega
  have hlong : ¬ (!its.toArray.isEmpty && Builtin.List.listTooLong (its.toArray.size + its2.toArray.size)) = true := by
    rw [notLongL hsz, Bool.and_false]
    exact Bool.false_ne_true
  refine call_meets F.slot_list_extend ⟨_, e, rfl⟩ F.entry_list_extend (F.args_list_extend_2 _ _) (ext_tup l b its.toArray its2.toArray n n2 dd2 sl2 hlong (by rw [List.size_toArray]; omega) (by omega)) ⟨e, e2, ?_⟩
  refine ⟨.non, _, I.lset (its' := its ++ its2) hH e (by simp) (r.append r2) ?_, rfl, q⟩
  rw [List.length_append]
  omega

/-! ### xs != [] -/
def rNeNil (K : PySem.W.Frag) : R2 := fun x y H Q => ∃ p q xs, x = .ref p ∧ y = .ref q ∧ SqL K H p xs ∧ SqL K H q [] ∧ Q (.bl (!xs.isEmpty)) H
theorem op_neNil (hu : X.A.units < cLine) : OpR X (compareOp .NotEq) (rNeNil X.K) := by
  intro pins s σ H x y v u Q I rx ry h
  obtain ⟨p, q, xs, rfl, rfl, hp, hq, hQ⟩ := h
  cases rx; cases ry
  obtain ⟨its, r, pl, _⟩ := I.list hp
  obtain ⟨its2, r2, pl2, _⟩ := I.list hq
  cases r2
  cases r with
  | nil =>
    refine SeqAt.RcNeAt.lists (e := fun _ => true) pl.isList pl2.isList rfl hu (fun j h1 _ => absurd h1 (by simp)) X.prog X.w X.xe _ ?_
    exact ⟨.bl false, H, I, rfl, hQ⟩
  | cons r1 rr =>
    refine SeqAt.RcNeAt.lists_lengths pl.isList pl2.isList (by simp) hu X.prog X.w X.xe _ ?_
    exact ⟨.bl true, H, I, rfl, hQ⟩

/-! ### t != u, item by item the same -/
def plainV : V → Bool
  | .flt _ => false
  | .byt _ => false
  | .ty _ => false
  | _ => true
theorem eqAt_same {A : Around} {s : Shared} {x : V} {u v : Value} (ru : RelV x u) (rv : RelV x v) (h : plainV x = true) : SeqAt.EqAt A s u v true := by
  cases x with
  | non => cases ru; cases rv; exact SeqAt.EqAt.same _
  | bl b => cases ru; cases rv; exact SeqAt.EqAt.same _
  | int i =>
    have e := eqAt_V (A := A) (s := s) ru rv rfl rfl
    have e2 : eqV (.int i) (.int i) = true := by simp [eqV]
    rwa [e2] at e
  | str z =>
    have e := eqAt_V (A := A) (s := s) ru rv rfl rfl
    have e2 : eqV (.str z) (.str z) = true := by simp [eqV]
    rwa [e2] at e
  | ref a => cases ru; cases rv; exact SeqAt.EqAt.same _
  | byt b => cases h
  | flt b => cases h
  | ty n => cases h
def rNeSame (K : PySem.W.Frag) : R2 := fun x y H Q => ∃ p q xs, x = .ref p ∧ y = .ref q ∧ SqT K H p xs ∧ SqT K H q xs ∧ xs.all plainV = true ∧ Q (.bl false) H
theorem op_neSame (hu : X.A.units < cLine) : OpR X (compareOp .NotEq) (rNeSame X.K) := by
  intro pins s σ H x y v u Q I rx ry h
  obtain ⟨p, q, xs, rfl, rfl, hp, hq, hpl, hQ⟩ := h
  cases rx; cases ry
  obtain ⟨its, r, t1, _⟩ := I.tuple hp
  obtain ⟨its2, r2, t2, _⟩ := I.tuple hq
  have l1 := r.length
  have l2 := r2.length
  refine SeqAt.RcNeAt.tuples (e := fun _ => true) t1 t2 hu (fun j h1 h2 => ?_) X.prog X.w X.xe _ ?_
  · have h1' : j < its.length := by simpa using h1
    have hj : j < xs.length := by omega
    obtain ⟨u1, e1, q1⟩ := r.get (List.getElem?_eq_getElem hj)
    obtain ⟨u2, e2, q2⟩ := r2.get (List.getElem?_eq_getElem hj)
    have e1' : its.toArray[j] = u1 := by
      have := List.getElem?_eq_some_iff.mp e1
      obtain ⟨_, z⟩ := this
      simpa using z
    have e2' : its2.toArray[j] = u2 := by
      have := List.getElem?_eq_some_iff.mp e2
      obtain ⟨_, z⟩ := this
      simpa using z
    rw [e1', e2']
    exact eqAt_same q1 q2 (List.all_eq_true.mp hpl _ (List.getElem_mem hj))
  · refine ⟨.bl false, H, I, ?_, hQ⟩
    have z : its.toArray.size = its2.toArray.size := by rw [List.size_toArray, List.size_toArray]; omega
    show Value.bool _ = Value.bool false
    rw [z]
    simp

/-! ### sum of ints -/
theorem call_sumL (hc : X.calm = true) : CallR X (.builtin "sum") (fun xs H Q => ∃ (p : Addr) (ns : List Int), xs = [.ref p] ∧ SqL X.K H p (ns.map V.int) ∧ Q (.int ns.sum) H) := by
  intro pins s σ H xs us Q I r h
  obtain ⟨p, ns, rfl, hp, hQ⟩ := h
  obtain ⟨u, rfl, ru⟩ := r.one
  cases ru
  obtain ⟨its, rv, pl, _⟩ := I.list hp
  have hi := intsAre_of rv
  obtain ⟨xs', e⟩ := hi.allInts.items
  have hl := pl.isList
  rw [e] at hl
  refine PySem.sum_intListG (I.ok.hd hc) hl fun h' tk t' hk => ?_
  refine ⟨.int ns.sum, H, I.kept hk, ⟨t', ?_⟩, hQ⟩
  have e2 : numsOf its.toArray.toList = ns := hi.numsOf
  rw [e, PySem.nums_intItems] at e2
  rw [PySem.preSum_eq, List.take_of_length_le (by simp), e2]

def rLenQ (K : PySem.W.Frag) : List V → Hp → VK → Prop := fun xs H Q => ∃ p ys, xs = [.ref p] ∧ (SqL K H p ys ∨ SqT K H p ys) ∧ Q (.int ys.length) H
/-! ### isinstance(x, T) -/
theorem call_isI : CallR X (.builtin "isinstance") (fun xs H Q => ∃ x T t b, xs = [x, .ty T] ∧ TyOf X.K H x t ∧ PySem.W.kitOne X.K t (.type T) = some b ∧ Q (.bl b) H) := by
  intro pins s σ H xs us Q I r h
  obtain ⟨x, T, t, b, rfl, ty, hk, hQ⟩ := h
  obtain ⟨u, v, rfl, ru, rv⟩ := Vals.two r
  cases rv
  exact isinst_ok I ru ty hk fun tk => ⟨.bl b, H, I.tok tk, rfl, hQ⟩
theorem kit_other {K : PySem.W.Frag} {T U : String} {b : Bool} (h : PySem.W.kitCls K (.type T) (.type U) = some b) (hne : (Value.type T == Value.type U) = false) : PySem.W.kitOne K (.type T) (.type U) = some b := by
  unfold PySem.W.kitOne
  rw [hne]
  exact h
end
end L2
namespace L2
open PySem PySem.Spec PyProof.Rows
section
variable {X : Cx} {scope : Scope} {N' : List Str} {nt : Nat} {cap : List Nat} {elt iter tg : Expr} {pos : Pos} {wi : TI} {g : TG} {te : TE}
theorem pe_compIf {ct : Expr} {tc : TT} (hc : X.calm = true) (c : CompOk X scope N' nt cap) (hi : PI X tg iter wi) (hg : ∀ C ex s H, PG (cxComp X scope N' C ex s H) tg g) (ht : ∀ C ex s H, PT (cxComp X scope N' C ex s H) ct tc) (he : ∀ C ex s H, PE (cxComp X scope N' C ex s H) elt te)
    (hs : ∀ x, foldedSetIterable iter X.env x = pure x := by intro _; rfl) : PE X (.ListComp elt [⟨tg, iter, [ct], 0⟩] scope pos) (tCompIf wi g tc te nt cap) := by
  intro pins s σ H Q I h
  rw [eval_ListComp]
  refine wpAny_comprehension_free (use := none) rfl hs (clos_ok (c.has I.ok)) c.kind c.locs (thn (hi pins s σ H _ I h) fun v s1 h1 => thn h1 fun itv s2 h2 => ?_)
  obtain ⟨it, fp, tn, J, H2, rfl, I2, T, st2, f2, R⟩ := h2
  have hD : H2 s2.heap.objs.size = none := I2.hok.fresh (Nat.le_refl _)
  obtain ⟨W, ⟨m0, w0⟩, turn⟩ := R _ hD
  have I3 : Inv X pins σ (upd H2 s2.heap.objs.size (.lst [])) { s2 with heap := s2.heap.push { cls := .type "list", dict := none, data := .seq ([] : List Value).toArray } } :=
    I2.laid (t' := s2.toks) (fun b u e => Heap.get?_push_of_some _ e) (Nat.le_refl _) ⟨Nat.zero_le _, [], 0, .nil, Heap.get?_push_size _ rfl⟩
  have fpLt : ∀ b ∈ fp, b < s2.heap.objs.size := fun b hb => by
    obtain ⟨o, e, _⟩ := T.obj _ _ st2 b hb
    exact Heap.lt_size e
  have f3 : ∀ b ∈ fp, FpOk X pins (upd H2 s2.heap.objs.size (.lst [])) b := fun b hb => ⟨by rw [upd_ne (Nat.ne_of_lt (fpLt b hb))]; exact (f2 b hb).1, (f2 b hb).2⟩
  have st3 : tn 0 (s2.heap.push { cls := .type "list", dict := none, data := .seq ([] : List Value).toArray }) := T.keep _ _ _ st2 fun b _ o e => Heap.get?_push_of_some _ e
  generalize hh3 : s2.heap.push { cls := .type "list", dict := none, data := .seq ([] : List Value).toArray } = h3 at I3 st3
  have sz3 : s2.heap.objs.size < h3.objs.size := by rw [← hh3, Heap.size_push]; exact Nat.lt_succ_self _
  generalize hDD : s2.heap.objs.size = D at I3 f3 hD w0 turn sz3 fpLt
  refine wpAny_newObj_type ?_
  rw [hDD, hh3]
  refine wpAny_newFunctionEnv c.nocell (by intro y hy; simp at hy) (fun h4 hns4 hsb4 => ?_) c.kind
  dsimp only at hns4 hsb4 ⊢
  have keep4 : ∀ b o, h3.get? b = some o → h4.get? b = some o := fun b o e => (hsb4.2 b (Nat.ne_of_lt (Heap.lt_size e))).trans (Heap.get?_push_of_some _ e)
  have I4 := I3.comp (t' := s2.toks + ([] : List (Str × Value)).length) c f3 (fun b hb => Nat.lt_trans (fpLt b hb) sz3) keep4 hns4
  have st4 : tn 0 h4 := T.keep _ _ _ st3 fun b _ o e => keep4 b o e
  dsimp only at I4
  -- what is asked of the end
  have fin : ∀ {σ' : St} {H' : Hp} {s' : Shared}, Inv (cxComp X scope N' h3.objs.size fp { s2 with heap := h3 } (upd H2 D (.lst []))) [] σ' H' s' → Q (.ref D) H' →
      compPost (model X.prog X.w) X.A X.xe none (EP X pins σ Q) (.ref D) h3.objs.size (.ok .next) s' := fun {σ' H' s'} J' q => by
    obtain ⟨m, hn, hh⟩ := I3.uncomp rfl f3 J'
    exact ⟨m, hn, fun h' hs' => ⟨.ref D, H', hh h' hs', rfl, q⟩⟩
  have stat : ∀ {H' : Hp}, (∀ b ∈ fp, H' b = none) → ∀ b ∈ fp, FpOk (cxComp X scope N' h3.objs.size fp { s2 with heap := h3 } (upd H2 D (.lst []))) [] H' b := fun {H'} hn b hb => by
    refine ⟨hn b hb, Nat.ne_of_lt (Nat.lt_trans (fpLt b hb) sz3), fun z => ?_, .inl hb, fun x a e => (f3 b hb).2.2.2.2.1 x a (c.cells I.ok e), fun p hp => absurd (show p ∈ ([] : List (Addr × Obj)) from hp) (by simp)⟩
    rcases List.mem_cons.mp (I.stkSub b z) with y | y
    · exact (f3 b hb).2.1 y
    · exact (f3 b hb).2.2.1 y
  have loop : codeAny (model X.prog X.w) X.A (.compLoop (.ListComp elt [⟨tg, iter, [ct], 0⟩] scope pos) 0 (.ref it) (.ref D) (compEnvC scope (closL X.env.cells scope.names []) h3.objs.size X.env))
      (compPost (model X.prog X.w) X.A X.xe none (EP X pins σ Q) (.ref D) h3.objs.size) { s2 with heap := h4, toks := s2.toks + ([] : List (Str × Value)).length } := by
    refine codeAny_loop rfl (fun n s' => ∃ i ys σ' H', Inv (cxComp X scope N' h3.objs.size fp { s2 with heap := h3 } (upd H2 D (.lst []))) [] σ' H' s' ∧ tn i s'.heap ∧ (∀ b ∈ fp, H' b = none) ∧ W i n ys σ' H') (fun n s5 hI => ?_) m0 ⟨0, [], _, _, I4, st4, fun b hb => (f3 b hb).1, w0⟩
    obtain ⟨i, ys, σ5, H5, I5, st5, fr5, w5⟩ := hI
    show wpAny _ X.A ((compTurn (.ListComp elt [⟨tg, iter, [ct], 0⟩] scope pos) 0 (.ref it) (.ref D) (compEnvC scope (closL X.env.cells scope.names []) h3.objs.size X.env)).onRaise (fun x => do noteFrame x (compEnvC scope (closL X.env.cells scope.names []) h3.objs.size X.env); theTreesLotGoes x)) _ _ s5
    refine wpAny_noted ?_
    rw [compTurn_ifs]
    rcases turn i n ys σ5 H5 w5 with ⟨stop, qn⟩ | ⟨go, step⟩
    · refine wpAny_bind (wpAny_standAt (wpAny_bind (wpAny_mono (T.done (cxComp X scope N' h3.objs.size fp { s2 with heap := h3 } (upd H2 D (.lst []))) rfl rfl rfl hc i [] s5 σ5 H5 (fun _ _ => False) I5 (stat fr5) st5 stop) (fun r s6 ⟨hr, I6⟩ => ?_) fun _ _ z => z.elim)))
      subst hr
      exact wpAny_pure (fin I6 qn)
    · refine wpAny_bind (wpAny_standAt (wpAny_bind (wpAny_mono (T.item (cxComp X scope N' h3.objs.size fp { s2 with heap := h3 } (upd H2 D (.lst []))) rfl rfl rfl hc i [] s5 σ5 H5 (fun _ _ => False) I5 (stat fr5) st5 go) (fun r s6 ⟨u, hr, h6⟩ => ?_) fun _ _ z => z.elim)))
      subst hr
      refine wpAny_bind (wpAny_mono h6 (fun _ s7 ⟨x, H7, I7, r7, y7, st7, fr7⟩ => ?_) fun _ _ z => z.elim)
      have I7' := I7.pinned (stat fr7) (T.obj _ _ st7)
      refine wpAny_bind (wpAny_mono (hg _ _ _ _ _ s7 σ5 H7 x u _ I7' r7 (step x H7 y7)) (fun _ s8 ⟨σ8, H8, I8, q8⟩ => ?_) fun _ _ z => z.elim)
      refine wpAny_bind (wpAny_mono (ht _ _ _ _ _ s8 σ8 H8 _ I8 q8) (fun bb s9 ⟨H9, I9, q9⟩ => ?_) fun _ _ z => z.elim)
      cases bb with
      | true =>
        rw [if_pos rfl]
        rw [if_pos rfl] at q9
        refine wpAny_bind (wpAny_bind (wpAny_mono (he _ _ _ _ _ s9 σ8 H9 _ I9 q9) (fun yv sA ⟨y, HA, IA, rA, eA, zA, m', hm', wA⟩ => ?_) fun _ _ z => z.elim))
        refine wpAny_bind (wpAny_mono (mt_append (X := cxComp X scope N' h3.objs.size fp { s2 with heap := h3 } (upd H2 D (.lst []))) _ sA σ8 HA (.ref D) [y] (.ref D) [yv] (fun v H10 => v = .non ∧ H10 = upd HA D (.lst (ys ++ [y]))) IA rfl (.cons rA .nil) ⟨D, ys, y, rfl, rfl, eA, zA, rfl, rfl⟩)
          (fun _ s10 ⟨v10, H10, I10, _, _, e10⟩ => ?_) fun _ _ z => z.elim)
        subst e10
        refine wpAny_pure (wpAny_pure ⟨rfl, m', hm', i + 1, ys ++ [y], σ8, _, I10.unpinned, ?_, fun b hb => ?_, wA⟩)
        · exact T.keep _ _ _ st7 fun b hb o e => (I10.pin (b, o) (List.mem_append_right _ (List.mem_append_right _ (mem_pinsAt hb e)))).1
        · obtain ⟨o, e, d⟩ := T.obj _ _ st7 b hb
          exact (I10.pin (b, o) (List.mem_append_right _ (List.mem_append_right _ (mem_pinsAt hb e)))).2.1
      | false =>
        rw [if_neg Bool.false_ne_true]
        rw [if_neg Bool.false_ne_true] at q9
        obtain ⟨m', hm', w9⟩ := q9
        refine wpAny_pure ⟨rfl, m', hm', i + 1, ys, σ8, _, I9.unpinned, ?_, fun b hb => ?_, w9⟩
        · exact T.keep _ _ _ st7 fun b hb o e => (I9.pin (b, o) (List.mem_append_right _ (List.mem_append_right _ (mem_pinsAt hb e)))).1
        · obtain ⟨o, e, d⟩ := T.obj _ _ st7 b hb
          exact (I9.pin (b, o) (List.mem_append_right _ (List.mem_append_right _ (mem_pinsAt hb e)))).2.1
  exact codeAny_compStart_list loop (T.self _ 0 _ _ _ st4 loop)
end
end L2
namespace L2
open PySem PySem.Spec PyProof.Rows
/-! ### an argument list, its next one seen by its head alone -/
def unstar : Expr → Bool
  | .Starred .. => false
  | _ => true
theorem starEach_one {e : Expr} {es : List Expr} {env : Env} (h : unstar e = true) : starEach (e :: es) env = (false, eval e env) :: starEach es env := by
  cases e <;> first | rfl | cases h
theorem pc {X : Cx} {e : Expr} {es : List Expr} {te : TE} {t : TA} (ha : PE X e te) (hr : PA X es t) (hs : unstar e = true := by rfl) : PA X (e :: es) (tCons te t) := pa_cons ha hr (starEach_one hs)
end L2
namespace L2
open PySem PySem.Spec PyProof.Rows

/-! ### lists of pairs as tables -/
section
variable {κ : Type} [DecidableEq κ]
def valV (kvs : List (κ × V)) (k : κ) : Option V := (kvs.find? fun kv => decide (kv.1 = k)).map (·.2)
/-- in its place, or at the end -/
def putK (kvs : List (κ × V)) (k : κ) (v : V) : List (κ × V) :=
  if (kvs.any fun kv => decide (kv.1 = k)) = true then kvs.map (fun kv => if kv.1 = k then (kv.1, v) else kv) else kvs ++ [(k, v)]
def dropK (kvs : List (κ × V)) (k : κ) : List (κ × V) := kvs.filter fun kv => decide (kv.1 ≠ k)

theorem valV_nil {k : κ} : valV ([] : List (κ × V)) k = none := rfl
theorem valV_pos {p : κ × V} {r : List (κ × V)} {k : κ} (e : p.1 = k) : valV (p :: r) k = some p.2 := by simp [valV, List.find?_cons, e]
theorem valV_neg {p : κ × V} {r : List (κ × V)} {k : κ} (e : ¬ p.1 = k) : valV (p :: r) k = valV r k := by simp [valV, List.find?_cons, e]
theorem valV_any (k : κ) : ∀ kvs : List (κ × V), (kvs.any fun kv => decide (kv.1 = k)) = (valV kvs k).isSome
  | [] => rfl
  | p :: r => by
    rw [List.any_cons]
    by_cases e : p.1 = k
    · simp only [valV_pos e, decide_eq_true e, Bool.true_or, Option.isSome_some]
    · rw [valV_neg e, decide_eq_false e, Bool.false_or]; exact valV_any k r
theorem valV_map (k j : κ) (y : V) : ∀ kvs : List (κ × V), valV (kvs.map fun kv => if kv.1 = k then (kv.1, y) else kv) j = (valV kvs j).map fun x => if j = k then y else x
  | [] => rfl
  | p :: r => by
    have ih := valV_map k j y r
    rw [List.map_cons]
    by_cases h : p.1 = k
    · rw [if_pos h]
      by_cases e : p.1 = j
      · rw [valV_pos (p := (p.1, y)) e, valV_pos e, Option.map_some, if_pos (e.symm.trans h)]
      · rw [valV_neg (p := (p.1, y)) e, valV_neg e, ih]
    · rw [if_neg h]
      by_cases e : p.1 = j
      · rw [valV_pos (p := p) e, valV_pos e, Option.map_some, if_neg (fun z => h (e.trans z))]
      · rw [valV_neg (p := p) e, valV_neg e, ih]
theorem valV_snoc (k j : κ) (y : V) : ∀ kvs : List (κ × V), valV kvs k = none → valV (kvs ++ [(k, y)]) j = if j = k then some y else valV kvs j
  | [], _ => by
    by_cases e : k = j
    · rw [if_pos e.symm]; exact valV_pos (p := (k, y)) e
    · rw [if_neg (fun z => e z.symm)]; exact valV_neg (p := (k, y)) e
  | p :: r, hn => by
    rw [List.cons_append]
    have hk : ¬ p.1 = k := fun z => by rw [valV_pos z] at hn; cases hn
    rw [valV_neg hk] at hn
    have ih := valV_snoc k j y r hn
    by_cases e : p.1 = j
    · rw [valV_pos e, valV_pos e, if_neg (fun z => hk (e.trans z))]
    · rw [valV_neg e, valV_neg e, ih]
theorem valV_put (kvs : List (κ × V)) (k j : κ) (y : V) : valV (putK kvs k y) j = if j = k then some y else valV kvs j := by
  unfold putK
  by_cases a : (kvs.any fun kv => decide (kv.1 = k)) = true
  · rw [if_pos a, valV_map]
    rw [valV_any] at a
    by_cases e : j = k
    · obtain ⟨x, hx⟩ := Option.isSome_iff_exists.mp a
      rw [if_pos e, e, hx, Option.map_some, if_pos rfl]
    · rw [if_neg e]
      cases valV kvs j with
      | none => rfl
      | some x => rw [Option.map_some, if_neg e]
  · rw [if_neg a]
    refine valV_snoc k j y kvs ?_
    rw [valV_any] at a
    cases q : valV kvs k with
    | none => rfl
    | some x => rw [q] at a; exact (a rfl).elim
theorem length_putK (kvs : List (κ × V)) (k : κ) (v : V) : (putK kvs k v).length ≤ kvs.length + 1 := by
  unfold putK
  split
  · rw [List.length_map]; omega
  · rw [List.length_append, List.length_cons, List.length_nil]; omega
theorem putK_new {kvs : List (κ × V)} {k : κ} (v : V) (h : valV kvs k = none) : putK kvs k v = kvs ++ [(k, v)] := by
  unfold putK
  rw [valV_any, h]
  exact if_neg (by decide)

theorem RelO.isSome_eq {o : Option V} {u : Option Value} (r : RelO o u) : o.isSome = u.isSome := by
  cases o with
  | none => cases u with
    | none => rfl
    | some _ => exact (show False from r).elim
  | some _ => cases u with
    | none => exact (show False from r).elim
    | some _ => rfl
theorem RelO.getD {o : Option V} {u : Option Value} {d : V} {d' : Value} (r : RelO o u) (rd : RelV d d') : RelV (o.getD d) (u.getD d') := by
  cases o with
  | none => cases u with
    | none => exact rd
    | some _ => exact (show False from r).elim
  | some _ => cases u with
    | none => exact (show False from r).elim
    | some _ => exact r

/-- raw tables of the same keys -/
theorem KV.val {kvs : List (κ × V)} {vs : List (κ × Value)} (r : KV kvs vs) (k : κ) : RelO (valV kvs k) (valueAt vs k) := by
  unfold KV at r
  induction r with
  | nil => exact True.intro
  | @cons p q ps qs h t ih =>
    obtain ⟨h1, h2⟩ := h
    by_cases e : p.1 = k
    · have e' : q.1 = k := h1.symm.trans e
      have b : valueAt (q :: qs) k = some q.2 := by simp [valueAt, List.find?_cons, e']
      rw [valV_pos e, b]; exact h2
    · have e' : ¬ q.1 = k := fun z => e (h1.trans z)
      have b : valueAt (q :: qs) k = valueAt qs k := by simp [valueAt, List.find?_cons, e']
      rw [valV_neg e, b]; exact ih
theorem KV.any {kvs : List (κ × V)} {vs : List (κ × Value)} (r : KV kvs vs) (k : κ) : (kvs.any fun kv => decide (kv.1 = k)) = vs.any fun kv => decide (kv.1 = k) := by
  unfold KV at r
  induction r with
  | nil => rfl
  | cons h t ih => rw [List.any_cons, List.any_cons, ih, h.1]
theorem KV.repl {kvs : List (κ × V)} {vs : List (κ × Value)} (r : KV kvs vs) (k : κ) {y : V} {u : Value} (ry : RelV y u) :
    KV (kvs.map fun kv => if kv.1 = k then (kv.1, y) else kv) (vs.map fun kv => if kv.1 = k then (kv.1, u) else kv) := by
  unfold KV at r ⊢
  induction r with
  | nil => exact .nil
  | @cons p q ps qs h t ih =>
    rw [List.map_cons, List.map_cons]
    refine .cons ?_ ih
    obtain ⟨h1, h2⟩ := h
    by_cases e : p.1 = k
    · rw [if_pos e, if_pos (h1.symm.trans e)]; exact ⟨h1, ry⟩
    · rw [if_neg e, if_neg (fun z => e (h1.trans z))]; exact ⟨h1, h2⟩
theorem KV.put {kvs : List (κ × V)} {vs : List (κ × Value)} (r : KV kvs vs) (k : κ) {y : V} {u : Value} (ry : RelV y u) : KV (putK kvs k y) (stored vs k u) := by
  unfold putK stored
  rw [r.any k]
  by_cases e : (vs.any fun kv => decide (kv.1 = k)) = true
  · rw [if_pos e, if_pos e]; exact r.repl k ry
  · rw [if_neg e, if_neg e]; exact Paired.snoc r ⟨rfl, ry⟩
theorem KV.drop {kvs : List (κ × V)} {vs : List (κ × Value)} (r : KV kvs vs) (k : κ) : KV (dropK kvs k) (without vs k) := by
  unfold KV at r ⊢
  unfold dropK without
  induction r with
  | nil => exact .nil
  | @cons p q ps qs h t ih =>
    obtain ⟨h1, h2⟩ := h
    rw [List.filter_cons, List.filter_cons]
    by_cases e : p.1 = k
    · have a : ¬ decide (p.1 ≠ k) = true := by simp [e]
      have b : ¬ decide (q.1 ≠ k) = true := by simp [h1.symm.trans e]
      rw [if_neg a, if_neg b]; exact ih
    · have e' : ¬ q.1 = k := fun z => e (h1.trans z)
      have a : decide (p.1 ≠ k) = true := by simp [e]
      have b : decide (q.1 ≠ k) = true := by simp [e']
      rw [if_pos a, if_pos b]; exact .cons ⟨h1, h2⟩ ih
theorem KV.keys {kvs : List (κ × V)} {vs : List (κ × Value)} (r : KV kvs vs) : kvs.map (·.1) = vs.map (·.1) := by
  unfold KV at r
  induction r with
  | nil => rfl
  | cons h t ih => rw [List.map_cons, List.map_cons, ih, h.1]
theorem KV.length {kvs : List (κ × V)} {vs : List (κ × Value)} (r : KV kvs vs) : kvs.length = vs.length := Paired.length r
theorem dropK_le (kvs : List (κ × V)) (k : κ) : (dropK kvs k).length ≤ kvs.length := List.length_filter_le _ _
end


/-! ### a tracked dict, its keys ints and texts or tuples of these -/
theorem kV_is {P : Program} {w : World} {k : Key} {u : Value} (r : RelV (kV k) u) : (mixKind P w).is k u = true := by
  cases k with
  | inl i => obtain ⟨t, e⟩ := (show ∃ t, u = Value.int i t from r); subst e; exact mixKind_int P w i t
  | inr x => obtain ⟨t, e⟩ := (show ∃ t, u = Value.str x t from r); subst e; exact mixKind_str P w x t
theorem kV_inj {a b : Key} (e : kV a = kV b) : a = b := by
  cases a with
  | inl i => cases b with
    | inl j => have e' : V.int i = V.int j := e; injection e' with e'; rw [e']
    | inr y => exact nomatch (show V.int i = V.str y from e)
  | inr x => cases b with
    | inl j => exact nomatch (show V.str x = V.int j from e)
    | inr y => have e' : V.str x = V.str y := e; injection e' with e'; rw [e']
theorem kVs_inj : ∀ {a b : List Key}, a.map kV = b.map kV → a = b
  | [], [], _ => rfl
  | [], _ :: _, e => by simp at e
  | _ :: _, [], e => by simp at e
  | x :: xs, y :: ys, e => by
    rw [List.map_cons, List.map_cons] at e
    injection e with e1 e2
    rw [kV_inj e1, kVs_inj e2]
theorem items_are {P : Program} {w : World} : ∀ {ks : List Key} {us : List Value}, Vals (ks.map kV) us → ItemsAre (mixKind P w) ks us
  | [], _, r => by rw [List.map_nil] at r; cases r; exact .nil
  | k :: ks, _, r => by
    rw [List.map_cons] at r
    cases r with
    | cons h t => exact .cons (kV_is h) (items_are t)

/-- raw entries of a dict with tuple keys -/
abbrev KT (H : Hp) : List (List Key × V) → List (List Key × Addr × Value) → Prop := Paired fun p q => p.1 = q.1 ∧ H q.2.1 = some (.tup (p.1.map kV)) ∧ RelV p.2 q.2.2
theorem KT.val {H : Hp} {kvs : List (List Key × V)} {xs : List (List Key × Addr × Value)} (r : KT H kvs xs) (k : List Key) : RelO (valV kvs k) ((atKey xs k).map (·.2)) := by
  induction r with
  | nil => exact True.intro
  | @cons p q ps qs h t ih =>
    obtain ⟨h1, _, h2⟩ := h
    by_cases e : p.1 = k
    · have e' : q.1 = k := h1.symm.trans e
      have b : atKey (q :: qs) k = some q.2 := by simp [atKey, List.find?_cons, e']
      rw [valV_pos e, b]; exact h2
    · have e' : ¬ q.1 = k := fun z => e (h1.trans z)
      have b : atKey (q :: qs) k = atKey qs k := by simp [atKey, List.find?_cons, e']
      rw [valV_neg e, b]; exact ih
theorem KT.repl {H : Hp} {kvs : List (List Key × V)} {xs : List (List Key × Addr × Value)} (r : KT H kvs xs) (k : List Key) {y : V} {u : Value} (ry : RelV y u) :
    KT H (kvs.map fun kv => if kv.1 = k then (kv.1, y) else kv) (xs.map (putAt k u)) := by
  induction r with
  | nil => exact .nil
  | @cons p q ps qs h t ih =>
    rw [List.map_cons, List.map_cons]
    refine .cons ?_ ih
    obtain ⟨h1, h2, h3⟩ := h
    unfold putAt
    by_cases e : p.1 = k
    · rw [if_pos e, if_pos (h1.symm.trans e)]; exact ⟨h1, h2, ry⟩
    · rw [if_neg e, if_neg (fun z => e (h1.trans z))]; exact ⟨h1, h2, h3⟩
theorem KT.put {H : Hp} {kvs : List (List Key × V)} {xs : List (List Key × Addr × Value)} (r : KT H kvs xs) (k : List Key) {b : Addr} {y : V} {u : Value} (hb : H b = some (.tup (k.map kV))) (ry : RelV y u) :
    KT H (putK kvs k y) (storedH xs k b u) := by
  have e : (kvs.any fun kv => decide (kv.1 = k)) = (atKey xs k).isSome := by
    rw [valV_any, (r.val k).isSome_eq, Option.isSome_map]
  unfold putK storedH
  rw [e]
  by_cases q : (atKey xs k).isSome = true
  · rw [if_pos q, if_pos q]; exact r.repl k ry
  · rw [if_neg q, if_neg q]; exact Paired.snoc r ⟨rfl, hb, ry⟩
theorem KT.keeps {H H' : Hp} {kvs : List (List Key × V)} {xs : List (List Key × Addr × Value)} (r : KT H kvs xs) (ht : ∀ b ys, H b = some (.tup ys) → H' b = some (.tup ys)) : KT H' kvs xs :=
  Paired.mapP r fun _ _ z => ⟨z.1, ht _ _ z.2.1, z.2.2⟩

section
variable {P : Program} {w : World} {H : Hp} {h : Heap} {a : Addr}
theorem rd_of {u : HO} (ok : HOk P w H h) (e : Rd H a u) : ObjOk P w H h a u := e.ok ok
theorem dk_rd {kvs : List (Key × V)} (ok : HOk P w H h) (e : Rd H a (.dK kvs)) : kvs.length ≤ sizeLine ∧ (a == sysModules) = false ∧ ∃ vs, KV kvs vs ∧ h.DictOf (mixKind P w) a vs :=
  show ObjOk P w H h a (.dK kvs) from rd_of ok e
theorem dk_of {kvs : List (Key × V)} (ok : HOk P w H h) (e : H a = some (.dK kvs)) : kvs.length ≤ sizeLine ∧ (a == sysModules) = false ∧ ∃ vs, KV kvs vs ∧ h.DictOf (mixKind P w) a vs := dk_rd ok (.inl e)
/-- a tracked tuple of ints and texts is a key -/
theorem key_of {ks : List Key} (ok : HOk P w H h) (e : H a = some (.tup (ks.map kV))) : (tupleKind (mixKind P w)).is h ks a := by
  obtain ⟨_, its, r, o, h1, h2, n, h3⟩ := (show ObjOk P w H h a (.tup (ks.map kV)) from ok a _ e)
  exact ⟨o, its.toArray, n, h1, h2, h3, by simpa using items_are r⟩
theorem dt_rd {kvs : List (List Key × V)} (ok : HOk P w H h) (e : Rd H a (.dT kvs)) : kvs.length ≤ sizeLine ∧ (a == sysModules) = false ∧
    ∃ xs, KT H kvs xs ∧ h.DictOfH (tupleKind (mixKind P w)) a xs := by
  obtain ⟨z, y, xs, r, o, es, ep, h1, h2, h3, h4, h5⟩ := (show ObjOk P w H h a (.dT kvs) from rd_of ok e)
  refine ⟨z, y, xs, r, o, es, ep, h1, h2, h3, h4, fun x hx => ?_, h5⟩
  have all : ∀ {l : List (List Key × V)} {m : List (List Key × Addr × Value)}, KT H l m → ∀ x ∈ m, (tupleKind (mixKind P w)).is h x.1 x.2.1 := by
    intro l m q
    induction q with
    | nil => intro x hx; exact nomatch hx
    | @cons p q ps qs hq t ih =>
      intro x hx
      rcases List.mem_cons.mp hx with e | hx
      · subst e
        exact key_of ok (by rw [← hq.1]; exact hq.2.1)
      · exact ih x hx
  exact all r x hx
theorem dt_of {kvs : List (List Key × V)} (ok : HOk P w H h) (e : H a = some (.dT kvs)) : kvs.length ≤ sizeLine ∧ (a == sysModules) = false ∧
    ∃ xs, KT H kvs xs ∧ h.DictOfH (tupleKind (mixKind P w)) a xs := dt_rd ok (.inl e)
end

/-- what the dict at a holds at the key y -/
def DGet (H : Hp) (a : Addr) (y : V) (r : Option V) : Prop :=
  (∃ kvs k, Rd H a (.dK kvs) ∧ y = kV k ∧ r = valV kvs k) ∨ ∃ kvs k b, Rd H a (.dT kvs) ∧ y = .ref b ∧ H b = some (.tup (k.map kV)) ∧ r = valV kvs k
/-- the heap behind a[y] = v -/
def DPut (H : Hp) (a : Addr) (y v : V) (H' : Hp) : Prop :=
  (∃ kvs k, H a = some (.dK kvs) ∧ y = kV k ∧ kvs.length < sizeLine ∧ H' = upd H a (.dK (putK kvs k v))) ∨
  ∃ kvs k b, H a = some (.dT kvs) ∧ y = .ref b ∧ H b = some (.tup (k.map kV)) ∧ kvs.length < sizeLine ∧ H' = upd H a (.dT (putK kvs k v))
theorem DGet.k {H : Hp} {a : Addr} {kvs : List (Key × V)} {k : Key} (e : H a = some (.dK kvs)) : DGet H a (kV k) (valV kvs k) := .inl ⟨kvs, k, .inl e, rfl, rfl⟩
theorem DGet.t {H : Hp} {a b : Addr} {kvs : List (List Key × V)} {k : List Key} (e : H a = some (.dT kvs)) (eb : H b = some (.tup (k.map kV))) : DGet H a (.ref b) (valV kvs k) := .inr ⟨kvs, k, b, .inl e, rfl, eb, rfl⟩
theorem DPut.k {H : Hp} {a : Addr} {kvs : List (Key × V)} {k : Key} {v : V} (e : H a = some (.dK kvs)) (hl : kvs.length < sizeLine) : DPut H a (kV k) v (upd H a (.dK (putK kvs k v))) := .inl ⟨kvs, k, e, rfl, hl, rfl⟩
theorem DPut.t {H : Hp} {a b : Addr} {kvs : List (List Key × V)} {k : List Key} {v : V} (e : H a = some (.dT kvs)) (eb : H b = some (.tup (k.map kV))) (hl : kvs.length < sizeLine) :
    DPut H a (.ref b) v (upd H a (.dT (putK kvs k v))) := .inr ⟨kvs, k, b, e, rfl, eb, hl, rfl⟩


section
variable {X : Cx} {pins : List (Addr × Obj)} {σ : St} {H : Hp} {s : Shared} {a : Addr} {y v : V} {u r : Value} {o : Option V} {A : Around} {E : Value → Shared → Prop}

theorem Inv.big (I : Inv X pins σ H s) : sysModules < s.heap.objs.size := by
  have h : mainGlobals < s.heap.objs.size := (I.mod.glob.keeps I.bk).lt
  exact Nat.lt_trans (by decide) h

/-- d[y], there -/
theorem d_getItem {Q : Value → Shared → Prop} (hu : A.units + 1 < cLine) (I : Inv X pins σ H s) (g : DGet H a y (some v)) (ry : RelV y u) (h : ∀ w' s', Inv X pins σ H s' → RelV v w' → Q w' s') :
    wpAny (model X.prog X.w) A (getItem (.ref a) u) Q E s := by
  rcases g with ⟨kvs, k, e, ey, l⟩ | ⟨kvs, k, b, e, ey, eb, l⟩
  · subst ey
    obtain ⟨z, hd, vs, rel, dd⟩ := dk_rd I.hok e
    obtain ⟨w', hw, rw'⟩ := RelO.some_of (v := v) (o := valueAt vs k) (by rw [l]; exact rel.val k)
    exact wpAny_getItem_of (kV_is ry) dd.mapOf hw (h w' _ (I.tok _) rw')
  · subst ey
    cases (show u = Value.ref b from ry)
    obtain ⟨z, hd, xs, rel, dd⟩ := dt_rd I.hok e
    obtain ⟨w', hw, rw'⟩ := RelO.some_of (v := v) (o := (atKey xs k).map (·.2)) (by rw [l]; exact rel.val k)
    obtain ⟨p, hp, hp2⟩ := Option.map_eq_some_iff.mp hw
    refine wpAny_getItem_heap (tupleKind_room_in1 hu) (key_of I.hok eb) dd hp ?_
    rw [hp2]
    exact h w' _ (I.tok _) rw'
/-- y in d -/
theorem d_in {Q : Value → Shared → Prop} (hu : A.units + 1 < cLine) (I : Inv X pins σ H s) (g : DGet H a y o) (ry : RelV y u) (h : ∀ s', Inv X pins σ H s' → Q (.bool o.isSome) s') :
    wpAny (model X.prog X.w) A (compareOp .In u (.ref a)) Q E s := by
  rcases g with ⟨kvs, k, e, ey, l⟩ | ⟨kvs, k, b, e, ey, eb, l⟩
  · subst ey
    obtain ⟨z, hd, vs, rel, dd⟩ := dk_rd I.hok e
    refine wpAny_in_of (kV_is ry) hd dd.mapOf ?_
    rw [← (rel.val k).isSome_eq, ← l]
    exact h _ (I.tok _)
  · subst ey
    cases (show u = Value.ref b from ry)
    obtain ⟨z, hd, xs, rel, dd⟩ := dt_rd I.hok e
    refine wpAny_in_heap (tupleKind_room_in1 hu) (key_of I.hok eb) hd dd ?_
    have q := (rel.val k).isSome_eq
    rw [Option.isSome_map] at q
    rw [← q, ← l]
    exact h _ (I.tok _)
theorem d_notIn {Q : Value → Shared → Prop} (hu : A.units + 1 < cLine) (I : Inv X pins σ H s) (g : DGet H a y o) (ry : RelV y u) (h : ∀ s', Inv X pins σ H s' → Q (.bool (!o.isSome)) s') :
    wpAny (model X.prog X.w) A (compareOp .NotIn u (.ref a)) Q E s := by
  rcases g with ⟨kvs, k, e, ey, l⟩ | ⟨kvs, k, b, e, ey, eb, l⟩
  · subst ey
    obtain ⟨z, hd, vs, rel, dd⟩ := dk_rd I.hok e
    refine wpAny_notIn_of (kV_is ry) hd dd.mapOf ?_
    rw [← (rel.val k).isSome_eq, ← l]
    exact h _ (I.tok _)
  · subst ey
    cases (show u = Value.ref b from ry)
    obtain ⟨z, hd, xs, rel, dd⟩ := dt_rd I.hok e
    refine wpAny_notIn_heap (tupleKind_room_in1 hu) (key_of I.hok eb) hd dd ?_
    have q := (rel.val k).isSome_eq
    rw [Option.isSome_map] at q
    rw [← q, ← l]
    exact h _ (I.tok _)
/-- a dict's object is replaced -/
theorem d_write {h' : Heap} {t' : Nat} {ob : HO} (I : Inv X pins σ H s) (mu : Mut (H a)) (hs : Heap.SameBut a s.heap h') (he : ∃ q, h'.get? a = some q) (new : ObjOk X.prog X.w (upd H a ob) h' a ob) :
    Inv X pins σ (upd H a ob) { s with heap := h', toks := t' } :=
  I.write (x := a) (e := a) mu (.inl rfl) (fun b q hb z => (hs.2 b hb).trans z) he new
theorem dk_new {P : Program} {w : World} {H' : Hp} {h' : Heap} {kvs : List (Key × V)} {vs : List (Key × Value)} (z : kvs.length ≤ sizeLine) (hd : (a == sysModules) = false) (rel : KV kvs vs) (dd : h'.DictOf (mixKind P w) a vs) :
    ObjOk P w H' h' a (.dK kvs) := ⟨z, hd, vs, rel, dd⟩
/-- d[y] = v -/
theorem d_setItem {H' : Hp} {Q : Unit → Shared → Prop} (hu : A.units + 1 < cLine) (I : Inv X pins σ H s) (g : DPut H a y v H') (ry : RelV y u) (rv : RelV v r) (h : ∀ s', Inv X pins σ H' s' → Q () s') :
    wpAny (model X.prog X.w) A (setItem (.ref a) u r) Q E s := by
  rcases g with ⟨kvs, k, e, ey, l, eH⟩ | ⟨kvs, k, b, e, ey, eb, l, eH⟩
  · subst ey eH
    obtain ⟨z, hd, vs, rel, dd⟩ := dk_of I.hok e
    have hz : vs.length ≤ sizeLine := by rw [← rel.length]; exact z
    have hl : (putK kvs k v).length ≤ sizeLine := by have := length_putK kvs k v; omega
    refine wpAny_setItem_pairs (hsz := hz) (kV_is ry) dd fun h' dd' hs => h _ ?_
    have he : ∃ q, h'.get? a = some q := let ⟨q, _, _, hq, _⟩ := dd'; ⟨q, hq⟩
    exact d_write I (by rw [e]; exact True.intro) hs he (dk_new hl hd (rel.put k rv) dd')
  · subst ey eH
    cases (show u = Value.ref b from ry)
    obtain ⟨z, hd, xs, rel, dd⟩ := dt_of I.hok e
    have hz : xs.length ≤ sizeLine := by rw [← Paired.length rel]; exact z
    have hl : (putK kvs k v).length ≤ sizeLine := by have := length_putK kvs k v; omega
    refine wpAny_setItem_heap (hsz := hz) (tupleKind_room_in1 hu) (key_of I.hok eb) dd fun h' dd' hs => h _ ?_
    obtain ⟨q, es, ep, hq, h2, h3, h4, _, h5⟩ := dd'
    refine d_write I (by rw [e]; exact True.intro) hs ⟨q, hq⟩ ⟨hl, hd, _, (rel.put k eb rv).keeps fun c ys ec => ?_, q, es, ep, hq, h2, h3, h4, h5⟩
    rw [upd_ne (ne_of ec e (fun z => nomatch z))]
    exact ec
end

section
variable {X : Cx} {pins : List (Addr × Obj)} {σ : St} {H : Hp} {s : Shared} {a : Addr} {kvs : List (Key × V)} {k : Key} {u : Value} {A : Around} {E : Value → Shared → Prop}
/-- del d[k] -/
theorem d_delItem {Q : Unit → Shared → Prop} (I : Inv X pins σ H s) (e : H a = some (.dK kvs)) (ry : RelV (kV k) u) (l : (valV kvs k).isSome = true) (h : ∀ s', Inv X pins σ (upd H a (.dK (dropK kvs k))) s' → Q () s') :
    wpAny (model X.prog X.w) A (delItem (.ref a) u) Q E s := by
  obtain ⟨z, hd, vs, rel, dd⟩ := dk_of I.hok e
  refine wpAny_delItem_slot dd.typeIs (by decide) PySem.F.slot_dict_delitem
    (call_meetsIn PySem.F.slot_dict_delitem dd.typeIs PySem.F.entry_dict_delitem (PySem.F.args_dict_delitem_2 _ _) (meets_dict_delitem_pairs (mixKind X.prog X.w) a (kV_is ry)) ⟨vs, dd, by rw [← rel.length]; exact z, by rw [← (rel.val k).isSome_eq]; exact l, fun h' dd' hs => h _ ?_⟩)
  have he : ∃ q, h'.get? a = some q := let ⟨q, _, _, hq, _⟩ := dd'; ⟨q, hq⟩
  exact d_write I (by rw [e]; exact True.intro) hs he (dk_new (Nat.le_trans (dropK_le kvs k) z) hd (rel.drop k) dd')
/-- d.pop(k[, x]), there -/
theorem d_pop {v : V} {more : List Value} {Q : Value → Shared → Prop} (I : Inv X pins σ H s) (e : H a = some (.dK kvs)) (ry : RelV (kV k) u) (l : valV kvs k = some v) (hm : more = [] ∨ ∃ x, more = [x])
    (h : ∀ w' s', Inv X pins σ (upd H a (.dK (dropK kvs k))) s' → RelV v w' → Q w' s') : wpAny (model X.prog X.w) A (call (.builtin "dict.pop") (.ref a :: u :: more)) Q E s := by
  obtain ⟨z, hd, vs, rel, dd⟩ := dk_of I.hok e
  obtain ⟨w', hw, rw'⟩ := RelO.some_of (v := v) (o := valueAt vs k) (by rw [← l]; exact rel.val k)
  have hp : (keyPart u).isSome = true := by
    cases k with
    | inl i => obtain ⟨t, q⟩ := (show ∃ t, u = Value.int i t from ry); subst q; rfl
    | inr x => obtain ⟨t, q⟩ := (show ∃ t, u = Value.str x t from ry); subst q; rfl
  have ha : argsOk "dict.pop" ⟨.ref a :: u :: more, []⟩ := by
    rcases hm with q | ⟨x, q⟩
    · subst q; exact PySem.F.args_dict_pop_2 _ _
    · subst q; exact PySem.F.args_dict_pop_3 _ _ _
  refine call_meetsIn PySem.F.slot_dict_pop dd.typeIs PySem.F.entry_dict_pop ha (meets_dict_pop_there (mixKind X.prog X.w) a (kV_is ry) more hm hp)
    ⟨vs, w', dd, by rw [← rel.length]; exact z, hw, fun h' dd' hs => h w' _ ?_ rw'⟩
  have he : ∃ q, h'.get? a = some q := let ⟨q, _, _, hq, _⟩ := dd'; ⟨q, hq⟩
  exact d_write I (by rw [e]; exact True.intro) hs he (dk_new (Nat.le_trans (dropK_le kvs k) z) hd (rel.drop k) dd')
/-- d.pop(k, x), not there -/
theorem d_popD {r : Value} {Q : Value → Shared → Prop} (I : Inv X pins σ H s) (e : H a = some (.dK kvs)) (ry : RelV (kV k) u) (l : valV kvs k = none) (h : ∀ s', Inv X pins σ H s' → Q r s') :
    wpAny (model X.prog X.w) A (call (.builtin "dict.pop") [.ref a, u, r]) Q E s := by
  obtain ⟨z, hd, vs, rel, dd⟩ := dk_of I.hok e
  have hn : valueAt vs k = none := RelO.none_of (by rw [← l]; exact rel.val k)
  have hp : (keyPart u).isSome = true := by
    cases k with
    | inl i => obtain ⟨t, q⟩ := (show ∃ t, u = Value.int i t from ry); subst q; rfl
    | inr x => obtain ⟨t, q⟩ := (show ∃ t, u = Value.str x t from ry); subst q; rfl
  exact call_meetsIn PySem.F.slot_dict_pop dd.typeIs PySem.F.entry_dict_pop (PySem.F.args_dict_pop_3 _ _ _) (meets_dict_pop_default (mixKind X.prog X.w) a (kV_is ry) hd hp r) ⟨vs, dd, hn, h _ (I.tok _)⟩
/-- d.clear() -/
theorem d_clear {Q : Value → Shared → Prop} (I : Inv X pins σ H s) (e : H a = some (.dK kvs)) (h : ∀ s', Inv X pins σ (upd H a (.dK [])) s' → Q .none s') : wpAny (model X.prog X.w) A (call (.builtin "dict.clear") [.ref a]) Q E s := by
  obtain ⟨z, hd, vs, rel, dd⟩ := dk_of I.hok e
  refine call_meetsIn PySem.F.slot_dict_clear dd.typeIs PySem.F.entry_dict_clear (PySem.F.args_dict_clear_1 _) (meets_dict_clear (mixKind X.prog X.w) a) ⟨vs, dd, by rw [← rel.length]; exact z, fun h' dd' hs => h _ ?_⟩
  have he : ∃ q, h'.get? a = some q := let ⟨q, _, _, hq, _⟩ := dd'; ⟨q, hq⟩
  exact d_write (t' := s.toks) I (by rw [e]; exact True.intro) hs he (dk_new (Nat.zero_le _) hd .nil dd')
/-- len(d) -/
theorem d_len {Q : Value → Shared → Prop} (I : Inv X pins σ H s) (e : Rd H a (.dK kvs)) (h : ∀ t s', Inv X pins σ H s' → Q (.int kvs.length t) s') : wpAny (model X.prog X.w) A (call (.builtin "len") [.ref a]) Q E s := by
  obtain ⟨z, hd, vs, rel, dd⟩ := dk_rd I.hok e
  refine call_len_dict hd dd (by rw [← rel.length]; rw [sizeLine_eq] at z; omega) ?_
  rw [← rel.length]
  exact h _ _ (I.tok _)
/-- if d -/
theorem d_truth {Q : Bool → Shared → Prop} (I : Inv X pins σ H s) (e : Rd H a (.dK kvs)) (h : ∀ s', Inv X pins σ H s' → Q (!kvs.isEmpty) s') : wpAny (model X.prog X.w) A (truthy (.ref a)) Q E s := by
  obtain ⟨z, hd, vs, rel, dd⟩ := dk_rd I.hok e
  refine wpAny_truthy_dict hd dd (by rw [← rel.length]; rw [sizeLine_eq] at z; omega) ?_
  have q : kvs.isEmpty = vs.isEmpty := by cases rel <;> rfl
  rw [← q]
  exact h _ (I.tok _)
end


/-! ### readings and rules -/
/-- the element of a subscription, not a slice -/
def NoSl (i : Expr) : Prop := ∀ ov iv, subscripted i false ov iv = operate [ov, iv] (getItem ov iv)
theorem subD_of {prog : Program} {w : World} {A : Around} {E : Value → Shared → Prop} {s : Shared} {env : Env} {value slice : Expr} {pos : Pos} {T id : String} {Q : Value → Shared → Prop}
    (hl : typeLookup (.type T) "__getitem__" = pure (some (.builtin id))) (hs : NoSl slice)
    (h : wpAny (model prog w) A (eval value env) (fun o s₁ => wpAny (model prog w) A (eval slice env) (fun i s₂ => s₂.TypeIs o T ∧ wpAny (model prog w) A (getItem o i) Q E s₂) E s₁) E s) :
    wpAny (model prog w) A (eval (.Subscript value slice pos) env) Q E s := by
  refine Subscript_ (wpAny_mono h (fun o s₁ h₁ => wpAny_mono h₁ (fun i s₂ h₂ => ?_) fun _ _ x => x) fun _ _ x => x)
  obtain ⟨hT, h₂⟩ := h₂
  unfold subscriptTail
  refine wpAny_bind ?_
  rw [getitemInPython_of_ne hT.not_modules]
  refine wpAny_bind (wpAny_specialOf hT hl ?_)
  have fin : wpAny (model prog w) A (subscripted slice false o i) (fun r s₃ => wpAny (model prog w) A (letTemporaryGo value o r >>= fun _ => pure r) Q E s₃) E s₂ := by
    rw [hs o i]
    exact wpAny_operating (wpAny_mono h₂ (fun r s₃ h₃ => wpAny_bind (wpAny_letTemporaryGo (wpAny_pure h₃))) fun _ _ x => x)
  first
    | exact wpAny_pure (wpAny_bind fin)
    | exact wpAny_bind (wpAny_pure (wpAny_bind fin))
    | exact wpAny_bind fin

theorem dict_typeIs {X : Cx} {pins : List (Addr × Obj)} {σ : St} {H : Hp} {s : Shared} {a : Addr} {y : V} {o : Option V} (I : Inv X pins σ H s) (g : DGet H a y o) : s.TypeIs (.ref a) "dict" := by
  rcases g with ⟨kvs, k, e, _, _⟩ | ⟨kvs, k, b, e, _, _, _⟩
  · obtain ⟨_, _, vs, _, dd⟩ := dk_rd I.hok e
    exact dd.typeIs
  · obtain ⟨_, _, xs, _, dd⟩ := dt_rd I.hok e
    exact dd.typeIs
theorem dict_noDict {X : Cx} {pins : List (Addr × Obj)} {σ : St} {H : Hp} {s : Shared} {a : Addr} {y : V} {o : Option V} (I : Inv X pins σ H s) (g : DGet H a y o) :
    ∀ b, Value.ref a = .ref b → ∃ ob, s.heap.get? b = some ob ∧ ob.dict = none := fun b q => by
  cases q
  rcases g with ⟨kvs, k, e, _, _⟩ | ⟨kvs, k, b, e, _, _, _⟩
  · obtain ⟨_, _, vs, _, ob, _, _, h1, h2, _⟩ := dk_rd I.hok e
    exact ⟨ob, h1, h2.2.1⟩
  · obtain ⟨_, _, xs, _, ob, _, _, h1, h2, _⟩ := dt_rd I.hok e
    exact ⟨ob, h1, h2.2.1⟩

/-- d[y] -/
def tDGet (td ty : TE) : TE := fun σ H Q => td σ H fun x H1 => ty σ H1 fun y H2 => ∃ a v, x = .ref a ∧ DGet H2 a y (some v) ∧ Q v H2
/-- y in d, y not in d -/
def tDIn (ty td : TE) : TE := fun σ H Q => ty σ H fun y H1 => td σ H1 fun x H2 => ∃ a o, x = .ref a ∧ DGet H2 a y o ∧ Q (.bl o.isSome) H2
def tDNotIn (ty td : TE) : TE := fun σ H Q => ty σ H fun y H1 => td σ H1 fun x H2 => ∃ a o, x = .ref a ∧ DGet H2 a y o ∧ Q (.bl (!o.isSome)) H2
/-- d[y] = v -/
def sDPut (td ty tv : TE) : TS := fun D σ H => tv σ H fun v H1 => td σ H1 fun x H2 => ty σ H2 fun y H3 => ∃ a H4, x = .ref a ∧ DPut H3 a y v H4 ∧ D.nx σ H4
/-- d[y] op= v -/
def sDAug (td ty tv : TE) (rd : V → V → Hp → VK → Prop) : TS := fun D σ H => td σ H fun x H1 => ty σ H1 fun y H2 => ∃ a v, x = .ref a ∧ DGet H2 a y (some v) ∧
  tv σ H2 fun y2 H3 => rd v y2 H3 fun z H4 => ∃ H5, DPut H4 a y z H5 ∧ D.nx σ H5
/-- del d[y] -/
def sDDel (td ty : TE) : TS := fun D σ H => td σ H fun x H1 => ty σ H1 fun y H2 => ∃ a kvs k, x = .ref a ∧ H2 a = some (.dK kvs) ∧ y = kV k ∧ (valV kvs k).isSome = true ∧ D.nx σ (upd H2 a (.dK (dropK kvs k)))

section
variable {X : Cx} {o i e value : Expr} {pos pos' tpos : Pos} {td ty tv : TE}
theorem pe_dget (hu : X.A.units + 1 < cLine) (ho : PE X o td) (hi : PE X i ty) (hs : NoSl i) : PE X (.Subscript o i pos) (tDGet td ty) := by
  intro pins s σ H Q I h
  refine subD_of PySem.F.slot_dict_getitem.lookup hs (thn (ho pins s σ H _ I h) fun u s1 ⟨x, H1, I1, rx, q1⟩ => thn (hi pins s1 σ H1 _ I1 q1) fun iv s2 ⟨y, H2, I2, ry, a, v, ex, g, q2⟩ => ?_)
  subst ex
  obtain rfl : u = Value.ref a := rx
  exact ⟨dict_typeIs I2 g, d_getItem hu I2 g ry fun w' s3 I3 rw' => ⟨v, H2, I3, rw', q2⟩⟩
theorem pc_din (hu : X.A.units + 1 < cLine) (hi : PE X i ty) (ho : PE X o td) : PC X .In i o (tDIn ty td) := by
  intro pins s σ H Q I h
  refine thn (hi pins s σ H _ I h) fun iv s1 ⟨y, H1, I1, ry, q1⟩ => thn (ho pins s1 σ H1 _ I1 q1) fun u s2 ⟨x, H2, I2, rx, a, ov, ex, g, q2⟩ => ?_
  subst ex
  obtain rfl : u = Value.ref a := rx
  exact d_in hu I2 g ry fun s3 I3 => ⟨.bl ov.isSome, H2, I3, rfl, q2⟩
theorem pc_dnotin (hu : X.A.units + 1 < cLine) (hi : PE X i ty) (ho : PE X o td) : PC X .NotIn i o (tDNotIn ty td) := by
  intro pins s σ H Q I h
  refine thn (hi pins s σ H _ I h) fun iv s1 ⟨y, H1, I1, ry, q1⟩ => thn (ho pins s1 σ H1 _ I1 q1) fun u s2 ⟨x, H2, I2, rx, a, ov, ex, g, q2⟩ => ?_
  subst ex
  obtain rfl : u = Value.ref a := rx
  exact d_notIn hu I2 g ry fun s3 I3 => ⟨.bl (!ov.isSome), H2, I3, rfl, q2⟩
theorem ps_dput (hu : X.A.units + 1 < cLine) (ho : PE X o td) (hi : PE X i ty) (hv : PE X value tv) (hs : swapsWith value (some (.Subscript o i pos')) pos.line X.env = pure false) :
    PS X (.Assign [.Subscript o i pos'] value pos) (sDPut td ty tv) := by
  intro pins s σ H D I h
  refine wpAny_Assign_Subscript (thn (hv pins s σ H _ I h) fun r s1 ⟨v, H1, I1, rv, q1⟩ => thn (ho pins s1 σ H1 _ I1 q1) fun u s2 ⟨x, H2, I2, rx, q2⟩ => thn (hi pins s2 σ H2 _ I2 q2) fun iv s3 ⟨y, H3, I3, ry, a, H4, ex, g, q3⟩ => ?_) hs
  subst ex
  obtain rfl : u = Value.ref a := rx
  exact d_setItem hu I3 g ry rv fun s4 I4 => ⟨σ, H4, I4, q3⟩
theorem ps_daug {op : Operator} {rd : V → V → Hp → VK → Prop} (hu : X.A.units + 1 < cLine) (ho : PE X o td) (hi : PE X i ty) (hv : PE X value tv) (hop : InOp X op rd)
    (ha : ∀ ov iv new, augStore i ov iv new = (do holding [new, ov, iv] (setItem ov iv new); release [new, ov, iv] []; pure .next)) : PS X (.AugAssign (.Subscript o i tpos) op value pos) (sDAug td ty tv rd) := by
  intro pins s σ H D I h
  refine wpAny_AugAssign_SubscriptAny (thn (ho pins s σ H _ I h) fun u s1 ⟨x, H1, I1, rx, q1⟩ => thn (hi pins s1 σ H1 _ I1 q1) fun iv s2 ⟨y, H2, I2, ry, a, v, ex, g, q2⟩ => ?_) ha
  subst ex
  obtain rfl : u = Value.ref a := rx
  refine d_getItem hu I2 g ry fun w' s3 I3 rw' => thn (hv pins s3 σ H2 _ I3 q2) fun w2 s4 ⟨y2, H3, I4, ry2, q3⟩ => thn (hop pins s4 σ H3 v y2 w' w2 _ I4 rw' ry2 q3) fun w3 s5 ⟨z, H4, I5, rz, H5, g5, q4⟩ => ?_
  exact d_setItem hu I5 g5 ry rz fun s6 I6 => ⟨σ, H5, I6, q4⟩
theorem ps_ddel (ho : PE X o td) (hi : PE X i ty) : PS X (.Delete [.Subscript o i tpos] pos) (sDDel td ty) := by
  intro pins s σ H D I h
  refine wpAny_Delete (wpAny_deleteEach_cons (wpAny_delete_Subscript (thn (ho pins s σ H _ I h) fun u s1 ⟨x, H1, I1, rx, q1⟩ => thn (hi pins s1 σ H1 _ I1 q1) fun iv s2 ⟨y, H2, I2, ry, a, kvs, k, ex, e, ey, l, q2⟩ => ?_)))
  subst ex ey
  obtain rfl : u = Value.ref a := rx
  exact d_delItem I2 e ry l fun s3 I3 => wpAny_deleteEach_nil ⟨σ, _, I3, q2⟩
end


/-! ### displays -/
theorem dk_empty {P : Program} {w : World} {H : Hp} (h : Heap) (hb : sysModules < h.objs.size) : ObjOk P w H (h.push { cls := .type "dict", data := .dict #[] }) h.objs.size (.dK []) :=
  ⟨Nat.zero_le _, beq_eq_false_iff_ne.mpr (Ne.symm (Nat.ne_of_lt hb)), [], .nil, Heap.DictOf.new h⟩
theorem dt_empty {P : Program} {w : World} {H : Hp} (h : Heap) (hb : sysModules < h.objs.size) : ObjOk P w H (h.push { cls := .type "dict", data := .dict #[] }) h.objs.size (.dT []) :=
  ⟨Nat.zero_le _, beq_eq_false_iff_ne.mpr (Ne.symm (Nat.ne_of_lt hb)), [], .nil, _, #[], 0, Heap.get?_push_size _ rfl, ⟨rfl, rfl, rfl⟩, rfl, rfl, List.nodup_nil⟩
/-- {}, to be a dict of the kind that is wanted -/
def tDNewK : TE := fun _ H Q => ∀ p, H p = none → Q (.ref p) (upd H p (.dK []))
def tDNewT : TE := fun _ H Q => ∀ p, H p = none → Q (.ref p) (upd H p (.dT []))
section
variable {X : Cx} {pos : Pos}
theorem pe_dnewK : PE X (.Dict [] [] pos) tDNewK := fun pins s σ H Q I h =>
  wpAny_Dict_empty ⟨.ref s.heap.objs.size, _, I.laid (a := s.heap.objs.size) (o := .dK []) (t' := s.toks) (fun _ _ q => Heap.get?_push_of_some _ q) (Nat.le_refl _) (dk_empty s.heap I.big), rfl, h _ (I.hok.fresh (Nat.le_refl _))⟩
theorem pe_dnewT : PE X (.Dict [] [] pos) tDNewT := fun pins s σ H Q I h =>
  wpAny_Dict_empty ⟨.ref s.heap.objs.size, _, I.laid (a := s.heap.objs.size) (o := .dT []) (t' := s.toks) (fun _ _ q => Heap.get?_push_of_some _ q) (Nat.le_refl _) (dt_empty s.heap I.big), rfl, h _ (I.hok.fresh (Nat.le_refl _))⟩
end

/-- the pairs of a display, from the left -/
def tPairs : List (TE × TE) → St → Hp → (List (V × V) → Hp → Prop) → Prop
  | [], _, H, Q => Q [] H
  | (tk, tv) :: r, σ, H, Q => tk σ H fun x H1 => tv σ H1 fun y H2 => tPairs r σ H2 fun ps H3 => Q ((x, y) :: ps) H3
abbrev VV : List (V × V) → List (Value × Value) → Prop := Paired fun p q => RelV p.1 q.1 ∧ RelV p.2 q.2
def PPs (X : Cx) (pos : Pos) (keys : List (Option Expr)) (values : List Expr) (trs : List (TE × TE)) : Prop :=
  ∀ (pins : List (Addr × Obj)) (s : Shared) (σ : St) (H : Hp) (Q : List (V × V) → Hp → Prop), Inv X pins σ H s → tPairs trs σ H Q →
    wpAny (model X.prog X.w) X.A (evalPairs (pairTrees keys values X.env pos)) (fun vs s' => ∃ ps H', Inv X pins σ H' s' ∧ VV ps vs ∧ Q ps H') X.xe s
theorem pps_nil {X : Cx} {pos : Pos} : PPs X pos [] [] [] := fun pins s σ H Q I h => pairTrees_nil_walk ⟨[], H, I, .nil, h⟩
theorem pps_cons {X : Cx} {pos : Pos} {k v : Expr} {ks : List (Option Expr)} {vs : List Expr} {tk tv : TE} {trs : List (TE × TE)} (hk : PE X k tk) (hv : PE X v tv) (hr : PPs X pos ks vs trs) :
    PPs X pos (some k :: ks) (v :: vs) ((tk, tv) :: trs) := fun pins s σ H Q I h =>
  pairTrees_cons_walk (thn (hk pins s σ H _ I h) fun u s1 ⟨x, H1, I1, rx, q1⟩ => thn (hv pins s1 σ H1 _ I1 q1) fun w2 s2 ⟨y, H2, I2, ry, q2⟩ =>
    thn (hr pins s2 σ H2 _ I2 q2) fun ws s3 ⟨ps, H3, I3, rel, q3⟩ => ⟨(x, y) :: ps, H3, I3, .cons ⟨rx, ry⟩ rel, q3⟩)

def mergeK (kvs more : List (Key × V)) : List (Key × V) := more.foldl (fun acc kv => putK acc kv.1 kv.2) kvs
theorem KV.merge : ∀ {more : List (Key × V)} {rs : List (Key × Value)} {kvs : List (Key × V)} {vs : List (Key × Value)}, KV more rs → KV kvs vs → KV (mergeK kvs more) (merged vs rs) := by
  intro more rs kvs vs r
  unfold KV at r
  induction r generalizing kvs vs with
  | nil => intro q; exact q
  | @cons p q ps qs h t ih =>
    intro r0
    have e : KV (putK kvs p.1 p.2) (stored vs q.1 q.2) := by
      have := r0.put p.1 h.2
      rw [← h.1]; exact this
    exact ih e
theorem length_mergeK : ∀ (more kvs : List (Key × V)), (mergeK kvs more).length ≤ kvs.length + more.length
  | [], kvs => by show kvs.length ≤ kvs.length + 0; omega
  | p :: r, kvs => by
    have h1 := length_mergeK r (putK kvs p.1 p.2)
    have h2 := length_putK kvs p.1 p.2
    show (mergeK (putK kvs p.1 p.2) r).length ≤ _
    rw [List.length_cons]; omega
theorem carries_of {P : Program} {w : World} : ∀ {kvs : List (Key × V)} {ws : List (Value × Value)}, VV (kvs.map fun kv => (kV kv.1, kv.2)) ws → ∃ rs, Carries (mixKind P w) ws rs ∧ KV kvs rs
  | [], _, r => by rw [List.map_nil] at r; cases r; exact ⟨[], True.intro, .nil⟩
  | p :: kvs, _, r => by
    rw [List.map_cons] at r
    cases r with
    | @cons a b as bs h t =>
      obtain ⟨rs, c, q⟩ := carries_of (P := P) (w := w) t
      obtain ⟨b1, b2⟩ := b
      exact ⟨(p.1, b2) :: rs, ⟨kV_is h.1, rfl, c⟩, .cons ⟨rfl, h.2⟩ q⟩
/-- {k: v, ..} with keys ints and texts; the new dict stands empty while the pairs are made -/
def tDisp (trs : List (TE × TE)) : TE := fun σ H Q => ∀ p, H p = none → tPairs trs σ (upd H p (.dK [])) fun ps H2 => H2 p = some (.dK []) ∧ ∃ kvs : List (Key × V), ps = kvs.map (fun kv => (kV kv.1, kv.2)) ∧ kvs.length ≤ 15 ∧ Q (.ref p) (upd H2 p (.dK (mergeK [] kvs)))
theorem pe_disp {X : Cx} {pos : Pos} {keys : List (Option Expr)} {values : List Expr} {trs : List (TE × TE)} (h : PPs X pos keys values trs) (hall : keys.all (·.isSome) = true) (hl : keys.length = values.length) (h0 : keys ≠ [])
    (h15 : keys.length ≤ 15) : PE X (.Dict keys values pos) (tDisp trs) := by
  intro pins s σ H Q I q
  have hn := I.hok.fresh (Nat.le_refl s.heap.objs.size)
  have I1 := I.laid (a := s.heap.objs.size) (o := .dK []) (h' := s.heap.push { cls := .type "dict", data := .dict #[] }) (t' := s.toks) (fun _ _ q => Heap.get?_push_of_some _ q) (Nat.le_refl _) (dk_empty s.heap I.big)
  refine wpAny_Dict_walk (knd := mixKind X.prog X.w) hall hl h0 h15 (thn (h pins _ σ _ _ I1 (q _ hn)) fun ws s2 ⟨ps, H2, I2, rel, e, kvs, ep, lk, q2⟩ => ?_)
  subst ep
  obtain ⟨rs, c, rk⟩ := carries_of (P := X.prog) (w := X.w) rel
  obtain ⟨z, hd, vs0, r0, dd⟩ := dk_of I2.hok e
  cases r0
  refine ⟨rs, c, dd, fun h' dd' hs => ⟨.ref s.heap.objs.size, _, ?_, rfl, q2⟩⟩
  have hz : (mergeK [] kvs).length ≤ sizeLine := by
    have h1 := length_mergeK kvs []
    rw [List.length_nil] at h1
    rw [sizeLine_eq]; omega
  have he : ∃ q, h'.get? s.heap.objs.size = some q := let ⟨q, _, _, hq, _⟩ := dd'; ⟨q, hq⟩
  exact d_write I2 (by rw [e]; exact True.intro) hs he (dk_new hz hd (rk.merge .nil) dd')


/-! ### methods -/
/-- a method call o.m(e) of a built-in, with one argument: what must be seen of the text -/
structure M1 (X : Cx) (o : Expr) (m : Str) (apos : Pos) (e : Expr) (cpos : Pos) : Prop where
  base : attributeBase o m X.env (eval o X.env) = eval o X.env
  few : ((backTo cpos (starEach [e] X.env)).all (fun x => !x.1) && (backToKw cpos (keywordEach [] X.env)).all (fun x => x.1.isSome)
    && decide (([e] : List Expr).length + ([] : List Keyword).length + (if ([] : List Keyword).isEmpty then 0 else 1) < 30)) = true
  line : (apos.endLine == cpos.line) = true
  trees : backTo cpos (starEach [e] X.env) = [(false, eval e X.env)]
structure M2 (X : Cx) (o : Expr) (m : Str) (apos : Pos) (e f : Expr) (cpos : Pos) : Prop where
  base : attributeBase o m X.env (eval o X.env) = eval o X.env
  few : ((backTo cpos (starEach [e, f] X.env)).all (fun x => !x.1) && (backToKw cpos (keywordEach [] X.env)).all (fun x => x.1.isSome)
    && decide (([e, f] : List Expr).length + ([] : List Keyword).length + (if ([] : List Keyword).isEmpty then 0 else 1) < 30)) = true
  line : (apos.endLine == cpos.line) = true
  trees : backTo cpos (starEach [e, f] X.env) = [(false, eval e X.env), (false, eval f X.env)]

/-- a is a dict, whatever its keys -/
def IsD (H : Hp) (a : Addr) : Prop := (∃ kvs, Rd H a (.dK kvs)) ∨ ∃ kvs, Rd H a (.dT kvs)
theorem isD_at {X : Cx} {pins : List (Addr × Obj)} {σ : St} {H : Hp} {s : Shared} {a : Addr} (I : Inv X pins σ H s) (d : IsD H a) :
    s.TypeIs (.ref a) "dict" ∧ (∀ b, Value.ref a = .ref b → ∃ ob, s.heap.get? b = some ob ∧ ob.dict = none) ∧ (a == sysModules) = false := by
  rcases d with ⟨kvs, e⟩ | ⟨kvs, e⟩
  · obtain ⟨_, hd, vs, _, dd⟩ := dk_rd I.hok e
    refine ⟨dd.typeIs, fun b q => ?_, hd⟩
    cases q
    obtain ⟨ob, _, _, h1, h2, _⟩ := dd
    exact ⟨ob, h1, h2.2.1⟩
  · obtain ⟨_, hd, xs, _, dd⟩ := dt_rd I.hok e
    refine ⟨dd.typeIs, fun b q => ?_, hd⟩
    cases q
    obtain ⟨ob, _, _, h1, h2, _⟩ := dd
    exact ⟨ob, h1, h2.2.1⟩

section
variable {X : Cx} {pins : List (Addr × Obj)} {σ : St} {H : Hp} {s : Shared} {a : Addr} {y d : V} {u r : Value} {o : Option V} {A : Around} {E : Value → Shared → Prop}
/-- d.get(y) -/
theorem d_get1 {Q : Value → Shared → Prop} (hu : A.units + 1 < cLine) (I : Inv X pins σ H s) (g : DGet H a y o) (ry : RelV y u) (h : ∀ w' s', Inv X pins σ H s' → RelV (o.getD .non) w' → Q w' s') :
    wpAny (model X.prog X.w) A (call (.builtin "dict.get") [.ref a, u]) Q E s := by
  rcases g with ⟨kvs, k, e, ey, l⟩ | ⟨kvs, k, b, e, ey, eb, l⟩
  · subst ey
    obtain ⟨z, hd, vs, rel, dd⟩ := dk_rd I.hok e
    refine call_meetsIn PySem.F.slot_dict_get dd.typeIs PySem.F.entry_dict_get (PySem.F.args_dict_get_2 _ _) (meets_dict_get (mixKind X.prog X.w) a (kV_is ry) hd) ⟨_, dd.mapOf, h _ _ (I.tok _) ?_⟩
    rw [l]
    exact (rel.val k).getD rfl
  · subst ey
    cases (show u = Value.ref b from ry)
    obtain ⟨z, hd, xs, rel, dd⟩ := dt_rd I.hok e
    refine call_meetsIn PySem.F.slot_dict_get dd.typeIs PySem.F.entry_dict_get (PySem.F.args_dict_get_2 _ _) (meetsH_dict_get (tupleKind (mixKind X.prog X.w)) a b hd) ⟨tupleKind_room_in1 hu, k, xs, key_of I.hok eb, dd, h _ _ (I.tok _) ?_⟩
    rw [l]
    exact (rel.val k).getD rfl
/-- d.get(y, x) -/
theorem d_get2 {Q : Value → Shared → Prop} (hu : A.units + 1 < cLine) (I : Inv X pins σ H s) (g : DGet H a y o) (ry : RelV y u) (rd : RelV d r) (h : ∀ w' s', Inv X pins σ H s' → RelV (o.getD d) w' → Q w' s') :
    wpAny (model X.prog X.w) A (call (.builtin "dict.get") [.ref a, u, r]) Q E s := by
  rcases g with ⟨kvs, k, e, ey, l⟩ | ⟨kvs, k, b, e, ey, eb, l⟩
  · subst ey
    obtain ⟨z, hd, vs, rel, dd⟩ := dk_rd I.hok e
    refine call_meetsIn PySem.F.slot_dict_get dd.typeIs PySem.F.entry_dict_get (PySem.F.args_dict_get_3 _ _ _) (meets_dict_get_default (mixKind X.prog X.w) a (kV_is ry) hd r) ⟨_, dd.mapOf, h _ _ (I.tok _) ?_⟩
    rw [l]
    exact (rel.val k).getD rd
  · subst ey
    cases (show u = Value.ref b from ry)
    obtain ⟨z, hd, xs, rel, dd⟩ := dt_rd I.hok e
    refine call_meetsIn PySem.F.slot_dict_get dd.typeIs PySem.F.entry_dict_get (PySem.F.args_dict_get_3 _ _ _) (meetsH_dict_get_default (tupleKind (mixKind X.prog X.w)) a b hd r) ⟨tupleKind_room_in1 hu, k, xs, key_of I.hok eb, dd, h _ _ (I.tok _) ?_⟩
    rw [l]
    exact (rel.val k).getD rd
end

def tDGet1 (td ty : TE) : TE := fun σ H Q => td σ H fun x H1 => ∃ a, x = .ref a ∧ IsD H1 a ∧ ty σ H1 fun y H2 => ∃ o, DGet H2 a y o ∧ Q (o.getD .non) H2
def tDGet2 (td ty tx : TE) : TE := fun σ H Q => td σ H fun x H1 => ∃ a, x = .ref a ∧ IsD H1 a ∧ ty σ H1 fun y H2 => tx σ H2 fun z H3 => ∃ o, DGet H3 a y o ∧ Q (o.getD z) H3
/-- d.pop(k): there; d.pop(k, x): there or not -/
def tDPop1 (td ty : TE) : TE := fun σ H Q => td σ H fun x H1 => ∃ a, x = .ref a ∧ IsD H1 a ∧ ty σ H1 fun y H2 => ∃ kvs k v, H2 a = some (.dK kvs) ∧ y = kV k ∧ valV kvs k = some v ∧ Q v (upd H2 a (.dK (dropK kvs k)))
def tDPop2 (td ty tx : TE) : TE := fun σ H Q => td σ H fun x H1 => ∃ a, x = .ref a ∧ IsD H1 a ∧ ty σ H1 fun y H2 => tx σ H2 fun z H3 => ∃ kvs k, H3 a = some (.dK kvs) ∧ y = kV k ∧
  (∀ v, valV kvs k = some v → Q v (upd H3 a (.dK (dropK kvs k)))) ∧ (valV kvs k = none → Q z H3)
section
variable {X : Cx} {o e f : Expr} {apos cpos : Pos} {td ty tx : TE}
theorem pe_dget1 (hu : X.A.units + 1 < cLine) (ho : PE X o td) (he : PE X e ty) (m : M1 X o "get" apos e cpos) : PE X (.Call (.Attribute o "get" apos) [e] [] cpos) (tDGet1 td ty) := by
  intro pins s σ H Q I h
  refine wpAny_Call_method m.base m.few m.line PySem.F.plainAttrs_dict PySem.F.slot_dict_get PySem.F.type_dict_get (thn (ho pins s σ H _ I h) fun u s1 ⟨x, H1, I1, rx, a, ex, d, q1⟩ => ?_)
  subst ex
  obtain rfl : u = Value.ref a := rx
  obtain ⟨t1, t2, _⟩ := isD_at I1 d
  refine ⟨t1, t2, ?_⟩
  rw [m.trees]
  refine Calls.callWith_builtin rfl (Calls.evalArgs_plain (Calls.spliced_cons (thn (he pins s1 σ H1 _ I1 q1) fun iv s2 ⟨y, H2, I2, ry, ov, g, q2⟩ => Calls.spliced_nil ?_)))
  exact d_get1 hu I2 g ry fun w' s3 I3 rw' => ⟨_, H2, I3, rw', q2⟩
theorem pe_dget2 (hu : X.A.units + 1 < cLine) (ho : PE X o td) (he : PE X e ty) (hf : PE X f tx) (m : M2 X o "get" apos e f cpos) : PE X (.Call (.Attribute o "get" apos) [e, f] [] cpos) (tDGet2 td ty tx) := by
  intro pins s σ H Q I h
  refine wpAny_Call_method m.base m.few m.line PySem.F.plainAttrs_dict PySem.F.slot_dict_get PySem.F.type_dict_get (thn (ho pins s σ H _ I h) fun u s1 ⟨x, H1, I1, rx, a, ex, d, q1⟩ => ?_)
  subst ex
  obtain rfl : u = Value.ref a := rx
  obtain ⟨t1, t2, _⟩ := isD_at I1 d
  refine ⟨t1, t2, ?_⟩
  rw [m.trees]
  refine Calls.callWith_builtin rfl (Calls.evalArgs_plain (Calls.spliced_cons (thn (he pins s1 σ H1 _ I1 q1) fun iv s2 ⟨y, H2, I2, ry, q2⟩ =>
    Calls.spliced_cons (thn (hf pins s2 σ H2 _ I2 q2) fun fv s3 ⟨z, H3, I3, rz, ov, g, q3⟩ => Calls.spliced_nil ?_))))
  exact d_get2 hu I3 g ry rz fun w' s4 I4 rw' => ⟨_, H3, I4, rw', q3⟩
theorem pe_dpop1 (ho : PE X o td) (he : PE X e ty) (m : M1 X o "pop" apos e cpos) : PE X (.Call (.Attribute o "pop" apos) [e] [] cpos) (tDPop1 td ty) := by
  intro pins s σ H Q I h
  refine wpAny_Call_method m.base m.few m.line PySem.F.plainAttrs_dict PySem.F.slot_dict_pop PySem.F.type_dict_pop (thn (ho pins s σ H _ I h) fun u s1 ⟨x, H1, I1, rx, a, ex, d, q1⟩ => ?_)
  subst ex
  obtain rfl : u = Value.ref a := rx
  obtain ⟨t1, t2, _⟩ := isD_at I1 d
  refine ⟨t1, t2, ?_⟩
  rw [m.trees]
  refine Calls.callWith_builtin rfl (Calls.evalArgs_plain (Calls.spliced_cons (thn (he pins s1 σ H1 _ I1 q1) fun iv s2 ⟨y, H2, I2, ry, kvs, k, v, ea, ey, l, q2⟩ => Calls.spliced_nil ?_)))
  subst ey
  exact d_pop I2 ea ry l (.inl rfl) fun w' s3 I3 rw' => ⟨v, _, I3, rw', q2⟩
theorem pe_dpop2 (ho : PE X o td) (he : PE X e ty) (hf : PE X f tx) (m : M2 X o "pop" apos e f cpos) : PE X (.Call (.Attribute o "pop" apos) [e, f] [] cpos) (tDPop2 td ty tx) := by
  intro pins s σ H Q I h
  refine wpAny_Call_method m.base m.few m.line PySem.F.plainAttrs_dict PySem.F.slot_dict_pop PySem.F.type_dict_pop (thn (ho pins s σ H _ I h) fun u s1 ⟨x, H1, I1, rx, a, ex, d, q1⟩ => ?_)
  subst ex
  obtain rfl : u = Value.ref a := rx
  obtain ⟨t1, t2, _⟩ := isD_at I1 d
  refine ⟨t1, t2, ?_⟩
  rw [m.trees]
  refine Calls.callWith_builtin rfl (Calls.evalArgs_plain (Calls.spliced_cons (thn (he pins s1 σ H1 _ I1 q1) fun iv s2 ⟨y, H2, I2, ry, q2⟩ =>
    Calls.spliced_cons (thn (hf pins s2 σ H2 _ I2 q2) fun fv s3 ⟨z, H3, I3, rz, kvs, k, ea, ey, q3, q4⟩ => Calls.spliced_nil ?_))))
  subst ey
  cases l : valV kvs k with
  | some v => exact d_pop I3 ea ry l (.inr ⟨fv, rfl⟩) fun w' s4 I4 rw' => ⟨v, _, I4, rw', q3 v l⟩
  | none => exact d_popD I3 ea ry l fun s4 I4 => ⟨z, H3, I4, rz, q4 l⟩
end

/-! ### dict(d): a copy -/
section
variable {X : Cx} {pins : List (Addr × Obj)} {σ : St} {H : Hp} {s : Shared} {a : Addr} {kvs : List (Key × V)} {A : Around} {E : Value → Shared → Prop}
theorem d_copyOf {Q : Value → Shared → Prop} (I : Inv X pins σ H s) (e : Rd H a (.dK kvs)) (h : ∀ p s', H p = none → Inv X pins σ (upd H p (.dK kvs)) s' → Q (.ref p) s') : wpAny (model X.prog X.w) A (call (.type "dict") [.ref a]) Q E s := by
  obtain ⟨z, hd, vs, rel, dd⟩ := dk_rd I.hok e
  refine kt_call_dict hd dd (by rw [← rel.length]; exact z) fun h' dd' hs => ?_
  refine h _ _ (I.hok.fresh (Nat.le_refl _)) (I.laid (a := s.heap.objs.size) (o := .dK kvs) (t' := s.toks) (fun b q hq => ?_) (Nat.le_refl _) (dk_new z (beq_eq_false_iff_ne.mpr (Ne.symm (Nat.ne_of_lt I.big))) rel dd'))
  exact (hs.2 b (Nat.ne_of_lt (Heap.lt_size hq))).trans (Heap.get?_push_of_some _ hq)
end


section
variable {X : Cx} {pins : List (Addr × Obj)} {σ : St} {H : Hp} {s : Shared} {a : Addr} {y : V} {u : Value} {A : Around} {E : Value → Shared → Prop}
/-- d[y], not there: a KeyError -/
theorem d_missing {Q : Value → Shared → Prop} (hu : A.units + 1 < cLine) (hh : A.handled = none) (I : Inv X pins σ H s) (g : DGet H a y none) (ry : RelV y u)
    (h : ∀ h' e t', Heap.NewExc s.heap h' e "KeyError" → E (.ref e) { s with heap := h', toks := t' }) : wpAny (model X.prog X.w) A (getItem (.ref a) u) Q E s := by
  rcases g with ⟨kvs, k, e, ey, l⟩ | ⟨kvs, k, b, e, ey, eb, l⟩
  · subst ey
    obtain ⟨z, hd, vs, rel, dd⟩ := dk_rd I.hok e
    have hn : valueAt vs k = none := RelO.none_of (by rw [l]; exact rel.val k)
    exact wpAny_getItem_missing_of (kV_is ry) hd hh dd.mapOf hn fun h' ex ne => h h' ex _ ne
  · subst ey
    cases (show u = Value.ref b from ry)
    obtain ⟨z, hd, xs, rel, dd⟩ := dt_rd I.hok e
    have hn : (atKey xs k).map (·.2) = none := RelO.none_of (by rw [l]; exact rel.val k)
    exact wpAny_getItem_missing_heap (tupleKind_room_in1 hu) (key_of I.hok eb) hd hh dd (Option.map_eq_none_iff.mp hn) fun h' ex ne => h h' ex _ ne
end
end L2
namespace L2
open PySem PySem.Spec PyProof.Rows
/-! ### a dict's pairs: keys that differ -/
section
variable {κ : Type} [DecidableEq κ]
theorem valV_not {kvs : List (κ × V)} {k : κ} (h : valV kvs k = none) : ¬ k ∈ kvs.map (·.1) := by
  intro m
  obtain ⟨p, hp, e⟩ := List.mem_map.mp m
  have q : (kvs.any fun kv => decide (kv.1 = k)) = true := List.any_eq_true.mpr ⟨p, hp, decide_eq_true e⟩
  rw [valV_any, h] at q
  exact absurd q (by simp)
theorem valV_in {kvs : List (κ × V)} {k : κ} {v : V} (h : valV kvs k = some v) : k ∈ kvs.map (·.1) := by
  have q : (kvs.any fun kv => decide (kv.1 = k)) = true := by
    rw [valV_any, h]
    all_goals rfl
  obtain ⟨p, hp, e⟩ := List.any_eq_true.mp q
  exact List.mem_map.mpr ⟨p, hp, of_decide_eq_true e⟩
theorem nd_snoc : ∀ {l : List κ} {k : κ}, l.Nodup → ¬ k ∈ l → (l ++ [k]).Nodup
  | [], k, _, _ => by simp
  | a :: r, k, h, hk => by
    obtain ⟨h1, h2⟩ := List.nodup_cons.mp h
    show (a :: (r ++ [k])).Nodup
    refine List.nodup_cons.mpr ⟨fun m => ?_, nd_snoc h2 fun m => hk (List.mem_cons.mpr (Or.inr m))⟩
    rcases List.mem_append.mp m with q | q
    · exact h1 q
    · exact hk (List.mem_cons.mpr (Or.inl (List.mem_singleton.mp q).symm))
theorem nd_putK {kvs : List (κ × V)} {k : κ} (v : V) (hn : (kvs.map (·.1)).Nodup) (h : valV kvs k = none) : ((putK kvs k v).map (·.1)).Nodup := by
  rw [putK_new v h, List.map_append]
  exact nd_snoc hn (valV_not h)
theorem dropK_pos {p : κ × V} {r : List (κ × V)} {k : κ} (e : p.1 = k) : dropK (p :: r) k = dropK r k := by
  unfold dropK
  rw [List.filter_cons, if_neg (by simp [e])]
theorem dropK_neg {p : κ × V} {r : List (κ × V)} {k : κ} (e : ¬ p.1 = k) : dropK (p :: r) k = p :: dropK r k := by
  unfold dropK
  rw [List.filter_cons, if_pos (by simp [e])]
theorem dropK_no : ∀ {kvs : List (κ × V)} {k : κ}, ¬ k ∈ kvs.map (·.1) → dropK kvs k = kvs
  | [], _, _ => rfl
  | p :: r, k, h => by
    have h' : ¬ k ∈ r.map (·.1) := fun m => by
      obtain ⟨q, hq, e⟩ := List.mem_map.mp m
      exact h (List.mem_map.mpr ⟨q, List.mem_cons.mpr (Or.inr hq), e⟩)
    rw [dropK_neg fun e => h (List.mem_map.mpr ⟨p, List.mem_cons.mpr (Or.inl rfl), e⟩), dropK_no h']
theorem dropK_mem {kvs : List (κ × V)} {k : κ} {p : κ × V} (h : p ∈ dropK kvs k) : p ∈ kvs := (List.mem_filter.mp h).1
theorem nd_dropK : ∀ {kvs : List (κ × V)} {k : κ}, (kvs.map (·.1)).Nodup → ((dropK kvs k).map (·.1)).Nodup
  | [], _, _ => List.nodup_nil
  | p :: r, k, h => by
    have h : (p.1 :: r.map (·.1)).Nodup := h
    obtain ⟨h1, h2⟩ := List.nodup_cons.mp h
    by_cases e : p.1 = k
    · rw [dropK_pos e]
      exact nd_dropK h2
    · rw [dropK_neg e]
      show (p.1 :: (dropK r k).map (·.1)).Nodup
      refine List.nodup_cons.mpr ⟨fun m => h1 ?_, nd_dropK h2⟩
      obtain ⟨q, hq, eq⟩ := List.mem_map.mp m
      exact List.mem_map.mpr ⟨q, dropK_mem hq, eq⟩
theorem dropK_len : ∀ {kvs : List (κ × V)} {k : κ}, (kvs.map (·.1)).Nodup → k ∈ kvs.map (·.1) → (dropK kvs k).length + 1 = kvs.length
  | [], _, _, m => by simp at m
  | p :: r, k, h, m => by
    have h : (p.1 :: r.map (·.1)).Nodup := h
    have m : k = p.1 ∨ k ∈ r.map (·.1) := List.mem_cons.mp m
    obtain ⟨h1, h2⟩ := List.nodup_cons.mp h
    by_cases e : p.1 = k
    · subst e
      rw [dropK_pos rfl, dropK_no h1]
      all_goals rfl
    · have m' : k ∈ r.map (·.1) := m.resolve_left fun z => e z.symm
      have q := dropK_len h2 m'
      rw [dropK_neg e, List.length_cons, List.length_cons]
      omega
end
end L2
/-! STILL MORE RULES over the hand layer (own work): cuts that may be the whole, tuples put together, == with (), a dict of the module. -/
namespace L2
open PySem PySem.Spec PyProof.Rows
section
variable {prog : Program} {w : World} {A : Around} {E : Value → Shared → Prop} {s : Shared}
theorem getItem_tuple_same {t sl : Addr} {items : Array Value} {vl vu : Value} {lo hi : Option Int} {Q : Value → Shared → Prop} (ht : IsTup s.heap t items) (hs : s.heap.IsSliceOf sl vl vu .none) (pl : IsPart vl lo) (pu : IsPart vu hi)
    (hw : HT.sIx items.size 0 lo = 0 ∧ HT.sIx items.size items.size hi = items.size) (h : Q (.ref t) s) : wpAny (model prog w) A (getItem (.ref t) (.ref sl)) Q E s := by
  obtain ⟨os, hos, hcs, hds⟩ := id hs
  have hTs : s.TypeIs (.ref sl) "slice" := ⟨os, hos, hcs⟩
  unfold getItem
  try with_reducible refine wpAny_holding ?_
  first | refine wpAny_bind (wpAny_pure ?_) | skip
  refine wpAny_bind (wpAny_sequenceKey ht.typeIs (by decide) ?_)
  refine wpAny_bind (wpAny_callSpecial?_slot (name := Str.ofString "__getitem__") ht.typeIs PyProof.Rows.slot_tuple_getitem (wpAny_call_entry PyProof.Rows.slot_tuple_getitem ht.typeIs entry_tuple_getitem ?_ (args_tuple_getitem _ _)))
  show wpAny _ _ (Builtin.Tuple.tupleItemsOf (.ref t) >>= _) _ _ s
  refine wpAny_bind (tupleItemsOf_ ht ?_)
  refine wpAny_bind (wpAny_typeOf hTs ?_)
  rw [if_pos (by decide)]
  refine wpAny_bind (HT.sliceApplied_gen hs pl pu ?_)
  have hyes : (((HT.sIx items.size 0 lo : Nat) : Int) == 0 && (1 : Int) == 1 && (HT.sIx items.size items.size hi - HT.sIx items.size 0 lo) == items.size) = true := by
    rw [hw.1, hw.2]; simp
  show wpAny _ _ (if (((HT.sIx items.size 0 lo : Nat) : Int) == 0 && (1 : Int) == 1 && (HT.sIx items.size items.size hi - HT.sIx items.size 0 lo) == items.size) = true then _ else _) _ _ s
  rw [if_pos hyes]
  have ex : ∀ {Q' : Bool → Shared → Prop}, Q' true s → wpAny (model prog w) A.in1 (Builtin.Tuple.tupleIsExact (.ref t)) Q' E s := fun {Q'} q => by
    unfold Builtin.Tuple.tupleIsExact
    refine wpAny_bind (wpAny_typeOf ht.typeIs (wpAny_pure ?_))
    have e : (Value.type "tuple" == Value.type "tuple") = true := beq_self_eq_true _
    rw [e]; exact q
  first
    | exact wpAny_bind (ex (wpAny_bind (wpAny_rule (wpAny_pure ⟨_, rfl, wpAny_pure h⟩))))
    | (unfold Builtin.Tuple.tupleIsExact
       refine wpAny_bind (wpAny_bind (wpAny_typeOf ht.typeIs (wpAny_pure ?_)))
       have e : (Value.type "tuple" == Value.type "tuple") = true := beq_self_eq_true _
       rw [e, if_pos rfl]
       first
         | exact wpAny_bind (wpAny_rule (wpAny_pure ⟨_, rfl, wpAny_pure h⟩))
         | exact wpAny_bind (wpAny_rule (wpAny_bind (wpAny_pure (wpAny_pure ⟨_, rfl, wpAny_pure h⟩))))
         | exact wpAny_bind (wpAny_rule (wpAny_bind (wpAny_bind (wpAny_pure (wpAny_pure ⟨_, rfl, wpAny_pure h⟩))))))
end
section
variable {X : Cx}
/-- t[lo:hi]; the whole is t itself -/
def rSlTW (K : PySem.W.Frag) : V → Option Int → Option Int → Hp → VK → Prop := fun x lo hi H Q => ∃ a xs, x = .ref a ∧ SqT K H a xs ∧
  ((HT.sIx xs.length 0 lo = 0 ∧ HT.sIx xs.length xs.length hi = xs.length) → Q (.ref a) H) ∧ (¬ (HT.sIx xs.length 0 lo = 0 ∧ HT.sIx xs.length xs.length hi = xs.length) → ∀ p, H p = none → Q (.ref p) (upd H p (.tup (cutV xs lo hi))))
theorem sl_tupW : SlR X (rSlTW X.K) := by
  intro pins s σ H x v vl vu lo hi sl Q I rx hs pl pu h
  obtain ⟨a, xs, rfl, hx, q1, q2⟩ := h
  by_cases hw : HT.sIx xs.length 0 lo = 0 ∧ HT.sIx xs.length xs.length hi = xs.length
  · cases rx
    obtain ⟨its, r, ht, hz⟩ := I.tuple hx
    have hlen : its.toArray.size = xs.length := by rw [List.size_toArray]; exact r.length.symm
    refine ⟨"tuple", _, PyProof.Rows.slot_tuple_getitem.lookup, ht.typeIs, ?_⟩
    exact getItem_tuple_same ht hs pl pu (by rw [hlen]; exact hw) ⟨.ref a, H, I, rfl, q1 hw⟩
  · exact sl_tup pins s σ H _ v vl vu lo hi sl Q I rx hs pl pu ⟨a, xs, rfl, hx, hw, q2 hw⟩
/-- t + u of any two -/
def rCatW (K : PySem.W.Frag) : R2 := fun x y H Q => ∃ a b xs ys, x = .ref a ∧ y = .ref b ∧ SqT K H a xs ∧ SqT K H b ys ∧ xs.length + ys.length ≤ sizeLine ∧
  (xs = [] → Q (.ref b) H) ∧ (xs ≠ [] → ys = [] → Q (.ref a) H) ∧ (xs ≠ [] → ys ≠ [] → ∀ p, H p = none → Q (.ref p) (upd H p (.tup (xs ++ ys))))
theorem op_catW : OpR X (binaryOp .Add) (rCatW X.K) := by
  intro pins s σ H x y v u Q I rx ry h
  obtain ⟨a, b, xs, ys, rfl, rfl, ha, hb, hz, q0, q1, q2⟩ := h
  by_cases hx : xs = []
  · cases rx; cases ry
    obtain ⟨its, r, ht, _⟩ := I.tuple ha
    obtain ⟨its2, r2, ht2, _⟩ := I.tuple hb
    subst hx
    cases r
    obtain ⟨⟨cls, dd, data, sl⟩, ho, hc, n, hd⟩ := id ht
    obtain ⟨⟨cls2, dd2, data2, sl2⟩, ho2, hc2, n2, hd2⟩ := id ht2
    simp only at hc hd hc2 hd2
    subst hc hd hc2 hd2
    refine concat_meets ⟨_, ho, rfl⟩ ⟨_, ho2, rfl⟩ noFill_tuple_add seq_tuple_add PySem.F.slot_tuple_add PySem.F.entry_tuple_add (PySem.F.args_tuple_add_2 _ _) (tuple_addW0 a b _ its2.toArray n n2 dd dd2 sl sl2 (by simp)) ⟨ho, ho2, ?_⟩
    exact ⟨.ref b, H, I, rfl, q0 rfl⟩
  · exact op_catT pins s σ H _ _ v u Q I rx ry ⟨a, b, xs, ys, rfl, rfl, ha, hb, hx, hz, q1 hx, q2 hx⟩
/-- t == () -/
def rEqNilT (K : PySem.W.Frag) : R2 := fun x y H Q => ∃ p q xs, x = .ref p ∧ y = .ref q ∧ SqT K H p xs ∧ SqT K H q [] ∧ Q (.bl xs.isEmpty) H
theorem op_eqNilT (hu : X.A.units < cLine) : OpR X (compareOp .Eq) (rEqNilT X.K) := by
  intro pins s σ H x y v u Q I rx ry h
  obtain ⟨p, q, xs, rfl, rfl, hp, hq, hQ⟩ := h
  cases rx; cases ry
  obtain ⟨its, r, t1, _⟩ := I.tuple hp
  obtain ⟨its2, r2, t2, _⟩ := I.tuple hq
  cases r2
  refine SeqAt.RcAt.tuples (e := fun _ => true) t1 t2 hu (fun j h1 h2 => absurd h2 (by simp)) X.prog X.w X.xe _ ?_
  refine ⟨.bl xs.isEmpty, H, I, ?_, hQ⟩
  show Value.bool _ = Value.bool _
  cases r <;> simp
/-! ### a dict of the module whose keys are texts -/
structure KTab (K : PySem.W.Frag) (w : World) (ad : Addr) (tab : Str → Option V) : Prop where
  ex : ∃ (es : Array DictEntry) (n : Nat), K.lookup ad = some ⟨.type "dict", none, .dict es n, #[]⟩ ∧ PySem.W.KeysLit w.params es.toList ∧ ∀ x, RelO (tab x) (findBy Value.isStrOf es x)
  low : (ad == sysModules) = false
/-- T.get(e), T a name of the module -/
theorem pe_kget {x : Str} {ad : Addr} {tab : Str → Option V} {e : Expr} {ty : TE} {p apos cpos : Pos} (hg : Gl X x) (hm : X.mg x = some (.ref ad)) (T : KTab X.K X.w ad tab) (he : PE X e ty) (m : M1 X (.Name x p) "get" apos e cpos) (hd : (x == ("__debug__" : Str)) = false := by decide) :
    PE X (.Call (.Attribute (.Name x p) "get" apos) [e] [] cpos) (fun σ H Q => ty σ H fun y H1 => ∃ z, y = .str z ∧ Q ((tab z).getD .non) H1) := by
  intro pins s σ H Q I h
  obtain ⟨⟨es, n, hl, hk, ht⟩, lo⟩ := T
  refine wpAny_Call_method m.base m.few m.line PySem.F.plainAttrs_dict PySem.F.slot_dict_get PySem.F.type_dict_get (thn (pe_glob (v := .ref ad) hg hm rfl hd pins s σ H (fun v H1 => v = .ref ad ∧ H1 = H) I ⟨rfl, rfl⟩) fun u s1 ⟨x1, H1, I1, rx, ex, eH⟩ => ?_)
  subst ex eH
  obtain rfl : u = Value.ref ad := rx
  have mp : ∀ {s' : Shared}, X.K.In s'.heap → s'.heap.MapOf (strKind X.prog X.w) ad (fun k => findBy Value.isStrOf es k) := fun k => PySem.W.mapOf_K k hl hk
  refine ⟨(mp I1.kIn).typeIs, (mp I1.kIn).noDict, ?_⟩
  rw [m.trees]
  refine Calls.callWith_builtin rfl (Calls.evalArgs_plain (Calls.spliced_cons (thn (he pins s1 σ H1 _ I1 h) fun iv s2 ⟨y, H2, I2, ry, z, ey, q2⟩ => Calls.spliced_nil ?_)))
  subst ey
  obtain ⟨t, rfl⟩ := ry
  refine call_meetsIn PySem.F.slot_dict_get (mp I2.kIn).typeIs PySem.F.entry_dict_get (PySem.F.args_dict_get_2 _ _) (meets_dict_get (strKind X.prog X.w) ad (strKind_is X.prog X.w z t) lo) ⟨_, mp I2.kIn, (tab z).getD .non, H2, I2.tok _, ?_, q2⟩
  exact (ht z).getD rfl
end
end L2
namespace L2
open PySem PySem.Spec PyProof.Rows
section
variable {X : Cx}
/-- t[lo:hi], whichever tuple bears it -/
def rSlTU (K : PySem.W.Frag) : V → Option Int → Option Int → Hp → VK → Prop := fun x lo hi H Q => ∃ a xs, x = .ref a ∧ SqT K H a xs ∧ ∀ t H2, Same H H2 → SqT K H2 t (cutV xs lo hi) → Q (.ref t) H2
theorem cutV_all {xs : List V} {lo hi : Option Int} (h : HT.sIx xs.length 0 lo = 0 ∧ HT.sIx xs.length xs.length hi = xs.length) : cutV xs lo hi = xs := by
  unfold cutV
  rw [h.1, h.2, List.drop_zero, Nat.sub_zero, List.take_length]
theorem sl_tupU : SlR X (rSlTU X.K) := by
  intro pins s σ H x v vl vu lo hi sl Q I rx hs pl pu h
  obtain ⟨a, xs, rfl, hx, q⟩ := h
  refine sl_tupW pins s σ H _ v vl vu lo hi sl Q I rx hs pl pu ⟨a, xs, rfl, hx, fun w => q a H (Same.refl _) (by rw [cutV_all w]; exact hx), fun _ p hp => q p _ (fun b u e => by rw [upd_ne (ne_of_none e hp)]; exact e) (SqT.of upd_same)⟩
end
end L2
/-! THE RULES, SEALED (own work): the same judgements as structures, so that a derivation is put together without unfolding them. -/
namespace L2
open PySem PySem.Spec PyProof.Rows
structure JE (X : Cx) (e : Expr) (t : TE) : Prop where
  run : PE X e t
structure JT (X : Cx) (e : Expr) (t : TT) : Prop where
  run : PT X e t
structure JW (X : Cx) (e : Expr) (t : TT) : Prop where
  run : PW X e t
structure JA (X : Cx) (es : List Expr) (t : TA) : Prop where
  run : PA X es t
structure JS (X : Cx) (st : Stmt) (t : TS) : Prop where
  run : PS X st t
structure JB (X : Cx) (st : List Stmt) (t : TS) : Prop where
  run : PSs X st t
structure JG (X : Cx) (e : Expr) (t : TG) : Prop where
  run : PG X e t
structure JGs (X : Cx) (es : List Expr) (t : TGs) : Prop where
  run : PGs X es t
structure JI (X : Cx) (tg iter : Expr) (wi : TI) : Prop where
  run : PI X tg iter wi
structure JO (X : Cx) (e : Option Expr) (t : TO) : Prop where
  run : PO X e t
structure JP (X : Cx) (pos : Pos) (ks : List (Option Expr)) (vs : List Expr) (trs : List (TE × TE)) : Prop where
  run : PPs X pos ks vs trs
/-- operations by values -/
structure JOp (X : Cx) (f : Value → Value → Sem Value) (r : R2) : Prop where
  run : OpR X f r
structure JUn (X : Cx) (f : Value → Sem Value) (r : V → Hp → VK → Prop) : Prop where
  run : UnR X f r
structure JCall (X : Cx) (f : Value) (r : List V → Hp → VK → Prop) : Prop where
  run : CallR X f r
structure JIx (X : Cx) (r : R2) : Prop where
  run : IxR X r
structure JSl (X : Cx) (r : V → Option Int → Option Int → Hp → VK → Prop) : Prop where
  run : SlR X r
structure JMt (X : Cx) (id : String) (r : V → List V → Hp → VK → Prop) : Prop where
  run : MtR X id r
structure JIp (X : Cx) (op : Operator) (t : TIp) : Prop where
  run : PIp X op t
structure JSet (X : Cx) (t : TSet) : Prop where
  run : PSet X t
section
variable {X : Cx} {a b c e o i : Expr} {es : List Expr} {ta tb te to ti : TE} {t tr : TA} {pos p apos cpos : Pos}
/-! ### expressions -/
theorem je_int {n : Int} {j} : JE X (.Constant (.int n) j pos) (tC (.int n)) := ⟨pe_int⟩
theorem je_bl {n : Bool} {j} : JE X (.Constant (.bool n) j pos) (tC (.bl n)) := ⟨pe_bl⟩
theorem je_non {j} : JE X (.Constant .none j pos) (tC .non) := ⟨pe_non⟩
theorem je_str {x : Str} {j} : JE X (.Constant (.str x) j pos) (tC (.str x)) := ⟨pe_str⟩
theorem jv (k : Nat) {x : Str} (hN : X.N[k]? = some x := by rfl) (hv : Vis X.env.scope x := by first | exact Or.inl rfl | exact Or.inr (Or.inl rfl) | exact Or.inr (Or.inr rfl)) (hd : (x == ("__debug__" : Str)) = false := by decide)
    (hcd : (x == ("__classdict__" : Str)) = false := by decide) : JE X (.Name x pos) (tVar k) := ⟨pe_var hN hv hd hcd⟩
theorem je_bltn {x : Str} {v : V} {u : Value} (hg : Gl X x) (hm : X.mg x = none) (hv : bootBuiltins x = some u) (r : RelV v u) (hn : x ≠ "__name__" := by decide) (hd : (x == ("__debug__" : Str)) = false := by decide) : JE X (.Name x pos) (tC v) := ⟨pe_bltn hg hm hv r hn hd⟩
theorem je_glob {x : Str} {v : V} {u : Value} (hg : Gl X x) (hm : X.mg x = some u) (r : RelV v u) (hd : (x == ("__debug__" : Str)) = false := by decide) : JE X (.Name x pos) (tC v) := ⟨pe_glob hg hm r hd⟩
theorem ja_nil : JA X [] tNil := ⟨pa_nil⟩
theorem ja_cons (ha : JE X e te) (hr : JA X es t) (hs : unstar e = true := by rfl) : JA X (e :: es) (tCons te t) := ⟨pa_cons ha.run hr.run (starEach_one hs)⟩
theorem je_tup {x1} (h : JA X es t) : JE X (.Tuple es x1 pos) (tTup t) := ⟨pe_tup h.run⟩
theorem je_lst (h : JA X es t) : JE X (.List es pos) (tLst t) := ⟨pe_lst h.run⟩
theorem je_op {op : Operator} {r : R2} (ho : JOp X (binaryOp op) r) (ha : JE X a ta) (hb : JE X b tb) : JE X (.BinOp a op b pos) (tOp r ta tb) := ⟨pe_op ho.run ha.run hb.run⟩
theorem je_un {op : UnaryOp} {r : V → Hp → VK → Prop} (ho : JUn X (unaryOp op) r) (ha : JE X a ta) : JE X (.UnaryOp op a pos) (tUn r ta) := ⟨pe_un ho.run ha.run⟩
theorem je_not (ha : JE X a ta) : JE X (.UnaryOp .Not a pos) (tNotV ta) := ⟨pe_not ha.run⟩
theorem je_cmpR {op : CmpOp} {r : R2} (ho : JOp X (compareOp op) r) (ha : JE X a ta) (hb : JE X b tb) (hm : behindInMarks op b = false) : JE X (.Compare a [op] [b] pos) (tOp r ta tb) := ⟨pe_cmpR ho.run ha.run hb.run hm⟩
theorem je_one {op} (h : JE X a ta) : JE X (.BoolOp op [a] pos) ta := ⟨pe_one h.run⟩
theorem je_and {rest : List Expr} (ha : JE X a ta) (hb : JE X (.BoolOp .And (b :: rest) pos) tb) : JE X (.BoolOp .And (a :: b :: rest) pos) (tAndV ta tb) := ⟨pe_and ha.run hb.run⟩
theorem je_or {rest : List Expr} (ha : JE X a ta) (hb : JE X (.BoolOp .Or (b :: rest) pos) tb) : JE X (.BoolOp .Or (a :: b :: rest) pos) (tOrV ta tb) := ⟨pe_or ha.run hb.run⟩
theorem je_ifExp {tc : TT} (hc : JT X c tc) (ha : JE X a ta) (hb : JE X b tb) : JE X (.IfExp c a b pos) (tIf tc ta tb) := ⟨pe_ifExp hc.run ha.run hb.run⟩
theorem jo_none : JO X none tNoPart := ⟨po_none⟩
theorem jo_some (h : JE X e te) : JO X (some e) (tPart te) := ⟨po_some h.run⟩
theorem je_slice {r : V → Option Int → Option Int → Hp → VK → Prop} {lo hi : Option Expr} {tl th : TO} {p2 : Pos} (hr : JSl X r) (he : JE X e te) (hl : JO X lo tl) (hu : JO X hi th) : JE X (.Subscript e (.Slice lo hi none p2) pos) (tSl r te tl th) := ⟨pe_slice hr.run he.run hl.run hu.run⟩
theorem je_ix {r : R2} (hr : JIx X r) (ha : JE X a ta) (hb : JE X b tb) (hs : PlainIx b) : JE X (.Subscript a b pos) (tOp r ta tb) := ⟨pe_ix hr.run ha.run hb.run hs⟩
theorem je_dget (hu : X.A.units + 1 < cLine) (ho : JE X o to) (hi : JE X i ti) (hs : NoSl i) : JE X (.Subscript o i pos) (tDGet to ti) := ⟨pe_dget hu ho.run hi.run hs⟩
theorem jps_nil : JP X pos [] [] [] := ⟨pps_nil⟩
theorem jps_cons {k v : Expr} {ks : List (Option Expr)} {vs : List Expr} {tk tv : TE} {trs : List (TE × TE)} (hk : JE X k tk) (hv : JE X v tv) (hr : JP X pos ks vs trs) : JP X pos (some k :: ks) (v :: vs) ((tk, tv) :: trs) := ⟨pps_cons hk.run hv.run hr.run⟩
theorem je_disp {keys : List (Option Expr)} {values : List Expr} {trs : List (TE × TE)} (h : JP X pos keys values trs) (hall : keys.all (·.isSome) = true) (hl : keys.length = values.length) (h0 : keys ≠ []) (h15 : keys.length ≤ 15) : JE X (.Dict keys values pos) (tDisp trs) := ⟨pe_disp h.run hall hl h0 h15⟩
theorem je_kget {x : Str} {ad : Addr} {tab : Str → Option V} (hg : Gl X x) (hm : X.mg x = some (.ref ad)) (T : KTab X.K X.w ad tab) (he : JE X e te) (m : M1 X (.Name x p) "get" apos e cpos) (hd : (x == ("__debug__" : Str)) = false := by decide) :
    JE X (.Call (.Attribute (.Name x p) "get" apos) [e] [] cpos) (fun σ H Q => te σ H fun y H1 => ∃ z, y = .str z ∧ Q ((tab z).getD .non) H1) := ⟨pe_kget hg hm T he.run m hd⟩
theorem backTo_plain {es : List Expr} {env : Env} (h : es.all unstar = true) : (backTo pos (starEach es env)).any (·.1) = false := by
  induction es with
  | nil => rfl
  | cons x r ih =>
    rw [List.all_cons, Bool.and_eq_true] at h
    rw [starEach_one h.1]
    exact ih h.2
theorem je_cg {k j : Nat} {x : Str} {ps : List Str} {sp : Sp} (G : Got X.prog X.w X.K X.mg X.base k x ps sp) (hr : Room j X.A) (hk : k ≤ j) (hg : Gl X x) (ha : JA X (e :: es) t) (hdb : (x == ("__debug__" : Str)) = false := by decide)
    (hs : (e :: es).all unstar = true := by rfl) : JE X (.Call (.Name x p) (e :: es) [] pos) (tCall sp [] E0 t) := by
  have h := hs
  rw [List.all_cons, Bool.and_eq_true] at h
  exact ⟨pe_cg G hr hk hg ha.run hdb (starEach_one h.1) (backTo_plain h.2)⟩
theorem je_callB {x : Str} {id : String} {r : List V → Hp → VK → Prop} (hc : JCall X (.builtin id) r) (hg : Gl X x) (hm : X.mg x = none) (hv : bootBuiltins x = some (.builtin id)) (ha : JA X (e :: es) t) (hn : x ≠ "__name__" := by decide) (hdb : (x == ("__debug__" : Str)) = false := by decide)
    (hs : (e :: es).all unstar = true := by rfl) : JE X (.Call (.Name x p) (e :: es) [] pos) (tCB r t) := by
  have h := hs
  rw [List.all_cons, Bool.and_eq_true] at h
  exact ⟨pe_callB hc.run hg hm hv ha.run hn hdb (starEach_one h.1) (backTo_plain h.2)⟩
theorem je_callTy {x : Str} {T : String} {r : List V → Hp → VK → Prop} (hc : JCall X (.type T) r) (hg : Gl X x) (hm : X.mg x = none) (hv : bootBuiltins x = some (.type T)) (ha : JA X (e :: es) t) (hn : x ≠ "__name__" := by decide) (hdb : (x == ("__debug__" : Str)) = false := by decide)
    (hs : (e :: es).all unstar = true := by rfl) : JE X (.Call (.Name x p) (e :: es) [] pos) (tCB r t) := by
  have h := hs
  rw [List.all_cons, Bool.and_eq_true] at h
  exact ⟨pe_callTy hc.run hg hm hv ha.run hn hdb (starEach_one h.1) (backTo_plain h.2)⟩
/-- o.m(e), o.m() of a built-in -/
theorem je_bm {name : Str} {T id : String} {r : V → List V → Hp → VK → Prop} (pa : PlainAttrs T) (slot : Slot T name id) (hty : typeOf (.builtin id) = pure (.type "method_descriptor")) (hm : JMt X id r) (ho : JE X o to) (ha : JA X [e] t)
    (hbase : attributeBase o name X.env (eval o X.env) = eval o X.env := by rfl) (hline : (apos.endLine == cpos.line) = true := by rfl) (hs : unstar e = true := by rfl) : JE X (.Call (.Attribute o name apos) [e] [] cpos) (tBM X.K T r to t) :=
  ⟨pe_bm pa slot hty hm.run ho.run ha.run hbase (by rw [starEach_one hs]; rfl) hline (starEach_one hs) rfl⟩
theorem je_bm0 {name : Str} {T id : String} {r : V → List V → Hp → VK → Prop} (pa : PlainAttrs T) (slot : Slot T name id) (hty : typeOf (.builtin id) = pure (.type "method_descriptor")) (hm : JMt X id r) (ho : JE X o to)
    (hbase : attributeBase o name X.env (eval o X.env) = eval o X.env := by rfl) (hline : (apos.endLine == cpos.line) = true := by rfl) : JE X (.Call (.Attribute o name apos) [] [] cpos) (tBM0 X.K T r to) := ⟨pe_bm0 pa slot hty hm.run ho.run hbase hline⟩
/-! ### tests -/
theorem jt_cmpR {op : CmpOp} {r : R2} (ho : JOp X (compareOp op) r) (ha : JE X a ta) (hb : JE X b tb) (hm : behindInMarks op b = false) : JT X (.Compare a [op] [b] pos) (tTest (tOp r ta tb)) := ⟨pt_cmpR ho.run ha.run hb.run hm⟩
theorem jt_din (hu : X.A.units + 1 < cLine) (hi : JE X i ti) (ho : JE X o to) (h1 : behindInMarks .In o = false := by with_unfolding_all rfl) : JT X (.Compare i [.In] [o] pos) (tB (tDIn ti to)) := ⟨pt_cmp (pc_din hu hi.run ho.run) h1⟩
theorem jt_not {tc : TT} (ha : JT X a tc) : JT X (.UnaryOp .Not a pos) (tNot tc) := ⟨pt_not ha.run⟩
theorem jt_val (h : JE X e te) (he : ∀ whole, isTrue e X.env whole = (do let v ← whole; standAt e.pos; holding [v] (truthy v)) := by intro _; rfl) : JT X e (tB te) := ⟨pt_val h.run he⟩
theorem jt_truth (ha : JE X a ta) (he : ∀ whole, isTrue a X.env whole = (do let v ← whole; standAt a.pos; holding [v] (truthy v))) : JT X a (fun σ H Q => ta σ H fun x H' => ∃ k, TruV X.K x H' k ∧ Q k H') := ⟨pt_truth ha.run he⟩
theorem jw_and1 {tA : TT} (ha : JT X a tA) : JW X (.BoolOp .And [a] pos) tA := ⟨pw_and1 ha.run⟩
theorem jw_or1 {tA : TT} (ha : JT X a tA) : JW X (.BoolOp .Or [a] pos) tA := ⟨pw_or1 ha.run⟩
theorem jw_and {tA tB' : TT} {rest : List Expr} (ha : JT X a tA) (hb : JW X (.BoolOp .And (b :: rest) pos) tB') : JW X (.BoolOp .And (a :: b :: rest) pos) (tAnd tA tB') := ⟨pw_and ha.run hb.run⟩
theorem jw_or {tA tB' : TT} {rest : List Expr} (ha : JT X a tA) (hb : JW X (.BoolOp .Or (b :: rest) pos) tB') : JW X (.BoolOp .Or (a :: b :: rest) pos) (tOr tA tB') := ⟨pw_or ha.run hb.run⟩
theorem JW.pt {tA : TT} (h : JW X e tA) : JT X e tA := ⟨PW.pt h.run⟩
/-! ### targets, iterables -/
theorem jg_name {k : Nat} {x : Str} (hN : X.N.Nodup) (hi : X.N[k]? = some x) (hx : Loc X.env.scope x) (hf : X.fn x = true ∨ X.env.scope.names.lookup x = some .local := by first | exact .inl rfl | exact .inr rfl | assumption) : JG X (.Name x pos) (gName k) := ⟨pg_name hN hi hx hf⟩
theorem jgs_nil : JGs X [] gNil := ⟨pgs_nil⟩
theorem jgs_cons {tg : TG} {u : TGs} (h1 : JG X e tg) (h2 : JGs X es u) (hs : (assignEach (e :: es) X.env).map (·.2) = assign e X.env :: (assignEach es X.env).map (·.2) := by rfl) : JGs X (e :: es) (gCons tg u) := ⟨pgs_cons h1.run h2.run hs⟩
theorem jg_tup {k n : Nat} {tg : TGs} (hc : X.calm = true) (h : JGs X es tg) (hn : (assignEach es X.env).length = n := by rfl) (hst : (assignEach es X.env).findIdx? (·.1) = none := by rfl) : JG X (.Tuple es k pos) (gTup X.K n tg) := ⟨pg_tup hc h.run hn hst⟩
theorem jg_sub {tset : TSet} (ho : JE X o to) (hi : JE X i ti) (hs : JSet X tset) (ha : ∀ v, assign (.Subscript o i pos) X.env v = (do
      let ov ← holding [v] (eval o X.env)
      let iv ← holding [v, ov] (eval i X.env)
      standAt pos
      holding [v, ov, iv] (setItem ov iv v)
      release [v, ov, iv] []) := by intro _; rfl) : JG X (.Subscript o i pos) (gSub to ti tset) := ⟨pg_sub ho.run hi.run hs.run ha⟩
theorem ji_list {tg : Expr} (hl : JE X a ta) : JI X tg a (iList X.K ta) := ⟨pi_list hl.run⟩
theorem ji_tup {tg : Expr} (hl : JE X a ta) : JI X tg a (iTup X.K ta) := ⟨pi_tup hl.run⟩
theorem JI.or {tg : Expr} {w1 w2 : TI} (h1 : JI X tg a w1) (h2 : JI X tg a w2) : JI X tg a (fun σ H R => w1 σ H R ∨ w2 σ H R) := ⟨PI.or h1.run h2.run⟩
theorem ji_range1 {tg : Expr} (hg : Gl X "range") (hm : X.mg "range" = none) (ha : JA X [a] t) (hs : unstar a = true := by rfl) : JI X tg (.Call (.Name "range" p) [a] [] pos) (iRng1 t) := ⟨pi_range1 hg hm ha.run (starEach_one hs)⟩
/-! ### statements -/
theorem jb_nil : JB X [] tNext := ⟨pss_nil⟩
theorem jb_cons {st : Stmt} {rest : List Stmt} {ts us : TS} (h1 : JS X st ts) (h2 : JB X rest us) : JB X (st :: rest) (tSeq ts us) := ⟨pss_cons h1.run h2.run⟩
theorem jb_one {st : Stmt} {ts : TS} (h1 : JS X st ts) : JB X [st] ts := ⟨pss_one h1.run⟩
theorem js_pass : JS X (.Pass pos) tNext := ⟨ps_pass⟩
theorem js_break : JS X (.Break pos) tBreak := ⟨ps_break⟩
theorem js_continue : JS X (.Continue pos) tCont := ⟨ps_continue⟩
theorem js_expr (he : JE X e te) (hs : swapsWith e none pos.line X.env = pure false := by rfl) : JS X (.Expr e pos) (tDrop te) := ⟨ps_expr he.run hs⟩
theorem js_ret (he : JE X e te) : JS X (.Return (some e) pos) (tRet te) := ⟨ps_ret he.run⟩
theorem js_retN : JS X (.Return none pos) tRetN := ⟨ps_retN⟩
theorem js_if {ss us : List Stmt} {tc : TT} {ts tu : TS} (hc : JT X c tc) (ha : JB X ss ts) (hb : JB X us tu) : JS X (.If c ss us pos) (tIfS tc ts tu) := ⟨ps_if hc.run ha.run hb.run⟩
theorem js_set {k : Nat} {x : Str} {pos' : Pos} (hN : X.N.Nodup) (hi : X.N[k]? = some x) (hx : Loc X.env.scope x) (he : JE X e te) (hs : swapsWith e (some (.Name x pos')) pos.line X.env = pure false := by rfl) (hf : X.fn x = true ∨ X.env.scope.names.lookup x = some .local := by first | exact .inl rfl | exact .inr rfl | assumption) :
    JS X (.Assign [.Name x pos'] e pos) (tAsg te (gName k)) := ⟨ps_set hN hi hx he.run hs hf⟩
theorem js_asg {tg : Expr} {g : TG} (he : JE X e te) (hg : JG X tg g) (hs : swapsWithSole [tg] e pos.line X.env = pure false := by rfl) (hw : swappedStores [tg] e X.env = pure none := by rfl) (h1 : (assignEach [tg] X.env).map (·.2) = [assign tg X.env] := by rfl) : JS X (.Assign [tg] e pos) (tAsg te g) := ⟨ps_asg he.run hg.run hs hw h1⟩
theorem js_aug {k : Nat} {x : Str} {op : Operator} {tip : TIp} {pos' : Pos} (hN : X.N.Nodup) (hi : X.N[k]? = some x) (hx : Loc X.env.scope x) (he : JE X e te) (ho : JIp X op tip) (hf : X.fn x = true ∨ X.env.scope.names.lookup x = some .local := by first | exact .inl rfl | exact .inr rfl | assumption) :
    JS X (.AugAssign (.Name x pos') op e pos) (tAug k te tip) := ⟨ps_aug hN hi hx he.run ho.run hf⟩
theorem js_while {body : List Stmt} {tc : TT} {tb' : TS} (hp : PassesOwn (model X.prog X.w) X.A X.env X.xe) (hc : JT X c tc) (hb : JB X body tb') : JS X (.While c body [] pos) (tWhile tc tb') := ⟨ps_while hp hc.run hb.run⟩
theorem js_for {tg iter : Expr} {body : List Stmt} {wi : TI} {g : TG} {tb' : TS} (hp : PassesOwn (model X.prog X.w) X.A X.env X.xe) (hc : X.calm = true) (hi : JI X tg iter wi) (hg : JG X tg g) (hb : JB X body tb') (hs : ∀ x, foldedSetIterable iter X.env x = pure x := by intro _; rfl) :
    JS X (.For tg iter body [] pos) (tFor wi g tb') := ⟨ps_for hp hc hi.run hg.run hb.run hs⟩
/-! ### comprehensions -/
theorem je_comp {scope : Scope} {N' : List Str} {nt : Nat} {cap : List Nat} {elt iter tg : Expr} {wi : TI} {g : TG} (hc : X.calm = true) (ok : CompOk X scope N' nt cap) (hi : JI X tg iter wi) (hg : ∀ C ex s H, JG (cxComp X scope N' C ex s H) tg g) (he : ∀ C ex s H, JE (cxComp X scope N' C ex s H) elt te)
    (hs : ∀ x, foldedSetIterable iter X.env x = pure x := by intro _; rfl) : JE X (.ListComp elt [⟨tg, iter, [], 0⟩] scope pos) (tComp wi g te nt cap) := ⟨pe_comp hc ok hi.run (fun C ex s H => (hg C ex s H).run) (fun C ex s H => (he C ex s H).run) hs⟩
theorem je_compIf {ct : Expr} {tc : TT} {scope : Scope} {N' : List Str} {nt : Nat} {cap : List Nat} {elt iter tg : Expr} {wi : TI} {g : TG} (hc : X.calm = true) (ok : CompOk X scope N' nt cap) (hi : JI X tg iter wi) (hg : ∀ C ex s H, JG (cxComp X scope N' C ex s H) tg g)
    (ht : ∀ C ex s H, JT (cxComp X scope N' C ex s H) ct tc) (he : ∀ C ex s H, JE (cxComp X scope N' C ex s H) elt te) (hs : ∀ x, foldedSetIterable iter X.env x = pure x := by intro _; rfl) : JE X (.ListComp elt [⟨tg, iter, [ct], 0⟩] scope pos) (tCompIf wi g tc te nt cap) :=
  ⟨pe_compIf hc ok hi.run (fun C ex s H => (hg C ex s H).run) (fun C ex s H => (ht C ex s H).run) (fun C ex s H => (he C ex s H).run) hs⟩
end
/-- THE RULE for a def, sealed -/
theorem Fun.okJ {P : Program} {w : World} {K : PySem.W.Frag} {mg : Str → Option Value} {base : Heap} {x qual : Str} {st : Stmt} {f : Addr} {fd : FuncData} {N ps : List Str} {k : Nat} {sp : Sp} (F : Fun K x qual st f fd) (S : FnScope N ps (defScope st)) (len : ∀ vs H Q E, sp vs H Q E → vs.length = ps.length)
    (hbody : ∀ (cdv : Value) (A : Around) (outer : List Env) (s : Shared) (H : Hp) (vs : List V) (Q : VK) (E : XK), Room k (A.deeper (envOfC qual (defScope st) s.heap.objs.size f cdv)) → sp vs H Q E →
      ∃ t, JB (cxOf CX0 P w K mg base N qual (defScope st) f cdv A outer s H E).nox (defBody st) t ∧ t { nx := fun _ H' => Q .non H', rt := Q } (start N vs) H) : FnOk P w K mg base CX0 (k + 1) f fd ps sp :=
  F.ok S len fun cdv A outer s H vs Q E hr h => let ⟨t, j, q⟩ := hbody cdv A outer s H vs Q E hr h; ⟨t, j.run, q⟩
end L2
/-! PROGRAMS AS DATA (own work): the tree, how the heap bears it, floors and counts. -/
namespace KB
open PySem L2

inductive Wd where
  | way | give | pair | first | second | plus | look
  deriving DecidableEq
def Wd.str : Wd → Str
  | .way => "way" | .give => "give" | .pair => "pair" | .first => "first" | .second => "second" | .plus => "plus" | .look => "look"
theorem Wd.leaf (w : Wd) : ¬ (w.str = "name" ∨ w.str = "whole") := by cases w <;> decide +kernel

inductive Pg where
  | name (k : Int)
  | whole (n : Int)
  | node (w : Wd) (xs : List Pg)
def Pg.inn : Pg → List Pg
  | .node _ xs => xs
  | _ => []
mutual
def Pg.sz : Pg → Nat
  | .name _ => 1
  | .whole _ => 1
  | .node _ xs => 1 + szL xs
def szL : List Pg → Nat
  | [] => 0
  | x :: r => x.sz + szL r
end
theorem Pg.sz_inn (p : Pg) : p.sz = 1 + szL p.inn := by cases p <;> simp [Pg.sz, Pg.inn, szL]
theorem szL_append : ∀ xs ys : List Pg, szL (xs ++ ys) = szL xs + szL ys
  | [], ys => by simp [szL]
  | x :: xs, ys => by rw [List.cons_append, szL, szL, szL_append xs ys]; omega
theorem szL_len : ∀ xs : List Pg, xs.length ≤ szL xs
  | [] => Nat.le_refl _
  | x :: xs => by
    have h := szL_len xs
    have h2 := x.sz_inn
    rw [szL, List.length_cons]; omega
theorem szL_down : ∀ xs : List Pg, szL (xs.flatMap Pg.inn) + xs.length = szL xs
  | [] => rfl
  | x :: xs => by
    have h := szL_down xs
    have h2 := x.sz_inn
    rw [List.flatMap_cons, szL_append, szL, List.length_cons]; omega
def downL (lv : List Pg) : List Pg := lv.flatMap Pg.inn
/-- the floors below a row of programs -/
def floors (lv : List Pg) : List (List Pg) :=
  if h : lv = [] then [] else lv :: floors (downL lv)
termination_by szL lv
decreasing_by
  have h1 : szL (downL lv) + lv.length = szL lv := szL_down lv
  have h2 : 0 < lv.length := List.length_pos_iff.mpr h
  omega
theorem floors_nil : floors [] = [] := by rw [floors]; rfl
theorem floors_go {lv : List Pg} (h : lv ≠ []) : floors lv = lv :: floors (lv.flatMap Pg.inn) := by rw [floors, dif_neg h]; rfl
theorem floors_sum : ∀ (n : Nat) (lv : List Pg), szL lv ≤ n → ((floors lv).map List.length).sum = szL lv
  | n, lv, hn => by
    by_cases h : lv = []
    · subst h; rw [floors_nil]; rfl
    · have h1 := szL_down lv
      have h2 : 0 < lv.length := List.length_pos_iff.mpr h
      match n, hn with
      | 0, hn => omega
      | n + 1, hn =>
        have ih := floors_sum n (lv.flatMap Pg.inn) (by omega)
        rw [floors_go h, List.map_cons, List.sum_cons, ih]; omega
theorem floors_mem : ∀ (n : Nat) (lv l : List Pg), szL lv ≤ n → l ∈ floors lv → szL l ≤ szL lv
  | n, lv, l, hn, hl => by
    by_cases h : lv = []
    · subst h; rw [floors_nil] at hl; cases hl
    · have h1 := szL_down lv
      have h2 : 0 < lv.length := List.length_pos_iff.mpr h
      rw [floors_go h] at hl
      match n, hn with
      | 0, hn => omega
      | n + 1, hn =>
        rcases List.mem_cons.mp hl with e | hl
        · rw [e]; exact Nat.le_refl _
        · have ih := floors_mem n (lv.flatMap Pg.inn) l (by omega) hl
          omega
theorem floors_len : ∀ (n : Nat) (lv : List Pg), szL lv ≤ n → (floors lv).length ≤ szL lv
  | n, lv, hn => by
    by_cases h : lv = []
    · subst h; rw [floors_nil]; exact Nat.le_refl _
    · have h1 := szL_down lv
      have h2 : 0 < lv.length := List.length_pos_iff.mpr h
      match n, hn with
      | 0, hn => omega
      | n + 1, hn =>
        have ih := floors_len n (lv.flatMap Pg.inn) (by omega)
        rw [floors_go h, List.length_cons]; omega

/-! ### the heap bears it -/
def tailOf (w : Str) (xs : List V) : List V := if w = "name" ∨ w = "whole" then [] else xs
mutual
def Rep (H : Hp) : Pg → V → Prop
  | .name k, v => ∃ a, v = .ref a ∧ H a = some (.tup [.str "name", .int k])
  | .whole n, v => ∃ a, v = .ref a ∧ H a = some (.tup [.str "whole", .int n])
  | .node w xs, v => ∃ a vs, v = .ref a ∧ H a = some (.tup (.str w.str :: vs)) ∧ RepL H xs vs
def RepL (H : Hp) : List Pg → List V → Prop
  | [], vs => vs = []
  | x :: xs, vs => ∃ v r, vs = v :: r ∧ Rep H x v ∧ RepL H xs r
end
/-- tuples stay -/
def Tup (H H' : Hp) : Prop := ∀ b xs, H b = some (.tup xs) → H' b = some (.tup xs)
theorem Tup.refl (H : Hp) : Tup H H := fun _ _ h => h
theorem Tup.trans {H H1 H2 : Hp} (a : Tup H H1) (b : Tup H1 H2) : Tup H H2 := fun c o h => b c o (a c o h)
theorem Tup.of {H H' : Hp} (h : Same H H') : Tup H H' := fun b xs e => h b _ e
theorem Tup.new {H : Hp} {p : Addr} (h : H p = none) (o : HO) : Tup H (upd H p o) := fun b xs e => by rw [upd_ne (ne_of_none e h)]; exact e
theorem Tup.lst {H : Hp} {p : Addr} {xs : List V} (h : H p = some (.lst xs)) (o : HO) : Tup H (upd H p o) := fun b ys e => by rw [upd_ne (ne_of e h (by intro z; cases z))]; exact e
mutual
theorem Rep.mono {H H' : Hp} (h : Tup H H') : ∀ {p : Pg} {v : V}, Rep H p v → Rep H' p v
  | .name _, _, ⟨a, e, q⟩ => ⟨a, e, h _ _ q⟩
  | .whole _, _, ⟨a, e, q⟩ => ⟨a, e, h _ _ q⟩
  | .node _ _, _, ⟨a, vs, e, q, r⟩ => ⟨a, vs, e, h _ _ q, RepL.mono h r⟩
theorem RepL.mono {H H' : Hp} (h : Tup H H') : ∀ {ps : List Pg} {vs : List V}, RepL H ps vs → RepL H' ps vs
  | [], _, e => e
  | _ :: _, _, ⟨v, r, e, q, t⟩ => ⟨v, r, e, Rep.mono h q, RepL.mono h t⟩
end
theorem Rep.ref {H : Hp} : ∀ {p : Pg} {v : V}, Rep H p v → plainV v = true
  | .name _, _, ⟨a, e, _⟩ => by rw [e]; rfl
  | .whole _, _, ⟨a, e, _⟩ => by rw [e]; rfl
  | .node _ _, _, ⟨a, _, e, _⟩ => by rw [e]; rfl
theorem RepL.plain {H : Hp} : ∀ {ps : List Pg} {vs : List V}, RepL H ps vs → vs.all plainV = true
  | [], _, e => by rw [show _ = ([] : List V) from e]; rfl
  | _ :: _, _, ⟨v, r, e, q, t⟩ => by rw [e, List.all_cons, q.ref, t.plain]; rfl
theorem RepL.len {H : Hp} : ∀ {ps : List Pg} {vs : List V}, RepL H ps vs → vs.length = ps.length
  | [], _, e => by rw [show _ = ([] : List V) from e]; rfl
  | _ :: _, _, ⟨v, r, e, q, t⟩ => by rw [e, List.length_cons, List.length_cons, t.len]
theorem RepL.append {H : Hp} : ∀ {ps qs : List Pg} {vs us : List V}, RepL H ps vs → RepL H qs us → RepL H (ps ++ qs) (vs ++ us)
  | [], _, _, _, e, h => by rw [show _ = ([] : List V) from e]; exact h
  | _ :: _, _, _, _, ⟨v, r, e, q, t⟩, h => ⟨v, r ++ _, by rw [e]; rfl, q, RepL.append t h⟩
theorem RepL.one {H : Hp} {p : Pg} {v : V} (h : Rep H p v) : RepL H [p] [v] := ⟨v, [], rfl, h, rfl⟩
theorem RepL.get {H : Hp} : ∀ {ps : List Pg} {vs : List V} {i : Nat} {v : V}, RepL H ps vs → vs[i]? = some v → ∃ p, ps[i]? = some p ∧ Rep H p v
  | [], _, _, _, e, h => by rw [show _ = ([] : List V) from e] at h; cases h
  | _ :: _, _, 0, _, ⟨v, r, e, q, t⟩, h => by
    rw [e] at h
    cases (show some v = some _ from h)
    exact ⟨_, rfl, q⟩
  | _ :: _, _, i + 1, _, ⟨v, r, e, q, t⟩, h => by
    rw [e] at h
    obtain ⟨p, e2, q2⟩ := RepL.get (i := i) t (by simpa using h)
    exact ⟨p, by simpa using e2, q2⟩
/-- the last of a row -/
theorem RepL.last {H : Hp} : ∀ {ps : List Pg} {vs : List V}, RepL H ps vs → vs ≠ [] → ∃ qs q us u, ps = qs ++ [q] ∧ vs = us ++ [u] ∧ RepL H qs us ∧ Rep H q u
  | [], _, e, h => absurd e h
  | [x], _, ⟨v, r, e, q, t⟩, _ => by
    cases (show r = [] from t)
    exact ⟨[], x, [], v, rfl, by rw [e]; rfl, rfl, q⟩
  | x :: y :: xs, _, ⟨v, r, e, q, t⟩, _ => by
    have hr : r ≠ [] := by
      obtain ⟨v2, r2, e2, _⟩ := t
      rw [e2]; exact List.cons_ne_nil _ _
    obtain ⟨qs, q', us, u, e1, e2, h1, h2⟩ := RepL.last t hr
    exact ⟨x :: qs, q', v :: us, u, by rw [e1]; rfl, by rw [e, e2]; rfl, ⟨v, us, rfl, q, h1⟩, h2⟩
/-- a program opened: its tuple, its word, what stands behind the word -/
theorem Rep.opened {H : Hp} : ∀ {p : Pg} {v : V}, Rep H p v → ∃ a w vs, v = .ref a ∧ H a = some (.tup (.str w :: vs)) ∧ RepL H p.inn (tailOf w vs)
  | .name _, _, ⟨a, e, h⟩ => ⟨a, _, _, e, h, by rw [tailOf, if_pos (Or.inl rfl)]; rfl⟩
  | .whole _, _, ⟨a, e, h⟩ => ⟨a, _, _, e, h, by rw [tailOf, if_pos (Or.inr rfl)]; rfl⟩
  | .node w _, _, ⟨a, vs, e, h, r⟩ => ⟨a, _, vs, e, h, by rw [tailOf, if_neg w.leaf]; exact r⟩

/-! ### heaps -/
theorem same_new {H : Hp} {p : Addr} (h : H p = none) (o : HO) : Same H (upd H p o) := fun b u q => by rw [upd_ne (ne_of_none q h)]; exact q
theorem same_upd {H0 H : Hp} {p : Addr} (a : Same H0 H) (h : H0 p = none) (o : HO) : Same H0 (upd H p o) := fun b u q => by rw [upd_ne (ne_of_none q h)]; exact a b u q
/-- all but a is as it was -/
def But (a : Addr) (H H' : Hp) : Prop := ∀ b o, b ≠ a → H b = some o → H' b = some o
theorem But.refl (a : Addr) (H : Hp) : But a H H := fun _ _ _ h => h
theorem But.trans {a : Addr} {H H1 H2 : Hp} (x : But a H H1) (y : But a H1 H2) : But a H H2 := fun c o n h => y c o n (x c o n h)
theorem But.upd {a : Addr} {H H1 : Hp} (x : But a H H1) (o : HO) : But a H (upd H1 a o) := fun c u n h => by rw [upd_ne n]; exact x c u n h
theorem But.new {a p : Addr} {H H1 : Hp} (x : But a H H1) (h : H1 p = none) (o : HO) : But a H (L2.upd H1 p o) := fun c u n q => by
  rw [upd_ne (ne_of_none (x c u n q) h)]; exact x c u n q
theorem But.same {a : Addr} {H H1 H2 : Hp} (x : But a H H1) (y : Same H1 H2) : But a H H2 := fun c o n h => y c o (x c o n h)
theorem But.tup {a : Addr} {H H' : Hp} {xs : List V} (x : But a H H') (h : H a = some (.lst xs)) : Tup H H' := fun b ys e => x b _ (ne_of e h (by intro z; cases z)) e
theorem But.ret {a : Addr} {H0 H H' : Hp} (x : But a H H') (s : Same H0 H) (n : H0 a = none) : Same H0 H' := fun b o e => x b o (ne_of_none e n) (s b o e)
def Feed (H : Hp) (a : Addr) : Prop := ∃ x y, H a = some (.lst [.int x, .int y])
theorem Feed.new {H : Hp} {a p : Addr} (h : Feed H a) (n : H p = none) (o : HO) : Feed (upd H p o) a := by
  obtain ⟨x, y, e⟩ := h
  exact ⟨x, y, by rw [upd_ne (ne_of_none e n)]; exact e⟩
theorem Feed.put (H : Hp) (a : Addr) (x y : Int) : Feed (upd H a (.lst [.int x, .int y])) a := ⟨x, y, upd_same⟩
theorem Feed.same {H H' : Hp} {a : Addr} (h : Feed H a) (s : Same H H') : Feed H' a := by
  obtain ⟨x, y, e⟩ := h
  exact ⟨x, y, s _ _ e⟩
theorem Feed.tup {a : Addr} {H H' : Hp} (f : Feed H a) (x : But a H H') : Tup H H' := by
  obtain ⟨_, _, e⟩ := f
  exact x.tup e

/-! ### cuts -/
theorem cut1 (x : V) (xs : List V) : cutV (x :: xs) (some 1) none = xs := by
  unfold cutV
  rw [show (some (1 : Int)) = some ((1 : Nat) : Int) from rfl, HT.sIx_nat, HT.sIx_none]
  have h : min 1 (x :: xs).length = 1 := by rw [List.length_cons]; omega
  rw [h, List.drop_one, List.tail_cons, List.take_of_length_le (by rw [List.length_cons]; omega)]
theorem cut1_ne (x : V) (xs : List V) (d : Nat) : ¬ (HT.sIx (x :: xs).length 0 (some 1) = 0 ∧ HT.sIx (x :: xs).length (x :: xs).length none = d) := by
  rw [show (some (1 : Int)) = some ((1 : Nat) : Int) from rfl, HT.sIx_nat, List.length_cons]
  omega
theorem cutLast (xs : List V) (x : V) : cutV (xs ++ [x]) none (some (-1)) = xs := by
  unfold cutV
  have h : HT.sIx (xs ++ [x]).length (xs ++ [x]).length (some (-1)) = xs.length := by
    unfold HT.sIx
    simp
    try omega
  rw [h, HT.sIx_none, List.drop_zero, Nat.sub_zero, List.take_left]
theorem small {n : Nat} (h : n ≤ 1000000) : n < sizeLine := by rw [sizeLine_eq]; omega
end KB
namespace KB
open PySem L2
/-! ### an item of a written row -/
theorem at_ok {ns : List Int} {k : Int} (h0 : 0 ≤ k) (h1 : k < (ns.length : Int)) : ∃ v, atI (ns.map V.int) k = some (.int v) := by
  have hk : k.toNat < ns.length := by omega
  have ek : k = ((k.toNat : Nat) : Int) := by omega
  have q : atI (ns.map V.int) ((k.toNat : Nat) : Int) = some (.int ns[k.toNat]) := atI_nat (by rw [List.getElem?_map, List.getElem?_eq_getElem hk] <;> rfl)
  rw [← ek] at q
  exact ⟨_, q⟩
theorem at4 {a b c e : Int} {d : Int} (h0 : 0 ≤ d) (h1 : d < 4) : ∃ n, atI [V.int a, V.int b, V.int c, V.int e] d = some (.int n) := by
  rcases (by omega : d = 0 ∨ d = 1 ∨ d = 2 ∨ d = 3) with z | z | z | z <;> (subst z; exact ⟨_, rfl⟩)
theorem at2w {i : Int} (u v : Wd) (h0 : 0 ≤ i) (h1 : i < 2) : ∃ w : Wd, atI [V.str u.str, V.str v.str] i = some (.str w.str) := by
  rcases (by omega : i = 0 ∨ i = 1) with z | z
  · subst z; exact ⟨u, rfl⟩
  · subst z; exact ⟨v, rfl⟩
theorem at3w {i : Int} (u v w : Wd) (h0 : 0 ≤ i) (h1 : i < 3) : ∃ x : Wd, atI [V.str u.str, V.str v.str, V.str w.str] i = some (.str x.str) := by
  rcases (by omega : i = 0 ∨ i = 1 ∨ i = 2) with z | z | z
  · subst z; exact ⟨u, rfl⟩
  · subst z; exact ⟨v, rfl⟩
  · subst z; exact ⟨w, rfl⟩
theorem at5w {i : Int} (a b c d e : Wd) (h0 : 0 ≤ i) (h1 : i < 5) : ∃ x : Wd, atI [V.str a.str, V.str b.str, V.str c.str, V.str d.str, V.str e.str] i = some (.str x.str) := by
  rcases (by omega : i = 0 ∨ i = 1 ∨ i = 2 ∨ i = 3 ∨ i = 4) with z | z | z | z | z
  · subst z; exact ⟨a, rfl⟩
  · subst z; exact ⟨b, rfl⟩
  · subst z; exact ⟨c, rfl⟩
  · subst z; exact ⟨d, rfl⟩
  · subst z; exact ⟨e, rfl⟩
end KB
/-! ANY DATA (own work): None, truths, numbers, texts, tuples, lists; how the heap bears it; what makes it. -/
namespace KB
open PySem L2

inductive D where
  | non
  | bl (b : Bool)
  | int (i : Int)
  | str (x : Str)
  | tup (xs : List D)
  | lst (xs : List D)
mutual
def D.sz : D → Nat
  | .tup xs => 1 + dszL xs
  | .lst xs => 1 + dszL xs
  | _ => 1
def dszL : List D → Nat
  | [] => 0
  | x :: r => x.sz + dszL r
end
mutual
def D.dp : D → Nat
  | .tup xs => 1 + ddpL xs
  | .lst xs => 1 + ddpL xs
  | _ => 0
def ddpL : List D → Nat
  | [] => 0
  | x :: r => max x.dp (ddpL r)
end
theorem dszL_append : ∀ xs ys : List D, dszL (xs ++ ys) = dszL xs + dszL ys
  | [], ys => by simp [dszL]
  | x :: xs, ys => by rw [List.cons_append, dszL, dszL, dszL_append xs ys]; omega
theorem ddpL_append : ∀ xs ys : List D, ddpL (xs ++ ys) = max (ddpL xs) (ddpL ys)
  | [], ys => by simp [ddpL]
  | x :: xs, ys => by rw [List.cons_append, ddpL, ddpL, ddpL_append xs ys]; omega
theorem D.sz_pos (d : D) : 1 ≤ d.sz := by cases d <;> simp [D.sz]
theorem dszL_len : ∀ xs : List D, xs.length ≤ dszL xs
  | [] => Nat.le_refl _
  | x :: xs => by
    have h := dszL_len xs
    have h2 := x.sz_pos
    rw [dszL, List.length_cons]; omega
theorem dszL_mem : ∀ {xs : List D} {x : D}, x ∈ xs → x.sz ≤ dszL xs
  | y :: ys, x, h => by
    rcases List.mem_cons.mp h with e | h
    · rw [e, dszL]; omega
    · have := dszL_mem h
      rw [dszL]; omega
theorem ddpL_mem : ∀ {xs : List D} {x : D}, x ∈ xs → x.dp ≤ ddpL xs
  | y :: ys, x, h => by
    rcases List.mem_cons.mp h with e | h
    · rw [e, ddpL]; omega
    · have := ddpL_mem h
      rw [ddpL]; omega
def dmx : List D → Nat
  | [] => 0
  | x :: r => max x.sz (dmx r)
theorem dmx_mem : ∀ {xs : List D} {x : D}, x ∈ xs → x.sz ≤ dmx xs
  | y :: ys, x, h => by
    rcases List.mem_cons.mp h with e | h
    · rw [e, dmx]; omega
    · have := dmx_mem h
      rw [dmx]; omega
theorem dmx_append : ∀ xs ys : List D, dmx (xs ++ ys) = max (dmx xs) (dmx ys)
  | [], ys => by simp [dmx]
  | x :: xs, ys => by rw [List.cons_append, dmx, dmx, dmx_append xs ys]; omega
theorem ddpL_cons_le {x : D} {r : List D} {n : Nat} (h1 : x.dp ≤ n) (h2 : ddpL r ≤ n) : ddpL (x :: r) ≤ n := by rw [ddpL]; omega
theorem dmx_cons_le {x : D} {r : List D} {n : Nat} (h1 : x.sz ≤ n) (h2 : dmx r ≤ n) : dmx (x :: r) ≤ n := by rw [dmx]; omega
/-- no two numbers (so no feed) -/
def nf : List V → Prop := fun vs => (∀ x y, vs ≠ [.int x, .int y]) ∧ vs.length < 8
mutual
def RepD (H : Hp) : D → V → Prop
  | .non, v => v = .non
  | .bl b, v => v = .bl b
  | .int i, v => v = .int i
  | .str x, v => v = .str x
  | .tup xs, v => ∃ a vs, v = .ref a ∧ H a = some (.tup vs) ∧ RepDL H xs vs
  | .lst xs, v => ∃ a vs, v = .ref a ∧ H a = some (.lst vs) ∧ nf vs ∧ RepDL H xs vs
def RepDL (H : Hp) : List D → List V → Prop
  | [], vs => vs = []
  | x :: xs, vs => ∃ v r, vs = v :: r ∧ RepD H x v ∧ RepDL H xs r
end
/-- tuples and such lists stay -/
def Keep (H H' : Hp) : Prop := (∀ b xs, H b = some (.tup xs) → H' b = some (.tup xs)) ∧ ∀ b xs, nf xs → H b = some (.lst xs) → H' b = some (.lst xs)
theorem Keep.refl (H : Hp) : Keep H H := ⟨fun _ _ h => h, fun _ _ _ h => h⟩
theorem Keep.trans {H H1 H2 : Hp} (a : Keep H H1) (b : Keep H1 H2) : Keep H H2 := ⟨fun c xs h => b.1 c xs (a.1 c xs h), fun c xs n h => b.2 c xs n (a.2 c xs n h)⟩
theorem Keep.of {H H' : Hp} (h : Same H H') : Keep H H' := ⟨fun b xs e => h b _ e, fun b xs _ e => h b _ e⟩
theorem Feed.keep {a : Addr} {H H' : Hp} (f : Feed H a) (x : But a H H') : Keep H H' := by
  obtain ⟨u, v, e⟩ := f
  refine ⟨fun b xs q => x b _ (ne_of q e (by intro z; cases z)) q, fun b xs n q => x b _ (fun z => ?_) q⟩
  subst z
  rw [q] at e
  cases e
  exact n.1 _ _ rfl
/-- a long list changes -/
theorem Keep.long {H : Hp} {l : Addr} {xs : List V} (h : H l = some (.lst xs)) (hl : 8 ≤ xs.length) (o : HO) : Keep H (upd H l o) := by
  refine ⟨fun b ys e => by rw [upd_ne (ne_of e h (by intro z; cases z))]; exact e, fun b ys n e => ?_⟩
  have hb : b ≠ l := by
    intro z
    subst z
    rw [h] at e
    cases e
    have := n.2
    omega
  rw [upd_ne hb]; exact e
mutual
theorem RepD.mono {H H' : Hp} (h : Keep H H') : ∀ {d : D} {v : V}, RepD H d v → RepD H' d v
  | .non, _, e => e
  | .bl _, _, e => e
  | .int _, _, e => e
  | .str _, _, e => e
  | .tup _, _, ⟨a, vs, e, q, r⟩ => ⟨a, vs, e, h.1 _ _ q, RepDL.mono h r⟩
  | .lst _, _, ⟨a, vs, e, q, n, r⟩ => ⟨a, vs, e, h.2 _ _ n q, n, RepDL.mono h r⟩
theorem RepDL.mono {H H' : Hp} (h : Keep H H') : ∀ {ds : List D} {vs : List V}, RepDL H ds vs → RepDL H' ds vs
  | [], _, e => e
  | _ :: _, _, ⟨v, r, e, q, t⟩ => ⟨v, r, e, RepD.mono h q, RepDL.mono h t⟩
end
theorem RepDL.len {H : Hp} : ∀ {ds : List D} {vs : List V}, RepDL H ds vs → vs.length = ds.length
  | [], _, e => by rw [show _ = ([] : List V) from e]; rfl
  | _ :: _, _, ⟨v, r, e, q, t⟩ => by rw [e, List.length_cons, List.length_cons, t.len]
theorem RepDL.append {H : Hp} : ∀ {ps qs : List D} {vs us : List V}, RepDL H ps vs → RepDL H qs us → RepDL H (ps ++ qs) (vs ++ us)
  | [], _, _, _, e, h => by rw [show _ = ([] : List V) from e]; exact h
  | _ :: _, _, _, _, ⟨v, r, e, q, t⟩, h => ⟨v, r ++ _, by rw [e]; rfl, q, RepDL.append t h⟩
theorem RepDL.one {H : Hp} {p : D} {v : V} (h : RepD H p v) : RepDL H [p] [v] := ⟨v, [], rfl, h, rfl⟩
theorem RepDL.get {H : Hp} : ∀ {ps : List D} {vs : List V} {i : Nat} {v : V}, RepDL H ps vs → vs[i]? = some v → ∃ p, ps[i]? = some p ∧ RepD H p v
  | [], _, _, _, e, h => by rw [show _ = ([] : List V) from e] at h; cases h
  | _ :: _, _, 0, _, ⟨v, r, e, q, t⟩, h => by
    rw [e] at h
    cases (show some v = some _ from h)
    exact ⟨_, rfl, q⟩
  | _ :: _, _, i + 1, _, ⟨v, r, e, q, t⟩, h => by
    rw [e] at h
    obtain ⟨p, e2, q2⟩ := RepDL.get (i := i) t (by simpa using h)
    exact ⟨p, by simpa using e2, q2⟩
theorem RepDL.last {H : Hp} : ∀ {ps : List D} {vs : List V}, RepDL H ps vs → vs ≠ [] → ∃ qs q us u, ps = qs ++ [q] ∧ vs = us ++ [u] ∧ RepDL H qs us ∧ RepD H q u
  | [], _, e, h => absurd e h
  | [x], _, ⟨v, r, e, q, t⟩, _ => by
    cases (show r = [] from t)
    exact ⟨[], x, [], v, rfl, by rw [e]; rfl, rfl, q⟩
  | x :: y :: xs, _, ⟨v, r, e, q, t⟩, _ => by
    have hr : r ≠ [] := by
      obtain ⟨v2, r2, e2, _⟩ := t
      rw [e2]; exact List.cons_ne_nil _ _
    obtain ⟨qs, q', us, u, e1, e2, h1, h2⟩ := RepDL.last t hr
    exact ⟨x :: qs, q', v :: us, u, by rw [e1]; rfl, by rw [e, e2]; rfl, ⟨v, us, rfl, q, h1⟩, h2⟩
theorem RepDL.take {H : Hp} : ∀ {ds : List D} {vs : List V} (n : Nat), RepDL H ds vs → RepDL H (ds.take n) (vs.take n)
  | _, _, 0, _ => rfl
  | [], _, n + 1, e => by rw [show _ = ([] : List V) from e]; rfl
  | _ :: _, _, n + 1, ⟨v, r, e, q, t⟩ => by rw [e]; exact ⟨v, _, rfl, q, RepDL.take n t⟩
theorem RepDL.drop {H : Hp} : ∀ {ds : List D} {vs : List V} (n : Nat), RepDL H ds vs → RepDL H (ds.drop n) (vs.drop n)
  | _, _, 0, h => h
  | [], _, n + 1, e => by rw [show _ = ([] : List V) from e]; rfl
  | _ :: _, _, n + 1, ⟨v, r, e, q, t⟩ => by rw [e]; exact RepDL.drop n t
/-! ### programs as data -/
mutual
def Pg.toD : Pg → D
  | .name k => .tup [.str "name", .int k]
  | .whole n => .tup [.str "whole", .int n]
  | .node w xs => .tup (.str w.str :: toDL xs)
def toDL : List Pg → List D
  | [] => []
  | x :: r => x.toD :: toDL r
end
mutual
theorem Rep.repD {H : Hp} : ∀ {p : Pg} {v : V}, Rep H p v → RepD H p.toD v
  | .name _, _, ⟨a, e, q⟩ => ⟨a, _, e, q, _, _, rfl, rfl, _, _, rfl, rfl, rfl⟩
  | .whole _, _, ⟨a, e, q⟩ => ⟨a, _, e, q, _, _, rfl, rfl, _, _, rfl, rfl, rfl⟩
  | .node _ _, _, ⟨a, vs, e, q, r⟩ => ⟨a, _, e, q, _, _, rfl, rfl, RepL.repDL r⟩
theorem RepL.repDL {H : Hp} : ∀ {ps : List Pg} {vs : List V}, RepL H ps vs → RepDL H (toDL ps) vs
  | [], _, e => e
  | _ :: _, _, ⟨v, r, e, q, t⟩ => ⟨v, r, e, Rep.repD q, RepL.repDL t⟩
end
mutual
theorem Pg.toD_sz : ∀ p : Pg, p.toD.sz ≤ 3 * p.sz
  | .name _ => by simp [Pg.toD, D.sz, dszL, Pg.sz]
  | .whole _ => by simp [Pg.toD, D.sz, dszL, Pg.sz]
  | .node _ xs => by
    have h := toDL_sz xs
    simp only [Pg.toD, D.sz, dszL, Pg.sz]; omega
theorem toDL_sz : ∀ xs : List Pg, dszL (toDL xs) ≤ 3 * szL xs
  | [] => by simp [toDL, dszL, szL]
  | x :: r => by
    have h1 := Pg.toD_sz x
    have h2 := toDL_sz r
    simp only [toDL, dszL, szL]; omega
end
theorem toDL_len : ∀ xs : List Pg, (toDL xs).length = xs.length
  | [] => rfl
  | _ :: r => by simp [toDL, toDL_len r]
/-! ### what makes data while the heap only grows -/
structure DE (σ : St) (H : Hp) (t : TE) (d : D) : Prop where
  run : ∀ (H1 : Hp) (Q : VK), Same H H1 → (∀ v H2, Same H1 H2 → RepD H2 d v → Q v H2) → t σ H1 Q
structure DA (σ : St) (H : Hp) (t : TA) (ds : List D) : Prop where
  run : ∀ (H1 : Hp) (Q : List V → Hp → Prop), Same H H1 → (∀ vs H2, Same H1 H2 → RepDL H2 ds vs → Q vs H2) → t σ H1 Q
section
variable {σ : St} {H : Hp} {K : PySem.W.Frag}
theorem DE.c {v : V} {d : D} (h : ∀ H1, RepD H1 d v) : DE σ H (tC v) d := ⟨fun H1 Q _ q => q v H1 (Same.refl _) (h H1)⟩
theorem DE.non : DE σ H (tC .non) .non := DE.c fun _ => rfl
theorem DE.bl {b : Bool} : DE σ H (tC (.bl b)) (.bl b) := DE.c fun _ => rfl
theorem DE.int {i : Int} : DE σ H (tC (.int i)) (.int i) := DE.c fun _ => rfl
theorem DE.str {x : Str} : DE σ H (tC (.str x)) (.str x) := DE.c fun _ => rfl
theorem DE.neg {i : Int} : DE σ H (tUn (rU fun i => .int (-i)) (tC (.int i))) (.int (-i)) := ⟨fun H1 Q _ q => ⟨i, rfl, q _ H1 (Same.refl _) rfl⟩⟩
theorem DE.v {i : Nat} {v : V} {d : D} (e : σ[i]? = some (some v)) (h : RepD H d v) : DE σ H (tVar i) d := ⟨fun H1 Q s q => ⟨v, e, q v H1 (Same.refl _) (h.mono (Keep.of s))⟩⟩
theorem DA.nil : DA σ H tNil [] := ⟨fun H1 Q _ q => q [] H1 (Same.refl _) rfl⟩
theorem DA.cons {te : TE} {t : TA} {d : D} {ds : List D} (h1 : DE σ H te d) (h2 : DA σ H t ds) : DA σ H (tCons te t) (d :: ds) := ⟨fun H1 Q s q =>
  h1.run H1 _ s fun v H2 s2 r => h2.run H2 _ (s.trans s2) fun vs H3 s3 r3 => q (v :: vs) H3 (s2.trans s3) ⟨v, vs, rfl, r.mono (Keep.of s3), r3⟩⟩
theorem DE.tup {t : TA} {ds : List D} (h : DA σ H t ds) (hl : ds.length ≤ 1000) : DE σ H (tTup t) (.tup ds) := ⟨fun H1 Q s q =>
  h.run H1 _ s fun vs H2 s2 r => ⟨Nat.le_of_lt (small (by rw [r.len]; omega)), fun p hp => q (.ref p) _ (s2.trans (same_new hp _)) ⟨p, vs, rfl, upd_same, r.mono (Keep.of (same_new hp _))⟩⟩⟩
theorem nf_of {H : Hp} {ds : List D} {vs : List V} (r : RepDL H ds vs) (h : ∀ x y, ds ≠ [.int x, .int y]) (h8 : ds.length < 8) : nf vs := by
  refine ⟨?_, by rw [r.len]; exact h8⟩
  intro x y e
  subst e
  match ds, r with
  | [a, b], ⟨_, _, e1, q1, _, _, e2, q2, e3⟩ =>
    cases e1
    cases e2
    cases a with
    | int i =>
      cases b with
      | int j => exact h i j rfl
      | tup xs => obtain ⟨_, _, z, _⟩ := q2; cases z
      | lst xs => obtain ⟨_, _, z, _⟩ := q2; cases z
      | _ => cases q2
    | tup xs => obtain ⟨_, _, z, _⟩ := q1; cases z
    | lst xs => obtain ⟨_, _, z, _⟩ := q1; cases z
    | _ => cases q1
  | [], r => cases (show _ = [] from r)
  | [a], ⟨_, _, e1, _, e2⟩ => cases e1; cases (show _ = [] from e2)
  | a :: b :: c :: ds, ⟨_, _, e1, q1, _, _, e2, q2, _, _, e3, _⟩ => cases e1; cases e2; cases e3
theorem DE.lst {t : TA} {ds : List D} (h : DA σ H t ds) (hl : ds.length < 8) (hn : ∀ x y, ds ≠ [.int x, .int y]) : DE σ H (tLst t) (.lst ds) := ⟨fun H1 Q s q =>
  h.run H1 _ s fun vs H2 s2 r => ⟨Nat.le_of_lt (small (by rw [r.len]; omega)), fun p hp => q (.ref p) _ (s2.trans (same_new hp _)) ⟨p, vs, rfl, upd_same, nf_of r hn hl, r.mono (Keep.of (same_new hp _))⟩⟩⟩
/-- list(t) -/
theorem DE.listOf {te : TE} {ds : List D} (h : DE σ H te (.tup ds)) (hn : ∀ x y, ds ≠ [.int x, .int y]) (h8 : ds.length < 8) :
    DE σ H (tCB (fun xs H Q => ∃ p ys, xs = [.ref p] ∧ (SqL K H p ys ∨ SqT K H p ys) ∧ ∀ l, H l = none → Q (.ref l) (upd H l (.lst ys))) (tCons te tNil)) (.lst ds) := ⟨fun H1 Q s q =>
  h.run H1 _ s fun v H2 s2 r => by
    obtain ⟨a, vs, rfl, e, rr⟩ := r
    exact ⟨a, vs, rfl, .inr (SqT.of e), fun p hp => q (.ref p) _ (s2.trans (same_new hp _)) ⟨p, vs, rfl, upd_same, nf_of rr hn h8, rr.mono (Keep.of (same_new hp _))⟩⟩⟩
/-- t[1:] -/
theorem DE.cut1 {te : TE} {d : D} {ds : List D} (h : DE σ H te (.tup (d :: ds))) : DE σ H (tSl (rSlT K) te (tPart (tC (.int 1))) tNoPart) (.tup ds) := ⟨fun H1 Q s q =>
  h.run H1 _ s fun v H2 s2 r => by
    obtain ⟨a, vs, rfl, e, v1, vr, rfl, r1, r2⟩ := r
    refine ⟨1, rfl, a, _, rfl, SqT.of e, cut1_ne _ _ _, fun p hp => q (.ref p) _ (s2.trans (same_new hp _)) ⟨p, vr, rfl, by rw [upd_same, KB.cut1], r2.mono (Keep.of (same_new hp _))⟩⟩⟩
/-- t[:-1] -/
theorem DE.cutL {te : TE} {d : D} {ds : List D} (h : DE σ H te (.tup (ds ++ [d]))) : DE σ H (tSl (rSlT K) te tNoPart (tPart (tUn (rU fun i => .int (-i)) (tC (.int 1))))) (.tup ds) := ⟨fun H1 Q s q =>
  h.run H1 _ s fun v H2 s2 r => by
    obtain ⟨a, vs, rfl, e, rr⟩ := r
    have hne : vs ≠ [] := by
      intro z
      have := rr.len
      rw [z, List.length_append] at this
      simp at this
    obtain ⟨qs, q', us, u, e1, rfl, h1, h2⟩ := rr.last hne
    obtain ⟨rfl, _⟩ := List.append_inj' e1 rfl
    refine ⟨1, rfl, -1, rfl, a, _, rfl, SqT.of e, ?_, fun p hp => q (.ref p) _ (s2.trans (same_new hp _)) ⟨p, us, rfl, by rw [upd_same, cutLast], h1.mono (Keep.of (same_new hp _))⟩⟩
    rintro ⟨_, z⟩
    have z' : HT.sIx (us ++ [u]).length (us ++ [u]).length (some (-1)) = (us ++ [u]).length := z
    unfold HT.sIx at z'
    simp at z'
    try omega⟩
/-- t + u, t with things -/
theorem DE.cat {ta tb : TE} {xs ys : List D} (h1 : DE σ H ta (.tup xs)) (h2 : DE σ H tb (.tup ys)) (hx : xs ≠ []) (hl : xs.length + ys.length ≤ 1000) : DE σ H (tOp (rCatT K) ta tb) (.tup (xs ++ ys)) := ⟨fun H1 Q s q =>
  h1.run H1 _ s fun v H2 s2 r => h2.run H2 _ (s.trans s2) fun u H3 s3 r3 => by
    obtain ⟨a, vs, rfl, e, rr⟩ := r
    obtain ⟨b, us, rfl, e', rr'⟩ := r3
    have l1 := rr.len
    have l2 := rr'.len
    have rr3 := rr.mono (Keep.of s3)
    refine ⟨a, b, vs, us, rfl, rfl, SqT.of (s3 _ _ e), SqT.of e', ?_, Nat.le_of_lt (small (by omega)), fun z => ?_, fun z p hp => ?_⟩
    · intro z; rw [z] at l1; exact hx (List.length_eq_zero_iff.mp l1.symm)
    · subst z
      have hy : ys = [] := List.length_eq_zero_iff.mp l2.symm
      subst hy
      exact q (.ref a) H3 (s2.trans s3) (by rw [List.append_nil]; exact ⟨a, vs, rfl, s3 _ _ e, rr3⟩)
    · exact q (.ref p) _ ((s2.trans s3).trans (same_new hp _)) ⟨p, vs ++ us, rfl, upd_same, (rr3.append rr').mono (Keep.of (same_new hp _))⟩⟩
/-- x = [..] -/
theorem seq_lst {ts : TA} {ds : List D} {i : Nat} {u : TS} {D0 : Ends} (h : DA σ H ts ds) (hl : ds.length ≤ 1000) (q : ∀ vs l H1, Same H H1 → H1 l = none → RepDL H1 ds vs → u D0 (σ.set i (some (.ref l))) (upd H1 l (.lst vs))) : tSeq (tAsg (tLst ts) (gName i)) u D0 σ H :=
  h.run H _ (Same.refl _) fun vs H1 s1 r => ⟨Nat.le_of_lt (small (by rw [r.len]; omega)), fun l hp => q vs l H1 s1 hp r⟩
/-- x = y + [..] -/
theorem seq_cat {ts : TA} {ds es : List D} {i j : Nat} {u : TS} {D0 : Ends} {H0 : Hp} {l : Addr} {vs : List V} (hv : σ[j]? = some (some (.ref l))) (hL : H l = some (.lst vs)) (hR : RepDL H es vs) (s : Same H0 H) (h : DA σ H0 ts ds) (hl : es.length + ds.length ≤ 1000)
    (q : ∀ us l' H1, Same H H1 → H1 l' = none → RepDL H1 (es ++ ds) us → u D0 (σ.set i (some (.ref l'))) (upd H1 l' (.lst us))) : tSeq (tAsg (tOp rCat (tVar j) (tLst ts)) (gName i)) u D0 σ H :=
  ⟨_, hv, h.run H _ s fun us H1 s1 r => ⟨Nat.le_of_lt (small (by rw [r.len]; omega)), fun b hb => ⟨l, b, vs, us, rfl, rfl, (same_new hb _) _ _ (s1 _ _ hL), upd_same, Nat.le_of_lt (small (by rw [r.len, hR.len]; omega)),
    fun p hp => q _ p _ (s1.trans (same_new hb _)) hp ((hR.mono (Keep.of (s1.trans (same_new hb _)))).append (r.mono (Keep.of (same_new hb _))))⟩⟩⟩
end
end KB
/-! PROGRAMS THAT ARE IN ORDER (own work): arities, depth; what the drawing defs promise. -/
namespace KB
open PySem L2
def Wd.ar : Wd → Nat
  | .way => 1 | .give => 2 | .pair => 2 | .first => 1 | .second => 1 | .plus => 2 | .look => 3
mutual
def Pg.ok : Pg → Prop
  | .name k => 0 ≤ k
  | .whole _ => True
  | .node w xs => xs.length = w.ar ∧ okL xs
def okL : List Pg → Prop
  | [] => True
  | x :: r => x.ok ∧ okL r
end
mutual
def Pg.dp : Pg → Nat
  | .node _ xs => 1 + dpL xs
  | _ => 0
def dpL : List Pg → Nat
  | [] => 0
  | x :: r => max x.dp (dpL r)
end
theorem okL_mem : ∀ {xs : List Pg} {x : Pg}, okL xs → x ∈ xs → x.ok
  | _ :: _, _, h, m => by
    rcases List.mem_cons.mp m with e | m
    · rw [e]; exact h.1
    · exact okL_mem h.2 m
theorem dpL_mem : ∀ {xs : List Pg} {x : Pg}, x ∈ xs → x.dp ≤ dpL xs
  | y :: ys, x, h => by
    rcases List.mem_cons.mp h with e | h
    · rw [e, dpL]; omega
    · have := dpL_mem h
      rw [dpL]; omega
theorem dpL_append : ∀ xs ys : List Pg, dpL (xs ++ ys) = max (dpL xs) (dpL ys)
  | [], ys => by simp [dpL]
  | x :: xs, ys => by rw [List.cons_append, dpL, dpL, dpL_append xs ys]; omega
theorem szL_mem : ∀ {xs : List Pg} {x : Pg}, x ∈ xs → x.sz ≤ szL xs
  | y :: ys, x, h => by
    rcases List.mem_cons.mp h with e | h
    · rw [e, szL]; omega
    · have := szL_mem h
      rw [szL]; omega
/-- a program of at most so many parts, so deep -/
structure Fit (p : Pg) (z : Int) (d : Int) : Prop where
  ok : p.ok
  sz : (p.sz : Int) ≤ z
  dp : (p.dp : Int) ≤ d
theorem at2p {i : Int} (n : Nat) (u v : Wd) (hu : u.ar = n) (hv : v.ar = n) (h0 : 0 ≤ i) (h1 : i < 2) : ∃ w : Wd, w.ar = n ∧ atI [V.str u.str, V.str v.str] i = some (.str w.str) := by
  rcases (by omega : i = 0 ∨ i = 1) with z | z
  · subst z; exact ⟨u, hu, rfl⟩
  · subst z; exact ⟨v, hv, rfl⟩
theorem at5p {i : Int} (n : Nat) (a b c d e : Wd) (ha : a.ar = n) (hb : b.ar = n) (hc : c.ar = n) (hd : d.ar = n) (he : e.ar = n) (h0 : 0 ≤ i) (h1 : i < 5) : ∃ x : Wd, x.ar = n ∧ atI [V.str a.str, V.str b.str, V.str c.str, V.str d.str, V.str e.str] i = some (.str x.str) := by
  rcases (by omega : i = 0 ∨ i = 1 ∨ i = 2 ∨ i = 3 ∨ i = 4) with z | z | z | z | z
  · subst z; exact ⟨a, ha, rfl⟩
  · subst z; exact ⟨b, hb, rfl⟩
  · subst z; exact ⟨c, hc, rfl⟩
  · subst z; exact ⟨d, hd, rfl⟩
  · subst z; exact ⟨e, he, rfl⟩
def spTake : Sp := fun vs H Q _ => ∃ a m, vs = [.ref a, .int m] ∧ Feed H a ∧ 0 < m ∧ m < 2 ^ 62 ∧ ∀ d x y, 0 ≤ d → d < m → Q (.int d) (upd H a (.lst [.int x, .int y]))
def spFeed (K : PySem.W.Frag) : Sp := fun vs H Q _ => ∃ (a : Addr) (ns : List Int) (k : Int), vs = [.ref a, .int k] ∧ SqL K H a (ns.map V.int) ∧ ns.length ≤ 63 ∧ 0 ≤ k ∧ k < 2 ^ 32 ∧ ∀ r x y, H r = none → Q (.ref r) (upd H r (.lst [.int x, .int y]))
def spWhole : Sp := fun vs H Q _ => ∃ a, vs = [.ref a] ∧ Feed H a ∧ ∀ r n H', But a H H' → Feed H' a → Rep H' (.whole n) r → Q r H'
def spWild (n : Nat) : Sp := fun vs H Q _ => ∃ a many room deep, vs = [.ref a, .int many, .int room, .int deep] ∧ Feed H a ∧ 0 ≤ many ∧ many + deep < 2 ^ 32 ∧ room < 1000 ∧ 0 ≤ deep ∧ deep < n ∧
  ∀ r p H', But a H H' → Feed H' a → Rep H' p r → Fit p (3 * max room 0 + 1) deep → Q r H'
end KB
namespace KB
open PySem L2
/-- a row parted at a place -/
theorem RepL.split {H : Hp} : ∀ {xs : List Pg} {vs : List V} {j : Nat}, RepL H xs vs → j < vs.length → ∃ as p bs us u ws, xs = as ++ p :: bs ∧ vs = us ++ u :: ws ∧ us.length = j ∧ RepL H as us ∧ Rep H p u ∧ RepL H bs ws
  | [], vs, _, e, h => by rw [show vs = [] from e] at h; cases h
  | x :: xs, _, 0, ⟨v, r, e, q, t⟩, _ => ⟨[], x, xs, [], v, r, rfl, e, rfl, rfl, q, t⟩
  | x :: xs, _, j + 1, ⟨v, r, e, q, t⟩, h => by
    rw [e, List.length_cons] at h
    obtain ⟨as, p, bs, us, u, ws, e1, e2, e3, h1, h2, h3⟩ := RepL.split (j := j) t (by omega)
    exact ⟨x :: as, p, bs, v :: us, u, ws, by rw [e1]; rfl, by rw [e, e2]; rfl, by rw [List.length_cons, e3], ⟨v, us, rfl, q, h1⟩, h2, h3⟩
theorem cutTo {xs : List V} {k : Nat} (h : k ≤ xs.length) : cutV xs none (some (k : Int)) = xs.take k := by
  unfold cutV
  rw [HT.sIx_none, HT.sIx_nat, List.drop_zero, Nat.sub_zero, Nat.min_eq_left h]
theorem cutTo_ne {xs : List V} {k : Nat} (h : k < xs.length) : ¬ (HT.sIx xs.length 0 none = 0 ∧ HT.sIx xs.length xs.length (some (k : Int)) = xs.length) := by
  rw [HT.sIx_nat, Nat.min_eq_left (Nat.le_of_lt h)]
  omega
theorem cutFrom {xs : List V} {k : Nat} (h : k ≤ xs.length) : cutV xs (some (k : Int)) none = xs.drop k := by
  unfold cutV
  rw [HT.sIx_none, HT.sIx_nat, Nat.min_eq_left h, List.take_of_length_le (by rw [List.length_drop]; omega)]
theorem cutFrom_ne {xs : List V} {k d : Nat} (h0 : 0 < k) (h1 : 0 < xs.length) : ¬ (HT.sIx xs.length 0 (some (k : Int)) = 0 ∧ HT.sIx xs.length xs.length none = d) := by
  rw [HT.sIx_nat]
  omega
end KB
/-! == AND != OF DATA (own work). -/
namespace KB
open PySem L2
mutual
theorem eqD {X : Cx} {pins : List (Addr × Obj)} {σ : St} {H : Hp} {s : Shared} (I : Inv X pins σ H s) : ∀ (d : D) (A : Around) (x y : V) (u v : Value), RepD H d x → RepD H d y → RelV x u → RelV y v → A.units + d.dp < cLine → SeqAt.EqAt A s u v true
  | .non, A, x, y, u, v, e, e', ru, rv, _ => by
    rw [show x = V.non from e] at ru
    rw [show y = V.non from e'] at rv
    exact eqAt_same ru rv rfl
  | .bl b, A, x, y, u, v, e, e', ru, rv, _ => by
    rw [show x = V.bl b from e] at ru
    rw [show y = V.bl b from e'] at rv
    exact eqAt_same ru rv rfl
  | .int b, A, x, y, u, v, e, e', ru, rv, _ => by
    rw [show x = V.int b from e] at ru
    rw [show y = V.int b from e'] at rv
    exact eqAt_same ru rv rfl
  | .str b, A, x, y, u, v, e, e', ru, rv, _ => by
    rw [show x = V.str b from e] at ru
    rw [show y = V.str b from e'] at rv
    exact eqAt_same ru rv rfl
  | .tup ds, A, x, y, u, v, ⟨a, vs, e, h, r⟩, ⟨b, us, e', h', r'⟩, ru, rv, hu => by
    subst e e'
    cases ru; cases rv
    by_cases hab : a = b
    · subst hab; exact SeqAt.EqAt.same _
    · obtain ⟨its, rr, t1, _⟩ := I.tuple (SqT.of h)
      obtain ⟨its2, rr2, t2, _⟩ := I.tuple (SqT.of h')
      have l1 := rr.length
      have l2 := rr2.length
      have l3 := r.len
      have l4 := r'.len
      simp only [D.dp] at hu
      have z := SeqAt.RcAt.tuples (A := A) (e := fun _ => true) t1 t2 (by omega) (fun j h1 h2 => by
        have q := eqDL I ds A.in1 vs us its its2 r r' rr rr2 (by show A.units + 1 + ddpL ds < cLine; omega) j (by simpa using h1) (by simpa using h2)
        simpa using q)
      have ez : ((List.range (min its.toArray.size its2.toArray.size)).all (fun _ => true) && its.toArray.size == its2.toArray.size) = true := by
        rw [List.size_toArray, List.size_toArray, show its.length = its2.length by omega]; simp
      rw [ez] at z
      exact SeqAt.EqAt.of_refs hab z
  | .lst ds, A, x, y, u, v, ⟨a, vs, e, h, _, r⟩, ⟨b, us, e', h', _, r'⟩, ru, rv, hu => by
    subst e e'
    cases ru; cases rv
    by_cases hab : a = b
    · subst hab; exact SeqAt.EqAt.same _
    · obtain ⟨its, rr, t1, _⟩ := I.list (SqL.of h)
      obtain ⟨its2, rr2, t2, _⟩ := I.list (SqL.of h')
      have l1 := rr.length
      have l2 := rr2.length
      have l3 := r.len
      have l4 := r'.len
      simp only [D.dp] at hu
      have z := SeqAt.RcAt.lists (A := A) (e := fun _ => true) t1.isList t2.isList (by rw [List.size_toArray, List.size_toArray]; omega) (by omega) (fun j h1 h2 => by
        have q := eqDL I ds A.in1 vs us its its2 r r' rr rr2 (by show A.units + 1 + ddpL ds < cLine; omega) j (by simpa using h1) (by simpa using h2)
        simpa using q)
      have ez : (List.range its.toArray.size).all (fun _ => true) = true := by simp
      rw [ez] at z
      exact SeqAt.EqAt.of_refs hab z
theorem eqDL {X : Cx} {pins : List (Addr × Obj)} {σ : St} {H : Hp} {s : Shared} (I : Inv X pins σ H s) : ∀ (ds : List D) (A : Around) (vs us : List V) (its its2 : List Value), RepDL H ds vs → RepDL H ds us → Vals vs its → Vals us its2 → A.units + ddpL ds < cLine →
    ∀ j (h1 : j < its.length) (h2 : j < its2.length), SeqAt.EqAt A s its[j] its2[j] true
  | [], A, vs, us, its, its2, e, e', rr, rr2, _, j, h1, h2 => by
    rw [show vs = [] from e] at rr
    cases rr
    exact absurd h1 (by simp)
  | d :: ds, A, vs, us, its, its2, ⟨v, r, e, q, t⟩, ⟨v', r', e', q', t'⟩, rr, rr2, hu, j, h1, h2 => by
    subst e e'
    cases rr with
    | cons r1 rt =>
      cases rr2 with
      | cons r2 rt2 =>
        simp only [ddpL] at hu
        cases j with
        | zero => exact eqD I d A _ _ _ _ q q' r1 r2 (by omega)
        | succ j =>
          have z := eqDL I ds A _ _ _ _ t t' rt rt2 (by omega) j (by simpa using h1) (by simpa using h2)
          simpa using z
end
/-- the same data on both sides: tuples, lists (of any data but the lists that the layer names) -/
def rSameT (b : Bool) : R2 := fun x y H Q => ∃ d, RepD H (.tup d) x ∧ RepD H (.tup d) y ∧ ddpL d ≤ 150 ∧ Q (.bl b) H
/-- two lists of the same data, whatever their length -/
def rSameL (b : Bool) : R2 := fun x y H Q => ∃ p q vs us ds, x = .ref p ∧ y = .ref q ∧ H p = some (.lst vs) ∧ H q = some (.lst us) ∧ RepDL H ds vs ∧ RepDL H ds us ∧ ddpL ds ≤ 150 ∧ Q (.bl b) H
section
variable {X : Cx}
theorem op_eqT (hu : X.A.units + 200 < cLine) : OpR X (compareOp .Eq) (rSameT true) := by
  intro pins s σ H x y v u Q I rx ry h
  obtain ⟨ds, ⟨a, vs, rfl, hA, r⟩, ⟨b, us, rfl, hB, r'⟩, hd, hQ⟩ := h
  cases rx; cases ry
  obtain ⟨its, rr, t1, _⟩ := I.tuple (SqT.of hA)
  obtain ⟨its2, rr2, t2, _⟩ := I.tuple (SqT.of hB)
  have l1 := rr.length
  have l2 := rr2.length
  have l3 := r.len
  have l4 := r'.len
  refine SeqAt.RcAt.tuples (e := fun _ => true) t1 t2 (by omega) (fun j h1 h2 => ?_) X.prog X.w X.xe _ ?_
  · have q := eqDL I ds X.A.in1 vs us its its2 r r' rr rr2 (by show X.A.units + 1 + ddpL ds < cLine; omega) j (by simpa using h1) (by simpa using h2)
    simpa using q
  · refine ⟨.bl true, H, I, ?_, hQ⟩
    show Value.bool _ = Value.bool true
    rw [List.size_toArray, List.size_toArray, show its.length = its2.length by omega]; simp
theorem op_neT (hu : X.A.units + 200 < cLine) : OpR X (compareOp .NotEq) (rSameT false) := by
  intro pins s σ H x y v u Q I rx ry h
  obtain ⟨ds, ⟨a, vs, rfl, hA, r⟩, ⟨b, us, rfl, hB, r'⟩, hd, hQ⟩ := h
  cases rx; cases ry
  obtain ⟨its, rr, t1, _⟩ := I.tuple (SqT.of hA)
  obtain ⟨its2, rr2, t2, _⟩ := I.tuple (SqT.of hB)
  have l1 := rr.length
  have l2 := rr2.length
  have l3 := r.len
  have l4 := r'.len
  refine SeqAt.RcNeAt.tuples (e := fun _ => true) t1 t2 (by omega) (fun j h1 h2 => ?_) X.prog X.w X.xe _ ?_
  · have q := eqDL I ds X.A.in1 vs us its its2 r r' rr rr2 (by show X.A.units + 1 + ddpL ds < cLine; omega) j (by simpa using h1) (by simpa using h2)
    simpa using q
  · refine ⟨.bl false, H, I, ?_, hQ⟩
    show Value.bool _ = Value.bool false
    rw [List.size_toArray, List.size_toArray, show its.length = its2.length by omega]; simp
theorem op_eqL (hu : X.A.units + 200 < cLine) : OpR X (compareOp .Eq) (rSameL true) := by
  intro pins s σ H x y v u Q I rx ry h
  obtain ⟨a, b, vs, us, ds, rfl, rfl, hA, hB, r, r', hd, hQ⟩ := h
  cases rx; cases ry
  obtain ⟨its, rr, t1, _⟩ := I.list (SqL.of hA)
  obtain ⟨its2, rr2, t2, _⟩ := I.list (SqL.of hB)
  have l1 := rr.length
  have l2 := rr2.length
  have l3 := r.len
  have l4 := r'.len
  refine SeqAt.RcAt.lists (e := fun _ => true) t1.isList t2.isList (by rw [List.size_toArray, List.size_toArray]; omega) (by omega) (fun j h1 h2 => ?_) X.prog X.w X.xe _ ?_
  · have q := eqDL I ds X.A.in1 vs us its its2 r r' rr rr2 (by show X.A.units + 1 + ddpL ds < cLine; omega) j (by simpa using h1) (by simpa using h2)
    simpa using q
  · refine ⟨.bl true, H, I, ?_, hQ⟩
    show Value.bool _ = Value.bool true
    simp
theorem op_neL (hu : X.A.units + 200 < cLine) : OpR X (compareOp .NotEq) (rSameL false) := by
  intro pins s σ H x y v u Q I rx ry h
  obtain ⟨a, b, vs, us, ds, rfl, rfl, hA, hB, r, r', hd, hQ⟩ := h
  cases rx; cases ry
  obtain ⟨its, rr, t1, _⟩ := I.list (SqL.of hA)
  obtain ⟨its2, rr2, t2, _⟩ := I.list (SqL.of hB)
  have l1 := rr.length
  have l2 := rr2.length
  have l3 := r.len
  have l4 := r'.len
  refine SeqAt.RcNeAt.lists (e := fun _ => true) t1.isList t2.isList (by rw [List.size_toArray, List.size_toArray]; omega) (by omega) (fun j h1 h2 => ?_) X.prog X.w X.xe _ ?_
  · have q := eqDL I ds X.A.in1 vs us its its2 r r' rr rr2 (by show X.A.units + 1 + ddpL ds < cLine; omega) j (by simpa using h1) (by simpa using h2)
    simpa using q
  · refine ⟨.bl false, H, I, ?_, hQ⟩
    show Value.bool _ = Value.bool false
    simp
end
/-! ### tuples of ints: told apart -/
theorem all_ints : ∀ (ns ms : List Int), ((List.range (min ns.length ms.length)).all (fun j => ns.getD j 0 == ms.getD j 0) && ns.length == ms.length) = decide (ns = ms)
  | [], [] => by simp
  | [], m :: ms => by simp
  | n :: ns, [] => by simp
  | n :: ns, m :: ms => by
    have ih := all_ints ns ms
    have e1 : min (n :: ns).length (m :: ms).length = min ns.length ms.length + 1 := by rw [List.length_cons, List.length_cons]; omega
    rw [e1, List.range_succ_eq_map, List.all_cons, List.all_map]
    have e2 : ((fun j => (n :: ns).getD j 0 == (m :: ms).getD j 0) ∘ Nat.succ) = fun j => ns.getD j 0 == ms.getD j 0 := by
      funext j; simp
    rw [e2]
    have e3 : ((n :: ns).length == (m :: ms).length) = (ns.length == ms.length) := by simp
    rw [e3, Bool.and_assoc, ih]
    rw [Bool.eq_iff_iff]
    simp
def rInts (neg : Bool) (K : PySem.W.Frag) : R2 := fun x y H Q => ∃ (p q : Addr) (ns ms : List Int), x = .ref p ∧ y = .ref q ∧ SqT K H p (ns.map V.int) ∧ SqT K H q (ms.map V.int) ∧ Q (.bl (if neg then !decide (ns = ms) else decide (ns = ms))) H
theorem eq_item {A : Around} {s : Shared} {ns ms : List Int} {its its2 : List Value} (r : Vals (ns.map V.int) its) (r2 : Vals (ms.map V.int) its2) (j : Nat) (h1 : j < its.length) (h2 : j < its2.length) : SeqAt.EqAt A s its[j] its2[j] (ns.getD j 0 == ms.getD j 0) := by
  have l1 := r.length
  have l2 := r2.length
  rw [List.length_map] at l1 l2
  have j1 : j < ns.length := by omega
  have j2 : j < ms.length := by omega
  obtain ⟨u1, e1, q1⟩ := r.get (i := j) (x := .int ns[j]) (by rw [List.getElem?_map, List.getElem?_eq_getElem j1]; rfl)
  obtain ⟨u2, e2, q2⟩ := r2.get (i := j) (x := .int ms[j]) (by rw [List.getElem?_map, List.getElem?_eq_getElem j2]; rfl)
  obtain ⟨_, z1⟩ := List.getElem?_eq_some_iff.mp e1
  obtain ⟨_, z2⟩ := List.getElem?_eq_some_iff.mp e2
  rw [z1, z2]
  have z := eqAt_V (A := A) (s := s) q1 q2 rfl rfl
  have e : eqV (.int ns[j]) (.int ms[j]) = (ns.getD j 0 == ms.getD j 0) := by
    simp [eqV, List.getD, j1, j2]
  rwa [e] at z
section
variable {X : Cx}
theorem op_neInts (hu : X.A.units < cLine) : OpR X (compareOp .NotEq) (rInts true X.K) := by
  intro pins s σ H x y v u Q I rx ry h
  obtain ⟨p, q, ns, ms, rfl, rfl, hp, hq, hQ⟩ := h
  cases rx; cases ry
  obtain ⟨its, r, t1, _⟩ := I.tuple hp
  obtain ⟨its2, r2, t2, _⟩ := I.tuple hq
  refine SeqAt.RcNeAt.tuples (e := fun j => ns.getD j 0 == ms.getD j 0) t1 t2 hu (fun j h1 h2 => ?_) X.prog X.w X.xe _ ?_
  · have z := eq_item (A := X.A.in1) (s := s) r r2 j (by simpa using h1) (by simpa using h2)
    simpa using z
  · refine ⟨_, H, I, ?_, hQ⟩
    have l1 := r.length
    have l2 := r2.length
    rw [List.length_map] at l1 l2
    show Value.bool _ = Value.bool (!decide (ns = ms))
    rw [List.size_toArray, List.size_toArray, ← l1, ← l2, all_ints]
end
end KB
/-! PLACES (own work): what stands there, all of them, another one put there; rows of anything on the heap. -/
namespace KB
open PySem L2
/-! ### the maths -/
def Pg.at : Pg → List Int → Option Pg
  | p, [] => some p
  | p, k :: ks => if 0 ≤ k then (match p.inn[k.toNat]? with | some q => Pg.at q ks | none => none) else none
mutual
def allP : Pg → List Int → List (List Int × Pg)
  | .node w xs, pre => (pre, .node w xs) :: allL xs pre 0
  | .name k, pre => [(pre, .name k)]
  | .whole n, pre => [(pre, .whole n)]
def allL : List Pg → List Int → Nat → List (List Int × Pg)
  | [], _, _ => []
  | x :: r, pre, k => allP x (pre ++ [(k : Int)]) ++ allL r pre (k + 1)
end
theorem allP_inn (p : Pg) (pre : List Int) : allP p pre = (pre, p) :: allL p.inn pre 0 := by cases p <;> simp [allP, Pg.inn, allL]
mutual
theorem allP_len : ∀ (p : Pg) (pre : List Int), (allP p pre).length = p.sz
  | .name _, _ => rfl
  | .whole _, _ => rfl
  | .node _ xs, pre => by rw [allP, List.length_cons, allL_len xs pre 0, Pg.sz]; omega
theorem allL_len : ∀ (xs : List Pg) (pre : List Int) (k : Nat), (allL xs pre k).length = szL xs
  | [], _, _ => rfl
  | x :: r, pre, k => by rw [allL, List.length_append, allP_len x, allL_len r, szL]
end
theorem allL_append : ∀ (xs ys : List Pg) (pre : List Int) (k : Nat), allL (xs ++ ys) pre k = allL xs pre k ++ allL ys pre (k + xs.length)
  | [], ys, pre, k => by simp [allL]
  | x :: xs, ys, pre, k => by
    rw [List.cons_append, allL, allL, allL_append xs ys, List.append_assoc, List.length_cons, show k + 1 + xs.length = k + (xs.length + 1) by omega]
theorem allL_snoc {xs : List Pg} {x : Pg} {i : Nat} (pre : List Int) (h : xs[i]? = some x) : allL (xs.take (i + 1)) pre 0 = allL (xs.take i) pre 0 ++ allP x (pre ++ [(i : Int)]) := by
  have hi := (List.getElem?_eq_some_iff.mp h).1
  rw [List.take_add_one, h, allL_append]
  have e : 0 + (xs.take i).length = i := by rw [List.length_take]; omega
  rw [e]
  simp [allL]
theorem szL_take (xs : List Pg) (i : Nat) : szL (xs.take i) ≤ szL xs := by
  have h := szL_append (xs.take i) (xs.drop i)
  rw [List.take_append_drop] at h
  omega
theorem fresh_of {H H' : Hp} {p : Addr} (s : Same H H') (h : H' p = none) : H p = none := by
  cases e : H p with
  | none => rfl
  | some o =>
    have z := s _ _ e
    rw [h] at z
    cases z
mutual
/-- what is told of a place stands there -/
theorem allP_at : ∀ (p : Pg) (pre ns : List Int) (q : Pg), (ns, q) ∈ allP p pre → ∃ ms, ns = pre ++ ms ∧ p.at ms = some q
  | .name _, pre, ns, q, h => by
    cases (List.mem_singleton.mp h)
    exact ⟨[], by simp, rfl⟩
  | .whole _, pre, ns, q, h => by
    cases (List.mem_singleton.mp h)
    exact ⟨[], by simp, rfl⟩
  | .node w xs, pre, ns, q, h => by
    rw [allP] at h
    rcases List.mem_cons.mp h with e | h
    · cases e; exact ⟨[], by simp, rfl⟩
    · obtain ⟨j, x, ms, e1, e2, e3⟩ := allL_at xs pre 0 ns q h
      refine ⟨((0 + j : Nat) : Int) :: ms, e2, ?_⟩
      rw [Pg.at, if_pos (by omega)]
      simp only [Pg.inn]
      rw [show (((0 + j : Nat) : Int)).toNat = j by omega, e1]
      exact e3
theorem allL_at : ∀ (xs : List Pg) (pre : List Int) (k : Nat) (ns : List Int) (q : Pg), (ns, q) ∈ allL xs pre k → ∃ j x ms, xs[j]? = some x ∧ ns = pre ++ (((k + j : Nat) : Int) :: ms) ∧ x.at ms = some q
  | [], _, _, _, _, h => by cases h
  | x :: r, pre, k, ns, q, h => by
    rw [allL] at h
    rcases List.mem_append.mp h with h | h
    · obtain ⟨ms, e1, e2⟩ := allP_at x (pre ++ [(k : Int)]) ns q h
      exact ⟨0, x, ms, rfl, by rw [e1, List.append_assoc]; rfl, e2⟩
    · obtain ⟨j, y, ms, e1, e2, e3⟩ := allL_at r pre (k + 1) ns q h
      exact ⟨j + 1, y, ms, by simpa using e1, by rw [e2, show k + 1 + j = k + (j + 1) by omega], e3⟩
end
theorem Pg.at_cons {p : Pg} {k : Int} {ks : List Int} {q : Pg} (h : p.at (k :: ks) = some q) : 0 ≤ k ∧ ∃ x, p.inn[k.toNat]? = some x ∧ x.at ks = some q := by
  rw [Pg.at] at h
  by_cases h0 : 0 ≤ k
  · rw [if_pos h0] at h
    cases e : p.inn[k.toNat]? with
    | none => rw [e] at h; cases h
    | some x => rw [e] at h; exact ⟨h0, x, rfl, h⟩
  · rw [if_neg h0] at h; cases h
theorem Pg.at_go {p : Pg} {k : Int} {ks : List Int} {x : Pg} (h0 : 0 ≤ k) (h : p.inn[k.toNat]? = some x) : p.at (k :: ks) = x.at ks := by
  rw [Pg.at, if_pos h0, h]
theorem Pg.at_append : ∀ (p : Pg) (ns ms : List Int), p.at (ns ++ ms) = (p.at ns).bind fun q => q.at ms
  | p, [], ms => rfl
  | p, k :: ks, ms => by
    rw [List.cons_append, Pg.at, Pg.at]
    by_cases h0 : 0 ≤ k
    · rw [if_pos h0, if_pos h0]
      cases e : p.inn[k.toNat]? with
      | none => rfl
      | some x => exact Pg.at_append x ks ms
    · rw [if_neg h0, if_neg h0]; rfl
theorem Pg.dp_inn {p q : Pg} (h : q ∈ p.inn) : q.dp + 1 ≤ p.dp := by
  cases p with
  | name _ => cases h
  | whole _ => cases h
  | node w xs =>
    have := dpL_mem (show q ∈ xs from h)
    simp only [Pg.dp]; omega
theorem Pg.sz_mem {p q : Pg} (h : q ∈ p.inn) : q.sz + 1 ≤ p.sz := by
  have := szL_mem h
  have := p.sz_inn
  omega
/-- a place is no longer than the program is deep -/
theorem Pg.at_len : ∀ {ns : List Int} {p q : Pg}, p.at ns = some q → ns.length + q.dp ≤ p.dp
  | [], p, q, h => by
    cases (show some p = some q from h)
    simp
  | k :: ks, p, q, h => by
    obtain ⟨_, x, e, h⟩ := Pg.at_cons h
    have := Pg.at_len h
    have := Pg.dp_inn (List.mem_of_getElem? e)
    rw [List.length_cons]; omega
theorem Pg.at_long {ns : List Int} {p : Pg} (h : p.dp < ns.length) : p.at ns = none := by
  cases e : p.at ns with
  | none => rfl
  | some q => have := Pg.at_len e; omega
theorem Pg.at_sz : ∀ {ns : List Int} {p q : Pg}, p.at ns = some q → q.sz ≤ p.sz
  | [], p, q, h => by
    cases (show some p = some q from h)
    exact Nat.le_refl _
  | k :: ks, p, q, h => by
    obtain ⟨_, x, e, h⟩ := Pg.at_cons h
    have := Pg.at_sz h
    have := Pg.sz_mem (List.mem_of_getElem? e)
    omega
theorem Pg.at_over {p : Pg} {k : Int} {ks : List Int} (h : (p.inn.length : Int) ≤ k ∨ k < 0) : p.at (k :: ks) = none := by
  rw [Pg.at]
  by_cases h0 : 0 ≤ k
  · rw [if_pos h0, List.getElem?_eq_none (by omega)]
  · rw [if_neg h0]
mutual
theorem dp_sz : ∀ p : Pg, p.dp ≤ p.sz
  | .name _ => by simp [Pg.dp, Pg.sz]
  | .whole _ => by simp [Pg.dp, Pg.sz]
  | .node _ xs => by
    have := dpL_sz xs
    simp only [Pg.dp, Pg.sz]; omega
theorem dpL_sz : ∀ xs : List Pg, dpL xs ≤ szL xs
  | [] => by simp [dpL, szL]
  | x :: r => by
    have h1 := dp_sz x
    have h2 := dpL_sz r
    simp only [dpL, szL]; omega
end
/-! ### another one put there -/
def Pg.put (p : Pg) (k : Nat) (q : Pg) : Pg :=
  match p with
  | .node w xs => .node w (xs.set k q)
  | p => p
theorem Pg.put_inn (p : Pg) (k : Nat) (q : Pg) : (p.put k q).inn = p.inn.set k q := by cases p <;> simp [Pg.put, Pg.inn]
theorem szL_set : ∀ (xs : List Pg) (k : Nat) (x q : Pg), xs[k]? = some x → szL (xs.set k q) + x.sz = szL xs + q.sz
  | [], _, _, _, h => by cases h
  | y :: ys, 0, x, q, h => by
    cases (show some y = some x from h)
    simp only [List.set_cons_zero, szL]; omega
  | y :: ys, k + 1, x, q, h => by
    have := szL_set ys k x q (by simpa using h)
    simp only [List.set_cons_succ, szL]; omega
theorem Pg.put_sz {p : Pg} {k : Nat} {x : Pg} (q : Pg) (h : p.inn[k]? = some x) : (p.put k q).sz + x.sz = p.sz + q.sz := by
  have h1 := (p.put k q).sz_inn
  have h2 := p.sz_inn
  have h3 := szL_set p.inn k x q h
  rw [Pg.put_inn] at h1
  omega
theorem Pg.put_self {p : Pg} {k : Nat} {x : Pg} (h : p.inn[k]? = some x) : p.put k x = p := by
  cases p with
  | name _ => rfl
  | whole _ => rfl
  | node w xs =>
    show Pg.node w (xs.set k x) = _
    obtain ⟨hk, e⟩ := List.getElem?_eq_some_iff.mp (show xs[k]? = some x from h)
    subst e
    rw [List.set_getElem_self]
theorem Pg.put_put (p : Pg) (k : Nat) (x y : Pg) : (p.put k x).put k y = p.put k y := by
  cases p <;> simp [Pg.put]
def Pg.rpl : Pg → List Int → Pg → Pg
  | _, [], o => o
  | p, k :: ks, o => match p.inn[k.toNat]? with
    | some q => p.put k.toNat (Pg.rpl q ks o)
    | none => p
theorem Pg.rpl_go {p x : Pg} {k : Int} {ks : List Int} {o : Pg} (h : p.inn[k.toNat]? = some x) : p.rpl (k :: ks) o = p.put k.toNat (x.rpl ks o) := by
  rw [Pg.rpl, h]
theorem Pg.rpl_inn {p x : Pg} {k : Int} {ks : List Int} {o : Pg} (h : p.inn[k.toNat]? = some x) : (p.rpl (k :: ks) o).inn[k.toNat]? = some (x.rpl ks o) := by
  rw [Pg.rpl_go h, Pg.put_inn, List.getElem?_set_self (by exact (List.getElem?_eq_some_iff.mp h).1)]
theorem Pg.rpl_at : ∀ {ns : List Int} {p q : Pg} (o : Pg), p.at ns = some q → (p.rpl ns o).at ns = some o
  | [], p, q, o, h => rfl
  | k :: ks, p, q, o, h => by
    obtain ⟨h0, x, e, h⟩ := Pg.at_cons h
    rw [Pg.at_go h0 (Pg.rpl_inn e)]
    exact Pg.rpl_at o h
theorem Pg.rpl_back : ∀ {ns : List Int} {p q : Pg} (o : Pg), p.at ns = some q → (p.rpl ns o).rpl ns q = p
  | [], p, q, o, h => by cases (show some p = some q from h); rfl
  | k :: ks, p, q, o, h => by
    obtain ⟨h0, x, e, h⟩ := Pg.at_cons h
    rw [Pg.rpl_go (Pg.rpl_inn e), Pg.rpl_go e, Pg.put_put, Pg.rpl_back o h, Pg.put_self e]
theorem Pg.rpl_sz : ∀ {ns : List Int} {p q : Pg} (o : Pg), p.at ns = some q → (p.rpl ns o).sz + q.sz = p.sz + o.sz
  | [], p, q, o, h => by cases (show some p = some q from h); simp only [Pg.rpl]; omega
  | k :: ks, p, q, o, h => by
    obtain ⟨h0, x, e, h⟩ := Pg.at_cons h
    have h1 := Pg.rpl_sz o h
    have h2 := Pg.put_sz (x.rpl ks o) e
    rw [Pg.rpl_go e]
    omega
/-- the word of a program -/
def Pg.word : Pg → Str
  | .name _ => "name"
  | .whole _ => "whole"
  | .node w _ => w.str
theorem Pg.put_word (p : Pg) (k : Nat) (q : Pg) : (p.put k q).word = p.word := by cases p <;> rfl
theorem Pg.rpl_word {p x : Pg} {k : Int} {ks : List Int} (o : Pg) : (p.rpl (k :: ks) o).word = p.word := by
  rw [Pg.rpl]
  cases p.inn[k.toNat]? with
  | none => rfl
  | some q => exact Pg.put_word _ _ _
/-- elsewhere all is as it was; around it the words are -/
theorem Pg.rpl_else : ∀ {ns ms : List Int} {p q z : Pg} (o : Pg), p.at ns = some z → p.at ms = some q → ms.take ns.length ≠ ns → ∃ r, (p.rpl ns o).at ms = some r ∧ r.word = q.word ∧ (ns.take ms.length ≠ ms → r = q)
  | [], ms, p, q, z, o, _, _, h => absurd (by simp) h
  | k :: ks, [], p, q, z, o, hn, hm, h => by
    cases (show some p = some q from hm)
    exact ⟨_, rfl, Pg.rpl_word (x := p) o, fun c => absurd (by simp) c⟩
  | k :: ks, m :: ms, p, q, z, o, hn, hm, h => by
    obtain ⟨k0, x, e, hn'⟩ := Pg.at_cons hn
    obtain ⟨m0, y, e2, hm'⟩ := Pg.at_cons hm
    by_cases c : m = k
    · subst c
      rw [e] at e2
      cases e2
      obtain ⟨r, h1, h2, h3⟩ := Pg.rpl_else (ns := ks) (ms := ms) o hn' hm' (fun z => h (by rw [List.length_cons, List.take_succ_cons, z]))
      refine ⟨r, by rw [Pg.at_go m0 (Pg.rpl_inn e)]; exact h1, h2, fun c => h3 fun z => c (by rw [List.length_cons, List.take_succ_cons, z])⟩
    · have ne : k.toNat ≠ m.toNat := by omega
      refine ⟨q, ?_, rfl, fun _ => rfl⟩
      rw [Pg.at_go m0 (x := y) (by rw [Pg.rpl_go e, Pg.put_inn, List.getElem?_set_ne ne]; exact e2)]
      exact hm'
/-! ### rows of anything -/
def Row {α : Type} (R : α → V → Prop) : List α → List V → Prop
  | [], vs => vs = []
  | x :: xs, vs => ∃ v r, vs = v :: r ∧ R x v ∧ Row R xs r
section
variable {α : Type} {R R' : α → V → Prop}
theorem Row.mono (h : ∀ x v, R x v → R' x v) : ∀ {xs : List α} {vs : List V}, Row R xs vs → Row R' xs vs
  | [], _, e => e
  | _ :: _, _, ⟨v, r, e, q, t⟩ => ⟨v, r, e, h _ _ q, Row.mono h t⟩
theorem Row.len : ∀ {xs : List α} {vs : List V}, Row R xs vs → vs.length = xs.length
  | [], _, e => by rw [show _ = ([] : List V) from e]; rfl
  | _ :: _, _, ⟨v, r, e, q, t⟩ => by rw [e, List.length_cons, List.length_cons, t.len]
theorem Row.append : ∀ {xs ys : List α} {vs us : List V}, Row R xs vs → Row R ys us → Row R (xs ++ ys) (vs ++ us)
  | [], _, _, _, e, h => by rw [show _ = ([] : List V) from e]; exact h
  | _ :: _, _, _, _, ⟨v, r, e, q, t⟩, h => ⟨v, r ++ _, by rw [e]; rfl, q, Row.append t h⟩
theorem Row.one {x : α} {v : V} (h : R x v) : Row R [x] [v] := ⟨v, [], rfl, h, rfl⟩
theorem Row.get : ∀ {xs : List α} {vs : List V} {i : Nat} {v : V}, Row R xs vs → vs[i]? = some v → ∃ x, xs[i]? = some x ∧ R x v
  | [], _, _, _, e, h => by rw [show _ = ([] : List V) from e] at h; cases h
  | _ :: _, _, 0, _, ⟨v, r, e, q, t⟩, h => by
    rw [e] at h
    cases (show some v = some _ from h)
    exact ⟨_, rfl, q⟩
  | _ :: _, _, i + 1, _, ⟨v, r, e, q, t⟩, h => by
    rw [e] at h
    obtain ⟨p, e2, q2⟩ := Row.get (i := i) t (by simpa using h)
    exact ⟨p, by simpa using e2, q2⟩
theorem Row.get' : ∀ {xs : List α} {vs : List V} {i : Nat} {x : α}, Row R xs vs → xs[i]? = some x → ∃ v, vs[i]? = some v ∧ R x v
  | [], _, _, _, e, h => by cases h
  | _ :: _, _, 0, _, ⟨v, r, e, q, t⟩, h => by
    cases (show some _ = some _ from h)
    exact ⟨v, by rw [e]; rfl, q⟩
  | _ :: _, _, i + 1, _, ⟨v, r, e, q, t⟩, h => by
    obtain ⟨p, e2, q2⟩ := Row.get' (i := i) t (by simpa using h)
    exact ⟨p, by rw [e]; simpa using e2, q2⟩
theorem Row.last : ∀ {xs : List α} {vs : List V}, Row R xs vs → vs ≠ [] → ∃ qs q us u, xs = qs ++ [q] ∧ vs = us ++ [u] ∧ Row R qs us ∧ R q u
  | [], _, e, h => absurd e h
  | [x], _, ⟨v, r, e, q, t⟩, _ => by
    cases (show r = [] from t)
    exact ⟨[], x, [], v, rfl, by rw [e]; rfl, rfl, q⟩
  | x :: y :: xs, _, ⟨v, r, e, q, t⟩, _ => by
    have hr : r ≠ [] := by
      obtain ⟨v2, r2, e2, _⟩ := t
      rw [e2]; exact List.cons_ne_nil _ _
    obtain ⟨qs, q', us, u, e1, e2, h1, h2⟩ := Row.last t hr
    exact ⟨x :: qs, q', v :: us, u, by rw [e1]; rfl, by rw [e, e2]; rfl, ⟨v, us, rfl, q, h1⟩, h2⟩
theorem Row.repD {H : Hp} {f : α → D} (h : ∀ x v, R x v → RepD H (f x) v) : ∀ {xs : List α} {vs : List V}, Row R xs vs → RepDL H (xs.map f) vs
  | [], _, e => e
  | _ :: _, _, ⟨v, r, e, q, t⟩ => ⟨v, r, e, h _ _ q, Row.repD h t⟩
end
theorem Row.map {α β : Type} {R : β → V → Prop} (f : α → β) : ∀ {xs : List α} {vs : List V}, Row (fun x => R (f x)) xs vs → Row R (xs.map f) vs
  | [], _, e => e
  | _ :: _, _, ⟨v, r, e, q, t⟩ => ⟨v, r, e, q, Row.map f t⟩
/-! ### places and what stands there, on the heap -/
def RepPl (H : Hp) (ns : List Int) (v : V) : Prop := ∃ a, v = .ref a ∧ H a = some (.tup (ns.map V.int))
def RepEn (H : Hp) (e : Pg × List Int) (v : V) : Prop := ∃ a x y, v = .ref a ∧ H a = some (.tup [x, y]) ∧ Rep H e.1 x ∧ RepPl H e.2 y
def RepDu (H : Hp) (e : List Int × Pg) (v : V) : Prop := ∃ a x y, v = .ref a ∧ H a = some (.tup [x, y]) ∧ RepPl H e.1 x ∧ Rep H e.2 y
theorem RepPl.mono {H H' : Hp} (h : Tup H H') {ns : List Int} {v : V} : RepPl H ns v → RepPl H' ns v
  | ⟨a, e, q⟩ => ⟨a, e, h _ _ q⟩
theorem RepEn.mono {H H' : Hp} (h : Tup H H') {e : Pg × List Int} {v : V} : RepEn H e v → RepEn H' e v
  | ⟨a, x, y, e, q, r, s⟩ => ⟨a, x, y, e, h _ _ q, r.mono h, s.mono h⟩
theorem RepDu.mono {H H' : Hp} (h : Tup H H') {e : List Int × Pg} {v : V} : RepDu H e v → RepDu H' e v
  | ⟨a, x, y, e, q, r, s⟩ => ⟨a, x, y, e, h _ _ q, r.mono h, s.mono h⟩
def plD (ns : List Int) : D := .tup (ns.map D.int)
theorem ints_repDL {H : Hp} : ∀ ns : List Int, RepDL H (ns.map D.int) (ns.map V.int)
  | [] => rfl
  | n :: ns => ⟨_, _, rfl, rfl, ints_repDL ns⟩
theorem RepPl.repD {H : Hp} {ns : List Int} {v : V} : RepPl H ns v → RepD H (plD ns) v
  | ⟨a, e, q⟩ => ⟨a, _, e, q, ints_repDL ns⟩
theorem dp_ints : ∀ ns : List Int, ddpL (ns.map D.int) = 0
  | [] => rfl
  | n :: ns => by rw [List.map_cons, ddpL, dp_ints ns]; rfl
theorem plD_dp (ns : List Int) : (plD ns).dp = 1 := by show 1 + ddpL (ns.map D.int) = 1; rw [dp_ints]
theorem plDL_dp : ∀ nss : List (List Int), ddpL (nss.map plD) ≤ 1
  | [] => by simp [ddpL]
  | n :: ns => by rw [List.map_cons, ddpL, plD_dp]; have := plDL_dp ns; omega
/-! ### back from data -/
mutual
theorem Rep.ofD {H : Hp} : ∀ {p : Pg} {v : V}, RepD H p.toD v → Rep H p v
  | .name k, v, ⟨a, vs, e, h, x, r, e1, q1, y, r2, e2, q2, e3⟩ => by
    rw [show x = V.str "name" from q1, e2, show y = V.int k from q2, show r2 = [] from e3] at e1
    exact ⟨a, e, by rw [h, e1]⟩
  | .whole k, v, ⟨a, vs, e, h, x, r, e1, q1, y, r2, e2, q2, e3⟩ => by
    rw [show x = V.str "whole" from q1, e2, show y = V.int k from q2, show r2 = [] from e3] at e1
    exact ⟨a, e, by rw [h, e1]⟩
  | .node w xs, v, ⟨a, vs, e, h, x, r, e1, q1, t⟩ => by
    rw [show x = V.str w.str from q1] at e1
    exact ⟨a, r, e, by rw [h, e1], RepL.ofD t⟩
theorem RepL.ofD {H : Hp} : ∀ {ps : List Pg} {vs : List V}, RepDL H (toDL ps) vs → RepL H ps vs
  | [], _, e => e
  | _ :: _, _, ⟨v, r, e, q, t⟩ => ⟨v, r, e, Rep.ofD q, RepL.ofD t⟩
end
theorem toDL_set : ∀ (xs : List Pg) (k : Nat) (o : Pg), k < xs.length → toDL (xs.set k o) = (toDL xs).take k ++ [o.toD] ++ (toDL xs).drop (k + 1)
  | [], _, _, h => absurd h (by simp)
  | x :: xs, 0, o, _ => by simp [toDL]
  | x :: xs, k + 1, o, h => by
    rw [List.set_cons_succ, toDL, toDL_set xs k o (by simpa using h)]
    simp [toDL]
/-! ### the promises -/
def spPlaces : Sp := fun vs H Q _ => ∃ v p, vs = [v] ∧ Rep H p v ∧ p.sz ≤ 900 ∧ ∀ l us H', Same H H' → H l = none → H' l = some (.lst us) → Row (RepPl H') ((allP p []).map (·.1)) us → Q (.ref l) H'
def spAt : Sp := fun vs H Q _ => ∃ v w p ns, vs = [v, w] ∧ Rep H p v ∧ RepPl H ns w ∧ p.sz ≤ 900 ∧ (∀ H', Same H H' → p.at ns = none → Q .non H') ∧ ∀ q r H', Same H H' → p.at ns = some q → Rep H' q r → Q r H'
def spWith : Sp := fun vs H Q _ => ∃ (v : V) (k : Nat) (u : V) (p x o : Pg), vs = [v, .int k, u] ∧ Rep H p v ∧ p.inn[k]? = some x ∧ Rep H o u ∧ p.sz ≤ 900 ∧ ∀ r H', Same H H' → Rep H' (p.put k o) r → Q r H'
def spRepl : Sp := fun vs H Q _ => ∃ v w u p ns x o, vs = [v, w, u] ∧ Rep H p v ∧ RepPl H ns w ∧ Rep H o u ∧ p.at ns = some x ∧ p.sz ≤ 900 ∧ ∀ r H', Same H H' → Rep H' (p.rpl ns o) r → Q r H'
def spAll (n : Nat) : Sp := fun vs H Q _ => ∃ v w p ns, vs = [v, w] ∧ Rep H p v ∧ RepPl H ns w ∧ p.sz ≤ 900 ∧ p.dp < n ∧ ns.length + n ≤ 100 ∧ ∀ l us H', Same H H' → H l = none → H' l = some (.lst us) → Row (RepDu H') (allP p ns) us → Q (.ref l) H'
end KB
/-! y = [elt for tg in iter], y = [.. if c] (own work): the stores are exchanged there. -/
namespace L2
open PySem PySem.Spec PyProof.Rows
section
variable {X : Cx} {scope : Scope} {N' : List Str} {nt : Nat} {cap : List Nat} {elt iter tg : Expr} {pos : Pos} {wi : TI} {g : TG} {te : TE}
theorem ps_setComp {y : Str} {py spos : Pos} {k : Nat} (hc : X.calm = true) (hN : X.N.Nodup) (hk : X.N[k]? = some y) (hy : Loc X.env.scope y) (c : CompOk X scope N' nt cap) (hi : PI X tg iter wi) (hg : ∀ C ex s H, PG (cxComp X scope N' C ex s H) tg g) (he : ∀ C ex s H, PE (cxComp X scope N' C ex s H) elt te)
    (hs : ∀ x, foldedSetIterable iter X.env x = pure x := by intro _; rfl) (hsw : swapsWith (.ListComp elt [⟨tg, iter, [], 0⟩] scope pos) (some (.Name y py)) spos.line X.env = pure true := by rfl) (hf : X.fn y = true ∨ X.env.scope.names.lookup y = some .local := by first | exact .inl rfl | exact .inr rfl | assumption) :
    PS X (.Assign [.Name y py] (.ListComp elt [⟨tg, iter, [], 0⟩] scope pos) spos) (tAsg (tComp wi g te nt cap) (gName k)) := by
  intro pins s σ H D0 I h
  rw [exec_Assign_Name_used _ _ _ _ hsw]
  refine wpAny_bind (wpAny_standAt (wpAny_bind ?_))
  show wpAny _ X.A (do let _ ← comprehension (.ListComp elt [⟨tg, iter, [], 0⟩] scope pos) scope X.env _ (newList []) false (eval iter X.env) (some (assign (.Name y py) X.env))) _ _ s
  refine wpAny_bind (wpAny_mono (wpAny_comprehension_free (use := some (assign (.Name y py) X.env)) (Q := fun _ s' => SP X pins D0 .next s') rfl hs (clos_ok (c.has I.ok)) c.kind c.locs (thn (hi pins s σ H _ I h) fun v s1 h1 => thn h1 fun itv s2 h2 => ?_)) (fun _ s' hq => wpAny_pure (wpAny_pure hq)) fun _ _ e => e)
  obtain ⟨it, fp, tn, J, H2, rfl, I2, T, st2, f2, R⟩ := h2
  have hD : H2 s2.heap.objs.size = none := I2.hok.fresh (Nat.le_refl _)
  obtain ⟨W, ⟨m0, w0⟩, turn⟩ := R _ hD
  have I3 : Inv X pins σ (upd H2 s2.heap.objs.size (.lst [])) { s2 with heap := s2.heap.push { cls := .type "list", dict := none, data := .seq ([] : List Value).toArray } } :=
    I2.laid (t' := s2.toks) (fun b u e => Heap.get?_push_of_some _ e) (Nat.le_refl _) ⟨Nat.zero_le _, [], 0, .nil, Heap.get?_push_size _ rfl⟩
  have fpLt : ∀ b ∈ fp, b < s2.heap.objs.size := fun b hb => by
    obtain ⟨o, e, _⟩ := T.obj _ _ st2 b hb
    exact Heap.lt_size e
  have f3 : ∀ b ∈ fp, FpOk X pins (upd H2 s2.heap.objs.size (.lst [])) b := fun b hb => ⟨by rw [upd_ne (Nat.ne_of_lt (fpLt b hb))]; exact (f2 b hb).1, (f2 b hb).2⟩
  have st3 : tn 0 (s2.heap.push { cls := .type "list", dict := none, data := .seq ([] : List Value).toArray }) := T.keep _ _ _ st2 fun b _ o e => Heap.get?_push_of_some _ e
  generalize hh3 : s2.heap.push { cls := .type "list", dict := none, data := .seq ([] : List Value).toArray } = h3 at I3 st3
  have sz3 : s2.heap.objs.size < h3.objs.size := by rw [← hh3, Heap.size_push]; exact Nat.lt_succ_self _
  generalize hDD : s2.heap.objs.size = D at I3 f3 hD w0 turn sz3 fpLt
  refine wpAny_newObj_type ?_
  rw [hDD, hh3]
  refine wpAny_newFunctionEnv c.nocell (by intro y hy; simp at hy) (fun h4 hns4 hsb4 => ?_) c.kind
  dsimp only at hns4 hsb4 ⊢
  have keep4 : ∀ b o, h3.get? b = some o → h4.get? b = some o := fun b o e => (hsb4.2 b (Nat.ne_of_lt (Heap.lt_size e))).trans (Heap.get?_push_of_some _ e)
  have I4 := I3.comp (t' := s2.toks + ([] : List (Str × Value)).length) c f3 (fun b hb => Nat.lt_trans (fpLt b hb) sz3) keep4 hns4
  have st4 : tn 0 h4 := T.keep _ _ _ st3 fun b _ o e => keep4 b o e
  dsimp only at I4
  -- what is asked of the end
  have fin : ∀ {σ' : St} {H' : Hp} {s' : Shared}, Inv (cxComp X scope N' h3.objs.size fp { s2 with heap := h3 } (upd H2 D (.lst []))) [] σ' H' s' → D0.nx (σ.set k (some (.ref D))) H' →
      compPost (model X.prog X.w) X.A X.xe (some (assign (.Name y py) X.env)) (fun _ s' => SP X pins D0 .next s') (.ref D) h3.objs.size (.ok .next) s' := fun {σ' H' s'} J' q => by
    obtain ⟨m, hn, hh⟩ := I3.uncomp rfl f3 J'
    have IX : Inv X pins σ H' s' := hh s'.heap (Heap.SameBut.refl ..)
    have hCL : h3.objs.size ≠ X.env.locals := Nat.ne_of_gt I3.lt
    have hCc : ∀ x a, X.env.cells.lookup x = some a → a ≠ h3.objs.size := fun x a e => by
      obtain ⟨v, z⟩ := I3.cell x a e
      exact Nat.ne_of_lt z.lt
    show wpAny _ X.A (assign (.Name y py) X.env (.ref D)) _ _ s'
    refine wpAny_assign_Name (store_ok2 IX hN hk hy (v := .ref D) rfl (fun s'' I'' hch => ?_) hf)
    obtain ⟨a, sb, ha⟩ := hch
    have hCa : h3.objs.size ≠ a := by
      rcases ha with z | z
      · rw [z]; exact hCL
      · exact (hCc _ _ z).symm
    refine ⟨m, hn.sameBut sb hCa, fun h' hs' => ⟨_, H', ?_, q⟩⟩
    exact I''.turned (t' := s''.toks) (fun b o hb e => (hs'.2 b hb).trans e) J'.free hCL (.inr I3.sz) hCc fun p hp z => by
      have e := (I3.pin p hp).1
      rw [z] at e
      exact absurd (Heap.lt_size e) (Nat.lt_irrefl _)
  have stat : ∀ {H' : Hp}, (∀ b ∈ fp, H' b = none) → ∀ b ∈ fp, FpOk (cxComp X scope N' h3.objs.size fp { s2 with heap := h3 } (upd H2 D (.lst []))) [] H' b := fun {H'} hn b hb => by
    refine ⟨hn b hb, Nat.ne_of_lt (Nat.lt_trans (fpLt b hb) sz3), fun z => ?_, .inl hb, fun x a e => (f3 b hb).2.2.2.2.1 x a (c.cells I.ok e), fun p hp => absurd (show p ∈ ([] : List (Addr × Obj)) from hp) (by simp)⟩
    rcases List.mem_cons.mp (I.stkSub b z) with y | y
    · exact (f3 b hb).2.1 y
    · exact (f3 b hb).2.2.1 y
  have loop : codeAny (model X.prog X.w) X.A (.compLoop (.ListComp elt [⟨tg, iter, [], 0⟩] scope pos) 0 (.ref it) (.ref D) (compEnvC scope (closL X.env.cells scope.names []) h3.objs.size X.env))
      (compPost (model X.prog X.w) X.A X.xe (some (assign (.Name y py) X.env)) (fun _ s' => SP X pins D0 .next s') (.ref D) h3.objs.size) { s2 with heap := h4, toks := s2.toks + ([] : List (Str × Value)).length } := by
    refine codeAny_loop rfl (fun n s' => ∃ i ys σ' H', Inv (cxComp X scope N' h3.objs.size fp { s2 with heap := h3 } (upd H2 D (.lst []))) [] σ' H' s' ∧ tn i s'.heap ∧ (∀ b ∈ fp, H' b = none) ∧ W i n ys σ' H') (fun n s5 hI => ?_) m0 ⟨0, [], _, _, I4, st4, fun b hb => (f3 b hb).1, w0⟩
    obtain ⟨i, ys, σ5, H5, I5, st5, fr5, w5⟩ := hI
    show wpAny _ X.A ((compTurn (.ListComp elt [⟨tg, iter, [], 0⟩] scope pos) 0 (.ref it) (.ref D) (compEnvC scope (closL X.env.cells scope.names []) h3.objs.size X.env)).onRaise (fun x => do noteFrame x (compEnvC scope (closL X.env.cells scope.names []) h3.objs.size X.env); theTreesLotGoes x)) _ _ s5
    refine wpAny_noted ?_
    rw [compTurn_list1]
    rcases turn i n ys σ5 H5 w5 with ⟨stop, qn⟩ | ⟨go, step⟩
    · refine wpAny_bind (wpAny_standAt (wpAny_bind (wpAny_mono (T.done (cxComp X scope N' h3.objs.size fp { s2 with heap := h3 } (upd H2 D (.lst []))) rfl rfl rfl hc i [] s5 σ5 H5 (fun _ _ => False) I5 (stat fr5) st5 stop) (fun r s6 ⟨hr, I6⟩ => ?_) fun _ _ z => z.elim)))
      subst hr
      exact wpAny_pure (fin I6 qn)
    · refine wpAny_bind (wpAny_standAt (wpAny_bind (wpAny_mono (T.item (cxComp X scope N' h3.objs.size fp { s2 with heap := h3 } (upd H2 D (.lst []))) rfl rfl rfl hc i [] s5 σ5 H5 (fun _ _ => False) I5 (stat fr5) st5 go) (fun r s6 ⟨u, hr, h6⟩ => ?_) fun _ _ z => z.elim)))
      subst hr
      refine wpAny_bind (wpAny_mono h6 (fun _ s7 ⟨x, H7, I7, r7, y7, st7, fr7⟩ => ?_) fun _ _ z => z.elim)
      have I7' := I7.pinned (stat fr7) (T.obj _ _ st7)
      refine wpAny_bind (wpAny_mono (hg _ _ _ _ _ s7 σ5 H7 x u _ I7' r7 (step x H7 y7)) (fun _ s8 ⟨σ8, H8, I8, q8⟩ => ?_) fun _ _ z => z.elim)
      refine wpAny_bind (wpAny_bind (wpAny_mono (he _ _ _ _ _ s8 σ8 H8 _ I8 q8) (fun yv s9 ⟨y, H9, I9, r9, e9, z9, m', hm', w9⟩ => ?_) fun _ _ z => z.elim))
      refine wpAny_bind (wpAny_mono (mt_append (X := cxComp X scope N' h3.objs.size fp { s2 with heap := h3 } (upd H2 D (.lst []))) _ s9 σ8 H9 (.ref D) [y] (.ref D) [yv] (fun v H10 => v = .non ∧ H10 = upd H9 D (.lst (ys ++ [y]))) I9 rfl (.cons r9 .nil) ⟨D, ys, y, rfl, rfl, e9, z9, rfl, rfl⟩)
        (fun _ s10 ⟨v10, H10, I10, _, _, e10⟩ => ?_) fun _ _ z => z.elim)
      subst e10
      refine wpAny_pure (wpAny_pure ⟨rfl, m', hm', i + 1, ys ++ [y], σ8, _, I10.unpinned, ?_, fun b hb => ?_, w9⟩)
      · exact T.keep _ _ _ st7 fun b hb o e => (I10.pin (b, o) (List.mem_append_right _ (List.mem_append_right _ (mem_pinsAt hb e)))).1
      · obtain ⟨o, e, d⟩ := T.obj _ _ st7 b hb
        exact (I10.pin (b, o) (List.mem_append_right _ (List.mem_append_right _ (mem_pinsAt hb e)))).2.1
  exact codeAny_compStart_list loop (T.self _ 0 _ _ _ st4 loop)
theorem ps_setCompIf {ct : Expr} {tc : TT} {y : Str} {py spos : Pos} {k : Nat} (hc : X.calm = true) (hN : X.N.Nodup) (hk : X.N[k]? = some y) (hy : Loc X.env.scope y) (c : CompOk X scope N' nt cap) (hi : PI X tg iter wi) (hg : ∀ C ex s H, PG (cxComp X scope N' C ex s H) tg g) (ht : ∀ C ex s H, PT (cxComp X scope N' C ex s H) ct tc) (he : ∀ C ex s H, PE (cxComp X scope N' C ex s H) elt te)
    (hs : ∀ x, foldedSetIterable iter X.env x = pure x := by intro _; rfl) (hsw : swapsWith (.ListComp elt [⟨tg, iter, [ct], 0⟩] scope pos) (some (.Name y py)) spos.line X.env = pure true := by rfl) (hf : X.fn y = true ∨ X.env.scope.names.lookup y = some .local := by first | exact .inl rfl | exact .inr rfl | assumption) :
    PS X (.Assign [.Name y py] (.ListComp elt [⟨tg, iter, [ct], 0⟩] scope pos) spos) (tAsg (tCompIf wi g tc te nt cap) (gName k)) := by
  intro pins s σ H D0 I h
  rw [exec_Assign_Name_used _ _ _ _ hsw]
  refine wpAny_bind (wpAny_standAt (wpAny_bind ?_))
  show wpAny _ X.A (do let _ ← comprehension (.ListComp elt [⟨tg, iter, [ct], 0⟩] scope pos) scope X.env _ (newList []) false (eval iter X.env) (some (assign (.Name y py) X.env))) _ _ s
  refine wpAny_bind (wpAny_mono (wpAny_comprehension_free (use := some (assign (.Name y py) X.env)) (Q := fun _ s' => SP X pins D0 .next s') rfl hs (clos_ok (c.has I.ok)) c.kind c.locs (thn (hi pins s σ H _ I h) fun v s1 h1 => thn h1 fun itv s2 h2 => ?_)) (fun _ s' hq => wpAny_pure (wpAny_pure hq)) fun _ _ e => e)
  obtain ⟨it, fp, tn, J, H2, rfl, I2, T, st2, f2, R⟩ := h2
  have hD : H2 s2.heap.objs.size = none := I2.hok.fresh (Nat.le_refl _)
  obtain ⟨W, ⟨m0, w0⟩, turn⟩ := R _ hD
  have I3 : Inv X pins σ (upd H2 s2.heap.objs.size (.lst [])) { s2 with heap := s2.heap.push { cls := .type "list", dict := none, data := .seq ([] : List Value).toArray } } :=
    I2.laid (t' := s2.toks) (fun b u e => Heap.get?_push_of_some _ e) (Nat.le_refl _) ⟨Nat.zero_le _, [], 0, .nil, Heap.get?_push_size _ rfl⟩
  have fpLt : ∀ b ∈ fp, b < s2.heap.objs.size := fun b hb => by
    obtain ⟨o, e, _⟩ := T.obj _ _ st2 b hb
    exact Heap.lt_size e
  have f3 : ∀ b ∈ fp, FpOk X pins (upd H2 s2.heap.objs.size (.lst [])) b := fun b hb => ⟨by rw [upd_ne (Nat.ne_of_lt (fpLt b hb))]; exact (f2 b hb).1, (f2 b hb).2⟩
  have st3 : tn 0 (s2.heap.push { cls := .type "list", dict := none, data := .seq ([] : List Value).toArray }) := T.keep _ _ _ st2 fun b _ o e => Heap.get?_push_of_some _ e
  generalize hh3 : s2.heap.push { cls := .type "list", dict := none, data := .seq ([] : List Value).toArray } = h3 at I3 st3
  have sz3 : s2.heap.objs.size < h3.objs.size := by rw [← hh3, Heap.size_push]; exact Nat.lt_succ_self _
  generalize hDD : s2.heap.objs.size = D at I3 f3 hD w0 turn sz3 fpLt
  refine wpAny_newObj_type ?_
  rw [hDD, hh3]
  refine wpAny_newFunctionEnv c.nocell (by intro y hy; simp at hy) (fun h4 hns4 hsb4 => ?_) c.kind
  dsimp only at hns4 hsb4 ⊢
  have keep4 : ∀ b o, h3.get? b = some o → h4.get? b = some o := fun b o e => (hsb4.2 b (Nat.ne_of_lt (Heap.lt_size e))).trans (Heap.get?_push_of_some _ e)
  have I4 := I3.comp (t' := s2.toks + ([] : List (Str × Value)).length) c f3 (fun b hb => Nat.lt_trans (fpLt b hb) sz3) keep4 hns4
  have st4 : tn 0 h4 := T.keep _ _ _ st3 fun b _ o e => keep4 b o e
  dsimp only at I4
  -- what is asked of the end
  have fin : ∀ {σ' : St} {H' : Hp} {s' : Shared}, Inv (cxComp X scope N' h3.objs.size fp { s2 with heap := h3 } (upd H2 D (.lst []))) [] σ' H' s' → D0.nx (σ.set k (some (.ref D))) H' →
      compPost (model X.prog X.w) X.A X.xe (some (assign (.Name y py) X.env)) (fun _ s' => SP X pins D0 .next s') (.ref D) h3.objs.size (.ok .next) s' := fun {σ' H' s'} J' q => by
    obtain ⟨m, hn, hh⟩ := I3.uncomp rfl f3 J'
    have IX : Inv X pins σ H' s' := hh s'.heap (Heap.SameBut.refl ..)
    have hCL : h3.objs.size ≠ X.env.locals := Nat.ne_of_gt I3.lt
    have hCc : ∀ x a, X.env.cells.lookup x = some a → a ≠ h3.objs.size := fun x a e => by
      obtain ⟨v, z⟩ := I3.cell x a e
      exact Nat.ne_of_lt z.lt
    show wpAny _ X.A (assign (.Name y py) X.env (.ref D)) _ _ s'
    refine wpAny_assign_Name (store_ok2 IX hN hk hy (v := .ref D) rfl (fun s'' I'' hch => ?_) hf)
    obtain ⟨a, sb, ha⟩ := hch
    have hCa : h3.objs.size ≠ a := by
      rcases ha with z | z
      · rw [z]; exact hCL
      · exact (hCc _ _ z).symm
    refine ⟨m, hn.sameBut sb hCa, fun h' hs' => ⟨_, H', ?_, q⟩⟩
    exact I''.turned (t' := s''.toks) (fun b o hb e => (hs'.2 b hb).trans e) J'.free hCL (.inr I3.sz) hCc fun p hp z => by
      have e := (I3.pin p hp).1
      rw [z] at e
      exact absurd (Heap.lt_size e) (Nat.lt_irrefl _)
  have stat : ∀ {H' : Hp}, (∀ b ∈ fp, H' b = none) → ∀ b ∈ fp, FpOk (cxComp X scope N' h3.objs.size fp { s2 with heap := h3 } (upd H2 D (.lst []))) [] H' b := fun {H'} hn b hb => by
    refine ⟨hn b hb, Nat.ne_of_lt (Nat.lt_trans (fpLt b hb) sz3), fun z => ?_, .inl hb, fun x a e => (f3 b hb).2.2.2.2.1 x a (c.cells I.ok e), fun p hp => absurd (show p ∈ ([] : List (Addr × Obj)) from hp) (by simp)⟩
    rcases List.mem_cons.mp (I.stkSub b z) with y | y
    · exact (f3 b hb).2.1 y
    · exact (f3 b hb).2.2.1 y
  have loop : codeAny (model X.prog X.w) X.A (.compLoop (.ListComp elt [⟨tg, iter, [ct], 0⟩] scope pos) 0 (.ref it) (.ref D) (compEnvC scope (closL X.env.cells scope.names []) h3.objs.size X.env))
      (compPost (model X.prog X.w) X.A X.xe (some (assign (.Name y py) X.env)) (fun _ s' => SP X pins D0 .next s') (.ref D) h3.objs.size) { s2 with heap := h4, toks := s2.toks + ([] : List (Str × Value)).length } := by
    refine codeAny_loop rfl (fun n s' => ∃ i ys σ' H', Inv (cxComp X scope N' h3.objs.size fp { s2 with heap := h3 } (upd H2 D (.lst []))) [] σ' H' s' ∧ tn i s'.heap ∧ (∀ b ∈ fp, H' b = none) ∧ W i n ys σ' H') (fun n s5 hI => ?_) m0 ⟨0, [], _, _, I4, st4, fun b hb => (f3 b hb).1, w0⟩
    obtain ⟨i, ys, σ5, H5, I5, st5, fr5, w5⟩ := hI
    show wpAny _ X.A ((compTurn (.ListComp elt [⟨tg, iter, [ct], 0⟩] scope pos) 0 (.ref it) (.ref D) (compEnvC scope (closL X.env.cells scope.names []) h3.objs.size X.env)).onRaise (fun x => do noteFrame x (compEnvC scope (closL X.env.cells scope.names []) h3.objs.size X.env); theTreesLotGoes x)) _ _ s5
    refine wpAny_noted ?_
    rw [compTurn_ifs]
    rcases turn i n ys σ5 H5 w5 with ⟨stop, qn⟩ | ⟨go, step⟩
    · refine wpAny_bind (wpAny_standAt (wpAny_bind (wpAny_mono (T.done (cxComp X scope N' h3.objs.size fp { s2 with heap := h3 } (upd H2 D (.lst []))) rfl rfl rfl hc i [] s5 σ5 H5 (fun _ _ => False) I5 (stat fr5) st5 stop) (fun r s6 ⟨hr, I6⟩ => ?_) fun _ _ z => z.elim)))
      subst hr
      exact wpAny_pure (fin I6 qn)
    · refine wpAny_bind (wpAny_standAt (wpAny_bind (wpAny_mono (T.item (cxComp X scope N' h3.objs.size fp { s2 with heap := h3 } (upd H2 D (.lst []))) rfl rfl rfl hc i [] s5 σ5 H5 (fun _ _ => False) I5 (stat fr5) st5 go) (fun r s6 ⟨u, hr, h6⟩ => ?_) fun _ _ z => z.elim)))
      subst hr
      refine wpAny_bind (wpAny_mono h6 (fun _ s7 ⟨x, H7, I7, r7, y7, st7, fr7⟩ => ?_) fun _ _ z => z.elim)
      have I7' := I7.pinned (stat fr7) (T.obj _ _ st7)
      refine wpAny_bind (wpAny_mono (hg _ _ _ _ _ s7 σ5 H7 x u _ I7' r7 (step x H7 y7)) (fun _ s8 ⟨σ8, H8, I8, q8⟩ => ?_) fun _ _ z => z.elim)
      refine wpAny_bind (wpAny_mono (ht _ _ _ _ _ s8 σ8 H8 _ I8 q8) (fun bb s9 ⟨H9, I9, q9⟩ => ?_) fun _ _ z => z.elim)
      cases bb with
      | true =>
        rw [if_pos rfl]
        rw [if_pos rfl] at q9
        refine wpAny_bind (wpAny_bind (wpAny_mono (he _ _ _ _ _ s9 σ8 H9 _ I9 q9) (fun yv sA ⟨y, HA, IA, rA, eA, zA, m', hm', wA⟩ => ?_) fun _ _ z => z.elim))
        refine wpAny_bind (wpAny_mono (mt_append (X := cxComp X scope N' h3.objs.size fp { s2 with heap := h3 } (upd H2 D (.lst []))) _ sA σ8 HA (.ref D) [y] (.ref D) [yv] (fun v H10 => v = .non ∧ H10 = upd HA D (.lst (ys ++ [y]))) IA rfl (.cons rA .nil) ⟨D, ys, y, rfl, rfl, eA, zA, rfl, rfl⟩)
          (fun _ s10 ⟨v10, H10, I10, _, _, e10⟩ => ?_) fun _ _ z => z.elim)
        subst e10
        refine wpAny_pure (wpAny_pure ⟨rfl, m', hm', i + 1, ys ++ [y], σ8, _, I10.unpinned, ?_, fun b hb => ?_, wA⟩)
        · exact T.keep _ _ _ st7 fun b hb o e => (I10.pin (b, o) (List.mem_append_right _ (List.mem_append_right _ (mem_pinsAt hb e)))).1
        · obtain ⟨o, e, d⟩ := T.obj _ _ st7 b hb
          exact (I10.pin (b, o) (List.mem_append_right _ (List.mem_append_right _ (mem_pinsAt hb e)))).2.1
      | false =>
        rw [if_neg Bool.false_ne_true]
        rw [if_neg Bool.false_ne_true] at q9
        obtain ⟨m', hm', w9⟩ := q9
        refine wpAny_pure ⟨rfl, m', hm', i + 1, ys, σ8, _, I9.unpinned, ?_, fun b hb => ?_, w9⟩
        · exact T.keep _ _ _ st7 fun b hb o e => (I9.pin (b, o) (List.mem_append_right _ (List.mem_append_right _ (mem_pinsAt hb e)))).1
        · obtain ⟨o, e, d⟩ := T.obj _ _ st7 b hb
          exact (I9.pin (b, o) (List.mem_append_right _ (List.mem_append_right _ (mem_pinsAt hb e)))).2.1
  exact codeAny_compStart_list loop (T.self _ 0 _ _ _ st4 loop)
end
end L2
/-! range(a, -1, -1) AND t * n (own work). -/
namespace L2
open PySem PySem.Spec PyProof.Rows
/-- hi, hi - 1, .. (n of them) -/
def Itd (hi : Int) (n : Nat) : It := ⟨fun i _ => i < n, fun i H x H' => H' = H ∧ x = .int (hi - i), fun i _ => n ≤ i⟩
theorem turn_down {P : Program} {w : World} {K : PySem.W.Frag} {tg : Expr} (it : Addr) (hi : Int) (n : Nat) : Turn P w K tg (Itd hi n) [it] it (fun i h => IsRangeIter h it (hi + (i : Nat) * (-1)) ((n : Int) - (i : Nat)) (-1)) where
  mem := by simp
  obj := fun i h st b hb => by
    have e : b = it := by simpa using hb
    subst e
    exact ⟨_, st, fun v z => by
      have z' : Data.fields _ = Data.cell v := z
      cases z'⟩
  keep := fun i h h' st k => k it (by simp) _ st
  item := by
    intro X hP hw hK hc i pins s σ H E I hf st hg
    subst hP hw hK
    obtain ⟨f0, f1, f2, f3, f4, f5⟩ := hf it (by simp)
    have W := Walks.range (prog := X.prog) (w := X.w) (I.ok.hd hc) it hi (-1) n
    refine W.item i s _ _ hg st fun v h' tk hv st' kk => ?_
    obtain ⟨t, rfl⟩ := hv
    have I1 : Inv X pins σ H { s with heap := h', toks := tk } := I.turned (fun b o hb e => kk b o (by simpa using hb) e) f0 f1 f3 f4 f5
    refine ⟨_, rfl, go_of (s := { s with heap := h', toks := tk }) (n := "range_iterator") st' rfl rfl (by decide) ⟨.int (hi - i), H, I1, ⟨t, ?_⟩, ⟨rfl, rfl⟩, st', fun b hb => (hf b hb).1⟩⟩
    rw [show hi - (i : Int) = hi + (i : Int) * (-1) by omega]
  done := by
    intro X hP hw hK hc i pins s σ H E I hf st hg
    subst hP hw hK
    obtain ⟨f0, f1, f2, f3, f4, f5⟩ := hf it (by simp)
    exact wpAny_pyNext_range_end (I.ok.hd hc) st (by have : n ≤ i := hg; omega) fun h' eb => ⟨rfl, I.turned (t' := s.toks) (fun b o hb e => eb b o hb e) f0 f1 f3 f4 f5⟩
  self := fun _ _ _ _ _ st h => wpAny_pyIter_rangeiter st h
theorem rangeSize_down (a b : Int) : Builtin.Range.rangeSize a b (-1) = if a > b then a - b else 0 := by
  unfold Builtin.Range.rangeSize
  rw [if_neg (by decide)]
  split
  · rw [show -(-1 : Int) = 1 by decide, Int.ediv_one]; omega
  · rfl
theorem small_down {a b : Int} (ha : -(2 ^ 62) ≤ a) (ha' : a < 2 ^ 62) (hb : -(2 ^ 62) ≤ b) (hb' : b < 2 ^ 62) : Builtin.Range.small a b (-1) = true := by
  unfold Builtin.Range.small
  rw [rangeSize_down]
  rw [if_neg (show ¬ ((-1 : Int) > 0) by decide)]
  simp only [Builtin.Range.rangeFitsLong, Bool.and_eq_true, Bool.or_eq_true, decide_eq_true_eq, beq_iff_eq]
  split <;> omega
section
variable {X : Cx} {tg : Expr}
def iRngD (ta : TA) : TI := fun σ H R => ta σ H fun vs H1 => ∃ i : Int, vs = [.int i, .int (-1), .int (-1)] ∧ (-(2 ^ 62) ≤ i ∧ i < 2 ^ 62) ∧ R (Itd i (i + 1).toNat) H1
theorem pi_rangeD {a b c : Expr} {ta : TA} {p pos : Pos} (hg : Gl X "range") (hm : X.mg "range" = none) (ha : PA X [a, b, c] ta) (h1 : unstar a = true := by rfl) (h2 : unstar b = true := by rfl) (h3 : unstar c = true := by rfl) :
    PI X tg (.Call (.Name "range" p) [a, b, c] [] pos) (iRngD ta) := by
  intro pins s σ H R I h
  have hs : starEach [a, b, c] X.env = (false, eval a X.env) :: starEach [b, c] X.env := starEach_one h1
  have hp : (backTo pos (starEach [b, c] X.env)).any (·.1) = false := by rw [starEach_one h2, starEach_one h3]; rfl
  refine Call_ (ld_blt I hg hm boot_range (PyProof.Rows.callWith_type1 (thn (ha pos pins s σ H _ I h) fun us s1 ⟨vs, H1, I1, r1, q1⟩ => ?_) hs hp))
  obtain ⟨i, e, ⟨q1, q2⟩, q⟩ := q1
  subst e
  cases r1 with
  | cons r rr =>
    cases rr with
    | cons r' rr =>
      cases rr with
      | cons r'' rr =>
        cases rr
        obtain ⟨t, rfl⟩ := r
        obtain ⟨t', rfl⟩ := r'
        obtain ⟨t'', rfl⟩ := r''
        refine call_range_3 (by decide) ?_ (.inl (PyProof.noPylong_of_log2 (by decide +kernel)))
        refine wpAny_pyIter_range (IsRange.new ..) (small_down q1 q2 (by decide) (by decide)) ?_
        have I2 : Inv X pins σ H1 { s1 with heap := s1.heap.push { cls := .type "range", data := .fields #[.int i t, .int (-1) t', .int (-1) t''] }, toks := s1.toks } := I1.kept fun b o e => Heap.get?_push_of_some _ e
        refine ⟨(s1.heap.push { cls := .type "range", data := .fields #[.int i t, .int (-1) t', .int (-1) t''] }).objs.size, [(s1.heap.push { cls := .type "range", data := .fields #[.int i t, .int (-1) t', .int (-1) t''] }).objs.size], _, _, H1, rfl,
          I2.kept (t' := s1.toks) fun b o e => Heap.get?_push_of_some _ e, turn_down _ i (i + 1).toNat, ?_, fun b hb => ?_, q⟩
        · have e1 : i + ((0 : Nat) : Int) * (-1) = i := by simp
          have e2 : (((i + 1).toNat : Nat) : Int) - ((0 : Nat) : Int) = Builtin.Range.rangeSize i (-1) (-1) := by rw [rangeSize_down]; split <;> omega
          show IsRangeIter _ _ (i + ((0 : Nat) : Int) * (-1)) ((((i + 1).toNat : Nat) : Int) - ((0 : Nat) : Int)) (-1)
          rw [e1, e2]
          exact Heap.get?_push_size _ rfl
        · have e : b = (s1.heap.push { cls := .type "range", data := .fields #[.int i t, .int (-1) t', .int (-1) t''] }).objs.size := by simpa using hb
          subst e
          exact I2.fpOk (Nat.le_refl _) (I2.hok.fresh (Nat.le_refl _))
end
theorem for_down {hi : Int} {n : Nat} {g : TG} {tb : TS} {D : Ends} {σ : St} {H : Hp} (Pv : Nat → St → Hp → Prop) (h0 : Pv 0 σ H)
    (hs : ∀ i σ H, i < n → Pv i σ H → g (.int (hi - i)) σ H fun σ2 H2 => tb { D with nx := Pv (i + 1), ct := Pv (i + 1), bk := D.nx } σ2 H2) (hd : ∀ σ H, Pv n σ H → D.nx σ H) :
    ∃ W : Nat → Nat → St → Hp → Prop, (∃ m, W 0 m σ H) ∧ ∀ i m σ H, W i m σ H →
      ((Itd hi n).stop i H ∧ D.nx σ H) ∨ ((Itd hi n).go i H ∧ ∃ N : St → Hp → Prop, (∀ σ' H', N σ' H' → ∃ m', m' < m ∧ W (i + 1) m' σ' H') ∧ ∀ x H', (Itd hi n).yld i H x H' → g x σ H' fun σ2 H2 => tb { D with nx := N, ct := N, bk := D.nx } σ2 H2) := by
  refine ⟨fun i m σ H => m = n - i ∧ i ≤ n ∧ Pv i σ H, ⟨n, by simp, Nat.zero_le _, h0⟩, ?_⟩
  rintro i m σ H ⟨rfl, hi', p⟩
  by_cases hlt : i < n
  · refine .inr ⟨hlt, Pv (i + 1), fun σ' H' p' => ⟨n - (i + 1), by omega, rfl, hlt, p'⟩, fun x H' y => ?_⟩
    obtain ⟨e, y⟩ := y
    subst e y
    exact hs i σ _ hlt p
  · have e : i = n := by omega
    subst e
    exact .inl ⟨Nat.le_refl _, hd σ H p⟩
end L2
/-! t * n OF A TUPLE (own work). -/
namespace L2
open PySem PySem.Spec PyProof.Rows Builtin
theorem noFill_tuple_mul : fillsNumberSlot (.type "tuple") "mul" = pure false :=
  PySem.fillsNumberSlot_seq (id := "tuple.__mul__") (r := some (.builtin "tuple.__rmul__")) F.slot_tuple_mul.lookup (by decide +kernel) F.slot_tuple_rmul.lookup (by decide +kernel)
theorem repeat_tuple : seqRepeat? (.type "tuple") = pure (some (.builtin "tuple.__mul__")) := by
  unfold seqRepeat?
  rw [PySem.seqSlot_of (T := "tuple") (name := "__mul__") (id := "tuple.__mul__") F.slot_tuple_mul.lookup (by decide +kernel), PySem.seqSlot_of (T := "tuple") (name := "__rmul__") (id := "tuple.__rmul__") F.slot_tuple_rmul.lookup (by decide +kernel)]
  rfl
theorem int_rmul_tuple (a : Int) (t : Tok) (l : Addr) (items : Array Value) (n : Nat) (d : Option Addr) (sl : Array (Option Value)) :
    Meets (Builtin.«int.__rmul__» ⟨[.int a t, .ref l], []⟩) (fun _ R s => s.heap.get? l = some { cls := .type "tuple", dict := d, data := .seq items n, slots := sl } ∧ R (.ok (.ret Value.notImplemented)) s) :=
  .of_wp fun prog w A R s h => by obtain ⟨hp, g, d, tk, os⟩ := s; obtain ⟨hl, h⟩ := h; wp_walk; exact ⟨_, rfl, h⟩
theorem tuple_mul_one (l : Addr) (items : Array Value) (n : Nat) (dd : Option Addr) (sl : Array (Option Value)) (u : Tok) :
    Meets (Builtin.«tuple.__mul__» ⟨[.ref l, .int 1 u], []⟩) (fun _ R s => s.heap.get? l = some { cls := .type "tuple", dict := dd, data := .seq items n, slots := sl } ∧ R (.ok (.ret (Value.ref l))) { s with heap := s.heap, toks := s.toks }) :=
  .of_wp fun prog w A R s h => by obtain ⟨hp, g, d, tk, os⟩ := s; obtain ⟨hl, h⟩ := h; have f1 := AutoSeq1.idx_int; wp_walk using wpAny_loadPart' hl; exact ⟨_, rfl, h⟩
theorem tuple_mul_none (l : Addr) (items : Array Value) (n : Nat) (dd : Option Addr) (sl : Array (Option Value)) (x : Int) (u : Tok) (h0 : ¬ items.isEmpty = true) (h1 : -(2 ^ 63) ≤ x) (h2 : x ≤ 0) :
    Meets (Builtin.«tuple.__mul__» ⟨[.ref l, .int x u], []⟩) (fun _ R s => s.heap.get? l = some { cls := .type "tuple", dict := dd, data := .seq items n, slots := sl } ∧ R (.ok (.ret (Value.ref s.heap.objs.size))) { s with heap := s.heap.push { cls := Value.type "tuple", data := Data.seq #[] }, toks := s.toks }) :=
  .of_wp fun prog w A R s h => by
    obtain ⟨hp, g, d, tk, os⟩ := s; obtain ⟨hl, h⟩ := h; have f1 := AutoSeq1.idx_int
    have c1 : ¬ (x < -(2 ^ 63) || x ≥ 2 ^ 63) = true := by simp; omega
    have c2 : ¬ (items.isEmpty || x == 1) = true := by simp at h0 ⊢; exact ⟨h0, by omega⟩
    have c3 : (x ≤ 0 || items.isEmpty) = true := by simp; exact .inl h2
    wp_walk using wpAny_loadPart' hl
    refine wpAny_ite_false (decide_eq_false c1) ?_
    wp_walk using wpAny_loadPart' hl
    refine wpAny_ite_false (decide_eq_false c2) ?_
    wp_walk using wpAny_loadPart' hl
    exact ⟨_, rfl, h⟩
theorem tuple_mul_more (l : Addr) (items : Array Value) (n : Nat) (dd : Option Addr) (sl : Array (Option Value)) (x : Int) (u : Tok) (h0 : ¬ items.isEmpty = true) (h1 : 2 ≤ x) (h2 : (items.size : Int) * x ≤ 2 ^ 24) (h3 : x < 2 ^ 63) :
    Meets (Builtin.«tuple.__mul__» ⟨[.ref l, .int x u], []⟩) (fun _ R s => s.heap.get? l = some { cls := .type "tuple", dict := dd, data := .seq items n, slots := sl } ∧ R (.ok (.ret (Value.ref s.heap.objs.size))) { s with heap := s.heap.push { cls := Value.type "tuple", data := Data.seq ((List.replicate x.toNat items).foldl (· ++ ·) #[]) }, toks := s.toks }) :=
  .of_wp fun prog w A R s h => by
    obtain ⟨hp, g, d, tk, os⟩ := s; obtain ⟨hl, h⟩ := h; have f1 := AutoSeq1.idx_int
    have c1 : ¬ (x < -(2 ^ 63) || x ≥ 2 ^ 63) = true := by simp; omega
    have c2 : ¬ (items.isEmpty || x == 1) = true := by simp at h0 ⊢; exact ⟨h0, by omega⟩
    have c3 : ¬ (x ≤ 0 || items.isEmpty) = true := by simp at h0 ⊢; exact ⟨by omega, h0⟩
    have c4 : ¬ (items.size : Int) * x > (2 ^ 63 - 1) / 8 := by omega
    have c5 : ¬ Tuple.tupleTooMany ((items.size : Int) * x) = true := by simp [Tuple.tupleTooMany, sizeLine]; omega
    have c6 : ¬ ((List.replicate x.toNat items).foldl (· ++ ·) #[]).size > sizeLine := by
      have e : (items.size : Int) * x = ((items.size * x.toNat : Nat) : Int) := by rw [Int.natCast_mul, Int.toNat_of_nonneg (by omega)]
      have := AutoListH.joined_fits (items := items) (x := x) (by simp [Builtin.List.listTooLong, sizeLine]; omega)
      rw [if_neg h0] at this
      omega
    wp_walk using wpAny_loadPart' hl
    refine wpAny_ite_false (decide_eq_false c1) ?_
    wp_walk using wpAny_loadPart' hl
    refine wpAny_ite_false (decide_eq_false c2) ?_
    wp_walk using wpAny_loadPart' hl
    refine wpAny_ite_false (decide_eq_false c3) ?_
    wp_walk using wpAny_loadPart' hl
    refine wpAny_ite_false (decide_eq_false c4) ?_
    wp_walk using wpAny_loadPart' hl
    exact ⟨_, rfl, h⟩
section
variable {X : Cx}
/-- t * n: n = 1 or t = () tells t itself -/
def rMulT (K : PySem.W.Frag) : R2 := fun x y H Q => ∃ a xs n, x = .ref a ∧ y = .int n ∧ SqT K H a xs ∧ xs ≠ [] ∧ (-(2 ^ 63) ≤ n ∧ n < 2 ^ 63) ∧ ((xs.length : Int) * n ≤ 2 ^ 24) ∧
  (n = 1 → Q (.ref a) H) ∧ (n ≠ 1 → ∀ p, H p = none → Q (.ref p) (upd H p (.tup (List.replicate n.toNat xs).flatten)))
theorem vals_rep {us : List Value} {xs : List V} (r : Vals xs us) : ∀ k : Nat, Vals (List.replicate k xs).flatten (List.replicate k us).flatten
  | 0 => .nil
  | k + 1 => by
    rw [List.replicate_succ, List.replicate_succ, List.flatten_cons, List.flatten_cons]
    exact r.append (vals_rep r k)
theorem op_mulT : OpR X (binaryOp .Mult) (rMulT X.K) := by
  intro pins s σ H x y v u Q I rx ry h
  obtain ⟨a, xs, n, rfl, rfl, ha, hx, ⟨b1, b2⟩, hz, q1, q2⟩ := h
  cases rx
  obtain ⟨t, rfl⟩ := ry
  obtain ⟨its, r1, p1, _⟩ := I.tuple ha
  obtain ⟨⟨cls, dd, data, sl⟩, ho, hc, k, hd⟩ := id p1
  simp only at hc hd
  subst hc hd
  have ne : ¬ its.toArray.isEmpty = true := by
    intro z
    exact hx (r1.nil_iff.mp (by simpa using z))
  refine wpAny_binaryOp_repeat_ref (T := "tuple") (U := "int") (by decide) ⟨_, ho, rfl⟩ (fun s' => typeIs_int s' n t) noFill_tuple_mul F.fills_int_mul F.slot_int_rmul repeat_tuple F.slot_int_index.lookup
    (call_meets F.slot_int_rmul (typeIs_int s n t) F.entry_int_rmul (F.args_int_rmul_2 _ _) (int_rmul_tuple n t a its.toArray k dd sl) ⟨ho, rfl, ⟨_, ho, rfl⟩, ?_⟩)
  by_cases h1 : n = 1
  · subst h1
    exact call_meets F.slot_tuple_mul ⟨_, ho, rfl⟩ F.entry_tuple_mul (F.args_tuple_mul_2 _ _) (tuple_mul_one a its.toArray k dd sl t) ⟨ho, .ref a, H, I, rfl, q1 rfl⟩
  · have len : its.length = xs.length := r1.length.symm
    by_cases h2 : n ≤ 0
    · refine call_meets F.slot_tuple_mul ⟨_, ho, rfl⟩ F.entry_tuple_mul (F.args_tuple_mul_2 _ _) (tuple_mul_none a its.toArray k dd sl n t ne b1 h2) ⟨ho, ?_⟩
      have e : n.toNat = 0 := by omega
      have q := q2 h1 s.heap.objs.size (I.hok.fresh (Nat.le_refl _))
      rw [e] at q
      exact ⟨.ref s.heap.objs.size, _, I.laid (t' := s.toks) (o := .tup []) (fun b ob q => Heap.get?_push_of_some _ q) (Nat.le_refl _) ⟨by simp, _, .nil, IsTup.new _ _⟩, rfl, q⟩
    · refine call_meets F.slot_tuple_mul ⟨_, ho, rfl⟩ F.entry_tuple_mul (F.args_tuple_mul_2 _ _) (tuple_mul_more a its.toArray k dd sl n t ne (by omega) (by simpa [len] using hz) b2) ⟨ho, ?_⟩
      have e : (List.replicate n.toNat its.toArray).foldl (· ++ ·) #[] = (List.replicate n.toNat its).flatten.toArray := by
        have := listMul_foldl_if its.toArray n.toNat
        rw [if_neg ne] at this
        simpa using this
      rw [e]
      have e2 : (xs.length : Int) * n = ((xs.length * n.toNat : Nat) : Int) := by rw [Int.natCast_mul, Int.toNat_of_nonneg (by omega)]
      exact ⟨.ref s.heap.objs.size, _, I.laid (t' := s.toks) (o := .tup (List.replicate n.toNat xs).flatten) (fun b ob q => Heap.get?_push_of_some _ q) (Nat.le_refl _) ⟨by rw [lm_len_rep_flat, Nat.mul_comm]; simp only [sizeLine]; omega, _, vals_rep r1 _, IsTup.new _ _⟩, rfl, q2 h1 _ (I.hok.fresh (Nat.le_refl _))⟩
end
end L2
/-! MORE SEALED RULES (own work). -/
namespace L2
open PySem PySem.Spec PyProof.Rows
section
variable {X : Cx} {a b c e : Expr} {t : TA} {te : TE} {pos p : Pos}
theorem ji_range2 {tg : Expr} (hg : Gl X "range") (hm : X.mg "range" = none) (ha : JA X [a, b] t) (h1 : unstar a = true := by rfl) (h2 : unstar b = true := by rfl) : JI X tg (.Call (.Name "range" p) [a, b] [] pos) (iRng2 t) :=
  ⟨pi_range2 hg hm ha.run (by rw [starEach_one h1, starEach_one h2]; rfl) (by rw [starEach_one h2]; rfl)⟩
theorem ji_range3 {tg : Expr} (hg : Gl X "range") (hm : X.mg "range" = none) (ha : JA X [a, b, c] t) (h1 : unstar a = true := by rfl) (h2 : unstar b = true := by rfl) (h3 : unstar c = true := by rfl) : JI X tg (.Call (.Name "range" p) [a, b, c] [] pos) (iRngD t) :=
  ⟨pi_rangeD hg hm ha.run h1 h2 h3⟩
theorem jg_tupC {sc : Scope} {N' : List Str} {C : Addr} {ex : List Addr} {s : Shared} {H : Hp} {es : List Expr} {k n : Nat} {tg : TGs} (hc : X.calm = true) (h : JGs (cxComp X sc N' C ex s H) es tg) (hn : (assignEach es (cxComp X sc N' C ex s H).env).length = n := by rfl)
    (hst : (assignEach es (cxComp X sc N' C ex s H).env).findIdx? (·.1) = none := by rfl) : JG (cxComp X sc N' C ex s H) (.Tuple es k pos) (gTup X.K n tg) := ⟨pg_tup hc h.run hn hst⟩
variable {scope : Scope} {N' : List Str} {nt : Nat} {cap : List Nat} {elt iter tg : Expr} {wi : TI} {g : TG}
theorem js_setComp {y : Str} {py spos : Pos} {k : Nat} (hc : X.calm = true) (hN : X.N.Nodup) (hk : X.N[k]? = some y) (hy : Loc X.env.scope y) (ok : CompOk X scope N' nt cap) (hi : JI X tg iter wi) (hg : ∀ C ex s H, JG (cxComp X scope N' C ex s H) tg g) (he : ∀ C ex s H, JE (cxComp X scope N' C ex s H) elt te)
    (hs : ∀ x, foldedSetIterable iter X.env x = pure x := by intro _; rfl) (hsw : swapsWith (.ListComp elt [⟨tg, iter, [], 0⟩] scope pos) (some (.Name y py)) spos.line X.env = pure true := by rfl) (hf : X.fn y = true ∨ X.env.scope.names.lookup y = some .local := by first | exact .inl rfl | exact .inr rfl | assumption) :
    JS X (.Assign [.Name y py] (.ListComp elt [⟨tg, iter, [], 0⟩] scope pos) spos) (tAsg (tComp wi g te nt cap) (gName k)) := ⟨ps_setComp hc hN hk hy ok hi.run (fun C ex s H => (hg C ex s H).run) (fun C ex s H => (he C ex s H).run) hs hsw hf⟩
theorem js_setCompIf {ct : Expr} {tc : TT} {y : Str} {py spos : Pos} {k : Nat} (hc : X.calm = true) (hN : X.N.Nodup) (hk : X.N[k]? = some y) (hy : Loc X.env.scope y) (ok : CompOk X scope N' nt cap) (hi : JI X tg iter wi) (hg : ∀ C ex s H, JG (cxComp X scope N' C ex s H) tg g)
    (ht : ∀ C ex s H, JT (cxComp X scope N' C ex s H) ct tc) (he : ∀ C ex s H, JE (cxComp X scope N' C ex s H) elt te)
    (hs : ∀ x, foldedSetIterable iter X.env x = pure x := by intro _; rfl) (hsw : swapsWith (.ListComp elt [⟨tg, iter, [ct], 0⟩] scope pos) (some (.Name y py)) spos.line X.env = pure true := by rfl) (hf : X.fn y = true ∨ X.env.scope.names.lookup y = some .local := by first | exact .inl rfl | exact .inr rfl | assumption) :
    JS X (.Assign [.Name y py] (.ListComp elt [⟨tg, iter, [ct], 0⟩] scope pos) spos) (tAsg (tCompIf wi g tc te nt cap) (gName k)) := ⟨ps_setCompIf hc hN hk hy ok hi.run (fun C ex s H => (hg C ex s H).run) (fun C ex s H => (ht C ex s H).run) (fun C ex s H => (he C ex s H).run) hs hsw hf⟩
end
end L2
/-! A CALL OF A PARAMETER (own work): f(..) where f is a name of the body whose value is a def that keeps a promise. -/
namespace L2
open PySem PySem.Spec PyProof.Rows
/-- the def at f keeps the promise sp -/
structure FnV (P : Program) (w : World) (K : PySem.W.Frag) (mg : Str → Option Value) (base : Heap) (k : Nat) (f : Addr) (sp : Sp) : Prop where
  ex : ∃ (fd : FuncData) (ps : List Str), FnOk P w K mg base CX0 k f fd ps sp ∧ PySem.W.keepIn K (.ref f) = true ∧ Binds K fd ps []
theorem Got.fnV {P : Program} {w : World} {K : PySem.W.Frag} {mg : Str → Option Value} {base : Heap} {k : Nat} {x : Str} {ps : List Str} {sp : Sp} (G : Got P w K mg base k x ps sp) : ∃ f, mg x = some (.ref f) ∧ FnV P w K mg base k f sp := by
  obtain ⟨f, fd, F, hm, kp, b⟩ := G.ex
  exact ⟨f, hm, fd, ps, F, kp, b⟩
theorem FnV.imp {P : Program} {w : World} {K : PySem.W.Frag} {mg : Str → Option Value} {base : Heap} {k : Nat} {f : Addr} {sp sp' : Sp} (G : FnV P w K mg base k f sp) (h : ∀ vs H Q E, sp' vs H Q E → sp vs H Q E) : FnV P w K mg base k f sp' := by
  obtain ⟨fd, ps, F, kp, b⟩ := G.ex
  exact ⟨fd, ps, F.imp h, kp, b⟩
def tCallV (i : Nat) (f : Addr) (sp : Sp) (t : TA) : TE := fun σ H Q => σ[i]? = some (some (.ref f)) ∧ tCall sp [] E0 t σ H Q
section
variable {X : Cx} {k j : Nat} {f : Addr} {x : Str} {sp : Sp} {p pos : Pos} {e : Expr} {es : List Expr} {t : TA}
theorem pe_cv {i : Nat} (G : FnV X.prog X.w X.K X.mg X.base k f sp) (hr : Room j X.A) (hk : k ≤ j) (hN : X.N[i]? = some x) (hv : Vis X.env.scope x) (ha : PA X (e :: es) t) (hd : (x == ("__debug__" : Str)) = false) (hcd : (x == ("__classdict__" : Str)) = false)
    (he : starEach (e :: es) X.env = (false, eval e X.env) :: starEach es X.env) (hpl : (backTo pos (starEach es X.env)).any (·.1) = false) :
    PE X (.Call (.Name x p) (e :: es) [] pos) (tCallV i f sp t) := by
  intro pins s σ H Q I h
  obtain ⟨e1, h⟩ := h
  obtain ⟨fd, ps, F, kp, b⟩ := G.ex
  refine wpAny_Call_Name_kw (thn (pe_var (pos := p) hN hv hd hcd pins s σ H (fun v H1 => v = .ref f ∧ H1 = H) I ⟨_, e1, rfl, rfl⟩) fun u s1 ⟨v, H1, I1, r1, ev, eH⟩ => ?_)
  subst ev eH
  obtain rfl : u = Value.ref f := r1
  refine PySem.W.callWith_K (h₀ := X.base) I.ok.mod.kin kp (thn (ha pos pins s1 σ H1 _ I1 h) fun us s2 ⟨vs, H2, I2, r, q⟩ => ⟨I2.kIn, ?_⟩) he hpl
  exact run_fn F (hr.mono hk) b .nil pass0 I2 r q
theorem je_cv (i : Nat) (G : FnV X.prog X.w X.K X.mg X.base k f sp) (hr : Room j X.A) (hk : k ≤ j) (ha : JA X (e :: es) t) (hN : X.N[i]? = some x := by rfl) (hv : Vis X.env.scope x := by first | exact Or.inl rfl | exact Or.inr (Or.inl rfl) | exact Or.inr (Or.inr rfl))
    (hd : (x == ("__debug__" : Str)) = false := by decide) (hcd : (x == ("__classdict__" : Str)) = false := by decide) (hs : (e :: es).all unstar = true := by rfl) : JE X (.Call (.Name x p) (e :: es) [] pos) (tCallV i f sp t) := by
  have h := hs
  rw [List.all_cons, Bool.and_eq_true] at h
  exact ⟨pe_cv G hr hk hN hv ha.run hd hcd (starEach_one h.1) (backTo_plain h.2)⟩
end
end L2
/-! REVERSED OF A TUPLE; LISTS AND TUPLES MADE FROM AN ITERATOR (own work; reversed of a list is the library's: Walks.listRev). -/
namespace KRv
open PySem PyProof.Rows
theorem own : Manifest.owners.lookup (String.ofList ['d', 'e', 's', 'r', 'e', 'v', 'e', 'r'].reverse) = some Manifest.sig_reversed := by kernel_rfl
theorem sNext : Slot "reversed" "__next__" "reversed.__next__" := .of (owner := "reversed") (n := "__next__") (by rw [typeLookup_type, builtinLookup_eq_fast]; kernel_rfl) (by decide +kernel) (by decide +kernel) (by decide +kernel) (by first | exact .inl (by decide +kernel) | exact .inr (by decide +kernel)) (by rw [isSubtype_type]; kernel_rfl)
theorem sIter : Slot "reversed" "__iter__" "reversed.__iter__" := .of (owner := "reversed") (n := "__iter__") (by rw [typeLookup_type, builtinLookup_eq_fast]; kernel_rfl) (by decide +kernel) (by decide +kernel) (by decide +kernel) (by first | exact .inl (by decide +kernel) | exact .inr (by decide +kernel)) (by rw [isSubtype_type]; kernel_rfl)
theorem sHint : Slot "reversed" "__length_hint__" "reversed.__length_hint__" := .of (owner := "reversed") (n := "__length_hint__") (by rw [typeLookup_type, builtinLookup_eq_fast]; kernel_rfl) (by decide +kernel) (by decide +kernel) (by decide +kernel) (by first | exact .inl (by decide +kernel) | exact .inr (by decide +kernel)) (by rw [isSubtype_type]; kernel_rfl)
theorem sInit : Slot "reversed" "__init__" "object.__init__" := .of (owner := "object") (n := "__init__") (by rw [typeLookup_type, builtinLookup_eq_fast]; kernel_rfl) (by decide +kernel) (by decide +kernel) (by decide +kernel) (by first | exact .inl (by decide +kernel) | exact .inr (by decide +kernel)) (by rw [isSubtype_type]; kernel_rfl)
theorem eNext : entryFor table "reversed.__next__" = some Builtin.«reversed.__next__» := entryFor_of_tree (by kernel_rfl)
theorem eHint : entryFor table "reversed.__length_hint__" = some Builtin.«reversed.__length_hint__» := entryFor_of_tree (by kernel_rfl)
theorem eIter : entryFor table "reversed.__iter__" = some Builtin.«dict_keyiterator.__iter__» := entryFor_alias (id' := "dict_keyiterator.__iter__") (by kernel_rfl) (by first | rfl | decide +kernel | (unfold String.splitOn; simp +decide [String.splitOnAux])) (by decide +kernel) (by kernel_rfl)
theorem aNext (a : Value) : argsOk "reversed.__next__" ⟨[a], []⟩ := by unfold argsOk; rw [signature?_of (id := "reversed.__next__") (n := ['_', '_', 't', 'x', 'e', 'n', '_', '_']) (o := ['d', 'e', 's', 'r', 'e', 'v', 'e', 'r']) (by kernel_rfl) own]; kernel_rfl
theorem aIter (a : Value) : argsOk "reversed.__iter__" ⟨[a], []⟩ := by unfold argsOk; rw [signature?_of (id := "reversed.__iter__") (n := ['_', '_', 'r', 'e', 't', 'i', '_', '_']) (o := ['d', 'e', 's', 'r', 'e', 'v', 'e', 'r']) (by kernel_rfl) own]; kernel_rfl
theorem aHint (a : Value) : argsOk "reversed.__length_hint__" ⟨[a], []⟩ := by unfold argsOk; rw [signature?_of (id := "reversed.__length_hint__") (n := ['_', '_', 't', 'n', 'i', 'h', '_', 'h', 't', 'g', 'n', 'e', 'l', '_', '_']) (o := ['d', 'e', 's', 'r', 'e', 'v', 'e', 'r']) (by kernel_rfl) own]; kernel_rfl
theorem called : TypeCalled "reversed" "reversed.__new__" "object.__init__" := ⟨by decide +kernel, by decide +kernel, ⟨_, _, F.mro_reversed⟩, F.made_reversed, by decide +kernel, by rw [isSubtype_type]; kernel_rfl, sInit⟩
theorem nolen : typeLookup (.type "reversed") "__len__" = pure none := by rw [typeLookup_type, builtinLookup_eq_fast]; kernel_rfl
theorem nolenL : typeLookup (.type "list_reverseiterator") "__len__" = pure none := by rw [typeLookup_type, builtinLookup_eq_fast]; kernel_rfl
theorem hintL : typeLookup (.type "list_reverseiterator") "__length_hint__" = pure (some (.builtin "list_reverseiterator.__length_hint__")) := by rw [typeLookup_type, builtinLookup_eq_fast]; kernel_rfl
theorem norev : typeLookup (.type "tuple") "__reversed__" = pure none := by rw [typeLookup_type, builtinLookup_eq_fast]; kernel_rfl
theorem nodict : isSubtype (.type "tuple") (.type "dict") = pure false := by rw [isSubtype_type]; kernel_rfl
/-- the iterator at it stands ahead of item k of the tuple at t -/
abbrev IsRev (h : Heap) (it t : Addr) (k : Int) : Prop := h.get? it = some { cls := .type "reversed", dict := none, data := .fields #[.ref t, rawInt k], slots := #[] }
section
variable {prog : Program} {w : World} {A : Around} {E : Value → Shared → Prop} {s : Shared} {it t : Addr}
/-- a stop is raised: nothing that was there goes -/
theorem stops {α : Type} {Q : α → Shared → Prop} (hh : A.handled = none) (h : ∀ h' e, (∀ b o, s.heap.get? b = some o → h'.get? b = some o) → Shared.TypeIs { s with heap := h' } (.ref e) "StopIteration" → E (.ref e) { s with heap := h' }) : wpAny (model prog w) A (Builtin.SmallTypes.stopIteration : Sem α) Q E s := by
  unfold Builtin.SmallTypes.stopIteration
  refine wpAny_bind ?_
  unfold newExc newTuple
  refine wpAny_bind (wpAny_newObj_type ?_ (by size_fits))
  rw [show firstArgMember (.type "StopIteration") [] = pure Value.none from by unfold firstArgMember; rfl, pure_bind]
  refine wpAny_newObj_type ?_ (by size_fits)
  unfold raiseNew
  refine wpAny_bind (wpAny_handled ?_)
  rw [hh]
  exact wpAny_throw (h _ _ (fun b o e => Heap.get?_push_of_some _ (Heap.get?_push_of_some _ e)) ⟨_, Heap.get?_push_size _ rfl, rfl⟩)
theorem iterT {k : Int} {Q : Value → Shared → Prop} (hit : IsRev s.heap it t k) (h : Q (.ref it) s) : wpAny (model prog w) A (pyIter (.ref it)) Q E s :=
  have hT : s.TypeIs (.ref it) "reversed" := ⟨_, hit, rfl⟩
  wpAny_pyIter_slot hT sIter (wpAny_call_entry sIter hT eIter (wpAny_pure ⟨_, rfl, "reversed", _, hT, sNext.lookup, h⟩) (aIter _))
theorem nextT {k : Nat} {items : Array Value} {x : Value} {Q : Option Value → Shared → Prop} (hit : IsRev s.heap it t k) (ht : IsTup s.heap t items) (hx : items[k]? = some x) (hk : (k : Int) < 2 ^ 63)
    (hQ : ∀ h' tk, IsRev h' it t ((k : Int) - 1) → Heap.SameBut it s.heap h' → Q (some x) { s with heap := h', toks := tk }) : wpAny (model prog w) A (pyNext (.ref it)) Q E s := by
  have hT : s.TypeIs (.ref it) "reversed" := ⟨_, hit, rfl⟩
  have hlt : k < items.size := (Array.getElem?_eq_some_iff.mp hx).1
  unfold pyNext
  refine wpAny_bind (wpAny_attempt (wpAny_callSpecial?_slot hT sNext (wpAny_call_entry sNext hT eNext ?_ (aNext _))))
  refine (show wpAny (model prog w) A.in1 (field (.ref it) 0 >>= _) _ _ s from wpAny_bind (wpAny_field hit rfl (x := .ref t) rfl ?_))
  refine (show wpAny (model prog w) A.in1 (field (.ref it) 1 >>= _) _ _ s from wpAny_bind (wpAny_field hit rfl (x := rawInt k) rfl ?_))
  refine (show wpAny (model prog w) A.in1 (if (k : Int) < 0 then _ else _) _ _ s from ?_)
  rw [if_neg (by omega)]
  refine wpAny_bind (wpAny_specialOf ht.typeIs slot_tuple_getitem.lookup ?_)
  rw [if_neg (by simp)]
  refine (show wpAny (model prog w) A.in1 (mkInt k >>= _) _ _ s from wpAny_bind (wpAny_mkInt ?_))
  refine wpAny_bind (wpAny_attempt (getItem_tuple (j := k) (x := x) (s := { s with toks := s.toks + 1 }) ht (by omega) hk (by simp [seqIndex?]; omega) hx ?_))
  refine (show wpAny (model prog w) A.in1 (field (.ref it) 1 >>= _) _ _ _ from wpAny_bind (wpAny_field hit rfl (x := rawInt k) rfl ?_))
  exact wpAny_bind (wpAny_setField hit rfl (by simp) (wpAny_pure ⟨x, rfl, wpAny_pure (hQ _ _ (Heap.get?_update_self _ hit rfl) (Heap.SameBut.update ..))⟩))
theorem endT {k : Int} {Q : Option Value → Shared → Prop} (hh : A.handled = none) (hit : IsRev s.heap it t k) (hk : k < 0) (hQ : ∀ h', Heap.ExtBut it s.heap h' → Q none { s with heap := h' }) : wpAny (model prog w) A (pyNext (.ref it)) Q E s := by
  have hT : s.TypeIs (.ref it) "reversed" := ⟨_, hit, rfl⟩
  unfold pyNext
  refine wpAny_bind (wpAny_attempt (wpAny_callSpecial?_slot hT sNext (wpAny_call_entry sNext hT eNext ?_ (aNext _))))
  refine (show wpAny (model prog w) A.in1 (field (.ref it) 0 >>= _) _ _ s from wpAny_bind (wpAny_field hit rfl (x := .ref t) rfl ?_))
  refine (show wpAny (model prog w) A.in1 (field (.ref it) 1 >>= _) _ _ s from wpAny_bind (wpAny_field hit rfl (x := rawInt k) rfl ?_))
  refine (show wpAny (model prog w) A.in1 (if k < 0 then _ else _) _ _ s from ?_)
  rw [if_pos hk]
  refine wpAny_bind (wpAny_rule (wpAny_bind ?_))
  refine (show wpAny (model prog w) A.in1 (setField (.ref it) 1 (rawInt (-1)) >>= fun _ => setField (.ref it) 0 .none) _ _ s from wpAny_bind (wpAny_setField hit rfl (by simp) ?_))
  refine wpAny_setField (Heap.get?_update_self (Obj.mapFields (·.setIfInBounds 1 (rawInt (-1)))) hit rfl) rfl (by simp) ?_
  refine wpAny_bind (stops (A := A.in1) hh fun h' e kk hs => ?_)
  refine wpAny_bind (wpAny_isInstance (T := "StopIteration") (b := true) hs isSubtype_stop (wpAny_pure (hQ _ fun b o hb e => kk b o ?_)))
  exact ((Heap.SameBut.update ..).trans (Heap.SameBut.update ..)).extBut b o hb e
theorem hintT {k : Int} {items : Array Value} {Q : Value → Shared → Prop} (hit : IsRev s.heap it t k) (ht : IsTup s.heap t items) (hz : (items.size : Int) < 2 ^ 63) (hk : k + 1 = items.size)
    (h : ∀ u tk, s.toks ≤ tk → Q (.int (items.size : Int) u) { s with toks := tk }) : wpAny (model prog w) A (call (.builtin "reversed.__length_hint__") [.ref it]) Q E s := by
  have hT : s.TypeIs (.ref it) "reversed" := ⟨_, hit, rfl⟩
  refine wpAny_call_entry sHint hT eHint ?_ (aHint _)
  refine (show wpAny (model prog w) A.in1 (field (.ref it) 0 >>= _) _ _ s from wpAny_bind (wpAny_field hit rfl (x := .ref t) rfl ?_))
  refine (show wpAny (model prog w) A.in1 (if (Value.ref t == Value.none) = true then _ else _) _ _ s from ?_)
  rw [if_neg (show ¬ ((Value.ref t == Value.none) = true) from Bool.false_ne_true)]
  refine (show wpAny (model prog w) A.in1 (call (.builtin "len") [.ref t] >>= _) _ _ s from wpAny_bind (len_tuple ht hz ?_))
  refine wpAny_bind (m := asInt? (.int (items.size : Int) _)) (wpAny_pure ?_)
  refine (show wpAny (model prog w) A.in1 (field (.ref it) 1 >>= _) _ _ _ from wpAny_bind (wpAny_field hit rfl (x := rawInt k) rfl ?_))
  refine (show wpAny (model prog w) A.in1 (if (items.size : Int) < k + 1 then _ else _) _ _ _ from ?_)
  rw [if_neg (by omega), hk]
  exact wpAny_bind (wpAny_mkInt (wpAny_pure ⟨_, rfl, h _ _ (by simp; omega)⟩))
end
theorem newT (t : Addr) (items : Array Value) (hz : (items.size : Int) < 2 ^ 63) :
    Meets (Builtin.«reversed.__new__» ⟨[.type "reversed", .ref t], []⟩) (fun _ R s => IsTup s.heap t items ∧
      ∀ tk, R (.ok (.ret (.ref s.heap.objs.size))) { s with heap := s.heap.push { cls := .type "reversed", data := .fields #[.ref t, rawInt ((items.size : Int) - 1)] }, toks := tk }) :=
  .of_wp fun prog w A R s ⟨ht, h⟩ => by
    unfold Builtin.«reversed.__new__»
    refine wpAny_bind (wpAny_of_eq (newClass_reversed _) (wpAny_bind (m := Builtin.SmallTypes.refuseKeywords _ _ _) (wpAny_pure ?_)))
    refine wpAny_bind (wpAny_of_eq (a := ()) (by rfl) (wpAny_bind (wpAny_specialOf ht.typeIs norev (wpAny_bind ?_))))
    refine (show wpAny (model prog w) A.in1 (isInstance (Value.ref t) (.type "dict") >>= _) _ _ s from wpAny_bind (wpAny_isInstance (T := "tuple") (b := false) ht.typeIs nodict ?_))
    rw [if_neg (by decide)]
    refine wpAny_bind (wpAny_specialOf ht.typeIs slot_tuple_getitem.lookup ?_)
    refine (show wpAny (model prog w) A.in1 (if (["tuple.__getitem__", "str.__getitem__", "bytes.__getitem__", "bytearray.__getitem__", "memoryview.__getitem__", "numpy.ndarray.__getitem__", "sqlite3.Row.__getitem__"].contains "tuple.__getitem__") = true then _ else _) _ _ s from ?_)
    rw [if_pos (by decide)]
    refine wpAny_pure ?_
    rw [if_neg (by decide)]
    refine (show wpAny (model prog w) A.in1 (call (.builtin "len") [.ref t] >>= _) _ _ s from wpAny_bind (len_tuple ht hz ?_))
    refine wpAny_bind (m := asInt? (.int (items.size : Int) _)) (wpAny_pure ?_)
    refine (show wpAny (model prog w) A.in1 (newObj (.type "reversed") (.fields #[.ref t, rawInt ((items.size : Int) - 1)]) >>= _) _ _ _ from wpAny_bind (wpAny_newObj_type ?_ (by size_fits)))
    exact wpAny_pure ⟨_, rfl, h _⟩
theorem callT {prog : Program} {w : World} {A : Around} {E : Value → Shared → Prop} {s : Shared} {t : Addr} {items : Array Value} {Q : Value → Shared → Prop} (ht : IsTup s.heap t items) (hz : (items.size : Int) < 2 ^ 63)
    (h : ∀ tk, Q (.ref s.heap.objs.size) { s with heap := s.heap.push { cls := .type "reversed", data := .fields #[.ref t, rawInt ((items.size : Int) - 1)] }, toks := tk }) : wpAny (model prog w) A (call (.type "reversed") [.ref t]) Q E s :=
  callType_new called (by decide) (F.typeCall_reversed_1 _) (F.newCall_reversed_1 _) (fun obj => F.args_object_init_2 obj _) F.entry_reversed_new (newT t items hz) ⟨ht, fun tk => ⟨⟨_, Heap.get?_push_size _ rfl, rfl⟩, h tk⟩⟩
theorem walkT {prog : Program} {w : World} {A : Around} (hh : A.handled = none) (I t : Addr) (hne : t ≠ I) (items : Array Value) (hz : (items.size : Int) < 2 ^ 63) :
    Walks prog w A I [I, t] [I] items.size (fun i v => items[items.size - 1 - i]? = some v) (fun i h => IsRev h I t ((items.size : Int) - 1 - i) ∧ IsTup h t items) where
  sub := fun b hb => by rw [List.mem_singleton.mp hb]; exact List.mem_cons_self
  frame := fun _ _ _ st hk => ⟨hk I (by simp) _ st.1, let ⟨o, ho, r⟩ := st.2; ⟨o, hk t (by simp) _ ho, r⟩⟩
  item := fun i s Q E hi st hQ => by
    have st1 : IsRev s.heap I t ((items.size - 1 - i : Nat) : Int) := by rw [show ((items.size - 1 - i : Nat) : Int) = (items.size : Int) - 1 - i by omega]; exact st.1
    refine nextT st1 st.2 (x := items[items.size - 1 - i]) (by simp <;> omega) (by omega) fun h' tk hit' hs' => ?_
    rw [show ((items.size - 1 - i : Nat) : Int) - 1 = (items.size : Int) - 1 - ((i + 1 : Nat) : Int) by omega] at hit'
    exact hQ _ h' tk (by simp <;> omega) ⟨hit', st.2.extBut hs'.extBut hne⟩ fun b o hb e => hs'.extBut b o (fun z => hb (List.mem_singleton.mpr z)) e
  done := fun s Q E st hQ => endT hh st.1 (by omega) fun h' he => hQ h' s.toks fun b o hb e => he b o (fun z => hb (List.mem_singleton.mpr z)) e
  self := fun i s Q E st h => iterT st.1 h
/-- an iterator is asked how long it is, as a list asks: any answer, nothing turns -/
def Hints (prog : Program) (w : World) (A : Around) (I : Addr) (St : Nat → Shared → Prop) : Prop :=
  ∀ (s : Shared) (Q : Bool → Shared → Prop) (E : Value → Shared → Prop), St 0 s → (∀ b tk, s.toks ≤ tk → Q b { s with toks := tk }) → wpAny (model prog w) A (Builtin.List.listLengthHint (.ref I)) Q E s
/-- an iterator of a type that is no list and no tuple -/
structure It (prog : Program) (w : World) (A : Around) (I : Addr) (fp wr : List Addr) (n : Nat) (P : Nat → Value → Prop) (St : Nat → Shared → Prop) : Prop where
  walk : WalksS prog w A I fp wr (fun a b => b = a) n P St
  ty : ∃ T, (Value.type T == Value.type "list") = false ∧ (Value.type T == Value.type "tuple") = false ∧ ∀ i s, St i s → s.TypeIs (.ref I) T
  hint : Hints prog w A I St
  mem : I ∈ fp
  few : n ≤ sizeLine
section
variable {prog : Program} {w : World} {A : Around} {E : Value → Shared → Prop} {s : Shared} {R : Result → Shared → Prop} {I S : Addr} {fp wr : List Addr} {n : Nat} {P : Nat → Value → Prop} {St : Nat → Shared → Prop}
abbrev listAt (acc : Array Value) (c : Nat) : Obj := { cls := .type "list", dict := none, data := .seq acc c, slots := #[] }
/-- the empty list at S takes all that comes -/
theorem takes (J : It prog w A.in1 I fp wr n P St) (res : Value) (c₀ : Nat) (hst : St 0 s) (hSf : S ∉ fp) (hS : s.heap.get? S = some (listAt #[] c₀))
    (hR : ∀ s' acc c, Moved (S :: wr) (fun a b => b = a) s s' → s'.heap.get? S = some (listAt acc c) → ItemsOf P acc n → R (.ok (.ret res)) s') :
    wpAny (model prog w) A.in1 (Builtin.List.listExtendWith (.ref S) (.ref I) res)
      (fun fin s' => match fin with | .done f => R (.ok f) s' | .again c' => c'.quiet = true ∧ codeAny (model prog w) A c' R s') (fun e s' => R (.error e) s') s := by
  obtain ⟨T, t1, t2, hT⟩ := J.ty
  have W := J.walk
  have h1 : Builtin.List.listSameRef (.ref S) (.ref I) = false := by
    have : S ≠ I := fun e => hSf (e ▸ J.mem)
    simp [Builtin.List.listSameRef, this]
  unfold Builtin.List.listExtendWith
  refine wpAny_bind (wpAny_typeOf (hT 0 _ hst) ?_)
  rw [h1, t1, t2, Bool.or_false, Bool.or_false, if_neg Bool.false_ne_true]
  refine wpAny_bind (W.self 0 _ _ _ hst (wpAny_bind (wpAny_holding (J.hint _ _ _ hst fun b tk htk => ?_))))
  have go : ∀ (h' : Heap) (c : Nat), (∀ b o, b ≠ S → s.heap.get? b = some o → h'.get? b = some o) → h'.get? S = some (listAt #[] c) →
      codeAny (model prog w) A (.builtin "list.extend.loop" ⟨[.ref S, .ref I, res], []⟩) R { s with heap := h', toks := tk } := fun h' c kk e =>
    codeAny_extend_loopS W J.few _ hSf _ n 0 _ _ _ rfl (Nat.zero_le _) (W.frame 0 s h' tk hst htk fun b hb o e => kk b o (fun z => hSf (z ▸ hb)) e) e (ItemsOf.nil P) fun s' acc c' hm hS' hacc =>
      hR s' acc c' (Moved.trans (s' := { s with heap := h', toks := tk }) W.gtrans ⟨fun b o hb e => kk b o (fun z => hb (by rw [z]; exact List.mem_cons_self)) e, rfl, rfl, rfl, htk⟩ hm) hS' hacc
  refine wpAny_ite_split (fun _ => wpAny_bind (wpAny_rule (wpAny_bind ?_))) (fun _ => wpAny_pure ⟨plainId_quiet F.plain_extend_loop _, go _ _ (fun _ _ _ e => e) hS⟩)
  refine (show wpAny (model prog w) A.in1 (updateSeq S (·.push .none) >>= fun _ => updateSeq S (·.pop)) _ _ _ from wpAny_bind (wpAny_updateSeq hS rfl ?_))
  have e2 := Heap.get?_update_self (Obj.mapSeq (·.push Value.none)) hS rfl
  refine wpAny_updateSeq (hz := by seq_fits) e2 rfl (wpAny_pure ⟨plainId_quiet F.plain_extend_loop _, go _ _ (fun b o hb e => ?_) (Heap.get?_update_self (Obj.mapSeq (·.pop)) e2 rfl)⟩)
  exact (Heap.get?_update_other _ _ (Ne.symm hb)).trans ((Heap.get?_update_other _ _ (Ne.symm hb)).trans e)
/-- list(it) -/
theorem listOf {Q : Value → Shared → Prop} (J : It prog w A.in1.in1 I fp wr n P St) (hst : St 0 s) (hfp : ∀ b ∈ fp, b < s.heap.objs.size)
    (hQ : ∀ s' acc c, Moved (s.heap.objs.size :: wr) (fun a b => b = a) { s with heap := s.heap.push (listAt #[] 0) } s' → s'.heap.get? s.heap.objs.size = some (listAt acc c) → ItemsOf P acc n → Q (.ref s.heap.objs.size) s') :
    wpAny (model prog w) A (call (.type "list") [.ref I]) Q E s := by
  have hSf : s.heap.objs.size ∉ fp := fun hm => Nat.lt_irrefl _ (hfp _ hm)
  refine callType_codes (Q₁ := fun obj s₁ => obj = .ref s.heap.objs.size ∧ s₁ = { s with heap := s.heap.push (listAt #[] 0) }) F.called_list (F.typeCall_list_1 _) F.entry_list_init (code_list_new _ ⟨rfl, rfl⟩) ?_
  rintro obj s₁ ⟨rfl, rfl⟩
  have hS : (s.heap.push (listAt #[] 0)).get? s.heap.objs.size = some (listAt #[] 0) := Heap.get?_push_size _ rfl
  refine ⟨⟨_, hS, rfl⟩, F.args_list_init_2 _ _, ?_⟩
  refine (show wpAny (model prog w) A.in1.in1 (Builtin.List.listItems (.ref s.heap.objs.size) >>= fun old => Builtin.List.listUpdate (.ref s.heap.objs.size) (fun _ => #[]) >>= fun _ => letGo old.toList.reverse >>= fun _ => Builtin.List.listExtendWith (.ref s.heap.objs.size) (.ref I) .none) _ _ _ from wpAny_bind ?_)
  unfold Builtin.List.listItems
  refine wpAny_bind (wpAny_seqItems hS rfl (wpAny_pure ?_))
  refine (show wpAny (model prog w) A.in1.in1 (updateSeq s.heap.objs.size (fun _ => #[]) >>= fun _ => letGo (#[] : Array Value).toList.reverse >>= fun _ => Builtin.List.listExtendWith (.ref s.heap.objs.size) (.ref I) .none) _ _ _ from wpAny_bind (wpAny_updateSeq hS rfl (wpAny_bind (wpAny_letGo ?_))))
  have kk : ∀ b o, b ≠ s.heap.objs.size → (s.heap.push (listAt #[] 0)).get? b = some o → ((s.heap.push (listAt #[] 0)).update s.heap.objs.size (Obj.mapSeq (fun _ => (#[] : Array Value)))).get? b = some o := fun b o hb e => (Heap.get?_update_other _ _ (Ne.symm hb)).trans e
  refine takes (A := A.in1) J .none _ (J.walk.frame 0 s _ s.toks hst (Nat.le_refl _) fun b hb o e => kk b o (fun z => hSf (z ▸ hb)) (Heap.get?_push_of_some _ e)) hSf (Heap.get?_update_self (Obj.mapSeq (fun _ => (#[] : Array Value))) hS rfl) fun s' acc c hm hS' hacc => ⟨rfl, hQ s' acc c ?_ hS' hacc⟩
  exact Moved.trans (s' := { s with heap := (s.heap.push (listAt #[] 0)).update s.heap.objs.size (Obj.mapSeq (fun _ => (#[] : Array Value))) }) J.walk.gtrans ⟨fun b o hb e => kk b o (fun z => hb (by rw [z]; exact List.mem_cons_self)) e, rfl, rfl, rfl, Nat.le_refl _⟩ hm
/-- all that an iterator tells, in a row -/
theorem collected {Q : List Value → Shared → Prop} (J : It prog w A.in1 I fp wr n P St) (hst : St 0 s) (hfp : ∀ b ∈ fp, b < s.heap.objs.size) (hQ : ∀ s' acc, Moved wr (fun a b => b = a) s s' → ItemsOf P acc n → Q acc.toList s') :
    wpAny (model prog w) A (collect (.ref I)) Q E s := by
  have hSf : s.heap.objs.size ∉ fp := fun hm => Nat.lt_irrefl _ (hfp _ hm)
  unfold collect
  refine wpAny_bind (wpAny_runValue (codeAny_builtin F.entry_proto_collect ?_))
  rw [Around.under_plainId F.plain_proto_collect _]
  refine (show wpAny (model prog w) A.in1 (newList [] >>= fun l => again (.builtin "list.__iadd__" ⟨[l, .ref I], []⟩)) _ _ s from wpAny_bind (wpAny_newObj_type (wpAny_pure ⟨plainId_quiet F.plain_list_iadd _, codeAny_builtin F.entry_list_iadd ?_⟩)))
  rw [Around.under_plainId F.plain_list_iadd _]
  have hS : (s.heap.push (listAt #[] 0)).get? s.heap.objs.size = some (listAt #[] 0) := Heap.get?_push_size _ rfl
  have fin : ∀ s', (∃ acc c, Moved (s.heap.objs.size :: wr) (fun a b => b = a) { s with heap := s.heap.push (listAt #[] 0) } s' ∧ s'.heap.get? s.heap.objs.size = some (listAt acc c) ∧ ItemsOf P acc n) →
      wpAny (model prog w) A (do
        match (← load s.heap.objs.size).data with
        | .seq xs _ => pure xs.toList
        | _ => unsupported "internal:collect") Q E s' := by
    rintro s' ⟨acc, c, hm, hS', hacc⟩
    exact wpAny_bind (wpAny_load hS' (wpAny_pure (hQ s' acc (Moved.drop_new (o := listAt #[] 0) (tk := s.toks) hm (Nat.le_refl _)) hacc)))
  refine (show wpAny (model prog w) A.in1 (Builtin.List.listExtendWith (.ref s.heap.objs.size) (.ref I) (.ref s.heap.objs.size)) _ _ _ from ?_)
  refine wpAny_mono (takes (A := A) (R := fun r s' => r = .ok (.ret (.ref s.heap.objs.size)) ∧ ∃ acc c, Moved (s.heap.objs.size :: wr) (fun a b => b = a) { s with heap := s.heap.push (listAt #[] 0) } s' ∧ s'.heap.get? s.heap.objs.size = some (listAt acc c) ∧ ItemsOf P acc n) J _ _
    (J.walk.frame 0 s _ s.toks hst (Nat.le_refl _) fun b _ o e => Heap.get?_push_of_some _ e) hSf hS (fun s' acc c hm hS' hacc => ⟨rfl, acc, c, hm, hS', hacc⟩)) (fun fn s' h => ?_) (fun e s' h => absurd h.1 (by simp))
  cases fn with
  | done f =>
    obtain ⟨e, h⟩ := h
    cases e
    exact fin s' h
  | again c' => exact ⟨h.1, codeAny_mono h.2 fun r s'' hr => by obtain ⟨rfl, hr⟩ := hr; exact fin s'' hr⟩
theorem hintsL {l : Addr} {k : Nat → Int} {U : Nat → Shared → Prop} : Hints prog w A I (fun i s => i ≤ n ∧ s.heap.IsRevIter I l (k i) ∧ U i s) := by
  intro s Q E st h
  have hT : s.TypeIs (.ref I) "list_reverseiterator" := st.2.1.typeIs
  unfold Builtin.List.listLengthHint
  refine wpAny_bind (wpAny_specialOf hT nolenL ?_)
  refine (show wpAny (model prog w) A (specialOf (Value.ref I) (Str.ofString "__length_hint__") >>= _) _ _ _ from wpAny_bind (wpAny_specialOf hT hintL ?_))
  (generalize hid : ("list_reverseiterator.__length_hint__" : String) = id0; (fail_if_success (clear hid id0)); wp_delta; rw [show splitId id0 = some ("list_reverseiterator", "__length_hint__") from by subst hid; decide +kernel]; subst hid)
  exact wpAny_bind (wpAny_isInstance (b := true) hT (by rw [isSubtype_type]; kernel_rfl) (wpAny_pure (h _ _ (Nat.le_refl _))))
theorem hintsT {t : Addr} {items : Array Value} (hz : items.size ≤ sizeLine) : Hints prog w A I (fun i s => IsRev s.heap I t ((items.size : Int) - 1 - i) ∧ IsTup s.heap t items) := by
  intro s Q E st h
  have hT : s.TypeIs (.ref I) "reversed" := ⟨_, st.1, rfl⟩
  have hl := sizeLine_eq
  unfold Builtin.List.listLengthHint
  refine wpAny_bind (wpAny_specialOf hT nolen ?_)
  refine (show wpAny (model prog w) A (specialOf (Value.ref I) (Str.ofString "__length_hint__") >>= _) _ _ _ from wpAny_bind (wpAny_specialOf hT sHint.lookup ?_))
  (generalize hid : ("reversed.__length_hint__" : String) = id0; (fail_if_success (clear hid id0)); wp_delta; rw [show splitId id0 = some ("reversed", "__length_hint__") from by subst hid; decide +kernel]; subst hid)
  refine wpAny_bind (wpAny_isInstance (b := true) hT (by rw [isSubtype_type]; kernel_rfl) ?_)
  rw [if_neg (by decide)]
  refine wpAny_ite_split (fun hab => absurd hab (by decide +kernel)) (fun _ => wpAny_bind (wpAny_rule (wpAny_bind (wpAny_of_eq (sHint.bind _) ?_))))
  refine (show wpAny (model prog w) A ((call (.builtin "reversed.__length_hint__") [.ref I]).attempt >>= _) _ _ _ from wpAny_bind (wpAny_attempt (hintT (items := items) st.1 st.2 (by omega) (by omega) fun u tk htk => ?_)))
  dsimp only
  have ha : ∀ (n : Int) (u : Tok), asInt? (Value.int n u) = pure (some n) := fun _ _ => rfl
  have h1 : Builtin.List.listFitsIndex (items.size : Int) = true := by
    unfold Builtin.List.listFitsIndex
    simp only [Bool.and_eq_true, decide_eq_true_eq]
    omega
  have h2 : Builtin.List.listTooLong ((items.size : Int)).toNat = false := by simp [Builtin.List.listTooLong, sizeLine]; omega
  rw [ha, pure_bind]
  dsimp only
  rw [h1, h2, if_neg (by decide), if_neg (by omega), if_neg (by decide)]
  exact wpAny_pure (h _ _ htk)
end
theorem moved_eq {wr : List Addr} {s s' : Shared} (hm : Moved wr (fun a b => b = a) s s') : s' = { s with heap := s'.heap, toks := s'.toks } := by
  obtain ⟨h', g', d', tk', os'⟩ := s'
  cases (show g' = s.gens from hm.gens)
  cases (show d' = s.drawn from hm.drawn)
  cases (show os' = s.os from hm.os)
  rfl
theorem back {its : List Value} {acc : Array Value} (h : ItemsOf (fun i v => its.toArray[its.toArray.size - 1 - i]? = some v) acc its.toArray.size) : acc.toList = its.reverse := by
  obtain ⟨hs0, hp⟩ := h
  have hs : acc.size = its.length := by simpa using hs0
  apply List.ext_getElem?
  intro i
  by_cases hi : i < its.length
  · have h1 : i < acc.size := by omega
    have e := hp i acc[i] (by simp [h1])
    rw [List.getElem?_reverse hi, Array.getElem?_toList, Array.getElem?_eq_getElem h1, ← e]
    simp
  · rw [List.getElem?_eq_none (by rw [Array.length_toList]; omega), List.getElem?_eq_none (by rw [List.length_reverse]; omega)]
theorem itT {prog : Program} {w : World} {A : Around} {I t : Addr} {items : Array Value} (hh : A.handled = none) (hne : t ≠ I) (hz : items.size ≤ sizeLine) :
    It prog w A I [I, t] [I] items.size (fun i v => items[items.size - 1 - i]? = some v) (fun i s => IsRev s.heap I t ((items.size : Int) - 1 - i) ∧ IsTup s.heap t items) where
  walk := (walkT hh I t hne items (by have := sizeLine_eq; omega)).toS
  ty := ⟨"reversed", by decide, by decide, fun _ _ st => ⟨_, st.1, rfl⟩⟩
  hint := hintsT hz
  mem := by simp
  few := hz
theorem itL {prog : Program} {w : World} {A : Around} {I l : Addr} {items : Array Value} (hh : A.handled = none) (hne : l ≠ I) (hz : items.size ≤ sizeLine) :
    It prog w A I [I, l] [I] items.size (fun i v => items[items.size - 1 - i]? = some v) (fun i s => i ≤ items.size ∧ s.heap.IsRevIter I l ((items.size : Int) - 1 - (i : Int)) ∧ s.heap.IsList l items) where
  walk := (Walks.listRev hh I l hne items).toS
  ty := ⟨"list_reverseiterator", by decide, by decide, fun _ _ st => st.2.1.typeIs⟩
  hint := hintsL (k := fun i => (items.size : Int) - 1 - (i : Int)) (U := fun _ s => s.heap.IsList l items)
  mem := by simp
  few := hz
/-- tuple(reversed(l)) -/
theorem tupleL {prog : Program} {w : World} (it l : Addr) (its : List Value) (hz : its.toArray.size ≤ sizeLine) :
    MeetsIn prog w (Builtin.«tuple.__new__» ⟨[.type "tuple", .ref it], []⟩) (fun A R s => A.handled = none ∧ l ≠ it ∧ s.heap.IsRevIter it l ((its.toArray.size : Int) - 1) ∧ s.heap.IsList l its.toArray ∧
      ∀ (h' : Heap) (tk : Nat), (∀ b o, b ≠ it → s.heap.get? b = some o → h'.get? b = some o) → R (.ok (.ret (.ref h'.objs.size))) { s with heap := h'.push { cls := .type "tuple", data := .seq its.reverse.toArray }, toks := tk }) :=
  .of_wp fun A R s h => by
    obtain ⟨hp, g, d, tk, os⟩ := s
    obtain ⟨hh, hne, hit, hl, h⟩ := h
    have hsub := sub_tuple_self
    have hinit := init_tuple_lookup
    have hmh := madeHere_tuple
    have hT : Shared.TypeIs ⟨hp, g, d, tk, os⟩ (.ref it) "list_reverseiterator" := hit.typeIs
    obtain ⟨oi, hoi, _⟩ := id hit
    obtain ⟨ol, hol, _⟩ := id hl
    have hfp : ∀ b ∈ [it, l], b < hp.objs.size := fun b hb => by
      simp only [List.mem_cons, List.not_mem_nil, or_false] at hb
      rcases hb with rfl | rfl
      · exact Heap.lt_size hoi
      · exact Heap.lt_size hol
    have hcol : ∀ (Q : List Value → Shared → Prop) (E : Value → Shared → Prop), (∀ s' acc, Moved [it] (fun a b => b = a) ⟨hp, g, d, tk, os⟩ s' → ItemsOf (fun i v => its.toArray[its.toArray.size - 1 - i]? = some v) acc its.toArray.size → Q acc.toList s') →
        wpAny (model prog w) A.in1 (collect (.ref it)) Q E ⟨hp, g, d, tk, os⟩ := fun Q E hQ => collected (itL (A := A.in1.in1) hh hne hz) ⟨Nat.zero_le _, by simpa using hit, hl⟩ hfp hQ
    wp_walk using AutoSeq1.wpAny_loadPart' hoi, wpAny_typeOf hT, hcol _ _
    intro s' acc hm hacc
    rw [back hacc]
    refine (show wpAny (model prog w) A.in1 (Builtin.Tuple.tupleExact its.reverse.toArray >>= fun v => ret v) _ _ _ from ?_)
    unfold Builtin.Tuple.tupleExact
    refine wpAny_bind (wpAny_newObj_type (wpAny_pure ⟨_, rfl, ?_⟩) (by show its.reverse.toArray.size ≤ sizeLine; simpa using hz))
    rw [moved_eq hm]
    exact h s'.heap s'.toks fun b o hb e => hm.heap b o (by simpa using hb) e
end KRv
/-! REVERSED, ALL, COUNT (own work): the layer's rules. -/
namespace L2
open PySem PySem.Spec PyProof.Rows
section
variable {X : Cx} {e : Expr} {te : TE} {p p2 pos pos2 : Pos}
/-- behind reversed(e) of a tuple, of a list -/
def RevT (X : Cx) (pins : List (Addr × Obj)) (σ : St) (R : Addr → List V → Hp → Prop) (v : Value) (s : Shared) : Prop :=
  ∃ (a it : Addr) (xs : List V) (its : List Value) (H : Hp), v = .ref it ∧ Inv X pins σ H s ∧ KRv.IsRev s.heap it a ((its.toArray.size : Int) - 1) ∧ IsTup s.heap a its.toArray ∧ a ≠ it ∧ Vals xs its ∧ its.toArray.size ≤ sizeLine ∧ SqT X.K H a xs ∧ FpOk X pins H it ∧ R a xs H
def RevL (X : Cx) (pins : List (Addr × Obj)) (σ : St) (R : Addr → List V → Hp → Prop) (v : Value) (s : Shared) : Prop :=
  ∃ (a it : Addr) (xs : List V) (its : List Value) (H : Hp), v = .ref it ∧ Inv X pins σ H s ∧ s.heap.IsRevIter it a ((its.toArray.size : Int) - 1) ∧ s.heap.IsList a its.toArray ∧ a ≠ it ∧ Vals xs its ∧ its.toArray.size ≤ sizeLine ∧ SqL X.K H a xs ∧ FpOk X pins H it ∧ R a xs H
theorem ev_revT {pins : List (Addr × Obj)} {s : Shared} {σ : St} {H : Hp} {R : Addr → List V → Hp → Prop} (hg : Gl X "reversed") (hm : X.mg "reversed" = none) (he : PE X e te) (hs : unstar e = true) (I : Inv X pins σ H s)
    (h : te σ H fun x H1 => ∃ a xs, x = .ref a ∧ SqT X.K H1 a xs ∧ R a xs H1) : wpAny (model X.prog X.w) X.A (eval (.Call (.Name "reversed" p2) [e] [] pos2) X.env) (RevT X pins σ R) X.xe s := by
  refine wpAny_Call_Name_kw (ld_blt I hg hm PyProof.Rows.boot_reversed ?_)
  refine PyProof.Rows.callWith_type1 ?_ (starEach_one hs) rfl
  rw [starEach_one hs]
  show wpAny _ _ (spliced ((false, eval e X.env) :: backTo pos2 (starEach [] X.env))) _ _ s
  refine Calls.spliced_cons (thn (he pins s σ H _ I h) fun u s1 ⟨x, H1, I1, r1, a, xs, ex, hq, q⟩ => Calls.spliced_nil ?_)
  subst ex
  cases r1
  obtain ⟨its, rv, pl, hz⟩ := I1.tuple hq
  have hl := rv.length
  have h63 := line63
  refine KRv.callT pl (by rw [List.size_toArray]; omega) fun tk => ?_
  exact ⟨a, s1.heap.objs.size, xs, its, H1, rfl, I1.kept fun b o e => Heap.get?_push_of_some _ e, Heap.get?_push_size _ rfl, pl.push _, Nat.ne_of_lt pl.lt, rv, by rw [List.size_toArray]; omega, hq, I1.fpOk (Nat.le_refl _) (I1.hok.fresh (Nat.le_refl _)), q⟩
theorem ev_revL {pins : List (Addr × Obj)} {s : Shared} {σ : St} {H : Hp} {R : Addr → List V → Hp → Prop} (hg : Gl X "reversed") (hm : X.mg "reversed" = none) (he : PE X e te) (hs : unstar e = true) (I : Inv X pins σ H s)
    (h : te σ H fun x H1 => ∃ a xs, x = .ref a ∧ SqL X.K H1 a xs ∧ R a xs H1) : wpAny (model X.prog X.w) X.A (eval (.Call (.Name "reversed" p2) [e] [] pos2) X.env) (RevL X pins σ R) X.xe s := by
  refine wpAny_Call_Name_kw (ld_blt I hg hm PyProof.Rows.boot_reversed ?_)
  refine PyProof.Rows.callWith_type1 ?_ (starEach_one hs) rfl
  rw [starEach_one hs]
  show wpAny _ _ (spliced ((false, eval e X.env) :: backTo pos2 (starEach [] X.env))) _ _ s
  refine Calls.spliced_cons (thn (he pins s σ H _ I h) fun u s1 ⟨x, H1, I1, r1, a, xs, ex, hq, q⟩ => Calls.spliced_nil ?_)
  subst ex
  cases r1
  obtain ⟨its, rv, pl, hz⟩ := I1.list hq
  have hl := rv.length
  have hlt : a < s1.heap.objs.size := by obtain ⟨o, ho, _⟩ := pl.isList; exact Heap.lt_size ho
  refine call_reversed_list pl.isList ?_
  exact ⟨a, s1.heap.objs.size, xs, its, H1, rfl, I1.kept (t' := s1.toks) fun b o e => Heap.get?_push_of_some _ e, ⟨_, Heap.get?_push_size _ rfl, rfl, rfl⟩, let ⟨o, ho, r⟩ := pl.isList; ⟨o, Heap.get?_push_of_some _ ho, r⟩, Nat.ne_of_lt hlt, rv, by rw [List.size_toArray]; omega, hq, I1.fpOk (Nat.le_refl _) (I1.hok.fresh (Nat.le_refl _)), q⟩
/-- a list was made while an iterator of ours turned -/
theorem rev_end {pins : List (Addr × Obj)} {σ : St} {H : Hp} {s s' : Shared} {it : Addr} {acc : Array Value} {c : Nat} {ys : List V} {Q : VK} (I : Inv X pins σ H s) (fp : FpOk X pins H it) (hit : it < s.heap.objs.size)
    (hm : Moved (s.heap.objs.size :: [it]) (fun a b => b = a) { s with heap := s.heap.push (KRv.listAt #[] 0) } s') (hS : s'.heap.get? s.heap.objs.size = some (KRv.listAt acc c))
    (rv : Vals ys acc.toList) (hz : ys.length ≤ sizeLine) (q : ∀ l, H l = none → Q (.ref l) (upd H l (.lst ys))) : EP X pins σ Q (.ref s.heap.objs.size) s' := by
  have I2 : Inv X pins σ (upd H s.heap.objs.size (.lst ys)) { s with heap := s.heap.push { cls := .type "list", dict := none, data := .seq acc c, slots := #[] } } :=
    I.laid (t' := s.toks) (fun b o e => Heap.get?_push_of_some _ e) (Nat.le_refl _) (show ObjOk X.prog X.w _ _ _ (.lst ys) from ⟨hz, acc.toList, c, rv, by simpa using Heap.get?_push_size s.heap (o := { cls := .type "list", dict := none, data := .seq acc c, slots := #[] }) rfl⟩)
  obtain ⟨f0, f1, f2, f3, f4, f5⟩ := fp
  have I3 := I2.turned (h' := s'.heap) (t' := s'.toks) (it := it) (fun b o hb e => ?_) (by rw [upd_ne (Nat.ne_of_lt hit)]; exact f0) f1 f3 f4 f5
  · rw [KRv.moved_eq hm]
    exact ⟨.ref s.heap.objs.size, _, I3, rfl, q _ (I.hok.fresh (Nat.le_refl _))⟩
  · rcases Heap.get?_push_cases e with ⟨z1, z2⟩ | e
    · rw [z1, z2]; exact hS
    · refine hm.heap b o (fun z => ?_) (Heap.get?_push_of_some _ e)
      simp only [List.mem_cons, List.not_mem_nil, or_false] at z
      rcases z with z | z
      · rw [z] at e; exact absurd (Heap.lt_size e) (Nat.lt_irrefl _)
      · exact hb z
def tLRevT (K : PySem.W.Frag) (te : TE) : TE := fun σ H Q => te σ H fun x H1 => ∃ a xs, x = .ref a ∧ SqT K H1 a xs ∧ ∀ l, H1 l = none → Q (.ref l) (upd H1 l (.lst xs.reverse))
def tLRevL (K : PySem.W.Frag) (te : TE) : TE := fun σ H Q => te σ H fun x H1 => ∃ a xs, x = .ref a ∧ SqL K H1 a xs ∧ ∀ l, H1 l = none → Q (.ref l) (upd H1 l (.lst xs.reverse))
def tTRevL (K : PySem.W.Frag) (te : TE) : TE := fun σ H Q => te σ H fun x H1 => ∃ a xs, x = .ref a ∧ SqL K H1 a xs ∧ ∀ l, H1 l = none → Q (.ref l) (upd H1 l (.tup xs.reverse))
theorem pe_listRev_tup (hc : X.calm = true) (hgl : Gl X "list") (hml : X.mg "list" = none) (hg : Gl X "reversed") (hm : X.mg "reversed" = none) (he : PE X e te) (hs : unstar e = true) :
    PE X (.Call (.Name "list" p) [.Call (.Name "reversed" p2) [e] [] pos2] [] pos) (tLRevT X.K te) := by
  intro pins s σ H Q I h
  refine wpAny_Call_Name_kw (ld_blt I hgl hml PyProof.Rows.boot_list ?_)
  refine PyProof.Rows.callWith_type1 ?_ (starEach_one rfl) rfl
  rw [starEach_one rfl]
  show wpAny _ _ (spliced ((false, eval (.Call (.Name "reversed" p2) [e] [] pos2) X.env) :: backTo pos (starEach [] X.env))) _ _ s
  refine Calls.spliced_cons (thn (ev_revT (R := fun _ xs H1 => ∀ l, H1 l = none → Q (.ref l) (upd H1 l (.lst xs.reverse))) hg hm he hs I h) fun v s1 h1 => Calls.spliced_nil ?_)
  obtain ⟨a, it, xs, its, H1, rfl, I1, hit, ht, hne, rv, hz, _, fp, q⟩ := h1
  have hi := Heap.lt_size hit
  have hl := rv.length
  refine KRv.listOf (KRv.itT (prog := X.prog) (w := X.w) (A := X.A.in1.in1) (I := it) (t := a) (items := its.toArray) (I.ok.hd hc) hne hz) ⟨by simpa using hit, ht⟩ (fun b hb => ?_) (fun s' acc c' hm' hS hacc => ?_)
  · simp only [List.mem_cons, List.not_mem_nil, or_false] at hb
    rcases hb with rfl | rfl
    · exact hi
    · exact ht.lt
  · exact rev_end I1 fp hi hm' hS (by rw [KRv.back hacc]; exact rv.reverse) (by rw [List.length_reverse]; rw [List.size_toArray] at hz; omega) q
theorem pe_listRev_list (hc : X.calm = true) (hgl : Gl X "list") (hml : X.mg "list" = none) (hg : Gl X "reversed") (hm : X.mg "reversed" = none) (he : PE X e te) (hs : unstar e = true) :
    PE X (.Call (.Name "list" p) [.Call (.Name "reversed" p2) [e] [] pos2] [] pos) (tLRevL X.K te) := by
  intro pins s σ H Q I h
  refine wpAny_Call_Name_kw (ld_blt I hgl hml PyProof.Rows.boot_list ?_)
  refine PyProof.Rows.callWith_type1 ?_ (starEach_one rfl) rfl
  rw [starEach_one rfl]
  show wpAny _ _ (spliced ((false, eval (.Call (.Name "reversed" p2) [e] [] pos2) X.env) :: backTo pos (starEach [] X.env))) _ _ s
  refine Calls.spliced_cons (thn (ev_revL (R := fun _ xs H1 => ∀ l, H1 l = none → Q (.ref l) (upd H1 l (.lst xs.reverse))) hg hm he hs I h) fun v s1 h1 => Calls.spliced_nil ?_)
  obtain ⟨a, it, xs, its, H1, rfl, I1, hit, ht, hne, rv, hz, _, fp, q⟩ := h1
  have hi : it < s1.heap.objs.size := by obtain ⟨o, ho, _⟩ := hit; exact Heap.lt_size ho
  have hl := rv.length
  refine KRv.listOf (KRv.itL (prog := X.prog) (w := X.w) (A := X.A.in1.in1) (I := it) (l := a) (items := its.toArray) (I.ok.hd hc) hne hz) ⟨Nat.zero_le _, by simpa using hit, ht⟩ (fun b hb => ?_) (fun s' acc c' hm' hS hacc => ?_)
  · simp only [List.mem_cons, List.not_mem_nil, or_false] at hb
    rcases hb with rfl | rfl
    · exact hi
    · obtain ⟨o, ho, _⟩ := ht; exact Heap.lt_size ho
  · exact rev_end I1 fp hi hm' hS (by rw [KRv.back hacc]; exact rv.reverse) (by rw [List.length_reverse]; rw [List.size_toArray] at hz; omega) q
theorem pe_tupleRev_list (hc : X.calm = true) (hgl : Gl X "tuple") (hml : X.mg "tuple" = none) (hg : Gl X "reversed") (hm : X.mg "reversed" = none) (he : PE X e te) (hs : unstar e = true) :
    PE X (.Call (.Name "tuple" p) [.Call (.Name "reversed" p2) [e] [] pos2] [] pos) (tTRevL X.K te) := by
  intro pins s σ H Q I h
  refine wpAny_Call_Name_kw (ld_blt I hgl hml PyProof.Rows.boot_tuple ?_)
  refine PyProof.Rows.callWith_type1 ?_ (starEach_one rfl) rfl
  rw [starEach_one rfl]
  show wpAny _ _ (spliced ((false, eval (.Call (.Name "reversed" p2) [e] [] pos2) X.env) :: backTo pos (starEach [] X.env))) _ _ s
  refine Calls.spliced_cons (thn (ev_revL (R := fun _ xs H1 => ∀ l, H1 l = none → Q (.ref l) (upd H1 l (.tup xs.reverse))) hg hm he hs I h) fun v s1 h1 => Calls.spliced_nil ?_)
  obtain ⟨a, it, xs, its, H1, rfl, I1, hit, ht, hne, rv, hz, _, fp, q⟩ := h1
  have hl := rv.length
  refine callType_newIn F.called_tuple (by decide) (F.typeCall_tuple_1 _) (F.newCall_tuple_1 _) (fun obj => F.args_object_init_2 obj _) F.entry_tuple_new (KRv.tupleL it a its hz) ⟨I.ok.hd hc, hne, hit, ht, fun h' tk kk => ⟨⟨_, Heap.get?_push_size _ rfl, rfl⟩, ?_⟩⟩
  obtain ⟨f0, f1, f2, f3, f4, f5⟩ := fp
  have I2 := I1.turned (h' := h') (t' := tk) (it := it) kk f0 f1 f3 f4 f5
  have I3 : Inv X pins σ (upd H1 h'.objs.size (.tup xs.reverse)) { s1 with heap := h'.push { cls := .type "tuple", data := .seq its.reverse.toArray }, toks := tk } :=
    I2.laid (t' := tk) (fun b o e => Heap.get?_push_of_some _ e) (Nat.le_refl _) (show ObjOk X.prog X.w _ _ _ (.tup xs.reverse) from ⟨by rw [List.length_reverse]; rw [List.size_toArray] at hz; omega, its.reverse, rv.reverse, IsTup.new _ _⟩)
  exact ⟨.ref h'.objs.size, _, I3, rfl, q _ (I2.hok.fresh (Nat.le_refl _))⟩
/-! ### all of a list of truths -/
theorem range_all : ∀ (bs : List Bool), (List.range bs.length).all (fun i => bs.getD i true) = bs.all id := by
  intro bs
  rw [Bool.eq_iff_iff, List.all_eq_true, List.all_eq_true]
  constructor
  · intro h x hx
    obtain ⟨i, hi, e⟩ := List.getElem_of_mem hx
    have := h i (List.mem_range.mpr hi)
    rw [List.getD_eq_getElem?_getD, List.getElem?_eq_getElem hi, Option.getD_some, e] at this
    exact this
  · intro h i hi
    have hi' := List.mem_range.mp hi
    rw [List.getD_eq_getElem?_getD, List.getElem?_eq_getElem hi', Option.getD_some]
    exact h _ (List.getElem_mem hi')
def rAllL (K : PySem.W.Frag) : List V → Hp → VK → Prop := fun xs H Q => ∃ (p : Addr) (bs : List Bool), xs = [.ref p] ∧ SqL K H p (bs.map V.bl) ∧ Q (.bl (bs.all id)) H
theorem call_allL (hc : X.calm = true) : CallR X (.builtin "all") (rAllL X.K) := by
  intro pins s σ H xs us Q I r h
  obtain ⟨p, bs, rfl, hp, hQ⟩ := h
  obtain ⟨u, rfl, ru⟩ := r.one
  cases ru
  obtain ⟨its, rv, pl, hz⟩ := I.list hp
  have hlen := rv.length
  rw [List.length_map] at hlen
  have hlt : p < s.heap.objs.size := by obtain ⟨o, ho, _⟩ := pl.isList; exact Heap.lt_size ho
  refine call_all_walk (wpAny_pyIter_list pl.isList ?_)
  refine ⟨s.heap.objs.size, [s.heap.objs.size, p], [s.heap.objs.size], its.toArray.size, _, _, fun i => bs.getD i true, rfl, Walks.list (A := X.A.in1) (I.ok.hd hc) _ p (Nat.ne_of_lt hlt) its.toArray, ⟨⟨_, Heap.get?_push_size _ rfl, rfl, rfl⟩, let ⟨o, ho, r⟩ := pl.isList; ⟨o, Heap.get?_push_of_some _ ho, r⟩⟩, ?_, fun h' tk kk => ?_⟩
  · intro i v s' Q' E' hv hq
    have hi : i < its.length := by
      have := (Array.getElem?_eq_some_iff.mp hv).1
      simpa using this
    obtain ⟨v1, e1, e2⟩ := rv.get (i := i) (x := V.bl bs[i]) (by rw [List.getElem?_map, List.getElem?_eq_getElem (by omega)]; rfl)
    have e3 : its[i]? = some v := by simpa using hv
    rw [e1] at e3
    cases e3
    have e4 : v = Value.bool bs[i] := e2
    subst e4
    refine wpAny_truthy_bool ?_
    have e5 : bs.getD i true = bs[i] := by rw [List.getD_eq_getElem?_getD, List.getElem?_eq_getElem (by omega)]; rfl
    rw [← e5]
    exact hq
  · refine ⟨.bl (bs.all id), H, I.kept fun b o e => kk b o ?_ (Heap.get?_push_of_some _ e), ?_, hQ⟩
    · simp only [List.mem_cons, List.not_mem_nil, or_false]
      exact Nat.ne_of_lt (Heap.lt_size e)
    · show Value.bool _ = Value.bool _
      rw [List.size_toArray, ← hlen, range_all]
/-! ### xs.count(text) of a list of texts -/
theorem strsAre_of : ∀ {ys : List Str} {us : List Value}, Vals (ys.map V.str) us → StrsAre us ys
  | [], _, h => by cases h; exact .nil
  | y :: ys, _, h => by
    cases h with
    | cons r t => obtain ⟨tk, rfl⟩ := r; exact .cons y tk (strsAre_of t)
theorem countIn_strs (k : Str) : ∀ ys : List Str, countIn (.str k) (ys.map PyData.str) = ((ys.count k : Nat) : Int)
  | [] => rfl
  | y :: ys => by
    rw [List.map_cons, countIn, countIn_strs k ys, List.count_cons]
    by_cases h : y = k <;> simp [same, h] <;> omega
def rCountS : V → List V → Hp → VK → Prop := fun x vs H Q => ∃ (l : Addr) (ys : List Str) (k : Str), x = .ref l ∧ vs = [.str k] ∧ H l = some (.lst (ys.map V.str)) ∧ Q (.int ((ys.count k : Nat) : Int)) H
theorem mt_countS : MtM X "list.count" rCountS := by
  intro pins s σ H x vs v us Q I rx rv h
  obtain ⟨l, ys, k, rfl, rfl, hH, q⟩ := h
  cases rx
  obtain ⟨u, rfl, ru⟩ := rv.one
  obtain ⟨t, rfl⟩ := ru
  obtain ⟨its, r, pl, hz⟩ := I.list (SqL.of hH)
  refine count_list_strs pl.isList (strsAre_of r) ?_
  exact ⟨.int ((ys.count k : Nat) : Int), H, I.tok _, ⟨_, by rw [countIn_strs]⟩, q⟩
end
/-! ### sealed -/
section
variable {X : Cx} {e : Expr} {te : TE} {p p2 pos pos2 : Pos}
theorem je_listRev_tup (hgl : Gl X "list") (hml : X.mg "list" = none) (hg : Gl X "reversed") (hm : X.mg "reversed" = none) (he : JE X e te) (hc : X.calm = true := by rfl) (hs : unstar e = true := by rfl) :
    JE X (.Call (.Name "list" p) [.Call (.Name "reversed" p2) [e] [] pos2] [] pos) (tLRevT X.K te) := ⟨pe_listRev_tup hc hgl hml hg hm he.run hs⟩
theorem je_listRev_list (hgl : Gl X "list") (hml : X.mg "list" = none) (hg : Gl X "reversed") (hm : X.mg "reversed" = none) (he : JE X e te) (hc : X.calm = true := by rfl) (hs : unstar e = true := by rfl) :
    JE X (.Call (.Name "list" p) [.Call (.Name "reversed" p2) [e] [] pos2] [] pos) (tLRevL X.K te) := ⟨pe_listRev_list hc hgl hml hg hm he.run hs⟩
theorem je_tupleRev_list (hgl : Gl X "tuple") (hml : X.mg "tuple" = none) (hg : Gl X "reversed") (hm : X.mg "reversed" = none) (he : JE X e te) (hc : X.calm = true := by rfl) (hs : unstar e = true := by rfl) :
    JE X (.Call (.Name "tuple" p) [.Call (.Name "reversed" p2) [e] [] pos2] [] pos) (tTRevL X.K te) := ⟨pe_tupleRev_list hc hgl hml hg hm he.run hs⟩
end
end L2
/-! ZIP OF TWO TUPLES (own work; of two lists it is the library's). -/
namespace KZp
open PySem PyProof.Rows
section
variable {prog : Program} {w : World} {A : Around} {E : Value → Shared → Prop} {s : Shared}
theorem oneT {it t : Addr} {i : Nat} {items : Array Value} {x : Value} {Q : Value → Shared → Prop} (hit : s.heap.IsTupleIter it t i) (ht : s.heap.IsTuple t items) (hx : items[i]? = some x)
    (hQ : ∀ h', h'.IsTupleIter it t (i + 1) → Heap.SameBut it s.heap h' → Q x { s with heap := h' }) : wpAny (model prog w) A (Builtin.SmallTypes.nextOf (.ref it)) Q E s := by
  obtain ⟨o, ho, hc, hd⟩ := id hit
  obtain ⟨ol, hol, _, nl, hdl⟩ := ht
  unfold Builtin.SmallTypes.nextOf
  refine wpAny_bind (wpAny_callSpecial?_slot hit.typeIs F.slot_tuple_iterator_next (wpAny_call_entry F.slot_tuple_iterator_next hit.typeIs F.entry_tuple_iterator_next ?_ (F.args_tuple_iterator_next_1 _)))
  refine (show wpAny (model prog w) A.in1 (field (.ref it) 0 >>= _) _ _ s from wpAny_bind (wpAny_field ho hd (x := .ref t) rfl ?_))
  refine (show wpAny (model prog w) A.in1 (if (Value.ref t == Value.none) = true then _ else _) _ _ s from ?_)
  rw [if_neg (show ¬ ((Value.ref t == Value.none) = true) from Bool.false_ne_true)]
  refine (show wpAny (model prog w) A.in1 (field (.ref it) 1 >>= _) _ _ s from wpAny_bind (wpAny_field ho hd (x := .int i 0) rfl ?_))
  refine (show wpAny (model prog w) A.in1 (seqItems? (.ref t) >>= _) _ _ s from wpAny_bind (wpAny_seqItems hol hdl ?_))
  simp only [Int.toNat_natCast, hx]
  refine wpAny_bind (wpAny_setField ho hd (by simp) (wpAny_pure ⟨x, rfl, wpAny_pure (hQ _ ⟨_, Heap.get?_update_self _ ho (Obj.isFreed_of_fields (Obj.data_mapFields hd _)), (Obj.cls_mapFields ..).trans hc, ?_⟩ (Heap.SameBut.update ..))⟩))
  rw [Obj.data_mapFields hd]
  simp [rawInt]
theorem noneT {it t : Addr} {i : Nat} {items : Array Value} {Q : Value → Shared → Prop} (hh : A.handled = none) (hit : s.heap.IsTupleIter it t i) (ht : s.heap.IsTuple t items) (hx : items[i]? = none)
    (hE : ∀ h' e, Heap.ExtBut it s.heap h' → Shared.TypeIs { s with heap := h' } (.ref e) "StopIteration" → E (.ref e) { s with heap := h' }) : wpAny (model prog w) A (Builtin.SmallTypes.nextOf (.ref it)) Q E s := by
  obtain ⟨o, ho, hc, hd⟩ := id hit
  obtain ⟨ol, hol, _, nl, hdl⟩ := ht
  unfold Builtin.SmallTypes.nextOf
  refine wpAny_bind (wpAny_callSpecial?_slot hit.typeIs F.slot_tuple_iterator_next (wpAny_call_entry F.slot_tuple_iterator_next hit.typeIs F.entry_tuple_iterator_next ?_ (F.args_tuple_iterator_next_1 _)))
  refine (show wpAny (model prog w) A.in1 (field (.ref it) 0 >>= _) _ _ s from wpAny_bind (wpAny_field ho hd (x := .ref t) rfl ?_))
  refine (show wpAny (model prog w) A.in1 (if (Value.ref t == Value.none) = true then _ else _) _ _ s from ?_)
  rw [if_neg (show ¬ ((Value.ref t == Value.none) = true) from Bool.false_ne_true)]
  refine (show wpAny (model prog w) A.in1 (field (.ref it) 1 >>= _) _ _ s from wpAny_bind (wpAny_field ho hd (x := .int i 0) rfl ?_))
  refine (show wpAny (model prog w) A.in1 (seqItems? (.ref t) >>= _) _ _ s from wpAny_bind (wpAny_seqItems hol hdl ?_))
  simp only [Int.toNat_natCast, hx]
  refine wpAny_bind (wpAny_rule (wpAny_bind (wpAny_setField ho hd (by simp) ?_)))
  exact KRv.stops (A := A.in1) hh fun h' e kk hs => hE _ e (fun b o' hb e' => kk b o' ((Heap.SameBut.update ..).extBut b o' hb e')) hs
/-- a zip of two tuples, i items told -/
structure St (z TI TO i1 i2 l1 l2 : Addr) (f0 : Value) (i : Nat) (h : Heap) : Prop where
  zip : IsZip h z TI TO f0
  ti : IsPair h TI (.ref i1) (.ref i2)
  to : ∃ a b, IsPair h TO a b
  it1 : h.IsTupleIter i1 l1 i
  it2 : h.IsTupleIter i2 l2 i
variable {z TI TO i1 i2 l1 l2 : Addr} {i : Nat} {xs ys : Array Value}
theorem nextZ {x y : Value} {Q : Option Value → Shared → Prop} (D : ZipApart z TI TO i1 i2 l1 l2) (st : St z TI TO i1 i2 l1 l2 .none i s.heap) (hl1 : s.heap.IsTuple l1 xs) (hl2 : s.heap.IsTuple l2 ys) (hx : xs[i]? = some x) (hy : ys[i]? = some y)
    (hQ : ∀ h', St z TI TO i1 i2 l1 l2 (rawInt s.heap.objs.size) (i + 1) h' → IsPair h' s.heap.objs.size x y → (∀ c o, c ≠ z → c ≠ TO → c ≠ i1 → c ≠ i2 → s.heap.get? c = some o → h'.get? c = some o) → Q (some (.ref s.heap.objs.size)) { s with heap := h' }) :
    wpAny (model prog w) A (pyNext (.ref z)) Q E s := by
  obtain ⟨hz, hTI, ⟨a, b, hTO⟩, h1, h2⟩ := st
  have hT : s.TypeIs (.ref z) "zip" := ⟨_, hz, rfl⟩
  unfold pyNext
  refine wpAny_bind (wpAny_attempt (wpAny_callSpecial?_slot hT F.slot_zip_next (wpAny_call_entry F.slot_zip_next hT F.entry_zip_next ?_ (F.args_zip_next_1 _))))
  refine (show wpAny (model prog w) A.in1 (field (.ref z) 2 >>= _) _ _ _ from wpAny_bind (wpAny_field hz rfl (x := .bool false) rfl ?_))
  refine (show wpAny (model prog w) A.in1 (field (.ref z) 3 >>= _) _ _ _ from wpAny_bind (wpAny_field hz rfl (x := .ref TI) rfl (wpAny_bind (wpAny_seqItems hTI rfl ?_))))
  refine (show wpAny (model prog w) A.in1 (Builtin.SmallTypes.ownedTupleIsFree (.ref z) >>= _) _ _ _ from wpAny_bind ?_)
  unfold Builtin.SmallTypes.ownedTupleIsFree
  refine wpAny_bind (wpAny_field hz rfl (x := .none) rfl (wpAny_pure ?_))
  simp only [if_true]
  refine wpAny_bind (wpAny_rule (wpAny_bind (wpAny_field hz rfl (x := .ref TO) rfl (wpAny_bind (wpAny_setField_rec hz (by simp) fun g1 hz1 k1 => wpAny_bind ?_)))))
  replace hz1 : IsZip g1 z TI TO .ellipsis := hz1
  simp only [List.zipIdx_cons, List.zipIdx_nil, List.forIn_cons, List.forIn_nil]
  refine wpAny_bind (wpAny_bind (wpAny_onRaise ?_))
  refine (show wpAny (model prog w) A.in1 (Builtin.SmallTypes.nextOf (.ref i1) >>= _) _ _ _ from wpAny_bind (oneT (h1.extBut k1.extBut D.i1z) (hl1.extBut k1.extBut D.l1z) hx fun g2 j1 k2 => wpAny_pure ?_))
  have hTO2 : IsPair g2 TO a b := k2.extBut _ _ D.TOi1 (k1.extBut _ _ D.TOz hTO)
  refine wpAny_bind (wpAny_seqItems hTO2 rfl (wpAny_bind (wpAny_updateSeq_pair hTO2 fun g3 hTO3 k3 => wpAny_bind (wpAny_letGo (wpAny_pure ?_)))))
  replace hTO3 : IsPair g3 TO x b := hTO3
  refine wpAny_bind (wpAny_bind (wpAny_onRaise ?_))
  refine (show wpAny (model prog w) A.in1 (Builtin.SmallTypes.nextOf (.ref i2) >>= _) _ _ _ from wpAny_bind (oneT (((h2.extBut k1.extBut D.i2z).extBut k2.extBut D.i12.symm).extBut k3.extBut D.TOi2.symm) (((hl2.extBut k1.extBut D.l2z).extBut k2.extBut D.l2i1).extBut k3.extBut D.l2TO) hy fun g4 j2 k4 => wpAny_pure ?_))
  have hTO4 : IsPair g4 TO x b := k4.extBut _ _ D.TOi2 hTO3
  refine wpAny_bind (wpAny_seqItems hTO4 rfl (wpAny_bind (wpAny_updateSeq_pair hTO4 fun g5 hTO5 k5 => wpAny_bind (wpAny_letGo (wpAny_pure (wpAny_pure ?_))))))
  replace hTO5 : IsPair g5 TO x y := hTO5
  refine wpAny_bind (wpAny_seqItems hTO5 rfl (wpAny_bind (wpAny_newTuple ?_)))
  have hsz : g5.objs.size = s.heap.objs.size := by rw [k5.1, k4.1, k3.1, k2.1, k1.1]
  have hz5 : IsZip g5 z TI TO .ellipsis := k5.extBut _ _ D.TOz.symm (k4.extBut _ _ D.i2z.symm (k3.extBut _ _ D.TOz.symm (k2.extBut _ _ D.i1z.symm hz1)))
  have keep : ∀ c o, c ≠ z → c ≠ TO → c ≠ i1 → c ≠ i2 → s.heap.get? c = some o → g5.get? c = some o := fun c o c1 c2 c3 c4 e => k5.extBut _ _ c2 (k4.extBut _ _ c4 (k3.extBut _ _ c2 (k2.extBut _ _ c3 (k1.extBut _ _ c1 e))))
  have J1 : g5.IsTupleIter i1 l1 (i + 1) := ((j1.extBut k3.extBut D.TOi1.symm).extBut k4.extBut D.i12).extBut k5.extBut D.TOi1.symm
  have J2 : g5.IsTupleIter i2 l2 (i + 1) := j2.extBut k5.extBut D.TOi2.symm
  refine (show wpAny (model prog w) A.in1 (Builtin.SmallTypes.ownedTupleHandOut (.ref z) (.ref g5.objs.size) >>= _) _ _ _ from wpAny_bind ?_)
  unfold Builtin.SmallTypes.ownedTupleHandOut
  have hz6 : IsZip (g5.push { cls := .type "tuple", data := .seq #[x, y] }) z TI TO .ellipsis := Heap.get?_push_of_some _ hz5
  refine wpAny_bind (wpAny_setField_rec hz6 (by simp) fun g7 hz7 k7 => ?_)
  replace hz7 : IsZip g7 z TI TO (rawInt g5.objs.size) := hz7
  refine wpAny_setField_rec hz7 (by simp) fun g8 hz8 k8 => ?_
  replace hz8 : IsZip g8 z TI TO (rawInt g5.objs.size) := hz8
  have up : ∀ c o, c ≠ z → g5.get? c = some o → g8.get? c = some o := fun c o c1 e => k8.extBut _ _ c1 (k7.extBut _ _ c1 (Heap.get?_push_of_some _ e))
  have hzl : g5.objs.size ≠ z := Nat.ne_of_gt (Heap.lt_size hz5)
  have hT8 : IsPair g8 g5.objs.size x y := k8.extBut _ _ hzl (k7.extBut _ _ hzl (Heap.get?_push_size _ rfl))
  rw [hsz] at hz8 hT8
  refine wpAny_pure ⟨_, rfl, wpAny_pure ?_⟩
  rw [hsz]
  exact hQ g8 ⟨hz8, up _ _ D.TIz (keep _ _ D.TIz D.TITO D.TIi1 D.TIi2 hTI), ⟨x, y, up _ _ D.TOz hTO5⟩, let ⟨o, ho, r⟩ := J1; ⟨o, up _ _ D.i1z ho, r⟩, let ⟨o, ho, r⟩ := J2; ⟨o, up _ _ D.i2z ho, r⟩⟩ hT8 fun c o c1 c2 c3 c4 e => up c o c1 (keep c o c1 c2 c3 c4 e)
theorem endZ {Q : Option Value → Shared → Prop} (hh : A.handled = none) (D : ZipApart z TI TO i1 i2 l1 l2) (st : St z TI TO i1 i2 l1 l2 .none i s.heap) (hl1 : s.heap.IsTuple l1 xs) (hx : xs[i]? = none)
    (hQ : ∀ h', (∀ c o, c ≠ z → c ≠ TO → c ≠ i1 → c ≠ i2 → s.heap.get? c = some o → h'.get? c = some o) → Q none { s with heap := h' }) : wpAny (model prog w) A (pyNext (.ref z)) Q E s := by
  obtain ⟨hz, hTI, ⟨a, b, hTO⟩, h1, h2⟩ := st
  have hT : s.TypeIs (.ref z) "zip" := ⟨_, hz, rfl⟩
  unfold pyNext
  refine wpAny_bind (wpAny_attempt (wpAny_callSpecial?_slot hT F.slot_zip_next (wpAny_call_entry F.slot_zip_next hT F.entry_zip_next ?_ (F.args_zip_next_1 _))))
  refine (show wpAny (model prog w) A.in1 (field (.ref z) 2 >>= _) _ _ _ from wpAny_bind (wpAny_field hz rfl (x := .bool false) rfl ?_))
  refine (show wpAny (model prog w) A.in1 (field (.ref z) 3 >>= _) _ _ _ from wpAny_bind (wpAny_field hz rfl (x := .ref TI) rfl (wpAny_bind (wpAny_seqItems hTI rfl ?_))))
  refine (show wpAny (model prog w) A.in1 (Builtin.SmallTypes.ownedTupleIsFree (.ref z) >>= _) _ _ _ from wpAny_bind ?_)
  unfold Builtin.SmallTypes.ownedTupleIsFree
  refine wpAny_bind (wpAny_field hz rfl (x := .none) rfl (wpAny_pure ?_))
  simp only [if_true]
  refine wpAny_bind (wpAny_rule (wpAny_bind (wpAny_field hz rfl (x := .ref TO) rfl (wpAny_bind (wpAny_setField_rec hz (by simp) fun g1 hz1 k1 => wpAny_bind ?_)))))
  replace hz1 : IsZip g1 z TI TO .ellipsis := hz1
  simp only [List.zipIdx_cons, List.zipIdx_nil, List.forIn_cons, List.forIn_nil]
  refine wpAny_bind (wpAny_bind (wpAny_onRaise ?_))
  refine (show wpAny (model prog w) A.in1 (Builtin.SmallTypes.nextOf (.ref i1) >>= _) _ _ _ from wpAny_bind (noneT (A := A.in1) hh (h1.extBut k1.extBut D.i1z) (hl1.extBut k1.extBut D.l1z) hx fun g2 e k2 he => ?_))
  obtain ⟨oe, hoe, hce⟩ := he
  have hz2 : IsZip g2 z TI TO .ellipsis := k2 _ _ D.i1z.symm hz1
  have hez : e ≠ z := fun q => by
    subst q
    have q2 : some _ = some oe := Eq.trans (Eq.symm hz2) hoe
    cases q2
    simp at hce
  refine wpAny_setField_rec hz2 (by simp) fun g3 _ k3 => ?_
  refine wpAny_bind (wpAny_isInstance (T := "StopIteration") (b := true) ⟨oe, k3.extBut _ _ hez hoe, hce⟩ isSubtype_stop (wpAny_pure (hQ _ fun c o c1 _ c3 _ q => ?_)))
  exact k3.extBut _ _ c1 (k2 _ _ c3 (k1.extBut _ _ c1 q))
end
abbrev g1 (h : Heap) (l1 : Addr) : Heap := h.push { cls := .type "tuple_iterator", data := .fields #[.ref l1, .int 0 0] }
abbrev g2 (h : Heap) (l1 l2 : Addr) : Heap := (g1 h l1).push { cls := .type "tuple_iterator", data := .fields #[.ref l2, .int 0 0] }
abbrev g3 (h : Heap) (l1 l2 : Addr) : Heap := (g2 h l1 l2).push { cls := .type "tuple", data := .seq #[.ref h.objs.size, .ref (g1 h l1).objs.size] }
abbrev g4 (h : Heap) (l1 l2 : Addr) : Heap := (g3 h l1 l2).push { cls := .type "tuple", data := .seq #[.none, .none] }
abbrev g5 (h : Heap) (l1 l2 : Addr) : Heap := (g4 h l1 l2).push { cls := .type "zip", data := .fields #[.none, .bool false, .bool false, .ref (g2 h l1 l2).objs.size, .ref (g3 h l1 l2).objs.size] }
theorem newZ (l1 l2 : Addr) (xs ys : Array Value) :
    Meets (Builtin.«zip.__new__» ⟨[.type "zip", .ref l1, .ref l2], []⟩) (fun _ R s => s.heap.IsTuple l1 xs ∧ s.heap.IsTuple l2 ys ∧ R (.ok (.ret (.ref (g4 s.heap l1 l2).objs.size))) { s with heap := g5 s.heap l1 l2 }) :=
  .of_wp fun prog w A R s h => by
    obtain ⟨hp, g, d, tk, os⟩ := s
    obtain ⟨hl1, hl2, h⟩ := h
    have hsub := sub_zip
    have hL1 : Heap.IsTuple (Shared.heap ⟨hp, g, d, tk, os⟩) l1 xs := hl1
    have hL2 : Heap.IsTuple (Shared.heap ⟨g1 hp l1, g, d, tk, os⟩) l2 ys := Heap.IsTuple.push hl2 _
    wp_walk using wpAny_pyIter_tuple hL1, wpAny_pyIter_tuple hL2
    exact ⟨_, rfl, h⟩
theorem callZ {prog : Program} {w : World} {A : Around} {E : Value → Shared → Prop} {s : Shared} {l1 l2 : Addr} {xs ys : Array Value} {Q : Value → Shared → Prop} (hl1 : s.heap.IsTuple l1 xs) (hl2 : s.heap.IsTuple l2 ys)
    (h : ∀ h', St (s.heap.objs.size + 4) (s.heap.objs.size + 2) (s.heap.objs.size + 3) s.heap.objs.size (s.heap.objs.size + 1) l1 l2 .none 0 h' → (∀ c o, s.heap.get? c = some o → h'.get? c = some o) → Q (.ref (s.heap.objs.size + 4)) { s with heap := h' }) :
    wpAny (model prog w) A (call (.type "zip") [.ref l1, .ref l2]) Q E s := by
  refine callType_new F.called_zip (by decide) (F.typeCall_zip_2 _ _) (F.newCall_zip_2 _ _) (fun obj => F.args_object_init_3 obj _ _) F.entry_zip_new (newZ l1 l2 xs ys) ⟨hl1, hl2, ?_⟩
  have z1 : (g1 s.heap l1).objs.size = s.heap.objs.size + 1 := Heap.size_push ..
  have z2 : (g2 s.heap l1 l2).objs.size = s.heap.objs.size + 2 := by rw [Heap.size_push, z1]
  have z3 : (g3 s.heap l1 l2).objs.size = s.heap.objs.size + 3 := by rw [Heap.size_push, z2]
  have z4 : (g4 s.heap l1 l2).objs.size = s.heap.objs.size + 4 := by rw [Heap.size_push, z3]
  have e5 : (g5 s.heap l1 l2).get? (g4 s.heap l1 l2).objs.size = some _ := Heap.get?_push_size _ rfl
  have e4 : (g5 s.heap l1 l2).get? (g3 s.heap l1 l2).objs.size = some _ := Heap.get?_push_of_some _ (Heap.get?_push_size _ rfl)
  have e3 : (g5 s.heap l1 l2).get? (g2 s.heap l1 l2).objs.size = some _ := Heap.get?_push_of_some _ (Heap.get?_push_of_some _ (Heap.get?_push_size _ rfl))
  have e2 : (g5 s.heap l1 l2).get? (g1 s.heap l1).objs.size = some _ := Heap.get?_push_of_some _ (Heap.get?_push_of_some _ (Heap.get?_push_of_some _ (Heap.get?_push_size _ rfl)))
  have e1 : (g5 s.heap l1 l2).get? s.heap.objs.size = some _ := Heap.get?_push_of_some _ (Heap.get?_push_of_some _ (Heap.get?_push_of_some _ (Heap.get?_push_of_some _ (Heap.get?_push_size _ rfl))))
  rw [z2, z3, z4] at e5
  rw [z1, z2] at e3
  rw [z3] at e4
  rw [z1] at e2
  show _ ∧ _
  rw [z4]
  exact ⟨⟨_, e5, rfl⟩, h _ ⟨e5, e3, ⟨_, _, e4⟩, ⟨_, e1, rfl, rfl⟩, ⟨_, e2, rfl, rfl⟩⟩ fun c o x => Heap.get?_push_of_some _ (Heap.get?_push_of_some _ (Heap.get?_push_of_some _ (Heap.get?_push_of_some _ (Heap.get?_push_of_some _ x))))⟩
end KZp
/-! FOR A, B IN ZIP(T, U) (own work): the layer's rule, t and u tuples. -/
namespace L2
open PySem PySem.Spec PyProof.Rows
/-- untracked records of ours have turned -/
theorem Inv.turnedL {X : Cx} {pins : List (Addr × Obj)} {σ : St} {H : Hp} {s : Shared} {h' : Heap} {t' : Nat} {fp : List Addr} (I : Inv X pins σ H s) (hf : ∀ b ∈ fp, FpOk X pins H b) (k : ∀ b o, b ∉ fp → s.heap.get? b = some o → h'.get? b = some o) : Inv X pins σ H { s with heap := h', toks := t' } := by
  have nit : ∀ b u, H b = some u → b ∉ fp := fun b u e z => by rw [(hf b z).1] at e; cases e
  refine I.step (g' := s.gens) (d' := s.drawn) (ch := fp) (fun b hb => ?_) (fun b o _ _ hc e _ => k b o hc e) (fun b o _ _ hc e _ => ⟨o.slots, k b o hc e⟩) (fun _ _ _ _ n => n)
    (fun b o hc e => ⟨o, k b o hc e⟩) (fun _ _ e => e) (fun _ _ _ e => e) (fun b ps e => ⟨#[], by rw [e]; simp⟩) (fun m hm => ?_) (fun b u e => ?_) I.bare
  · obtain ⟨f0, f1, f2, f3, f4, f5⟩ := hf b hb
    exact ⟨f3, f1, f4, f5⟩
  · obtain ⟨o, es, ep, ho, r⟩ := hm
    exact ⟨o, es, ep, k _ o (fun z => (hf _ z).2.1 rfl) ho, r⟩
  · refine (I.hok b u e).stay (fun c v hc q => k c v ?_ q) (fun _ q => q) fun _ _ q => q
    rcases hc with z | z
    · rw [z]; exact nit b u e
    · exact nit c _ z
theorem apart (n a b : Nat) (h1 : a < n) (h2 : b < n) : ZipApart (n + 4) (n + 2) (n + 3) n (n + 1) a b := by
  constructor <;> (intro e; have e' : (@Eq Nat _ _) := e; omega)
def Itz (K : PySem.W.Frag) (a b : Addr) : It :=
  ⟨fun i H => ∃ xs ys x y, SqT K H a xs ∧ SqT K H b ys ∧ xs[i]? = some x ∧ ys[i]? = some y, fun i H v H' => ∃ T x y, v = .ref T ∧ H T = none ∧ H' = upd H T (.tup [x, y]) ∧ (∀ xs, SqT K H a xs → xs[i]? = some x) ∧ ∀ ys, SqT K H b ys → ys[i]? = some y, fun i H => ∃ xs, SqT K H a xs ∧ xs.length ≤ i⟩
theorem turn_zip {P : Program} {w : World} {K : PySem.W.Frag} {es : List Expr} {k : Nat} {pos : Pos} {z TI TO i1 i2 l1 l2 : Addr} (D : ZipApart z TI TO i1 i2 l1 l2) :
    Turn P w K (.Tuple es k pos) (Itz K l1 l2) [z, TI, TO, i1, i2] z (fun i h => KZp.St z TI TO i1 i2 l1 l2 .none i h) where
  mem := by simp
  obj := fun i h st b hb => by
    simp only [List.mem_cons, List.not_mem_nil, or_false] at hb
    obtain ⟨a1, a2, ⟨p, q, a3⟩, ⟨o4, a4, _, d4⟩, ⟨o5, a5, _, d5⟩⟩ := st
    rcases hb with rfl | rfl | rfl | rfl | rfl
    · exact ⟨_, a1, fun v e => by cases (show Data.fields _ = Data.cell v from e)⟩
    · exact ⟨_, a2, fun v e => by cases (show Data.seq _ _ = Data.cell v from e)⟩
    · exact ⟨_, a3, fun v e => by cases (show Data.seq _ _ = Data.cell v from e)⟩
    · exact ⟨_, a4, fun v e => by rw [d4] at e; cases e⟩
    · exact ⟨_, a5, fun v e => by rw [d5] at e; cases e⟩
  keep := fun i h h' st kk => by
    obtain ⟨a1, a2, ⟨p, q, a3⟩, ⟨o4, a4, r4⟩, ⟨o5, a5, r5⟩⟩ := st
    exact ⟨kk _ (by simp) _ a1, kk _ (by simp) _ a2, ⟨p, q, kk _ (by simp) _ a3⟩, ⟨o4, kk _ (by simp) _ a4, r4⟩, ⟨o5, kk _ (by simp) _ a5, r5⟩⟩
  item := by
    intro X hP hw hK hc i pins s σ H E I hf st hg
    subst hP hw hK
    obtain ⟨xs, ys, x, y, hq1, hq2, hx, hy⟩ := hg
    obtain ⟨its1, rv1, p1, _⟩ := I.tuple hq1
    obtain ⟨its2, rv2, p2, _⟩ := I.tuple hq2
    obtain ⟨u1, hu1, ru1⟩ := rv1.get hx
    obtain ⟨u2, hu2, ru2⟩ := rv2.get hy
    refine KZp.nextZ D st (show s.heap.IsTuple l1 its1.toArray from p1) (show s.heap.IsTuple l2 its2.toArray from p2) (x := u1) (y := u2) (by simpa using hu1) (by simpa using hu2) fun h' st' hT kk => ?_
    refine ⟨_, rfl, wpAny_letOwnedTupleGo_zip st'.zip fun h2 hz2 k2 => ?_⟩
    have kk2 : ∀ b o, b ∉ [z, TI, TO, i1, i2] → s.heap.get? b = some o → h2.get? b = some o := fun b o hb e => by
      simp only [List.mem_cons, List.not_mem_nil, or_false, not_or] at hb
      exact k2.extBut _ _ hb.1 (kk b o hb.1 hb.2.2.1 hb.2.2.2.1 hb.2.2.2.2 e)
    have I1 : Inv X pins σ (upd H s.heap.objs.size (.tup [x, y])) { s with heap := s.heap.push { cls := .type "tuple", data := .seq #[u1, u2] } } :=
      I.laid (t' := s.toks) (fun b o e => Heap.get?_push_of_some _ e) (Nat.le_refl _) (show ObjOk X.prog X.w _ _ _ (.tup [x, y]) from ⟨by show 2 ≤ sizeLine; decide, [u1, u2], .cons ru1 (.cons ru2 .nil), IsTup.new _ _⟩)
    have hzT : s.heap.objs.size ≠ z := Nat.ne_of_gt (Heap.lt_size st.zip)
    have lts : ∀ b ∈ [z, TI, TO, i1, i2], b < s.heap.objs.size := fun b hb => by
      obtain ⟨a1, a2, ⟨p, q, a3⟩, ⟨o4, a4, _⟩, ⟨o5, a5, _⟩⟩ := st
      simp only [List.mem_cons, List.not_mem_nil, or_false] at hb
      rcases hb with rfl | rfl | rfl | rfl | rfl
      · exact Heap.lt_size a1
      · exact Heap.lt_size a2
      · exact Heap.lt_size a3
      · exact Heap.lt_size a4
      · exact Heap.lt_size a5
    have I2 : Inv X pins σ (upd H s.heap.objs.size (.tup [x, y])) { s with heap := h2 } :=
      Inv.turnedL (s := { s with heap := s.heap.push { cls := .type "tuple", data := .seq #[u1, u2] } }) (h' := h2) (t' := s.toks) (fp := [z, TI, TO, i1, i2]) I1 (fun b hb => by
        obtain ⟨f0, fr⟩ := hf b hb
        exact ⟨by rw [upd_ne (Nat.ne_of_lt (lts b hb))]; exact f0, fr⟩) (fun b o hb e => by
        rcases Heap.get?_push_cases e with ⟨e1, e2⟩ | e
        · rw [e1, e2]; exact k2.extBut _ _ hzT hT
        · exact kk2 b o hb e)
    refine ⟨.ref s.heap.objs.size, _, I2, rfl, ⟨_, x, y, rfl, I.hok.fresh (Nat.le_refl _), rfl, fun xs' h => by rw [I.tuple_inj h hq1]; exact hx, fun ys' h => by rw [I.tuple_inj h hq2]; exact hy⟩, ?_, fun b hb => by rw [upd_ne (Nat.ne_of_lt (lts b hb))]; exact (hf b hb).1⟩
    obtain ⟨a1, a2, ⟨p, q, a3⟩, ⟨o4, a4, r4⟩, ⟨o5, a5, r5⟩⟩ := st'
    exact ⟨hz2, k2.extBut _ _ D.TIz a2, ⟨p, q, k2.extBut _ _ D.TOz a3⟩, ⟨o4, k2.extBut _ _ D.i1z a4, r4⟩, ⟨o5, k2.extBut _ _ D.i2z a5, r5⟩⟩
  done := by
    intro X hP hw hK hc i pins s σ H E I hf st hg
    subst hP hw hK
    obtain ⟨xs, hq1, hx⟩ := hg
    obtain ⟨its1, rv1, p1, _⟩ := I.tuple hq1
    have hl := rv1.length
    refine KZp.endZ (I.ok.hd hc) D st (show s.heap.IsTuple l1 its1.toArray from p1) (by simp; omega) fun h' kk => ⟨rfl, ?_⟩
    exact I.turnedL (t' := s.toks) (fp := [z, TI, TO, i1, i2]) hf fun b o hb e => by
      simp only [List.mem_cons, List.not_mem_nil, or_false, not_or] at hb
      exact kk b o hb.1 hb.2.2.1 hb.2.2.2.1 hb.2.2.2.2 e
  self := fun _ _ _ _ _ st h => wpAny_pyIter_zip st.zip h
section
variable {X : Cx}
def iZip (K : PySem.W.Frag) (t : TA) : TI := fun σ H R => t σ H fun vs H1 => ∃ a b, vs = [.ref a, .ref b] ∧ (∃ xs, SqT K H1 a xs) ∧ (∃ ys, SqT K H1 b ys) ∧ R (Itz K a b) H1
theorem pi_zip {es : List Expr} {k : Nat} {tp : Pos} {a b : Expr} {t : TA} {p pos : Pos} (hg : Gl X "zip") (hm : X.mg "zip" = none) (ha : PA X [a, b] t) (h1 : unstar a = true) (h2 : unstar b = true) : PI X (.Tuple es k tp) (.Call (.Name "zip" p) [a, b] [] pos) (iZip X.K t) := by
  intro pins s σ H R I h
  have hs : starEach [a, b] X.env = (false, eval a X.env) :: starEach [b] X.env := starEach_one h1
  have hp : (backTo pos (starEach [b] X.env)).any (·.1) = false := by rw [starEach_one h2]; rfl
  refine Call_ (ld_blt I hg hm PyProof.Rows.boot_zip (PyProof.Rows.callWith_type1 (thn (ha pos pins s σ H _ I h) fun us s1 ⟨vs, H1, I1, r1, l1, l2, ev, ⟨xs, q1⟩, ⟨ys, q2⟩, q⟩ => ?_) hs hp))
  subst ev
  cases r1 with
  | cons r rr =>
    cases rr with
    | cons r' rr =>
      cases rr
      cases r
      cases r'
      obtain ⟨its1, rv1, p1, _⟩ := I1.tuple q1
      obtain ⟨its2, rv2, p2, _⟩ := I1.tuple q2
      refine KZp.callZ (show s1.heap.IsTuple l1 its1.toArray from p1) (show s1.heap.IsTuple l2 its2.toArray from p2) fun h' st kk => wpAny_pyIter_zip st.zip ?_
      have b1 := p1.lt
      have b2 := p2.lt
      have D : ZipApart (s1.heap.objs.size + 4) (s1.heap.objs.size + 2) (s1.heap.objs.size + 3) s1.heap.objs.size (s1.heap.objs.size + 1) l1 l2 := apart _ _ _ b1 b2
      refine ⟨s1.heap.objs.size + 4, _, _, _, H1, rfl, I1.kept (t' := s1.toks) kk, turn_zip D, st, fun b hb => ?_, q⟩
      have hb' : s1.heap.objs.size ≤ b := by
        simp only [List.mem_cons, List.not_mem_nil, or_false] at hb
        rcases hb with e | e | e | e | e <;> (rw [e]; first | exact Nat.le_refl _ | exact Nat.le_add_right _ _)
      exact I1.fpOk hb' (I1.hok.fresh hb')
theorem ji_zip {es : List Expr} {k : Nat} {tp : Pos} {a b : Expr} {t : TA} {p pos : Pos} (hg : Gl X "zip") (hm : X.mg "zip" = none) (ha : JA X [a, b] t) (h1 : unstar a = true := by rfl) (h2 : unstar b = true := by rfl) : JI X (.Tuple es k tp) (.Call (.Name "zip" p) [a, b] [] pos) (iZip X.K t) := ⟨pi_zip hg hm ha.run h1 h2⟩
end
end L2
/-! WALKS THROUGH THINGS WITH INNER ONES (own work): what a walk promises, whatever the things are. -/
namespace KB
open PySem L2
theorem Row.reverse {α : Type} {R : α → V → Prop} : ∀ {xs : List α} {vs : List V}, Row R xs vs → Row R xs.reverse vs.reverse
  | [], _, e => by rw [show _ = ([] : List V) from e]; rfl
  | x :: xs, _, ⟨v, r, e, q, t⟩ => by
    rw [e, List.reverse_cons, List.reverse_cons]
    exact (Row.reverse t).append (Row.one q)
theorem RepL.row {H : Hp} : ∀ {ps : List Pg} {vs : List V}, RepL H ps vs → Row (Rep H) ps vs
  | [], _, e => e
  | _ :: _, _, ⟨v, r, e, q, t⟩ => ⟨v, r, e, q, RepL.row t⟩
theorem Row.repL {H : Hp} : ∀ {ps : List Pg} {vs : List V}, Row (Rep H) ps vs → RepL H ps vs
  | [], _, e => e
  | _ :: _, _, ⟨v, r, e, q, t⟩ => ⟨v, r, e, q, Row.repL t⟩
/-- the inner ones of a thing, told as a tuple -/
def spInn {α : Type} (R : Hp → α → V → Prop) (inn : α → List α) : Sp := fun vs H Q _ => ∃ v x, vs = [v] ∧ R H x v ∧ ∀ t ts H', Same H H' → H' t = some (.tup ts) → Row (R H') (inn x) ts → Q (.ref t) H'
def spWalked (P : Program) (w : World) (K : PySem.W.Frag) (mg : Str → Option Value) (base : Heap) : Sp := fun vs H Q _ => ∃ (α : Type) (R : Hp → α → V → Prop) (inn pre : α → List α) (f : Addr) (v : V) (x : α), vs = [v, .ref f] ∧
  (∀ H H' x v, Tup H H' → R H x v → R H' x v) ∧ (∀ x, pre x = x :: (inn x).flatMap pre) ∧ FnV P w K mg base 1 f (spInn R inn) ∧ R H x v ∧ (pre x).length ≤ 100000 ∧
  ∀ l us H', Same H H' → H l = none → H' l = some (.lst us) → Row (R H') (pre x) us → Q (.ref l) H'
def remW {α : Type} (pre : α → List α) (ps : List α) : List α := ps.reverse.flatMap pre
theorem remW_snoc {α : Type} (pre : α → List α) (ps : List α) (x : α) : remW pre (ps ++ [x]) = pre x ++ remW pre ps := by simp [remW]
theorem remW_append {α : Type} (pre : α → List α) (ps qs : List α) : remW pre (ps ++ qs) = remW pre qs ++ remW pre ps := by simp [remW]
theorem flat_len {α : Type} {pre : α → List α} (h : ∀ x, 1 ≤ (pre x).length) : ∀ ps : List α, ps.length ≤ (ps.flatMap pre).length
  | [] => Nat.le_refl _
  | x :: ps => by
    have := flat_len h ps
    have := h x
    rw [List.flatMap_cons, List.length_append, List.length_cons]; omega
theorem remW_len {α : Type} {pre : α → List α} (h : ∀ x, 1 ≤ (pre x).length) (ps : List α) : ps.length ≤ (remW pre ps).length := by
  have := flat_len h ps.reverse
  rw [List.length_reverse] at this
  exact this
end KB
/-! THE NEXT PLACE (own work): the maths. -/
namespace KB
open PySem L2
def Pg.hasRule : Pg → Bool
  | .node .give (x :: _) => decide (x.word = "way")
  | .node .first (x :: _) => decide (x.word = "pair")
  | .node .second (x :: _) => decide (x.word = "pair")
  | .node .plus (x :: y :: _) => decide (x.word = "whole") && decide (y.word = "whole")
  | .node .look (x :: _) => decide (x.word = "whole")
  | _ => false
/-- which inner one is in use -/
def Pg.use : Pg → Option Nat
  | .name _ => none
  | .whole _ => none
  | .node .way _ => none
  | .node .pair _ => none
  | .node .plus (x :: _) => if x.word = "whole" then some 1 else some 0
  | .node _ _ => some 0
mutual
def isAns : Pg → Bool
  | .whole _ => true
  | .name _ => false
  | .node .way _ => true
  | .node .pair xs => isAnsL xs
  | .node _ _ => false
def isAnsL : List Pg → Bool
  | [] => true
  | x :: r => isAns x && isAnsL r
end
mutual
/-- the first one that is no answer, in pairs -/
def firstUn : Pg → List Int → Option (Pg × List Int)
  | .whole _, _ => none
  | .name k, pre => some (.name k, pre)
  | .node .way _, _ => none
  | .node .pair xs, pre => firstL xs pre 0
  | .node w xs, pre => some (.node w xs, pre)
def firstL : List Pg → List Int → Nat → Option (Pg × List Int)
  | [], _, _ => none
  | x :: r, pre, k => match firstUn x (pre ++ [(k : Int)]) with
    | some e => some e
    | none => firstL r pre (k + 1)
end
mutual
theorem firstUn_none : ∀ (p : Pg) (pre : List Int), firstUn p pre = none ↔ isAns p = true
  | .whole _, _ => by simp [firstUn, isAns]
  | .name _, _ => by simp [firstUn, isAns]
  | .node .way _, _ => by simp [firstUn, isAns]
  | .node .pair xs, pre => by
    rw [firstUn, isAns]
    exact firstL_none xs pre 0
  | .node .give xs, _ => by simp [firstUn, isAns]
  | .node .first xs, _ => by simp [firstUn, isAns]
  | .node .second xs, _ => by simp [firstUn, isAns]
  | .node .plus xs, _ => by simp [firstUn, isAns]
  | .node .look xs, _ => by simp [firstUn, isAns]
theorem firstL_none : ∀ (xs : List Pg) (pre : List Int) (k : Nat), firstL xs pre k = none ↔ isAnsL xs = true
  | [], _, _ => by simp [firstL, isAnsL]
  | x :: r, pre, k => by
    have h1 := firstUn_none x (pre ++ [(k : Int)])
    have h2 := firstL_none r pre (k + 1)
    rw [firstL, isAnsL, Bool.and_eq_true]
    cases e : firstUn x (pre ++ [(k : Int)]) with
    | none =>
      rw [e] at h1
      simp only
      rw [h2]
      exact ⟨fun z => ⟨h1.mp rfl, z⟩, fun z => z.2⟩
    | some v =>
      rw [e] at h1
      simp only
      constructor
      · intro z; cases z
      · intro z
        have := h1.mpr z.1
        cases this
end
/-- the place in use within one that is no answer -/
def piu (p : Pg) : Option (List Int) :=
  if p.hasRule then some [] else
    match p.use with
    | none => none
    | some k => match h : p.inn[k]? with
      | none => none
      | some x => (piu x).map ((k : Int) :: ·)
termination_by p.sz
decreasing_by
  have := Pg.sz_mem (List.mem_of_getElem? h)
  omega
theorem piu_rule {p : Pg} (h : p.hasRule = true) : piu p = some [] := by rw [piu, if_pos h]
theorem piu_none {p : Pg} (h : p.hasRule = false) (u : p.use = none) : piu p = none := by rw [piu, if_neg (by simp [h])]; simp [u]
theorem piu_go {p x : Pg} {k : Nat} (h : p.hasRule = false) (u : p.use = some k) (e : p.inn[k]? = some x) : piu p = (piu x).map ((k : Int) :: ·) := by
  rw [piu, if_neg (by simp [h])]
  simp only [u]
  split
  · rename_i z; rw [e] at z; cases z
  · rename_i y z
    rw [e] at z
    cases z
    rfl
/-- what is told -/
def nextP (p : Pg) : Option (List Int) := match firstUn p [] with
  | none => none
  | some (x, pre) => (piu x).map (pre ++ ·)
theorem firstUn_pair (x y : Pg) (pre : List Int) : firstUn (.node .pair [x, y]) pre = if isAns x = true then firstUn y (pre ++ [1]) else firstUn x (pre ++ [0]) := by
  rw [firstUn, firstL, firstL, firstL]
  have h := firstUn_none x (pre ++ [((0 : Nat) : Int)])
  cases e : firstUn x (pre ++ [((0 : Nat) : Int)]) with
  | none =>
    rw [if_pos (h.mp e)]
    simp only
    show (match firstUn y (pre ++ [(1 : Int)]) with | some e => some e | none => none) = _
    cases firstUn y (pre ++ [(1 : Int)]) <;> rfl
  | some v =>
    rw [if_neg (fun z => by rw [h.mpr z] at e; cases e)]
    first | done | exact e.symm
/-- those still to be looked through, the last first -/
def firstS (ps : List (Pg × List Int)) : Option (Pg × List Int) := ps.reverse.findSome? fun e => firstUn e.1 e.2
theorem firstS_snoc (ps : List (Pg × List Int)) (e : Pg × List Int) : firstS (ps ++ [e]) = (match firstUn e.1 e.2 with | some r => some r | none => firstS ps) := by
  simp only [firstS, List.reverse_append, List.reverse_singleton, List.singleton_append, List.findSome?_cons]
  cases firstUn e.1 e.2 <;> rfl
theorem firstS_pair (ps : List (Pg × List Int)) (x y : Pg) (pre : List Int) : firstS (ps ++ [(.node .pair [x, y], pre)]) = firstS (ps ++ [(y, pre ++ [1]), (x, pre ++ [0])]) := by
  have e : ps ++ [(y, pre ++ [1]), (x, pre ++ [0])] = (ps ++ [(y, pre ++ [1])]) ++ [(x, pre ++ [0])] := by simp
  rw [e, firstS_snoc, firstS_snoc, firstS_snoc]
  simp only
  have h := firstUn_none x (pre ++ [0])
  rw [firstUn_pair]
  cases e2 : firstUn x (pre ++ [0]) with
  | none => rw [if_pos (h.mp e2)]
  | some v => rw [if_neg (fun z => by rw [h.mpr z] at e2; cases e2)]
end KB
namespace KB
open PySem
abbrev sc_path_ps : List Str := ["trail"]
abbrev sc_inner_ps : List Str := ["program"]
abbrev sc_at_ps : List Str := ["program", "place"]
abbrev sc_cango_ps : List Str := ["program", "place"]
abbrev sc_hasr_ps : List Str := ["program"]
abbrev sc_next_ps : List Str := ["program"]
abbrev sc_firstu_ps : List Str := ["program"]
abbrev sc_piu_ps : List Str := ["program"]
abbrev sc_iiu_ps : List Str := ["program"]
abbrev sc_feed_ps : List Str := ["_law_script", "_law_k"]
abbrev sc_take_ps : List Str := ["_law_feed_here", "_law_many"]
abbrev sc_whole_ps : List Str := ["_law_feed_here"]
abbrev sc_leaf_ps : List Str := ["_law_feed_here", "_law_many"]
abbrev sc_headed_ps : List Str := ["_law_feed_here", "_law_form", "_law_many", "_law_room", "_law_deep"]
abbrev sc_any_ps : List Str := ["_law_feed_here", "_law_many", "_law_room", "_law_deep"]
abbrev sc_halted_ps : List Str := ["_law_feed_here"]
abbrev sc_wrapped_ps : List Str := ["_law_feed_here", "_law_part"]
abbrev sc_answer_ps : List Str := ["_law_feed_here", "_law_deep"]
abbrev sc_among_ps : List Str := ["_law_feed_here", "_law_part"]
abbrev sc_line_ps : List Str := ["_law_feed_here"]
abbrev sc_can_ps : List Str := ["_law_part"]
abbrev sc_isans_ps : List Str := ["_law_part"]
abbrev sc_lnext_ps : List Str := ["_law_program"]
abbrev sc_alike_ps : List Str := ["_law_found", "_law_due"]
abbrev sc_law_ps : List Str := ["_law_script"]
end KB
/-! k17 (own work): the defs' promises. -/
namespace L2
open PySem PySem.Spec PyProof.Rows
theorem op_isT {X : Cx} : OpR X (compareOp .Is) (fun x y H Q => ∃ b c : Bool, x = .bl b ∧ y = .bl c ∧ Q (.bl (decide (b = c))) H) := by
  intro pins s σ H x y v u Q I rx ry h
  obtain ⟨b, c, rfl, rfl, q⟩ := h
  cases (show v = Value.bool b from rx)
  cases (show u = Value.bool c from ry)
  refine wpAny_pure ⟨.bl (decide (b = c)), H, I, ?_, q⟩
  cases b <;> cases c <;> rfl
end L2
namespace KB
open PySem L2
def top (i : Nat) : Stmt := PySem.Challenge.pw_kindbags_k17_the_next_place.main.body.getD i (.Pass ⟨0, 0, 0, 0⟩)
structure Blt (mg : Str → Option Value) : Prop where
  len : mg "len" = none
  all : mg "all" = none
  isinstance : mg "isinstance" = none
  range : mg "range" = none
  int : mg "int" = none
  bool : mg "bool" = none
  str : mg "str" = none
  tuple : mg "tuple" = none
  zip : mg "zip" = none
  reversed : mg "reversed" = none
theorem iteF' {b : Bool} {A B : Prop} (h : b = false) (hb : B) : if b = true then A else B := by rw [h]; exact iteF hb
theorem iteT' {b : Bool} {A B : Prop} (h : b = true) (ha : A) : if b = true then A else B := by rw [h]; exact iteT ha
def spInner : Sp := fun vs H Q _ => ∃ a w xs, vs = [.ref a] ∧ H a = some (.tup (.str w :: xs)) ∧ ∀ r H', Same H H' → H' r = some (.tup (tailOf w xs)) → Q (.ref r) H'
theorem tail_at {H : Hp} {p : Pg} {vs : List V} {k : Int} (r : RepL H p.inn vs) (h0 : 0 ≤ k) (h1 : k < vs.length) : ∃ x u, p.inn[k.toNat]? = some x ∧ atI vs k = some u ∧ Rep H x u := by
  have hk : k.toNat < vs.length := by omega
  obtain ⟨x, e, q⟩ := r.get (i := k.toNat) (v := vs[k.toNat]) (List.getElem?_eq_getElem hk)
  refine ⟨x, vs[k.toNat], e, ?_, q⟩
  have z : atI vs ((k.toNat : Nat) : Int) = some vs[k.toNat] := atI_nat (List.getElem?_eq_getElem hk)
  rwa [show ((k.toNat : Nat) : Int) = k by omega] at z
theorem at_step {p q x : Pg} {ns : List Int} {i : Nat} {k : Int} (h : p.at (ns.take i) = some q) (e : ns[i]? = some k) (h0 : 0 ≤ k) (hx : q.inn[k.toNat]? = some x) : p.at (ns.take (i + 1)) = some x := by
  rw [List.take_add_one, e, Pg.at_append, h]
  exact (Pg.at_go (ks := []) h0 hx).trans rfl
theorem at_gone {p q : Pg} {ns : List Int} {i : Nat} {k : Int} (h : p.at (ns.take i) = some q) (e : ns[i]? = some k) (ho : (q.inn.length : Int) ≤ k ∨ k < 0) : p.at ns = none := by
  obtain ⟨hi, e'⟩ := List.getElem?_eq_some_iff.mp e
  have z : ns = ns.take i ++ k :: ns.drop (i + 1) := by
    rw [← e', List.getElem_cons_drop, List.take_append_drop]
  rw [z, Pg.at_append, h]
  exact Pg.at_over ho
theorem catW_use {K : PySem.W.Frag} {Q : VK} {H : Hp} {a b : Addr} {ns ms : List Int} (hA : H a = some (.tup (ns.map V.int))) (hB : H b = some (.tup (ms.map V.int))) (hz : ns.length + ms.length ≤ 10000)
    (q : ∀ r H', Same H H' → RepPl H' (ns ++ ms) r → Q r H') : rCatW K (.ref a) (.ref b) H Q := by
  refine ⟨a, b, _, _, rfl, rfl, SqT.of hA, SqT.of hB, Nat.le_of_lt (small (by simp only [List.length_map]; omega)), fun z => ?_, fun _ z => ?_, fun _ _ p hp => ?_⟩
  · have e : ns = [] := by simpa using z
    subst e
    exact q _ H (Same.refl _) ⟨b, rfl, hB⟩
  · have e : ms = [] := by simpa using z
    subst e
    exact q _ H (Same.refl _) ⟨a, rfl, by rw [List.append_nil]; exact hA⟩
  · exact q _ _ (same_new hp _) ⟨p, rfl, by rw [upd_same, List.map_append]⟩
theorem Rep.word {H : Hp} : ∀ {p : Pg} {v : V}, Rep H p v → ∃ b vs, v = .ref b ∧ H b = some (.tup (.str p.word :: vs)) ∧ (∀ w xs, p = .node w xs → RepL H xs vs)
  | .name _, _, ⟨a, e, h⟩ => ⟨a, _, e, h, fun _ _ z => by cases z⟩
  | .whole _, _, ⟨a, e, h⟩ => ⟨a, _, e, h, fun _ _ z => by cases z⟩
  | .node w xs, _, ⟨a, vs, e, h, r⟩ => ⟨a, vs, e, h, fun _ _ z => by cases z; exact r⟩
theorem Wd.inj : ∀ {u v : Wd}, u.str = v.str → u = v := by
  intro u v
  cases u <;> cases v <;> first | (intro _; rfl) | (intro h; exact absurd h (by decide +kernel))
/-- a program of this word -/
theorem shape {p : Pg} {w : Wd} (hok : p.ok) (e : p.word = w.str) : ∃ xs, p = .node w xs ∧ xs.length = w.ar ∧ okL xs := by
  cases p with
  | name _ => exact absurd e (by cases w <;> (show ¬ (("name" : Str) = _); decide +kernel))
  | whole _ => exact absurd e (by cases w <;> (show ¬ (("whole" : Str) = _); decide +kernel))
  | node u xs =>
    have hw : u = w := Wd.inj e
    subst hw
    exact ⟨xs, rfl, hok.1, hok.2⟩
theorem shape1 {p : Pg} {w : Wd} (hok : p.ok) (e : p.word = w.str) (ha : w.ar = 1) : ∃ x, p = .node w [x] ∧ x.ok := by
  obtain ⟨xs, rfl, hl, ho⟩ := shape hok e
  rw [ha] at hl
  match xs, hl, ho with
  | [x], _, ho => exact ⟨x, rfl, ho.1⟩
theorem shape2 {p : Pg} {w : Wd} (hok : p.ok) (e : p.word = w.str) (ha : w.ar = 2) : ∃ x y, p = .node w [x, y] ∧ x.ok ∧ y.ok := by
  obtain ⟨xs, rfl, hl, ho⟩ := shape hok e
  rw [ha] at hl
  match xs, hl, ho with
  | [x, y], _, ho => exact ⟨x, y, rfl, ho.1, ho.2.1⟩
theorem shape3 {p : Pg} {w : Wd} (hok : p.ok) (e : p.word = w.str) (ha : w.ar = 3) : ∃ x y z, p = .node w [x, y, z] ∧ x.ok ∧ y.ok ∧ z.ok := by
  obtain ⟨xs, rfl, hl, ho⟩ := shape hok e
  rw [ha] at hl
  match xs, hl, ho with
  | [x, y, z], _, ho => exact ⟨x, y, z, rfl, ho.1, ho.2.1, ho.2.2.1⟩
theorem decS (a b : Str) : decide (V.str a = V.str b) = decide (a = b) := by rw [Bool.eq_iff_iff]; simp
theorem inV_str (x : Str) (ws : List Str) : inV (.str x) (ws.map V.str) = decide (x ∈ ws) := by
  rw [Bool.eq_iff_iff]
  simp [inV, eqV]
theorem norule {p : Pg} (h1 : p.word ≠ "give") (h2 : p.word ≠ "first") (h3 : p.word ≠ "second") (h4 : p.word ≠ "plus") (h5 : p.word ≠ "look") : p.hasRule = false := by
  cases p with
  | name _ => rfl
  | whole _ => rfl
  | node w xs => cases w <;> first | rfl | exact absurd rfl h1 | exact absurd rfl h2 | exact absurd rfl h3 | exact absurd rfl h4 | exact absurd rfl h5
theorem Wd.in4 (w : Wd) : w.str ∈ (["name", "way", "pair", "whole"] : List Str) ↔ (w = .way ∨ w = .pair) := by cases w <;> decide +kernel
theorem nouse {p : Pg} (h : p.word ∈ (["name", "way", "pair", "whole"] : List Str)) : p.use = none ∧ p.hasRule = false := by
  cases p with
  | name _ => exact ⟨rfl, rfl⟩
  | whole _ => exact ⟨rfl, rfl⟩
  | node w xs =>
    rcases (Wd.in4 w).mp h with rfl | rfl
    · exact ⟨rfl, rfl⟩
    · exact ⟨rfl, rfl⟩
/-- one in use, otherwise -/
theorem inuse {p : Pg} (hok : p.ok) (h : p.word ∉ (["name", "way", "pair", "whole"] : List Str)) : ∃ w x xs, p = .node w (x :: xs) ∧ (w = .plus → ∃ y, xs = [y]) ∧ p.use = some (if w = .plus ∧ x.word = "whole" then 1 else 0) := by
  cases p with
  | name _ => exact absurd (by show (("name" : Str) ∈ _); decide +kernel) h
  | whole _ => exact absurd (by show (("whole" : Str) ∈ _); decide +kernel) h
  | node w xs =>
    obtain ⟨hl, ho⟩ := hok
    cases w with
    | way => exact absurd (by show (("way" : Str) ∈ _); decide +kernel) h
    | pair => exact absurd (by show (("pair" : Str) ∈ _); decide +kernel) h
    | give => match xs, hl with | [x, y], _ => exact ⟨.give, x, [y], rfl, (fun z => by cases z), by simp [Pg.use]⟩
    | first => match xs, hl with | [x], _ => exact ⟨.first, x, [], rfl, (fun z => by cases z), by simp [Pg.use]⟩
    | second => match xs, hl with | [x], _ => exact ⟨.second, x, [], rfl, (fun z => by cases z), by simp [Pg.use]⟩
    | plus => match xs, hl with | [x, y], _ => exact ⟨.plus, x, [y], rfl, fun _ => ⟨y, rfl⟩, by by_cases c : x.word = "whole" <;> simp [Pg.use, c]⟩
    | look => match xs, hl with | [x, y, z], _ => exact ⟨.look, x, [y, z], rfl, (fun z => by cases z), by simp [Pg.use]⟩
theorem use_in {p : Pg} {k : Nat} (hok : p.ok) (h : p.use = some k) : ∃ y, p.inn[k]? = some y := by
  by_cases hin : p.word ∈ (["name", "way", "pair", "whole"] : List Str)
  · rw [(nouse hin).1] at h; cases h
  · obtain ⟨w, x, xs, rfl, hp, hu⟩ := inuse hok hin
    rw [hu] at h
    cases h
    by_cases c : w = .plus ∧ x.word = "whole"
    · obtain ⟨y, rfl⟩ := hp c.1
      exact ⟨y, by simp [c, Pg.inn]⟩
    · exact ⟨x, by simp [c, Pg.inn]⟩
theorem whole_first {p : Pg} (h : p.word = "whole") : (∀ pre, firstUn p pre = none) ∧ True := by
  cases p with
  | name _ => exact absurd h (by show ¬ (("name" : Str) = "whole"); decide +kernel)
  | whole _ => exact ⟨fun _ => by simp [firstUn], trivial⟩
  | node w xs => exact absurd (show w.str = "whole" from h) fun z => w.leaf (.inr z)
theorem way_first {p : Pg} {pre : List Int} (h : p.word = "way") : firstUn p pre = none := by
  cases p with
  | name _ => exact absurd h (by show ¬ (("name" : Str) = "way"); decide +kernel)
  | whole _ => exact absurd h (by show ¬ (("whole" : Str) = "way"); decide +kernel)
  | node w xs =>
    have hw : w = .way := Wd.inj (v := .way) h
    subst hw
    simp [firstUn]
theorem other_first {p : Pg} {pre : List Int} (h1 : p.word ≠ "pair") (h2 : p.word ≠ "whole") (h3 : p.word ≠ "way") : firstUn p pre = some (p, pre) := by
  cases p with
  | name _ => simp [firstUn]
  | whole _ => exact absurd rfl h2
  | node w xs => cases w <;> first | (simp [firstUn]; done) | exact absurd rfl h1 | exact absurd rfl h3
theorem at_ok' : ∀ {ns : List Int} {p q : Pg}, p.ok → p.at ns = some q → q.ok
  | [], p, q, h, e => by cases (show some p = some q from e); exact h
  | k :: ks, p, q, h, e => by
    obtain ⟨_, x, e1, e2⟩ := Pg.at_cons e
    refine at_ok' (ns := ks) ?_ e2
    cases p with
    | name _ => cases e1
    | whole _ => cases e1
    | node w xs => exact okL_mem h.2 (List.mem_of_getElem? e1)
theorem piu_at : ∀ (n : Nat) {p : Pg} {ns : List Int}, p.sz ≤ n → piu p = some ns → ∃ x, p.at ns = some x ∧ x.hasRule = true
  | 0, p, _, h, _ => by have := p.sz_inn; omega
  | n + 1, p, ns, hn, e => by
    cases hr : p.hasRule with
    | true =>
      rw [piu_rule hr] at e
      cases e
      exact ⟨p, rfl, hr⟩
    | false =>
      cases hu : p.use with
      | none => rw [piu_none hr hu] at e; cases e
      | some k =>
        cases hx : p.inn[k]? with
        | none =>
          rw [piu, if_neg (by simp [hr])] at e
          simp only [hu] at e
          split at e
          · cases e
          · rename_i z; rw [hx] at z; cases z
        | some x =>
          rw [piu_go hr hu hx] at e
          obtain ⟨ms, e1, rfl⟩ := Option.map_eq_some_iff.mp e
          have hs := Pg.sz_mem (List.mem_of_getElem? hx)
          obtain ⟨y, h1, h2⟩ := piu_at n (p := x) (ns := ms) (by omega) e1
          exact ⟨y, by rw [Pg.at_go (by omega) (by simpa using hx)]; exact h1, h2⟩
mutual
theorem first_at : ∀ (p : Pg) (pre : List Int) (x : Pg) (qs : List Int), firstUn p pre = some (x, qs) → ∃ ms, qs = pre ++ ms ∧ p.at ms = some x
  | .whole _, _, _, _, h => by simp [firstUn] at h
  | .name _, pre, x, qs, h => by
    simp only [firstUn, Option.some.injEq, Prod.mk.injEq] at h
    obtain ⟨rfl, rfl⟩ := h
    exact ⟨[], by simp, rfl⟩
  | .node .way _, _, _, _, h => by simp [firstUn] at h
  | .node .pair xs, pre, x, qs, h => by
    rw [firstUn] at h
    obtain ⟨j, y, ms, e1, e2, e3⟩ := firstL_at xs pre 0 x qs h
    exact ⟨((j : Nat) : Int) :: ms, by rw [e2, Nat.zero_add], by rw [Pg.at_go (by omega) (by simpa [Pg.inn] using e1)]; exact e3⟩
  | .node .give xs, pre, x, qs, h => by
    simp only [firstUn, Option.some.injEq, Prod.mk.injEq] at h
    obtain ⟨rfl, rfl⟩ := h
    exact ⟨[], by simp, rfl⟩
  | .node .first xs, pre, x, qs, h => by
    simp only [firstUn, Option.some.injEq, Prod.mk.injEq] at h
    obtain ⟨rfl, rfl⟩ := h
    exact ⟨[], by simp, rfl⟩
  | .node .second xs, pre, x, qs, h => by
    simp only [firstUn, Option.some.injEq, Prod.mk.injEq] at h
    obtain ⟨rfl, rfl⟩ := h
    exact ⟨[], by simp, rfl⟩
  | .node .plus xs, pre, x, qs, h => by
    simp only [firstUn, Option.some.injEq, Prod.mk.injEq] at h
    obtain ⟨rfl, rfl⟩ := h
    exact ⟨[], by simp, rfl⟩
  | .node .look xs, pre, x, qs, h => by
    simp only [firstUn, Option.some.injEq, Prod.mk.injEq] at h
    obtain ⟨rfl, rfl⟩ := h
    exact ⟨[], by simp, rfl⟩
theorem firstL_at : ∀ (xs : List Pg) (pre : List Int) (k : Nat) (x : Pg) (qs : List Int), firstL xs pre k = some (x, qs) → ∃ j y ms, xs[j]? = some y ∧ qs = pre ++ (((k + j : Nat) : Int) :: ms) ∧ y.at ms = some x
  | [], _, _, _, _, h => by simp [firstL] at h
  | y :: r, pre, k, x, qs, h => by
    rw [firstL] at h
    cases e : firstUn y (pre ++ [(k : Int)]) with
    | none =>
      rw [e] at h
      obtain ⟨j, y', ms, e1, e2, e3⟩ := firstL_at r pre (k + 1) x qs h
      exact ⟨j + 1, y', ms, by simpa using e1, by rw [e2, show k + 1 + j = k + (j + 1) by omega], e3⟩
    | some v =>
      rw [e] at h
      cases h
      obtain ⟨ms, e2, e3⟩ := first_at y (pre ++ [(k : Int)]) x qs e
      exact ⟨0, y, ms, rfl, by rw [e2, List.append_assoc]; rfl, e3⟩
end
theorem next_at {p : Pg} {ns : List Int} (h : nextP p = some ns) : ∃ x, p.at ns = some x ∧ x.hasRule = true := by
  unfold nextP at h
  cases e : firstUn p [] with
  | none => rw [e] at h; cases h
  | some v =>
    obtain ⟨x, pre⟩ := v
    rw [e] at h
    obtain ⟨ms, e1, rfl⟩ := Option.map_eq_some_iff.mp h
    obtain ⟨qs, e2, e3⟩ := first_at p [] x pre e
    obtain ⟨y, h1, h2⟩ := piu_at x.sz (Nat.le_refl _) e1
    have e4 : pre = qs := e2
    subst e4
    exact ⟨y, by rw [Pg.at_append, e3]; exact h1, h2⟩
/-- a trail: the innermost number first -/
def RepTr (H : Hp) : List Int → V → Prop
  | [], v => v = .non
  | k :: r, v => ∃ a u, v = .ref a ∧ H a = some (.tup [u, .int k]) ∧ RepTr H r u
theorem RepTr.mono {H H' : Hp} (h : Tup H H') : ∀ {ns : List Int} {v : V}, RepTr H ns v → RepTr H' ns v
  | [], _, e => e
  | _ :: _, _, ⟨a, u, e, q, t⟩ => ⟨a, u, e, h _ _ q, RepTr.mono h t⟩
/-- one that waits: the program and its trail -/
def RepW (H : Hp) (e : Pg × List Int) (v : V) : Prop := ∃ a x y tr, v = .ref a ∧ H a = some (.tup [x, y]) ∧ Rep H e.1 x ∧ RepTr H tr y ∧ tr.reverse = e.2 ∧ e.1.ok
theorem RepW.mono {H H' : Hp} (h : Tup H H') {e : Pg × List Int} {v : V} : RepW H e v → RepW H' e v
  | ⟨a, x, y, tr, e1, e2, e3, e4, e5⟩ => ⟨a, x, y, tr, e1, h _ _ e2, e3.mono h, e4.mono h, e5⟩
def spPath : Sp := fun vs H Q _ => ∃ v ns, vs = [v] ∧ RepTr H ns v ∧ ns.length ≤ 1000 ∧ ∀ t H', Same H H' → H' t = some (.tup (ns.reverse.map V.int)) → Q (.ref t) H'
def spHas : Sp := fun vs H Q _ => ∃ v p, vs = [v] ∧ Rep H p v ∧ p.ok ∧ ∀ H', Same H H' → Q (.bl p.hasRule) H'
def spIiu : Sp := fun vs H Q _ => ∃ v p, vs = [v] ∧ Rep H p v ∧ p.ok ∧ (∀ H', Same H H' → p.use = none → Q .non H') ∧ ∀ (k : Nat) H', Same H H' → p.use = some k → Q (.int k) H'
def spPiu : Sp := fun vs H Q _ => ∃ v p, vs = [v] ∧ Rep H p v ∧ p.ok ∧ p.sz ≤ 900 ∧ (∀ H', Same H H' → piu p = none → Q .non H') ∧ ∀ ns r H', Same H H' → piu p = some ns → RepPl H' ns r → Q r H'
def spFirst : Sp := fun vs H Q _ => ∃ v p, vs = [v] ∧ Rep H p v ∧ p.ok ∧ p.sz ≤ 900 ∧ (∀ H', Same H H' → firstUn p [] = none → Q .non H') ∧ ∀ x pre r H', Same H H' → firstUn p [] = some (x, pre) → RepEn H' (x, pre) r → Q r H'
def spNext : Sp := fun vs H Q _ => ∃ v p, vs = [v] ∧ Rep H p v ∧ p.ok ∧ p.sz ≤ 900 ∧ p.dp ≤ 38 ∧ (∀ H', Same H H' → nextP p = none → Q .non H') ∧ ∀ ns r H', Same H H' → nextP p = some ns → RepPl H' ns r → Q r H'
def spIsans (n : Nat) : Sp := fun vs H Q _ => ∃ v p, vs = [v] ∧ Rep H p v ∧ p.ok ∧ p.dp < n ∧ ∀ H', Same H H' → Q (.bl (isAns p)) H'
def spCango : Sp := fun vs H Q _ => ∃ v w p ns x, vs = [v, w] ∧ Rep H p v ∧ RepPl H ns w ∧ p.ok ∧ p.sz ≤ 900 ∧ p.at ns = some x ∧ ∀ H', Same H H' → Q (.bl x.hasRule) H'
def spAlike : Nat → Sp
  | 0 => fun _ _ _ _ => False
  | 1 => fun vs H Q _ => ∃ i : Int, vs = [.int i, .int i] ∧ ∀ H', Same H H' → Q (.bl true) H'
  | _ => fun vs H Q _ => ∃ a b ns, vs = [a, b] ∧ RepPl H ns a ∧ RepPl H ns b ∧ ns.length ≤ 900 ∧ ∀ H', Same H H' → Q (.bl true) H'
/-- what is told from here on -/
def nextF (x : Pg) (pre : List Int) : Option (List Int) := match firstUn x pre with
  | none => none
  | some (y, q) => (piu y).map (q ++ ·)
theorem nextF_pair (x y : Pg) (pre : List Int) : nextF (.node .pair [x, y]) pre = if isAns x = true then nextF y (pre ++ [1]) else nextF x (pre ++ [0]) := by
  unfold nextF
  rw [firstUn_pair]
  by_cases h : isAns x = true
  · rw [if_pos h, if_pos h]
  · rw [if_neg h, if_neg h]
theorem nextF_other {x : Pg} (pre : List Int) (h : x.word ≠ "pair") : nextF x pre = (piu x).map (pre ++ ·) := by
  unfold nextF
  by_cases hw : x.word = "whole"
  · rw [(whole_first hw).1]
    have := nouse (p := x) (by rw [hw]; decide +kernel)
    rw [piu_none this.2 this.1]
    rfl
  · by_cases hv : x.word = "way"
    · rw [way_first hv]
      have := nouse (p := x) (by rw [hv]; decide +kernel)
      rw [piu_none this.2 this.1]
      rfl
    · rw [other_first h hw hv]
theorem ans_leaf {p : Pg} (h : p.word ≠ "pair") : isAns p = decide (p.word ∈ (["whole", "way"] : List Str)) := by
  cases p with
  | name _ => rw [isAns]; exact (decide_eq_false (by show ¬ (("name" : Str) ∈ _); decide +kernel)).symm
  | whole _ => rw [isAns]; exact (decide_eq_true (by show (("whole" : Str) ∈ _); decide +kernel)).symm
  | node w xs =>
    have hd : decide (w.str ∈ (["whole", "way"] : List Str)) = decide (w = .way) := by cases w <;> decide +kernel
    show isAns (.node w xs) = decide (w.str ∈ (["whole", "way"] : List Str))
    rw [hd]
    cases w <;> first | (simp [isAns]; done) | exact absurd rfl h
def spLaw (K : PySem.W.Frag) : Sp := fun vs H Q _ => ∃ (a : Addr) (ns : List Int), vs = [.ref a] ∧ SqL K H a (ns.map V.int) ∧ ns.length ≤ 63 ∧ ∀ H', Q (.bl true) H'
/-! ### drawn programs -/
def spLeaf : Sp := fun vs H Q _ => ∃ a many, vs = [.ref a, .int many] ∧ Feed H a ∧ 0 ≤ many ∧ many < 2 ^ 32 ∧ ∀ r p H', But a H H' → Feed H' a → Rep H' p r → Fit p 1 0 → Q r H'
def spAny (n : Nat) : Sp := fun vs H Q _ => ∃ a many room deep, vs = [.ref a, .int many, .int room, .int deep] ∧ Feed H a ∧ 0 ≤ many ∧ many + deep < 2 ^ 31 ∧ room < 1000 ∧ 0 ≤ deep ∧ deep < n ∧
  ∀ r p H', But a H H' → Feed H' a → Rep H' p r → Fit p (max room 1) deep → Q r H'
def spHeaded (n : Nat) : Sp := fun vs H Q _ => ∃ a form many room deep, vs = [.ref a, .int form, .int many, .int room, .int deep] ∧ Feed H a ∧ 0 ≤ form ∧ form < 11 ∧ 0 ≤ many ∧ many + deep < 2 ^ 31 ∧ 6 ≤ room ∧ room < 1000 ∧ 3 ≤ deep ∧ deep < n ∧
  ∀ r p H', But a H H' → Feed H' a → Rep H' p r → Fit p room deep → Q r H'
def spHalted : Sp := fun vs H Q _ => ∃ a, vs = [.ref a] ∧ Feed H a ∧ ∀ r p H', But a H H' → Feed H' a → Rep H' p r → Fit p 6 2 → Q r H'
/-- around a part -/
def spAround : Sp := fun vs H Q _ => ∃ a v p, vs = [.ref a, v] ∧ Feed H a ∧ Rep H p v ∧ p.ok ∧ ∀ r p' H', But a H H' → Feed H' a → Rep H' p' r → Fit p' (p.sz + 8) (max (p.dp : Int) 2 + 1) → Q r H'
def spAns (n : Nat) : Sp := fun vs H Q _ => ∃ a deep, vs = [.ref a, .int deep] ∧ Feed H a ∧ 0 ≤ deep ∧ deep ≤ 1 ∧ deep < n ∧ ∀ r p H', But a H H' → Feed H' a → Rep H' p r → Fit p (2 + 3 * deep) (1 + deep) → Q r H'
def spLine : Sp := fun vs H Q _ => ∃ a, vs = [.ref a] ∧ Feed H a ∧ ∀ r p H', But a H H' → Feed H' a → Rep H' p r → Fit p 80 30 → Q r H'
end KB
namespace KB
open PySem L2
section
variable {P : Program} {w : World} {K : PySem.W.Frag} {mg : Str → Option Value} {base : Heap} {f : Addr} {fd : FuncData}
set_option maxHeartbeats 4000000
abbrev st_inner : Stmt := top 3
theorem sc_inner : FnScope ["program"] ["program"] (defScope st_inner) := ⟨rfl, rfl, rfl, by decide +kernel, rfl, by decide +kernel, by decide +kernel⟩
/- names: 0 program -/
theorem ok_inner (F : Fun K "inner" "inner" st_inner f fd) : FnOk P w K mg base CX0 1 f fd ["program"] spInner := by
  refine F.okJ (k := 0) sc_inner (fun vs H Q E h => ?_) (fun cdv A outer s H vs Q E hr h => ?_)
  · obtain ⟨a, w', xs, rfl, _⟩ := h
    rfl
  obtain ⟨a, w', xs, rfl, hH, q⟩ := h
  refine ⟨_, (jb_cons (js_if (JW.pt (jw_or (jt_cmpR ⟨op_eq⟩ (je_ix ⟨ix_tup⟩ (jv 0) je_int (fun _ _ => rfl)) je_str (nomark _)) (jw_or1 (jt_cmpR ⟨op_eq⟩ (je_ix ⟨ix_tup⟩ (jv 0) je_int (fun _ _ => rfl)) je_str (nomark _))))) (jb_one (js_ret (je_tup ja_nil))) jb_nil)
      (jb_one (js_ret (je_slice ⟨sl_tup⟩ (jv 0) (jo_some je_int) jo_none)))), ?_⟩
  refine ⟨_, rfl, a, _, _, _, rfl, rfl, SqT.of hH, atI_nat (j := 0) rfl, rfl, _, rfl, ?_⟩
  refine ite2 (fun c => ?_) (fun c => ?_)
  · have e : w' = "name" := by simpa using c
    refine iteT ⟨(by show 0 ≤ sizeLine; decide), fun r hr' => ?_⟩
    exact q r _ (same_new hr' _) (by rw [upd_same, tailOf, if_pos (Or.inl e)])
  · refine ⟨_, rfl, a, _, _, _, rfl, rfl, SqT.of hH, atI_nat (j := 0) rfl, rfl, _, rfl, ?_⟩
    refine ite2 (fun c2 => ?_) (fun c2 => ?_)
    · have e : w' = "whole" := by simpa using c2
      refine ⟨(by show 0 ≤ sizeLine; decide), fun r hr' => ?_⟩
      exact q r _ (same_new hr' _) (by rw [upd_same, tailOf, if_pos (Or.inr e)])
    · refine ⟨_, rfl, _, rfl, a, _, rfl, SqT.of hH, cut1_ne _ _ _, fun r hr' => ?_⟩
      have e : ¬ (w' = "name" ∨ w' = "whole") := by
        intro z
        rcases z with z | z
        · exact c (by simp [z])
        · exact c2 (by simp [z])
      exact q r _ (same_new hr' _) (by rw [upd_same, cut1, tailOf, if_neg e])

end
end KB
namespace KB
open PySem L2
section
variable {P : Program} {w : World} {K : PySem.W.Frag} {mg : Str → Option Value} {base : Heap} {f : Addr} {fd : FuncData}
set_option maxHeartbeats 4000000
abbrev st_take : Stmt := top 16
theorem sc_take : FnScope ["_law_feed_here", "_law_many", "_law_digit", "_law_one"] ["_law_feed_here", "_law_many"] (defScope st_take) := ⟨rfl, rfl, rfl, by decide +kernel, rfl, by decide +kernel, by decide +kernel⟩
/- names: 0 _law_feed_here, 1 _law_many, 2 _law_digit, 3 _law_one -/
theorem ok_take (F : Fun K "_law_take" "_law_take" st_take f fd) : FnOk P w K mg base CX0 1 f fd ["_law_feed_here", "_law_many"] spTake := by
  refine F.okJ (k := 0) sc_take (fun vs H Q E h => ?_) (fun cdv A outer s H vs Q E hr h => ?_)
  · obtain ⟨a, m, rfl, _⟩ := h
    rfl
  obtain ⟨a, m, rfl, ⟨x, y, hF⟩, h0, h1, q⟩ := h
  refine ⟨_, (jb_cons (js_if (jt_cmpR ⟨op_gt⟩ (je_ix ⟨ix_list⟩ (jv 0) je_int (fun _ _ => rfl)) je_int (nomark _)) (jb_cons (js_set (k := 2) sc_take.nd rfl (Or.inl rfl) (je_op ⟨op_mod⟩ (je_ix ⟨ix_list⟩ (jv 0) je_int (fun _ _ => rfl)) (jv 1)))
      (jb_cons (js_asg (je_op ⟨op_fdivL⟩ (je_ix ⟨ix_list⟩ (jv 0) je_int (fun _ _ => rfl)) (jv 1)) (jg_sub (jv 0) je_int ⟨set_list⟩))
      (jb_one (js_ret (jv 2))))) jb_nil)
      (jb_cons (js_set (k := 3) sc_take.nd rfl (Or.inl rfl) (je_op ⟨op_mod⟩ (je_op ⟨op_mul⟩ (je_ix ⟨ix_list⟩ (jv 0) je_int (fun _ _ => rfl)) je_int) je_int))
      (jb_cons (js_asg (je_op ⟨op_add⟩ (je_op ⟨op_mod⟩ (je_op ⟨op_add⟩ (je_op ⟨op_mul⟩ (jv 3) je_int) je_int) je_int) je_int) (jg_sub (jv 0) je_int ⟨set_list⟩))
      (jb_one (js_ret (je_op ⟨op_mod⟩ (je_op ⟨op_fdivL⟩ (je_op ⟨op_add⟩ (je_op ⟨op_mul⟩ (jv 3) je_int) (je_ix ⟨ix_list⟩ (jv 0) je_int (fun _ _ => rfl))) je_int) (jv 1))))))), ?_⟩
  refine ⟨_, rfl, a, _, _, _, rfl, rfl, SqL.of hF, atI_nat (j := 0) rfl, _, _, rfl, rfl, _, rfl, ?_⟩
  refine ite2 (fun c => ?_) (fun c => ?_)
  · refine ⟨_, rfl, a, _, _, _, rfl, rfl, SqL.of hF, atI_nat (j := 0) rfl, _, rfl, _, _, rfl, rfl, h0, ?_⟩
    refine ⟨_, rfl, a, _, _, _, rfl, rfl, SqL.of hF, atI_nat (j := 0) rfl, _, rfl, _, _, rfl, rfl, ⟨h0, by omega⟩, ?_⟩
    refine ⟨_, rfl, a, _, _, _, rfl, rfl, hF, rfl, ?_⟩
    refine ⟨_, rfl, ?_⟩
    exact q (x % m) (x / m) y (Int.emod_nonneg _ (by omega)) (Int.emod_lt_of_pos _ h0)
  · refine ⟨_, rfl, a, _, _, _, rfl, rfl, SqL.of hF, atI_nat (j := 1) rfl, _, _, rfl, rfl, .inr ⟨by decide, by decide⟩, _, _, rfl, rfl, (by show (0 : Int) < 2147483647; decide), ?_⟩
    have hone : 0 ≤ y * 69621 % 2147483647 ∧ y * 69621 % 2147483647 < 2147483647 := ⟨Int.emod_nonneg _ (by decide), Int.emod_lt_of_pos _ (by decide)⟩
    generalize y * 69621 % 2147483647 = one at hone
    refine ⟨_, rfl, _, _, rfl, rfl, .inr ⟨by decide, by decide⟩, _, _, rfl, rfl, _, _, rfl, rfl, (by show (0 : Int) < 2147483646; decide), _, _, rfl, rfl, ?_⟩
    refine ⟨_, rfl, a, _, _, _, rfl, rfl, hF, rfl, ?_⟩
    refine ⟨_, rfl, _, _, rfl, rfl, .inr ⟨by decide, by decide⟩, _, rfl, a, _, _, _, rfl, rfl, SqL.of upd_same, atI_nat (j := 1) rfl, _, _, rfl, rfl, _, _, rfl, rfl, (by constructor <;> decide), _, rfl, _, _, rfl, rfl, h0, ?_⟩
    exact q _ _ _ (Int.emod_nonneg _ (by omega)) (Int.emod_lt_of_pos _ h0)

end
end KB
namespace KB
open PySem L2
section
variable {P : Program} {w : World} {K : PySem.W.Frag} {mg : Str → Option Value} {base : Heap} {f : Addr} {fd : FuncData}
set_option maxHeartbeats 4000000
abbrev st_feed : Stmt := top 15
theorem sc_feed : FnScope ["_law_script", "_law_k", "_law_cell", "_law_own"] ["_law_script", "_law_k"] (defScope st_feed) := ⟨rfl, rfl, rfl, by decide +kernel, rfl, by decide +kernel, by decide +kernel⟩
/- names: 0 _law_script, 1 _law_k, 2 _law_cell, 3 _law_own -/
theorem ok_feed (B : Blt mg) (F : Fun K "_law_feed" "_law_feed" st_feed f fd) : FnOk P w K mg base CX0 1 f fd ["_law_script", "_law_k"] (spFeed K) := by
  refine F.okJ (k := 0) sc_feed (fun vs H Q E h => ?_) (fun cdv A outer s H vs Q E hr h => ?_)
  · obtain ⟨a, ns, k, rfl, _⟩ := h
    rfl
  obtain ⟨a, ns, k, rfl, hS, h63, h0, h1, q⟩ := h
  refine ⟨_, (jb_cons (js_set (k := 2) sc_feed.nd rfl (Or.inl rfl) (je_op ⟨op_add⟩ (je_op ⟨op_mul⟩ je_int (jv 1)) je_int))
      (jb_cons (js_if (jt_cmpR ⟨op_lt⟩ (jv 1) (je_callB ⟨call_len_seq⟩ rfl B.len PySem.boot_len (ja_cons (jv 0) ja_nil)) (nomark _)) (jb_one (js_set (k := 2) sc_feed.nd rfl (Or.inl rfl) (je_ix ⟨ix_list⟩ (jv 0) (jv 1) (fun _ _ => rfl)))) (jb_one (js_if (jt_cmpR ⟨op_gt⟩ (je_callB ⟨call_len_seq⟩ rfl B.len PySem.boot_len (ja_cons (jv 0) ja_nil)) je_int (nomark _)) (jb_one (js_set (k := 2) sc_feed.nd rfl (Or.inl rfl) (je_op ⟨op_add⟩ (je_op ⟨op_mul⟩ (je_op ⟨op_mod⟩ (je_ix ⟨ix_list⟩ (jv 0) (je_op ⟨op_mod⟩ (jv 1) (je_callB ⟨call_len_seq⟩ rfl B.len PySem.boot_len (ja_cons (jv 0) ja_nil))) (fun _ _ => rfl)) je_int) je_int) (je_op ⟨op_mul⟩ je_int (jv 1))))) jb_nil)))
      (jb_cons (js_set (k := 3) sc_feed.nd rfl (Or.inl rfl) je_int)
      (jb_cons (js_if (jt_cmpR ⟨op_ge⟩ (jv 2) (je_op ⟨op_pow⟩ je_int je_int) (nomark _)) (jb_one (js_set (k := 3) sc_feed.nd rfl (Or.inl rfl) (jv 2))) jb_nil)
      (jb_one (js_ret (je_lst (ja_cons (jv 3) (ja_cons (je_op ⟨op_add⟩ (je_op ⟨op_mod⟩ (je_op ⟨op_add⟩ (je_op ⟨op_mul⟩ (je_op ⟨op_mod⟩ (jv 2) je_int) je_int) (je_op ⟨op_mul⟩ je_int (jv 1))) je_int) je_int) ja_nil))))))))), ?_⟩
  have hl : (ns.map V.int).length = ns.length := List.length_map _
  refine ⟨_, rfl, _, _, rfl, rfl, .inl ⟨by decide, by decide⟩, _, _, rfl, rfl, ?_⟩
  refine ⟨_, rfl, _, rfl, a, _, rfl, .inl hS, _, _, rfl, rfl, _, rfl, ?_⟩
  refine ite2 (fun c => ?_) (fun c => ?_)
  rotate_left
  · refine ⟨_, rfl, a, _, rfl, .inl hS, _, _, rfl, rfl, _, rfl, ?_⟩
    refine ite2 (fun c2 => ?_) (fun c2 => ?_)
    · have c2' : (0 : Int) < ns.length := by rw [← hl]; exact of_decide_eq_true c2
      obtain ⟨v, hv⟩ := at_ok (ns := ns) (k := k % ((ns.map V.int).length : Nat)) (Int.emod_nonneg _ (by rw [hl]; omega)) (by rw [hl]; exact Int.emod_lt_of_pos _ c2')
      refine ⟨_, rfl, _, rfl, _, rfl, a, _, rfl, .inl hS, _, _, rfl, rfl, (by rw [hl]; exact c2'), a, _, _, _, rfl, rfl, hS, hv, _, _, rfl, rfl, (by show (0 : Int) < 2147483629; decide), _, _, rfl, rfl, .inr ⟨by decide, by decide⟩, _, rfl, _, _, rfl, rfl, .inl ⟨by decide, by decide⟩, _, _, rfl, rfl, ?_⟩
      refine ⟨_, rfl, _, _, rfl, rfl, ⟨by decide, by decide, by decide⟩, _, _, rfl, rfl, _, rfl, ?_⟩
      refine ite2 (fun c => ⟨_, rfl, ?_⟩) (fun c => ?_)
      all_goals
        refine ⟨_, rfl, _, rfl, _, _, rfl, rfl, (by show (0 : Int) < 2147483629; decide), _, _, rfl, rfl, .inr ⟨by decide, by decide⟩, _, rfl, _, _, rfl, rfl, .inl ⟨by decide, by decide⟩, _, _, rfl, rfl, _, _, rfl, rfl, (by show (0 : Int) < 2147483646; decide), _, _, rfl, rfl, (by show 2 ≤ sizeLine; decide), fun r hr' => ?_⟩
        exact q r _ _ hr'
    · refine ⟨_, rfl, _, _, rfl, rfl, ⟨by decide, by decide, by decide⟩, _, _, rfl, rfl, _, rfl, ?_⟩
      refine ite2 (fun c => ⟨_, rfl, ?_⟩) (fun c => ?_)
      all_goals
        refine ⟨_, rfl, _, rfl, _, _, rfl, rfl, (by show (0 : Int) < 2147483629; decide), _, _, rfl, rfl, .inr ⟨by decide, by decide⟩, _, rfl, _, _, rfl, rfl, .inl ⟨by decide, by decide⟩, _, _, rfl, rfl, _, _, rfl, rfl, (by show (0 : Int) < 2147483646; decide), _, _, rfl, rfl, (by show 2 ≤ sizeLine; decide), fun r hr' => ?_⟩
        exact q r _ _ hr'
  · have c' : k < (ns.length : Int) := by rw [← hl]; exact of_decide_eq_true c
    obtain ⟨v, hv⟩ := at_ok (ns := ns) h0 c'
    refine ⟨_, rfl, _, rfl, a, _, _, _, rfl, rfl, hS, hv, ?_⟩
    refine ⟨_, rfl, _, _, rfl, rfl, ⟨by decide, by decide, by decide⟩, _, _, rfl, rfl, _, rfl, ?_⟩
    refine ite2 (fun c => ⟨_, rfl, ?_⟩) (fun c => ?_)
    all_goals
      refine ⟨_, rfl, _, rfl, _, _, rfl, rfl, (by show (0 : Int) < 2147483629; decide), _, _, rfl, rfl, .inr ⟨by decide, by decide⟩, _, rfl, _, _, rfl, rfl, .inl ⟨by decide, by decide⟩, _, _, rfl, rfl, _, _, rfl, rfl, (by show (0 : Int) < 2147483646; decide), _, _, rfl, rfl, (by show 2 ≤ sizeLine; decide), fun r hr' => ?_⟩
      exact q r _ _ hr'

end
end KB
namespace KB
open PySem L2
section
variable {P : Program} {w : World} {K : PySem.W.Frag} {mg : Str → Option Value} {base : Heap} {f : Addr} {fd : FuncData}
set_option maxHeartbeats 4000000
abbrev st_whole : Stmt := top 17
theorem sc_whole : FnScope ["_law_feed_here", "_law_form"] ["_law_feed_here"] (defScope st_whole) := ⟨rfl, rfl, rfl, by decide +kernel, rfl, by decide +kernel, by decide +kernel⟩
/- names: 0 _law_feed_here, 1 _law_form -/
theorem ok_whole (g_take : Got P w K mg base 1 "_law_take" ["_law_feed_here", "_law_many"] spTake) (F : Fun K "_law_whole" "_law_whole" st_whole f fd) : FnOk P w K mg base CX0 2 f fd ["_law_feed_here"] spWhole := by
  refine F.okJ (k := 1) sc_whole (fun vs H Q E h => ?_) (fun cdv A outer s H vs Q E hr h => ?_)
  · obtain ⟨a, rfl, _⟩ := h
    rfl
  obtain ⟨a, rfl, hF, q⟩ := h
  refine ⟨_, (jb_cons (js_set (k := 1) sc_whole.nd rfl (Or.inl rfl) (je_cg g_take hr (by omega) rfl (ja_cons (jv 0) (ja_cons je_int ja_nil))))
      (jb_cons (js_if (jt_cmpR ⟨op_lt⟩ (jv 1) je_int (nomark _)) (jb_one (js_ret (je_tup (ja_cons je_str (ja_cons (je_ix ⟨ix_list⟩ (je_lst (ja_cons je_int (ja_cons je_int (ja_cons (je_un ⟨un_neg⟩ je_int) (ja_cons je_int ja_nil))))) (jv 1) (fun _ _ => rfl)) ja_nil))))) jb_nil)
      (jb_cons (js_if (jt_cmpR ⟨op_lt⟩ (jv 1) je_int (nomark _)) (jb_one (js_ret (je_tup (ja_cons je_str (ja_cons (je_op ⟨op_sub⟩ (je_cg g_take hr (by omega) rfl (ja_cons (jv 0) (ja_cons je_int ja_nil))) je_int) ja_nil))))) jb_nil)
      (jb_one (js_ret (je_tup (ja_cons je_str (ja_cons (je_op ⟨op_sub⟩ (je_cg g_take hr (by omega) rfl (ja_cons (jv 0) (ja_cons je_int ja_nil))) je_int) ja_nil)))))))), ?_⟩
  refine ⟨_, rfl, a, 8, rfl, hF, by decide, by decide, fun d x y d0 d1 => ?_⟩
  refine ⟨_, rfl, _, _, rfl, rfl, _, rfl, ?_⟩
  refine ite2 (fun c => ?_) (fun c => ?_)
  · have c' : d < 4 := of_decide_eq_true c
    obtain ⟨n, hn⟩ := at4 (a := 0) (b := 1) (c := -1) (e := 2) d0 c'
    refine ⟨_, rfl, (by show 4 ≤ sizeLine; decide), fun p hp => ⟨_, rfl, p, _, _, _, rfl, rfl, SqL.of upd_same, hn, (by show 2 ≤ sizeLine; decide), fun r hr' => ?_⟩⟩
    exact q (.ref r) n _ ((((But.refl a H).upd _).new hp _).new hr' _) (((Feed.put _ _ _ _).new hp _).new hr' _) ⟨r, rfl, upd_same⟩
  · refine ⟨_, rfl, _, _, rfl, rfl, _, rfl, ?_⟩
    refine ite2 (fun c2 => ?_) (fun c2 => ?_)
    · refine ⟨_, rfl, a, 13, rfl, Feed.put _ _ _ _, by decide, by decide, fun d2 x2 y2 e0 e1 => ⟨_, _, rfl, rfl, (by show 2 ≤ sizeLine; decide), fun r hr' => ?_⟩⟩
      exact q (.ref r) _ _ ((((But.refl a H).upd _).upd _).new hr' _) ((Feed.put _ _ _ _).new hr' _) ⟨r, rfl, upd_same⟩
    · refine ⟨_, rfl, a, 1999999999, rfl, Feed.put _ _ _ _, by decide, by decide, fun d2 x2 y2 e0 e1 => ⟨_, _, rfl, rfl, (by show 2 ≤ sizeLine; decide), fun r hr' => ?_⟩⟩
      exact q (.ref r) _ _ ((((But.refl a H).upd _).upd _).new hr' _) ((Feed.put _ _ _ _).new hr' _) ⟨r, rfl, upd_same⟩

end
end KB
namespace KB
open PySem L2
section
variable {P : Program} {w : World} {K : PySem.W.Frag} {mg : Str → Option Value} {base : Heap} {f : Addr} {fd : FuncData}
set_option maxHeartbeats 4000000
abbrev st_at : Stmt := top 5
theorem sc_at : FnScope ["program", "place", "one", "k", "inners"] ["program", "place"] (defScope st_at) := ⟨rfl, rfl, rfl, by decide +kernel, rfl, by decide +kernel, by decide +kernel⟩
/- names: 0 program, 1 place, 2 one, 3 k, 4 inners -/
theorem ok_at (B : Blt mg) (g_inner : Got P w K mg base 1 "inner" ["program"] spInner) (F : Fun K "at_place" "at_place" st_at f fd) : FnOk P w K mg base CX0 2 f fd ["program", "place"] spAt := by
  refine F.okJ (k := 1) sc_at (fun vs H Q E h => ?_) (fun cdv A outer s H vs Q E hr h => ?_)
  · obtain ⟨v, w', p, ns, rfl, _⟩ := h
    rfl
  obtain ⟨v, w', p, ns, rfl, hR, ⟨a, rfl, hA⟩, hz, qn, qs⟩ := h
  refine ⟨_, (jb_cons (js_set (k := 2) sc_at.nd rfl (Or.inl rfl) (jv 0))
      (jb_cons (js_for PassesOwn.never rfl (ji_tup (jv 1)) (jg_name (k := 3) sc_at.nd rfl (Or.inl rfl)) (jb_cons (js_set (k := 4) sc_at.nd rfl (Or.inl rfl) (je_cg g_inner hr (by omega) rfl (ja_cons (jv 2) ja_nil)))
      (jb_cons (js_if (JW.pt (jw_or (jt_cmpR ⟨op_lt⟩ (jv 3) je_int (nomark _)) (jw_or1 (jt_cmpR ⟨op_ge⟩ (jv 3) (je_callB ⟨call_len_seq⟩ rfl B.len PySem.boot_len (ja_cons (jv 4) ja_nil)) (nomark _))))) (jb_one (js_ret je_non)) jb_nil)
      (jb_one (js_set (k := 2) sc_at.nd rfl (Or.inl rfl) (je_ix ⟨ix_tup⟩ (jv 4) (jv 3) (fun _ _ => rfl)))))))
      (jb_one (js_ret (jv 2))))), ?_⟩
  refine ⟨_, rfl, _, rfl, a, rfl, ⟨_, SqT.of hA⟩, ?_⟩
  refine for_tup (xs := ns.map V.int) (fun i σ H' => ∃ r q o3 o4, σ = [some v, some (.ref a), some r, o3, o4] ∧ Same H H' ∧ Rep H' q r ∧ p.at (ns.take i) = some q) ⟨v, p, _, _, rfl, Same.refl _, hR, rfl⟩ (fun i σ H' _ hPv => ?_) (fun i x σ H' hx hPv => ?_) (fun σ H' hPv => ?_)
  · obtain ⟨r, q, o3, o4, rfl, s1, _⟩ := hPv
    exact SqT.of (s1 _ _ hA)
  · obtain ⟨r, q, o3, o4, rfl, s1, hq, hat⟩ := hPv
    rw [List.getElem?_map] at hx
    obtain ⟨k, hk, rfl⟩ := Option.map_eq_some_iff.mp hx
    obtain ⟨b, w0, us, rfl, hB, rr⟩ := hq.opened
    refine ⟨_, rfl, b, w0, us, rfl, hB, fun t H2 s2 hT => ?_⟩
    have rr2 := rr.mono (Tup.of s2)
    have len := rr2.len
    refine ⟨_, rfl, _, _, rfl, rfl, _, rfl, ?_⟩
    refine ite2 (fun c => ?_) (fun c => ?_)
    · have c' : k < 0 := by simpa using c
      exact iteT (qn H2 (s1.trans s2) (at_gone hat hk (.inr c')))
    · have c' : ¬ k < 0 := by simpa using c
      refine ⟨_, rfl, _, rfl, t, _, rfl, .inr (SqT.of hT), _, _, rfl, rfl, _, rfl, ?_⟩
      refine ite2 (fun c2 => ?_) (fun c2 => ?_)
      · have c2' : ((tailOf w0 us).length : Int) ≤ k := by simpa using c2
        exact qn H2 (s1.trans s2) (at_gone hat hk (.inl (by rw [← len]; exact c2')))
      · have c2' : ¬ ((tailOf w0 us).length : Int) ≤ k := by simpa using c2
        obtain ⟨x, u, e1, e2, e3⟩ := tail_at (k := k) rr2 (by omega) (by omega)
        refine ⟨_, rfl, _, rfl, t, _, _, _, rfl, rfl, SqT.of hT, e2, ?_⟩
        exact ⟨u, x, _, _, rfl, s1.trans s2, e3, at_step hat hk (by omega) e1⟩
  · obtain ⟨r, q, o3, o4, rfl, s1, hq, hat⟩ := hPv
    rw [List.length_map, List.take_length] at hat
    exact ⟨_, rfl, qs q r H' s1 hat hq⟩
end
end KB
namespace KB
open PySem L2
section
variable {P : Program} {w : World} {K : PySem.W.Frag} {mg : Str → Option Value} {base : Heap} {f : Addr} {fd : FuncData}
set_option maxHeartbeats 4000000
abbrev st_path : Stmt := top 1
theorem sc_path : FnScope ["trail", "numbers", "rest"] ["trail"] (defScope st_path) := ⟨rfl, rfl, rfl, by decide +kernel, rfl, by decide +kernel, by decide +kernel⟩
/- names: 0 trail, 1 numbers, 2 rest -/
theorem ok_path (B : Blt mg) (F : Fun K "path_of" "path_of" st_path f fd) : FnOk P w K mg base CX0 1 f fd ["trail"] spPath := by
  refine F.okJ (k := 0) sc_path (fun vs H Q E h => ?_) (fun cdv A outer s H vs Q E hr h => ?_)
  · obtain ⟨v, ns, rfl, _⟩ := h
    rfl
  obtain ⟨v, ns, rfl, hR, hz, q⟩ := h
  refine ⟨_, (jb_cons (js_set (k := 1) sc_path.nd rfl (Or.inl rfl) (je_lst ja_nil))
      (jb_cons (js_set (k := 2) sc_path.nd rfl (Or.inl rfl) (jv 0))
      (jb_cons (js_while PassesOwn.never (jt_cmpR ⟨op_notN⟩ (jv 2) je_non (nomark _)) (jb_cons (js_expr (je_bm PySem.F.plainAttrs_list PySem.F.slot_list_append PySem.F.type_list_append ⟨mt_append⟩ (jv 1) (ja_cons (je_ix ⟨ix_tup⟩ (jv 2) je_int (fun _ _ => rfl)) ja_nil)))
      (jb_one (js_set (k := 2) sc_path.nd rfl (Or.inl rfl) (je_ix ⟨ix_tup⟩ (jv 2) je_int (fun _ _ => rfl))))))
      (jb_one (js_ret (je_tupleRev_list rfl B.tuple rfl B.reversed (jv 1))))))), ?_⟩
  refine ⟨(by show 0 ≤ sizeLine; decide), fun l hl => ⟨_, rfl, ?_⟩⟩
  have w1 := same_new hl (.lst [])
  refine ⟨fun m σ H' => ∃ u dn rem, σ = [some v, some (.ref l), some u] ∧ Same H H' ∧ H' l = some (.lst (dn.map V.int)) ∧ RepTr H' rem u ∧ dn ++ rem = ns ∧ m = rem.length, ⟨_, v, [], ns, rfl, w1, upd_same, hR.mono (Tup.of w1), rfl, rfl⟩, ?_⟩
  rintro m σ H' ⟨u, dn, rem, rfl, hS, hL, hT, hi, rfl⟩
  have hlen := congrArg List.length hi
  rw [List.length_append] at hlen
  refine ⟨_, rfl, rfl, _, rfl, ?_⟩
  cases rem with
  | nil =>
    cases (show u = .non from hT)
    refine iteF ?_
    rw [List.append_nil] at hi
    subst hi
    exact ⟨_, rfl, l, _, rfl, SqL.of hL, fun t ht => q t _ (hS.trans (same_new ht _)) (by rw [upd_same, List.map_reverse])⟩
  | cons k r =>
    obtain ⟨a, u', rfl, hA, hr'⟩ := hT
    refine iteT ⟨_, fun σ' H'' z => z, ?_⟩
    refine ⟨_, rfl, .inl ⟨rfl, _, SqL.of hL⟩, _, rfl, a, _, _, _, rfl, rfl, SqT.of hA, atI_nat (j := 1) rfl, l, _, _, rfl, rfl, hL, small (by rw [List.length_map]; omega), ?_⟩
    have t2 : Tup H' (upd H' l (.lst (dn.map V.int ++ [.int k]))) := Tup.lst hL _
    refine ⟨_, rfl, a, _, _, _, rfl, rfl, SqT.of (t2 _ _ hA), atI_nat (j := 0) rfl, ?_⟩
    exact ⟨r.length, by simp, u', dn ++ [k], r, rfl, same_upd hS hl _, by rw [upd_same, List.map_append]; rfl, hr'.mono t2, by rw [← hi]; simp, rfl⟩
end
end KB
namespace KB
open PySem L2
section
variable {P : Program} {w : World} {K : PySem.W.Frag} {mg : Str → Option Value} {base : Heap} {f : Addr} {fd : FuncData}
set_option maxHeartbeats 4000000
abbrev st_hasr : Stmt := top 8
theorem sc_hasr : FnScope ["program", "word"] ["program"] (defScope st_hasr) := ⟨rfl, rfl, rfl, by decide +kernel, rfl, by decide +kernel, by decide +kernel⟩
/- names: 0 program, 1 word -/
theorem ok_hasr (F : Fun K "has_rule" "has_rule" st_hasr f fd) : FnOk P w K mg base CX0 1 f fd ["program"] spHas := by
  refine F.okJ (k := 0) sc_hasr (fun vs H Q E h => ?_) (fun cdv A outer s H vs Q E hr h => ?_)
  · obtain ⟨v, p, rfl, _⟩ := h
    rfl
  obtain ⟨v, p, rfl, hR, hok, q⟩ := h
  obtain ⟨a, vs, rfl, hH, hxs⟩ := hR.word
  have q := q H (Same.refl _)
  refine ⟨_, (jb_cons (js_set (k := 1) sc_hasr.nd rfl (Or.inl rfl) (je_ix ⟨ix_tup⟩ (jv 0) je_int (fun _ _ => rfl)))
      (jb_cons (js_if (jt_cmpR ⟨op_eq⟩ (jv 1) je_str (nomark _)) (jb_one (js_ret (je_cmpR ⟨op_eq⟩ (je_ix ⟨ix_tup⟩ (je_ix ⟨ix_tup⟩ (jv 0) je_int (fun _ _ => rfl)) je_int (fun _ _ => rfl)) je_str (nomark _)))) jb_nil)
      (jb_cons (js_if (JW.pt (jw_or (jt_cmpR ⟨op_eq⟩ (jv 1) je_str (nomark _)) (jw_or1 (jt_cmpR ⟨op_eq⟩ (jv 1) je_str (nomark _))))) (jb_one (js_ret (je_cmpR ⟨op_eq⟩ (je_ix ⟨ix_tup⟩ (je_ix ⟨ix_tup⟩ (jv 0) je_int (fun _ _ => rfl)) je_int (fun _ _ => rfl)) je_str (nomark _)))) jb_nil)
      (jb_cons (js_if (jt_cmpR ⟨op_eq⟩ (jv 1) je_str (nomark _)) (jb_one (js_ret (je_and (je_cmpR ⟨op_eq⟩ (je_ix ⟨ix_tup⟩ (je_ix ⟨ix_tup⟩ (jv 0) je_int (fun _ _ => rfl)) je_int (fun _ _ => rfl)) je_str (nomark _)) (je_one (je_cmpR ⟨op_eq⟩ (je_ix ⟨ix_tup⟩ (je_ix ⟨ix_tup⟩ (jv 0) je_int (fun _ _ => rfl)) je_int (fun _ _ => rfl)) je_str (nomark _)))))) jb_nil)
      (jb_one (js_ret (je_and (je_cmpR ⟨op_eq⟩ (jv 1) je_str (nomark _)) (je_one (je_cmpR ⟨op_eq⟩ (je_ix ⟨ix_tup⟩ (je_ix ⟨ix_tup⟩ (jv 0) je_int (fun _ _ => rfl)) je_int (fun _ _ => rfl)) je_str (nomark _)))))))))), ?_⟩
  refine ⟨_, rfl, a, _, _, _, rfl, rfl, SqT.of hH, atI_nat (j := 0) rfl, ?_⟩
  refine ⟨_, rfl, rfl, _, rfl, ?_⟩
  rw [decS]
  refine ite2 (fun c => ?_) (fun c1 => ?_)
  · obtain ⟨x, y, rfl, ox, oy⟩ := shape2 (w := .give) hok (of_decide_eq_true c) rfl
    obtain ⟨u, r, rfl, hu, _⟩ := hxs _ _ rfl
    obtain ⟨b, ws, rfl, hb, _⟩ := hu.word
    refine ⟨_, rfl, a, _, _, _, rfl, rfl, SqT.of hH, atI_nat (j := 1) rfl, b, _, _, _, rfl, rfl, SqT.of hb, atI_nat (j := 0) rfl, rfl, ?_⟩
    rw [decS]
    exact q
  have n1 : p.word ≠ "give" := fun z => c1 (decide_eq_true z)
  have fs : (p.word = "first" ∨ p.word = "second") → ∃ b x ws, H b = some (.tup (.str x :: ws)) ∧ atI (V.str p.word :: vs) 1 = some (.ref b) ∧ p.hasRule = decide (x = "pair") := by
    rintro (z | z)
    · obtain ⟨x, rfl, ox⟩ := shape1 (w := .first) hok z rfl
      obtain ⟨u, r, rfl, hu, _⟩ := hxs _ _ rfl
      obtain ⟨b, ws, rfl, hb, _⟩ := hu.word
      exact ⟨b, _, _, hb, atI_nat (j := 1) rfl, rfl⟩
    · obtain ⟨x, rfl, ox⟩ := shape1 (w := .second) hok z rfl
      obtain ⟨u, r, rfl, hu, _⟩ := hxs _ _ rfl
      obtain ⟨b, ws, rfl, hb, _⟩ := hu.word
      exact ⟨b, _, _, hb, atI_nat (j := 1) rfl, rfl⟩
  refine ⟨_, rfl, rfl, _, rfl, ?_⟩
  rw [decS]
  refine ite2 (fun c => iteT ?_) (fun c2 => ⟨_, rfl, rfl, _, rfl, ?_⟩)
  · obtain ⟨b, x, ws, hb, e1, e2⟩ := fs (.inl (of_decide_eq_true c))
    rw [e2] at q
    refine ⟨_, rfl, a, _, _, _, rfl, rfl, SqT.of hH, e1, b, _, _, _, rfl, rfl, SqT.of hb, atI_nat (j := 0) rfl, rfl, ?_⟩
    rw [decS]
    exact q
  have n2 : p.word ≠ "first" := fun z => c2 (decide_eq_true z)
  rw [decS]
  refine ite2 (fun c => ?_) (fun c3 => ?_)
  · obtain ⟨b, x, ws, hb, e1, e2⟩ := fs (.inr (of_decide_eq_true c))
    rw [e2] at q
    refine ⟨_, rfl, a, _, _, _, rfl, rfl, SqT.of hH, e1, b, _, _, _, rfl, rfl, SqT.of hb, atI_nat (j := 0) rfl, rfl, ?_⟩
    rw [decS]
    exact q
  have n3 : p.word ≠ "second" := fun z => c3 (decide_eq_true z)
  refine ⟨_, rfl, rfl, _, rfl, ?_⟩
  rw [decS]
  refine ite2 (fun c => ?_) (fun c4 => ?_)
  · obtain ⟨x, y, rfl, ox, oy⟩ := shape2 (w := .plus) hok (of_decide_eq_true c) rfl
    obtain ⟨u, r, rfl, hu, u2, r2, rfl, hu2, _⟩ := hxs _ _ rfl
    obtain ⟨b, ws, rfl, hb, _⟩ := hu.word
    obtain ⟨b2, ws2, rfl, hb2, _⟩ := hu2.word
    refine ⟨_, rfl, a, _, _, _, rfl, rfl, SqT.of hH, atI_nat (j := 1) rfl, b, _, _, _, rfl, rfl, SqT.of hb, atI_nat (j := 0) rfl, rfl, _, rfl, ?_⟩
    have q' : Q (.bl (decide (x.word = "whole") && decide (y.word = "whole"))) H := q
    rw [decS]
    by_cases hx : x.word = "whole"
    · rw [decide_eq_true hx] at q' ⊢
      refine iteT ⟨_, rfl, a, _, _, _, rfl, rfl, SqT.of hH, atI_nat (j := 2) rfl, b2, _, _, _, rfl, rfl, SqT.of hb2, atI_nat (j := 0) rfl, rfl, ?_⟩
      rw [decS]
      exact q'
    · rw [decide_eq_false hx] at q' ⊢
      exact iteF q'
  have n4 : p.word ≠ "plus" := fun z => c4 (decide_eq_true z)
  refine ⟨_, rfl, rfl, _, rfl, ?_⟩
  rw [decS]
  refine ite2 (fun c => ?_) (fun c5 => ?_)
  · obtain ⟨x, y, z, rfl, ox, oy, oz⟩ := shape3 (w := .look) hok (of_decide_eq_true c) rfl
    obtain ⟨u, r, rfl, hu, _⟩ := hxs _ _ rfl
    obtain ⟨b, ws, rfl, hb, _⟩ := hu.word
    refine ⟨_, rfl, a, _, _, _, rfl, rfl, SqT.of hH, atI_nat (j := 1) rfl, b, _, _, _, rfl, rfl, SqT.of hb, atI_nat (j := 0) rfl, rfl, ?_⟩
    rw [decS]
    exact q
  · rw [norule n1 n2 n3 n4 fun z => c5 (decide_eq_true z)] at q
    exact q
end
end KB
namespace KB
open PySem L2
section
variable {P : Program} {w : World} {K : PySem.W.Frag} {mg : Str → Option Value} {base : Heap} {f : Addr} {fd : FuncData}
set_option maxHeartbeats 4000000
abbrev st_cango : Stmt := top 7
theorem sc_cango : FnScope ["program", "place", "one"] ["program", "place"] (defScope st_cango) := ⟨rfl, rfl, rfl, by decide +kernel, rfl, by decide +kernel, by decide +kernel⟩
/- names: 0 program, 1 place, 2 one -/
theorem ok_cango (g_at : Got P w K mg base 2 "at_place" ["program", "place"] spAt) (g_hasr : Got P w K mg base 1 "has_rule" ["program"] spHas) (F : Fun K "can_go" "can_go" st_cango f fd) : FnOk P w K mg base CX0 3 f fd ["program", "place"] spCango := by
  refine F.okJ (k := 2) sc_cango (fun vs H Q E h => ?_) (fun cdv A outer s H vs Q E hr h => ?_)
  · obtain ⟨v, w', p, ns, x, rfl, _⟩ := h
    rfl
  obtain ⟨v, w', p, ns, x, rfl, hR, hW, hok, hz, hat, q⟩ := h
  refine ⟨_, (jb_cons (js_set (k := 2) sc_cango.nd rfl (Or.inl rfl) (je_cg g_at hr (by omega) rfl (ja_cons (jv 0) (ja_cons (jv 1) ja_nil))))
      (jb_one (js_ret (je_and (je_cmpR ⟨op_notN⟩ (jv 2) je_non (nomark _)) (je_one (je_cg g_hasr hr (by omega) rfl (ja_cons (jv 2) ja_nil))))))), ?_⟩
  refine ⟨_, rfl, _, rfl, v, w', p, ns, rfl, hR, hW, hz, fun H1 s1 e => (by rw [hat] at e; cases e), fun x' r H1 s1 e hr1 => ?_⟩
  rw [hat] at e
  cases e
  obtain ⟨b, ws, rfl, hb, _⟩ := hr1.word
  refine ⟨_, rfl, rfl, _, rfl, iteT ?_⟩
  exact ⟨_, rfl, .ref b, x, rfl, hr1, at_ok' hok hat, fun H2 s2 => q H2 (s1.trans s2)⟩
end
end KB
namespace KB
open PySem L2
section
variable {P : Program} {w : World} {K : PySem.W.Frag} {mg : Str → Option Value} {base : Heap} {f : Addr} {fd : FuncData}
set_option maxHeartbeats 4000000
abbrev st_iiu : Stmt := top 13
theorem sc_iiu : FnScope ["program"] ["program"] (defScope st_iiu) := ⟨rfl, rfl, rfl, by decide +kernel, rfl, by decide +kernel, by decide +kernel⟩
/- names: 0 program -/
theorem ok_iiu (F : Fun K "inner_in_use" "inner_in_use" st_iiu f fd) : FnOk P w K mg base CX0 1 f fd ["program"] spIiu := by
  refine F.okJ (k := 0) sc_iiu (fun vs H Q E h => ?_) (fun cdv A outer s H vs Q E hr h => ?_)
  · obtain ⟨v, p, rfl, _⟩ := h
    rfl
  obtain ⟨v, p, rfl, hR, hok, qn, qs⟩ := h
  obtain ⟨a, vs, rfl, hH, hxs⟩ := hR.word
  refine ⟨_, (jb_cons (js_if (jt_cmpR ⟨op_in_seq⟩ (je_ix ⟨ix_tup⟩ (jv 0) je_int (fun _ _ => rfl)) (je_tup (ja_cons je_str (ja_cons je_str (ja_cons je_str (ja_cons je_str ja_nil))))) (by with_unfolding_all rfl)) (jb_one (js_ret je_non)) jb_nil)
      (jb_cons (js_if (JW.pt (jw_and (jt_cmpR ⟨op_eq⟩ (je_ix ⟨ix_tup⟩ (jv 0) je_int (fun _ _ => rfl)) je_str (nomark _)) (jw_and1 (jt_cmpR ⟨op_eq⟩ (je_ix ⟨ix_tup⟩ (je_ix ⟨ix_tup⟩ (jv 0) je_int (fun _ _ => rfl)) je_int (fun _ _ => rfl)) je_str (nomark _))))) (jb_one (js_ret je_int)) jb_nil)
      (jb_one (js_ret je_int)))), ?_⟩
  refine ⟨_, rfl, a, _, _, _, rfl, rfl, SqT.of hH, atI_nat (j := 0) rfl, (by show 4 ≤ sizeLine; decide), fun tp htp => ⟨tp, _, rfl, .inr (SqT.of upd_same), rfl, rfl, _, rfl, ?_⟩⟩
  have w1 := same_new htp (.tup [.str "name", .str "way", .str "pair", .str "whole"])
  have e1 : inV (.str p.word) [.str "name", .str "way", .str "pair", .str "whole"] = decide (p.word ∈ (["name", "way", "pair", "whole"] : List Str)) := inV_str p.word ["name", "way", "pair", "whole"]
  generalize upd H tp (.tup [.str "name", .str "way", .str "pair", .str "whole"]) = H1 at w1
  by_cases hin : p.word ∈ (["name", "way", "pair", "whole"] : List Str)
  · refine iteT' (show inV (.str p.word) [.str "name", .str "way", .str "pair", .str "whole"] = true from e1.trans (decide_eq_true hin)) ?_
    exact qn H1 w1 (nouse hin).1
  · refine iteF' (show inV (.str p.word) [.str "name", .str "way", .str "pair", .str "whole"] = false from e1.trans (decide_eq_false hin)) ?_
    obtain ⟨wd, x, xs, rfl, hpl, hu⟩ := inuse hok hin
    obtain ⟨u, r, rfl, hux, _⟩ := hxs _ _ rfl
    obtain ⟨b, ws, rfl, hb, _⟩ := hux.word
    refine ⟨_, rfl, a, _, _, _, rfl, rfl, SqT.of (w1 _ _ hH), atI_nat (j := 0) rfl, rfl, _, rfl, ?_⟩
    rw [decS]
    by_cases hp : wd = .plus
    · subst hp
      refine iteT' (decide_eq_true rfl) ⟨_, rfl, a, _, _, _, rfl, rfl, SqT.of (w1 _ _ hH), atI_nat (j := 1) rfl, b, _, _, _, rfl, rfl, SqT.of (w1 _ _ hb), atI_nat (j := 0) rfl, rfl, _, rfl, ?_⟩
      rw [decS]
      by_cases hx : x.word = "whole"
      · refine iteT' (decide_eq_true hx) ?_
        exact qs 1 H1 w1 (by rw [hu, if_pos ⟨rfl, hx⟩])
      · refine iteF' (decide_eq_false hx) ?_
        exact qs 0 H1 w1 (by rw [hu, if_neg (fun z => hx z.2)])
    · refine iteF' (decide_eq_false fun z => hp (Wd.inj (v := .plus) z)) (iteF ?_)
      exact qs 0 H1 w1 (by rw [hu, if_neg (fun z => hp z.1)])
end
end KB
namespace KB
open PySem L2
section
variable {P : Program} {w : World} {K : PySem.W.Frag} {mg : Str → Option Value} {base : Heap} {f : Addr} {fd : FuncData}
set_option maxHeartbeats 4000000
abbrev st_piu : Stmt := top 12
theorem sc_piu : FnScope ["program", "place", "one", "k"] ["program"] (defScope st_piu) := ⟨rfl, rfl, rfl, by decide +kernel, rfl, by decide +kernel, by decide +kernel⟩
/- names: 0 program, 1 place, 2 one, 3 k -/
theorem ok_piu (B : Blt mg) (g_inner : Got P w K mg base 1 "inner" ["program"] spInner) (g_hasr : Got P w K mg base 1 "has_rule" ["program"] spHas) (g_iiu : Got P w K mg base 1 "inner_in_use" ["program"] spIiu) (F : Fun K "place_in_use" "place_in_use" st_piu f fd) : FnOk P w K mg base CX0 2 f fd ["program"] spPiu := by
  refine F.okJ (k := 1) sc_piu (fun vs H Q E h => ?_) (fun cdv A outer s H vs Q E hr h => ?_)
  · obtain ⟨v, p, rfl, _⟩ := h
    rfl
  obtain ⟨v, p, rfl, hR, hok, hz, qn, qs⟩ := h
  refine ⟨_, (jb_cons (js_set (k := 1) sc_piu.nd rfl (Or.inl rfl) (je_lst ja_nil))
      (jb_cons (js_set (k := 2) sc_piu.nd rfl (Or.inl rfl) (jv 0))
      (jb_cons (js_while PassesOwn.never (jt_not (jt_val (je_cg g_hasr hr (by omega) rfl (ja_cons (jv 2) ja_nil)))) (jb_cons (js_set (k := 3) sc_piu.nd rfl (Or.inl rfl) (je_cg g_iiu hr (by omega) rfl (ja_cons (jv 2) ja_nil)))
      (jb_cons (js_if (jt_cmpR ⟨op_isN⟩ (jv 3) je_non (nomark _)) (jb_one (js_ret je_non)) jb_nil)
      (jb_cons (js_expr (je_bm PySem.F.plainAttrs_list PySem.F.slot_list_append PySem.F.type_list_append ⟨mt_append⟩ (jv 1) (ja_cons (jv 3) ja_nil)))
      (jb_one (js_set (k := 2) sc_piu.nd rfl (Or.inl rfl) (je_ix ⟨ix_tup⟩ (je_cg g_inner hr (by omega) rfl (ja_cons (jv 2) ja_nil)) (jv 3) (fun _ _ => rfl))))))))
      (jb_one (js_ret (je_callTy ⟨call_tuple_of⟩ rfl B.tuple PyProof.Rows.boot_tuple (ja_cons (jv 1) ja_nil))))))), ?_⟩
  refine ⟨(by show 0 ≤ sizeLine; decide), fun l hl => ⟨_, rfl, ?_⟩⟩
  have w1 := same_new hl (.lst [])
  refine ⟨fun m σ H' => ∃ u x dn o3, σ = [some v, some (.ref l), some u, o3] ∧ Same H H' ∧ H' l = some (.lst (dn.map V.int)) ∧ Rep H' x u ∧ x.ok ∧ x.sz + dn.length ≤ p.sz ∧ (piu x).map (dn ++ ·) = piu p ∧ m = x.sz, ⟨_, v, p, [], _, rfl, w1, upd_same, hR.mono (Tup.of w1), hok, by simp, by cases piu p <;> rfl, rfl⟩, ?_⟩
  rintro m σ H' ⟨u, x, dn, o3, rfl, hS, hL, hx, ox, hsz, hi, rfl⟩
  refine ⟨_, rfl, u, x, rfl, hx, ox, fun H1 s1 => ⟨_, rfl, ?_⟩⟩
  have S1 := hS.trans s1
  have hL1 := s1 _ _ hL
  have hx1 := hx.mono (Tup.of s1)
  cases hr' : x.hasRule with
  | true =>
    refine iteF ?_
    rw [piu_rule hr'] at hi
    refine ⟨_, rfl, l, _, rfl, .inl ⟨SqL.of hL1, fun t ht => ?_⟩⟩
    exact qs dn (.ref t) _ (S1.trans (same_new ht _)) (by rw [← hi]; simp) ⟨t, rfl, upd_same⟩
  | false =>
    refine iteT ⟨_, fun σ' H'' z => z, ?_⟩
    refine ⟨_, rfl, u, x, rfl, hx1, ox, fun H2 s2 hu => ?_, fun k H2 s2 hu => ?_⟩
    · refine ⟨_, rfl, rfl, _, rfl, iteT ?_⟩
      rw [piu_none hr' hu] at hi
      exact qn H2 (S1.trans s2) hi.symm
    · refine ⟨_, rfl, rfl, _, rfl, iteF ?_⟩
      have hL2 := s2 _ _ hL1
      have S2 := S1.trans s2
      have hx2 := hx1.mono (Tup.of s2)
      have dz := x.sz_inn
      refine ⟨_, rfl, .inl ⟨rfl, _, SqL.of hL2⟩, _, rfl, l, _, _, rfl, rfl, hL2, small (by rw [List.length_map]; omega), ?_⟩
      have t3 : Tup H2 (upd H2 l (.lst (dn.map V.int ++ [.int (k : Int)]))) := Tup.lst hL2 _
      have S3 : Same H (upd H2 l (.lst (dn.map V.int ++ [.int (k : Int)]))) := same_upd S2 hl _
      have hL3 : upd H2 l (.lst (dn.map V.int ++ [.int (k : Int)])) l = some (.lst ((dn ++ [(k : Int)]).map V.int)) := by rw [upd_same, List.map_append]; rfl
      generalize upd H2 l (.lst (dn.map V.int ++ [.int (k : Int)])) = H3 at t3 S3 hL3
      obtain ⟨b, w0, xs, rfl, hB, rr⟩ := (hx2.mono t3).opened
      obtain ⟨y, hy⟩ := use_in ox hu
      refine ⟨_, rfl, b, w0, xs, rfl, hB, fun t H4 s4 hT => ?_⟩
      have rr4 := rr.mono (Tup.of s4)
      have len := rr4.len
      have hk := (List.getElem?_eq_some_iff.mp hy).1
      obtain ⟨y', u', e1, e2, e3⟩ := tail_at (k := (k : Int)) rr4 (by omega) (by omega)
      rw [Int.toNat_natCast, hy] at e1
      cases e1
      refine ⟨_, rfl, t, _, _, _, rfl, rfl, SqT.of hT, e2, ?_⟩
      have hs := Pg.sz_mem (List.mem_of_getElem? hy)
      refine ⟨y.sz, by omega, u', y, dn ++ [(k : Int)], _, rfl, S3.trans s4, s4 _ _ hL3, e3, ?_, by rw [List.length_append, List.length_singleton]; omega, ?_, rfl⟩
      · cases x with
        | name _ => cases hy
        | whole _ => cases hy
        | node w' zs => exact okL_mem ox.2 (List.mem_of_getElem? hy)
      · rw [piu_go hr' hu hy] at hi
        rw [← hi]
        cases piu y <;> simp
end
end KB
namespace KB
open PySem L2
section
variable {P : Program} {w : World} {K : PySem.W.Frag} {mg : Str → Option Value} {base : Heap} {f : Addr} {fd : FuncData}
set_option maxHeartbeats 4000000
abbrev st_firstu : Stmt := top 11
theorem sc_firstu : FnScope ["program", "pending", "entry", "one"] ["program"] (defScope st_firstu) := ⟨rfl, rfl, rfl, by decide +kernel, rfl, by decide +kernel, by decide +kernel⟩
/- names: 0 program, 1 pending, 2 entry, 3 one -/
theorem ok_firstu (g_path : Got P w K mg base 1 "path_of" ["trail"] spPath) (F : Fun K "first_unanswered" "first_unanswered" st_firstu f fd) : FnOk P w K mg base CX0 2 f fd ["program"] spFirst := by
  refine F.okJ (k := 1) sc_firstu (fun vs H Q E h => ?_) (fun cdv A outer s H vs Q E hr h => ?_)
  · obtain ⟨v, p, rfl, _⟩ := h
    rfl
  obtain ⟨v, p, rfl, hR, hok, hz, qn, qs⟩ := h
  refine ⟨_, (jb_cons (js_set (k := 1) sc_firstu.nd rfl (Or.inl rfl) (je_lst (ja_cons (je_tup (ja_cons (jv 0) (ja_cons je_non ja_nil))) ja_nil)))
      (jb_cons (js_while PassesOwn.never (jt_truth (jv 1) (fun _ => rfl)) (jb_cons (js_set (k := 2) sc_firstu.nd rfl (Or.inl rfl) (je_bm0 PySem.F.plainAttrs_list PySem.F.slot_list_pop PySem.F.type_list_pop ⟨mt_pop⟩ (jv 1)))
      (jb_cons (js_set (k := 3) sc_firstu.nd rfl (Or.inl rfl) (je_ix ⟨ix_tup⟩ (jv 2) je_int (fun _ _ => rfl)))
      (jb_one (js_if (jt_cmpR ⟨op_eq⟩ (je_ix ⟨ix_tup⟩ (jv 3) je_int (fun _ _ => rfl)) je_str (nomark _)) (jb_cons (js_expr (je_bm PySem.F.plainAttrs_list PySem.F.slot_list_append PySem.F.type_list_append ⟨mt_append⟩ (jv 1) (ja_cons (je_tup (ja_cons (je_ix ⟨ix_tup⟩ (jv 3) je_int (fun _ _ => rfl)) (ja_cons (je_tup (ja_cons (je_ix ⟨ix_tup⟩ (jv 2) je_int (fun _ _ => rfl)) (ja_cons je_int ja_nil))) ja_nil))) ja_nil)))
      (jb_one (js_expr (je_bm PySem.F.plainAttrs_list PySem.F.slot_list_append PySem.F.type_list_append ⟨mt_append⟩ (jv 1) (ja_cons (je_tup (ja_cons (je_ix ⟨ix_tup⟩ (jv 3) je_int (fun _ _ => rfl)) (ja_cons (je_tup (ja_cons (je_ix ⟨ix_tup⟩ (jv 2) je_int (fun _ _ => rfl)) (ja_cons je_int ja_nil))) ja_nil))) ja_nil))))) (jb_one (js_if (JW.pt (jw_and (jt_cmpR ⟨op_ne⟩ (je_ix ⟨ix_tup⟩ (jv 3) je_int (fun _ _ => rfl)) je_str (nomark _)) (jw_and1 (jt_cmpR ⟨op_ne⟩ (je_ix ⟨ix_tup⟩ (jv 3) je_int (fun _ _ => rfl)) je_str (nomark _))))) (jb_one (js_ret (je_tup (ja_cons (jv 3) (ja_cons (je_cg g_path hr (by omega) rfl (ja_cons (je_ix ⟨ix_tup⟩ (jv 2) je_int (fun _ _ => rfl)) ja_nil)) ja_nil))))) jb_nil)))))))
      (jb_one (js_ret je_non)))), ?_⟩
  refine ⟨_, rfl, (by show 2 ≤ sizeLine; decide), fun t1 ht1 => ⟨(by show 1 ≤ sizeLine; decide), fun pd hpd => ?_⟩⟩
  have w1 := same_new ht1 (.tup [v, .non])
  have w2 := same_new hpd (.lst [.ref t1])
  have hplH := fresh_of w1 hpd
  refine ⟨fun m σ H' => ∃ pds vs o2 o3, σ = [some v, some (.ref pd), o2, o3] ∧ Same H H' ∧ H' pd = some (.lst vs) ∧ Row (RepW H') pds vs ∧ firstS pds = firstUn p [] ∧ m = szL (pds.map (·.1)) ∧ szL (pds.map (·.1)) ≤ p.sz ∧ (∀ e ∈ pds, e.2.length + e.1.sz ≤ p.sz),
    ⟨_, [(p, [])], _, _, _, rfl, w1.trans w2, upd_same, Row.one ⟨t1, v, .non, [], rfl, w2 _ _ upd_same, hR.mono (Tup.of (w1.trans w2)), rfl, rfl, hok⟩, by first | (simp [firstS]; done) | (simp [firstS]; cases firstUn p [] <;> rfl), rfl, by simp [szL], by simp⟩, ?_⟩
  rintro m σ H' ⟨pds, vs, o2, o3, rfl, hS, hP, rP, hi, rfl, hzz, hdd⟩
  have lenP := rP.len
  refine ⟨_, rfl, _, .inl ⟨vs, SqL.of hP, rfl⟩, ?_⟩
  refine ite2 (fun c => ?_) (fun c => ?_)
  · have hne : vs ≠ [] := by intro z; rw [z] at c; exact absurd c (by decide)
    obtain ⟨qs', ⟨qp, pre⟩, ws, uv, rfl, rfl, rQ, ⟨en, x0, y0, tr, rfl, hE, hx0, hy0, htr, qok⟩⟩ := rP.last hne
    refine ⟨_, fun σ' H'' z => z, ?_⟩
    refine ⟨_, rfl, .inl ⟨rfl, _, SqL.of hP⟩, pd, _, .ref en, rfl, rfl, hP, (by simp), ?_⟩
    rw [List.dropLast_concat]
    have t1' : Tup H' (upd H' pd (.lst ws)) := Tup.lst hP _
    have S1 : Same H (upd H' pd (.lst ws)) := same_upd hS hplH _
    have hP1 : upd H' pd (.lst ws) pd = some (.lst ws) := upd_same
    generalize upd H' pd (.lst ws) = H1 at t1' S1 hP1
    have hE1 := t1' _ _ hE
    have hx1 := hx0.mono t1'
    have hy1 := hy0.mono t1'
    simp only at htr qok hx1
    rw [List.map_append, szL_append] at hzz
    simp only [List.map_cons, List.map_nil, szL] at hzz
    have hdq := hdd (qp, pre) (by simp)
    simp only at hdq
    have dz := qp.sz_inn
    have ltr := congrArg List.length htr
    rw [List.length_reverse] at ltr
    have lenQ := rQ.len
    have lq : qs'.length ≤ szL (qs'.map (·.1)) := by have := szL_len (qs'.map (·.1)); rwa [List.length_map] at this
    refine ⟨_, rfl, en, _, _, _, rfl, rfl, SqT.of hE1, atI_nat (j := 0) rfl, ?_⟩
    obtain ⟨b, bs, rfl, hb, hbs⟩ := hx1.word
    refine ⟨_, rfl, b, _, _, _, rfl, rfl, SqT.of hb, atI_nat (j := 0) rfl, rfl, _, rfl, ?_⟩
    rw [decS]
    by_cases hpair : qp.word = "pair"
    · refine iteT' (decide_eq_true hpair) ?_
      obtain ⟨x, y, rfl, ox, oy⟩ := shape2 (w := .pair) qok hpair rfl
      obtain ⟨u1, _, rfl, r1, u2, _, rfl, r2, e3⟩ := hbs _ _ rfl
      subst e3
      simp only [Pg.sz, szL] at hzz hdq
      refine ⟨_, rfl, .inl ⟨rfl, _, SqL.of hP1⟩, _, rfl, b, _, _, _, rfl, rfl, SqT.of hb, atI_nat (j := 2) rfl, _, rfl, en, _, _, _, rfl, rfl, SqT.of hE1, atI_nat (j := 1) rfl, (by show 2 ≤ sizeLine; decide), fun a1 ha1 => ⟨(by show 2 ≤ sizeLine; decide), fun a2 ha2 => ?_⟩⟩
      have v1 := same_new ha1 (.tup [y0, .int 1])
      have v2 := same_new ha2 (.tup [u2, .ref a1])
      have V2 := v1.trans v2
      have k2 : upd (upd H1 a1 (.tup [y0, .int 1])) a2 (.tup [u2, .ref a1]) a2 = some (.tup [u2, .ref a1]) := upd_same
      have k1 := v2 _ _ (upd_same (H := H1) (a := a1) (o := .tup [y0, .int 1]))
      generalize upd (upd H1 a1 (.tup [y0, .int 1])) a2 (.tup [u2, .ref a1]) = H2 at V2 k1 k2
      have hP2 := V2 _ _ hP1
      refine ⟨pd, _, _, rfl, rfl, hP2, small (by omega), ?_⟩
      have t3 : Tup H2 (upd H2 pd (.lst (ws ++ [.ref a2]))) := Tup.lst hP2 _
      have S3 : Same H (upd H2 pd (.lst (ws ++ [.ref a2]))) := same_upd (S1.trans V2) hplH _
      have hP3 : upd H2 pd (.lst (ws ++ [.ref a2])) pd = some (.lst (ws ++ [.ref a2])) := upd_same
      generalize upd H2 pd (.lst (ws ++ [.ref a2])) = H3 at t3 S3 hP3
      have T3 := (Tup.of V2).trans t3
      have hb3 := T3 _ _ hb
      have hE3 := T3 _ _ hE1
      refine ⟨_, rfl, .inl ⟨rfl, _, SqL.of hP3⟩, _, rfl, b, _, _, _, rfl, rfl, SqT.of hb3, atI_nat (j := 1) rfl, _, rfl, en, _, _, _, rfl, rfl, SqT.of hE3, atI_nat (j := 1) rfl, (by show 2 ≤ sizeLine; decide), fun a3 ha3 => ⟨(by show 2 ≤ sizeLine; decide), fun a4 ha4 => ?_⟩⟩
      have v3 := same_new ha3 (.tup [y0, .int 0])
      have v4 := same_new ha4 (.tup [u1, .ref a3])
      have V4 := v3.trans v4
      have k4 : upd (upd H3 a3 (.tup [y0, .int 0])) a4 (.tup [u1, .ref a3]) a4 = some (.tup [u1, .ref a3]) := upd_same
      have k3 := v4 _ _ (upd_same (H := H3) (a := a3) (o := .tup [y0, .int 0]))
      generalize upd (upd H3 a3 (.tup [y0, .int 0])) a4 (.tup [u1, .ref a3]) = H4 at V4 k3 k4
      have hP4 := V4 _ _ hP3
      refine ⟨pd, _, _, rfl, rfl, hP4, small (by rw [List.length_append, List.length_singleton]; omega), ?_⟩
      have t5 : Tup H4 (upd H4 pd (.lst ((ws ++ [.ref a2]) ++ [.ref a4]))) := Tup.lst hP4 _
      have T45 := (Tup.of V4).trans t5
      have T5 := T3.trans T45
      have T0 := t1'.trans T5
      refine ⟨szL (List.map (fun e : Pg × List Int => e.1) (qs' ++ [(y, pre ++ [1]), (x, pre ++ [0])])), ?_, qs' ++ [(y, pre ++ [1]), (x, pre ++ [0])], _, _, _, rfl, same_upd (S3.trans V4) hplH _, upd_same, ?_, ?_, rfl, ?_, ?_⟩
      · rw [List.map_append, List.map_append, szL_append, szL_append]
        simp only [List.map_cons, List.map_nil, szL, Pg.sz]
        omega
      · rw [show qs' ++ [(y, pre ++ [1]), (x, pre ++ [0])] = (qs' ++ [(y, pre ++ [1])]) ++ [(x, pre ++ [0])] by simp]
        refine ((rQ.mono fun e c z => z.mono T0).append (Row.one ⟨a2, u2, .ref a1, 1 :: tr, rfl, (t3.trans T45) _ _ k2, r2.mono T5, ⟨a1, y0, rfl, (t3.trans T45) _ _ k1, hy1.mono T5⟩, by rw [List.reverse_cons, htr], oy⟩)).append ?_
        exact Row.one ⟨a4, u1, .ref a3, 0 :: tr, rfl, t5 _ _ k4, r1.mono T5, ⟨a3, y0, rfl, t5 _ _ k3, hy1.mono T5⟩, by rw [List.reverse_cons, htr], ox⟩
      · rw [← firstS_pair]
        exact hi
      · rw [List.map_append, szL_append]
        simp only [List.map_cons, List.map_nil, szL]
        omega
      · intro e he
        rcases List.mem_append.mp he with he | he
        · exact hdd e (by simp [he])
        · simp only [List.mem_cons, List.not_mem_nil, or_false] at he
          rcases he with rfl | rfl <;> (simp only [List.length_append, List.length_singleton]; omega)
    · refine iteF' (decide_eq_false hpair) ?_
      refine ⟨_, rfl, b, _, _, _, rfl, rfl, SqT.of hb, atI_nat (j := 0) rfl, rfl, _, rfl, ?_⟩
      rw [decS, firstS_snoc] at *
      simp only at hi
      by_cases hw : qp.word = "whole"
      · refine iteF' (by rw [decide_eq_true hw]; rfl) (iteF ?_)
        obtain ⟨e1, e2⟩ := whole_first hw
        rw [e1] at hi
        exact ⟨szL (qs'.map (·.1)), by rw [List.map_append, szL_append]; simp only [List.map_cons, List.map_nil, szL]; omega, qs', _, _, _, rfl, S1, hP1, rQ.mono fun e c z => z.mono t1', hi, rfl, by omega, fun e he => hdd e (by simp [he])⟩
      · refine iteT' (by rw [decide_eq_false hw]; rfl) ⟨_, rfl, b, _, _, _, rfl, rfl, SqT.of hb, atI_nat (j := 0) rfl, rfl, _, rfl, ?_⟩
        rw [decS]
        by_cases hv : qp.word = "way"
        · refine iteF' (by rw [decide_eq_true hv]; rfl) ?_
          have e1 := way_first hv (pre := pre)
          rw [e1] at hi
          exact ⟨szL (qs'.map (·.1)), by rw [List.map_append, szL_append]; simp only [List.map_cons, List.map_nil, szL]; omega, qs', _, _, _, rfl, S1, hP1, rQ.mono fun e c z => z.mono t1', hi, rfl, by omega, fun e he => hdd e (by simp [he])⟩
        · refine iteT' (by rw [decide_eq_false hv]; rfl) ?_
          rw [other_first hpair hw hv] at hi
          refine ⟨_, rfl, _, rfl, en, _, _, _, rfl, rfl, SqT.of hE1, atI_nat (j := 1) rfl, y0, tr, rfl, hy1, by omega, fun t H2 s2 hT => ⟨(by show 2 ≤ sizeLine; decide), fun t2 ht2 => ?_⟩⟩
          have s3 := same_new ht2 (.tup [.ref b, .ref t])
          rw [htr] at hT
          exact qs qp pre (.ref t2) _ ((S1.trans s2).trans s3) hi.symm ⟨t2, .ref b, .ref t, rfl, upd_same, hx1.mono (Tup.of (s2.trans s3)), t, rfl, s3 _ _ hT⟩
  · have e : vs = [] := by
      cases vs with
      | nil => rfl
      | cons _ _ => exact absurd c (by simp)
    subst e
    have e2 : pds = [] := List.length_eq_zero_iff.mp (by rw [← lenP]; rfl)
    subst e2
    exact qn H' hS (by rw [← hi]; rfl)
end
end KB
namespace KB
open PySem L2
section
variable {P : Program} {w : World} {K : PySem.W.Frag} {mg : Str → Option Value} {base : Heap} {f : Addr} {fd : FuncData}
set_option maxHeartbeats 4000000
abbrev st_next : Stmt := top 10
theorem sc_next : FnScope ["program", "found", "rest"] ["program"] (defScope st_next) := ⟨rfl, rfl, rfl, by decide +kernel, rfl, by decide +kernel, by decide +kernel⟩
/- names: 0 program, 1 found, 2 rest -/
theorem ok_next (g_firstu : Got P w K mg base 2 "first_unanswered" ["program"] spFirst) (g_piu : Got P w K mg base 2 "place_in_use" ["program"] spPiu) (F : Fun K "next_place" "next_place" st_next f fd) : FnOk P w K mg base CX0 3 f fd ["program"] spNext := by
  refine F.okJ (k := 2) sc_next (fun vs H Q E h => ?_) (fun cdv A outer s H vs Q E hr h => ?_)
  · obtain ⟨v, p, rfl, _⟩ := h
    rfl
  obtain ⟨v, p, rfl, hR, hok, hz, hdp, qn, qs⟩ := h
  refine ⟨_, (jb_cons (js_set (k := 1) sc_next.nd rfl (Or.inl rfl) (je_cg g_firstu hr (by omega) rfl (ja_cons (jv 0) ja_nil)))
      (jb_cons (js_if (jt_cmpR ⟨op_isN⟩ (jv 1) je_non (nomark _)) (jb_one (js_ret je_non)) jb_nil)
      (jb_cons (js_set (k := 2) sc_next.nd rfl (Or.inl rfl) (je_cg g_piu hr (by omega) rfl (ja_cons (je_ix ⟨ix_tup⟩ (jv 1) je_int (fun _ _ => rfl)) ja_nil)))
      (jb_cons (js_if (jt_cmpR ⟨op_isN⟩ (jv 2) je_non (nomark _)) (jb_one (js_ret je_non)) jb_nil)
      (jb_one (js_ret (je_op ⟨op_catW⟩ (je_ix ⟨ix_tup⟩ (jv 1) je_int (fun _ _ => rfl)) (jv 2)))))))), ?_⟩
  refine ⟨_, rfl, v, p, rfl, hR, hok, hz, fun H1 s1 e => ?_, fun x pre r H1 s1 e hr1 => ?_⟩
  · refine ⟨_, rfl, rfl, _, rfl, iteT ?_⟩
    exact qn H1 s1 (by simp [nextP, e])
  · obtain ⟨a, x1, y1, rfl, hA, hx1, ⟨b, rfl, hB⟩⟩ := hr1
    refine ⟨_, rfl, rfl, _, rfl, iteF ?_⟩
    obtain ⟨ms, e2, hat⟩ := first_at p [] x pre e
    have e3 : pre = ms := e2
    subst e3
    have xz := Pg.at_sz hat
    have lp := Pg.at_len hat
    refine ⟨_, rfl, a, _, _, _, rfl, rfl, SqT.of hA, atI_nat (j := 0) rfl, x1, x, rfl, hx1, at_ok' hok hat, by omega, fun H2 s2 e4 => ?_, fun ns r2 H2 s2 e4 ⟨c, er, hc⟩ => ?_⟩
    · refine ⟨_, rfl, rfl, _, rfl, iteT ?_⟩
      exact qn H2 (s1.trans s2) (by simp [nextP, e, e4])
    · subst er
      refine ⟨_, rfl, rfl, _, rfl, iteF ?_⟩
      obtain ⟨y, hy, _⟩ := piu_at x.sz (Nat.le_refl _) e4
      have l2 := Pg.at_len hy
      refine ⟨_, rfl, a, _, _, _, rfl, rfl, SqT.of (s2 _ _ hA), atI_nat (j := 1) rfl, _, rfl, ?_⟩
      refine catW_use (ns := pre) (ms := ns) (s2 _ _ hB) hc (by omega) fun r3 H3 s3 h3 => ?_
      exact qs (pre ++ ns) r3 H3 ((s1.trans s2).trans s3) (by simp [nextP, e, e4]) h3
end
end KB
namespace KB
open PySem L2
section
variable {P : Program} {w : World} {K : PySem.W.Frag} {mg : Str → Option Value} {base : Heap} {f : Addr} {fd : FuncData}
set_option maxHeartbeats 4000000
abbrev st_leaf : Stmt := top 18
theorem sc_leaf : FnScope ["_law_feed_here", "_law_many", "_law_form"] ["_law_feed_here", "_law_many"] (defScope st_leaf) := ⟨rfl, rfl, rfl, by decide +kernel, rfl, by decide +kernel, by decide +kernel⟩
/- names: 0 _law_feed_here, 1 _law_many, 2 _law_form -/
theorem ok_leaf (g_take : Got P w K mg base 1 "_law_take" ["_law_feed_here", "_law_many"] spTake) (g_whole : Got P w K mg base 2 "_law_whole" ["_law_feed_here"] spWhole) (F : Fun K "_law_leaf" "_law_leaf" st_leaf f fd) : FnOk P w K mg base CX0 3 f fd ["_law_feed_here", "_law_many"] spLeaf := by
  refine F.okJ (k := 2) sc_leaf (fun vs H Q E h => ?_) (fun cdv A outer s H vs Q E hr h => ?_)
  · obtain ⟨a, many, rfl, _⟩ := h
    rfl
  obtain ⟨a, many, rfl, hF, h0, h1, q⟩ := h
  refine ⟨_, (jb_cons (js_set (k := 2) sc_leaf.nd rfl (Or.inl rfl) (je_cg g_take hr (by omega) rfl (ja_cons (jv 0) (ja_cons je_int ja_nil))))
      (jb_cons (js_if (jt_cmpR ⟨op_lt⟩ (jv 2) je_int (nomark _)) (jb_one (js_ret (je_cg g_whole hr (by omega) rfl (ja_cons (jv 0) ja_nil)))) jb_nil)
      (jb_cons (js_if (jt_cmpR ⟨op_eq⟩ (jv 2) je_int (nomark _)) (jb_one (js_ret (je_tup (ja_cons je_str (ja_cons (je_op ⟨op_sub⟩ je_int (je_cg g_take hr (by omega) rfl (ja_cons (jv 0) (ja_cons je_int ja_nil)))) ja_nil))))) jb_nil)
      (jb_one (js_ret (je_tup (ja_cons je_str (ja_cons (je_cg g_take hr (by omega) rfl (ja_cons (jv 0) (ja_cons (je_op ⟨op_add⟩ (jv 1) je_int) ja_nil))) ja_nil)))))))), ?_⟩
  refine ⟨_, rfl, a, 8, rfl, hF, by decide, by decide, fun d x y d0 d1 => ?_⟩
  have B1 : But a H (upd H a (.lst [.int x, .int y])) := (But.refl a _).upd _
  have F1 : Feed (upd H a (.lst [.int x, .int y])) a := Feed.put _ _ _ _
  generalize upd H a (.lst [.int x, .int y]) = H1 at B1 F1
  refine ⟨_, rfl, _, _, rfl, rfl, _, rfl, ?_⟩
  refine ite2 (fun c => ?_) (fun c => ?_)
  · exact ⟨_, rfl, a, rfl, F1, fun r n H' b f rep => q r (.whole n) H' (B1.trans b) f rep ⟨trivial, by simp [Pg.sz], by simp [Pg.dp]⟩⟩
  refine ⟨_, rfl, rfl, _, rfl, ?_⟩
  refine ite2 (fun c => ?_) (fun c => ?_)
  · refine ⟨_, rfl, a, 20, rfl, F1, by decide, by decide, fun d2 x2 y2 e0 e1 => ⟨_, _, rfl, rfl, (by show 2 ≤ sizeLine; decide), fun t ht => ?_⟩⟩
    exact q (.ref t) (.name (99 - d2)) _ ((B1.upd _).new ht _) ((Feed.put _ _ _ _).new ht _) ⟨t, rfl, upd_same⟩ ⟨by show 0 ≤ 99 - d2; omega, by simp [Pg.sz], by simp [Pg.dp]⟩
  · refine ⟨_, rfl, _, rfl, _, _, rfl, rfl, a, many + 3, rfl, F1, by omega, by omega, fun d2 x2 y2 e0 e1 => ⟨(by show 2 ≤ sizeLine; decide), fun t ht => ?_⟩⟩
    exact q (.ref t) (.name d2) _ ((B1.upd _).new ht _) ((Feed.put _ _ _ _).new ht _) ⟨t, rfl, upd_same⟩ ⟨e0, by simp [Pg.sz], by simp [Pg.dp]⟩
end
end KB
namespace KB
open PySem L2
section
variable {P : Program} {w : World} {K : PySem.W.Frag} {mg : Str → Option Value} {base : Heap} {f : Addr} {fd : FuncData}
set_option maxHeartbeats 4000000
abbrev st_headed : Stmt := top 19
theorem sc_headed : FnScope ["_law_feed_here", "_law_form", "_law_many", "_law_room", "_law_deep", "_law_half", "_law_body", "_law_one", "_law_word", "_law_head"] ["_law_feed_here", "_law_form", "_law_many", "_law_room", "_law_deep"] (defScope st_headed) := ⟨rfl, rfl, rfl, by decide +kernel, rfl, by decide +kernel, by decide +kernel⟩
/- names: 0 _law_feed_here, 1 _law_form, 2 _law_many, 3 _law_room, 4 _law_deep, 5 _law_half, 6 _law_body, 7 _law_one, 8 _law_word, 9 _law_head -/
theorem ok_headed {n : Nat} (g_whole : Got P w K mg base 2 "_law_whole" ["_law_feed_here"] spWhole) (g_leaf : Got P w K mg base 3 "_law_leaf" ["_law_feed_here", "_law_many"] spLeaf) (g_any : Got P w K mg base (2 * n + 4) "_law_any" ["_law_feed_here", "_law_many", "_law_room", "_law_deep"] (spAny n)) (F : Fun K "_law_headed" "_law_headed" st_headed f fd) : FnOk P w K mg base CX0 (2 * n + 5) f fd ["_law_feed_here", "_law_form", "_law_many", "_law_room", "_law_deep"] (spHeaded (n + 1)) := by
  refine F.okJ (k := 2 * n + 4) sc_headed (fun vs H Q E h => ?_) (fun cdv A outer s H vs Q E hr h => ?_)
  · obtain ⟨a, form, many, room, deep, rfl, _⟩ := h
    rfl
  obtain ⟨a, form, many, room, deep, rfl, hF, f0, f1, m0, m1, r0, r1, d0, d1, q⟩ := h
  refine ⟨_, (jb_cons (js_set (k := 5) sc_headed.nd rfl (Or.inl rfl) (je_op ⟨op_fdivL⟩ (je_op ⟨op_sub⟩ (jv 3) je_int) je_int))
      (jb_cons (js_if (jt_cmpR ⟨op_lt⟩ (jv 1) je_int (nomark _)) (jb_cons (js_set (k := 6) sc_headed.nd rfl (Or.inl rfl) (je_cg g_any hr (by omega) rfl (ja_cons (jv 0) (ja_cons (je_op ⟨op_add⟩ (jv 2) je_int) (ja_cons (jv 5) (ja_cons (je_op ⟨op_sub⟩ (jv 4) je_int) ja_nil))))))
      (jb_one (js_ret (je_tup (ja_cons je_str (ja_cons (je_tup (ja_cons je_str (ja_cons (jv 6) ja_nil))) (ja_cons (je_cg g_any hr (by omega) rfl (ja_cons (jv 0) (ja_cons (jv 2) (ja_cons (jv 5) (ja_cons (je_op ⟨op_sub⟩ (jv 4) je_int) ja_nil))))) ja_nil))))))) jb_nil)
      (jb_cons (js_if (jt_cmpR ⟨op_eq⟩ (jv 1) je_int (nomark _)) (jb_one (js_ret (je_tup (ja_cons je_str (ja_cons (je_cg g_whole hr (by omega) rfl (ja_cons (jv 0) ja_nil)) (ja_cons (je_cg g_whole hr (by omega) rfl (ja_cons (jv 0) ja_nil)) ja_nil)))))) jb_nil)
      (jb_cons (js_if (jt_cmpR ⟨op_eq⟩ (jv 1) je_int (nomark _)) (jb_cons (js_set (k := 7) sc_headed.nd rfl (Or.inl rfl) (je_cg g_any hr (by omega) rfl (ja_cons (jv 0) (ja_cons (jv 2) (ja_cons (jv 5) (ja_cons (je_op ⟨op_sub⟩ (jv 4) je_int) ja_nil))))))
      (jb_one (js_ret (je_tup (ja_cons je_str (ja_cons (je_cg g_whole hr (by omega) rfl (ja_cons (jv 0) ja_nil)) (ja_cons (jv 7) (ja_cons (je_cg g_any hr (by omega) rfl (ja_cons (jv 0) (ja_cons (jv 2) (ja_cons (jv 5) (ja_cons (je_op ⟨op_sub⟩ (jv 4) je_int) ja_nil))))) ja_nil)))))))) jb_nil)
      (jb_cons (js_set (k := 7) sc_headed.nd rfl (Or.inl rfl) (je_cg g_any hr (by omega) rfl (ja_cons (jv 0) (ja_cons (jv 2) (ja_cons (jv 5) (ja_cons (je_op ⟨op_sub⟩ (jv 4) je_int) ja_nil))))))
      (jb_cons (js_set (k := 8) sc_headed.nd rfl (Or.inl rfl) (je_ix ⟨ix_list⟩ (je_lst (ja_cons je_str (ja_cons je_str (ja_cons je_str (ja_cons je_str (ja_cons je_str ja_nil)))))) (je_op ⟨op_sub⟩ (jv 1) je_int) (fun _ _ => rfl)))
      (jb_cons (js_if (jt_cmpR ⟨op_lt⟩ (jv 1) je_int (nomark _)) (jb_one (js_ret (je_tup (ja_cons (jv 8) (ja_cons (je_tup (ja_cons je_str (ja_cons (jv 7) (ja_cons (je_cg g_any hr (by omega) rfl (ja_cons (jv 0) (ja_cons (jv 2) (ja_cons (jv 5) (ja_cons (je_op ⟨op_sub⟩ (jv 4) je_int) ja_nil))))) ja_nil)))) ja_nil))))) jb_nil)
      (jb_cons (js_if (jt_cmpR ⟨op_eq⟩ (jv 1) je_int (nomark _)) (jb_one (js_ret (je_tup (ja_cons je_str (ja_cons (je_tup (ja_cons je_str (ja_cons (jv 7) ja_nil))) (ja_cons (je_tup (ja_cons je_str (ja_cons je_int ja_nil))) (ja_cons (je_cg g_leaf hr (by omega) rfl (ja_cons (jv 0) (ja_cons (jv 2) ja_nil))) ja_nil))))))) jb_nil)
      (jb_cons (js_set (k := 9) sc_headed.nd rfl (Or.inl rfl) (je_ix ⟨ix_list⟩ (je_lst (ja_cons (je_tup (ja_cons je_str (ja_cons (jv 7) (ja_cons (je_cg g_leaf hr (by omega) rfl (ja_cons (jv 0) (ja_cons (jv 2) ja_nil))) ja_nil)))) (ja_cons (je_tup (ja_cons je_str (ja_cons je_int ja_nil))) ja_nil))) (je_op ⟨op_sub⟩ (jv 1) je_int) (fun _ _ => rfl)))
      (jb_one (js_ret (je_tup (ja_cons (jv 8) (ja_cons (jv 9) (ja_cons (je_cg g_any hr (by omega) rfl (ja_cons (jv 0) (ja_cons (jv 2) (ja_cons (je_op ⟨op_sub⟩ (jv 5) je_int) (ja_cons (je_op ⟨op_sub⟩ (jv 4) je_int) ja_nil))))) ja_nil))))))))))))))), ?_⟩
  refine ⟨_, rfl, _, _, rfl, rfl, _, _, rfl, rfl, ⟨by decide, by decide⟩, ?_⟩
  have eh : (room - 2) / 2 * 2 ≤ room - 2 ∧ 2 ≤ (room - 2) / 2 := by omega
  refine ⟨_, rfl, _, _, rfl, rfl, _, rfl, ?_⟩
  refine ite2 (fun c => ?_) (fun c4 => ?_)
  · refine ⟨_, rfl, _, rfl, _, _, rfl, rfl, _, rfl, _, rfl, _, _, rfl, rfl, a, many + 1, ((room - 2) / 2), deep - 2, rfl, hF, by omega, by omega, by omega, by omega, by omega, fun u1 p1 H1 b1 F1 rep1 z1 => ?_⟩
    refine ⟨_, rfl, (by show 2 ≤ sizeLine; decide), fun t1 ht1 => ?_⟩
    have w1 := same_new ht1 (.tup [.str "way", u1])
    have e1 : upd H1 t1 (.tup [.str "way", u1]) t1 = some (.tup [.str "way", u1]) := upd_same
    generalize upd H1 t1 (.tup [.str "way", u1]) = H2 at w1 e1
    have F2 := F1.same w1
    refine ⟨_, rfl, _, rfl, _, rfl, _, rfl, _, _, rfl, rfl, a, many, ((room - 2) / 2), deep - 2, rfl, F2, by omega, by omega, by omega, by omega, by omega, fun u2 p2 H3 b3 F3 rep2 z2 => ⟨(by show 3 ≤ sizeLine; decide), fun t2 ht2 => ?_⟩⟩
    have T3 := F2.tup b3
    have t4 := Tup.new ht2 (.tup [.str "give", .ref t1, u2])
    have y1 := z1.sz
    have y2 := z1.dp
    have y3 := z2.sz
    have y4 := z2.dp
    exact q (.ref t2) (.node .give [.node .way [p1], p2]) _ (((b1.same w1).trans b3).new ht2 _) (F3.new ht2 _)
      ⟨t2, _, rfl, upd_same, .ref t1, _, rfl, ⟨t1, [u1], rfl, t4 _ _ (T3 _ _ e1), RepL.one (((rep1.mono (Tup.of w1)).mono T3).mono t4)⟩, RepL.one (rep2.mono t4)⟩ ⟨⟨rfl, ⟨rfl, z1.ok, trivial⟩, z2.ok, trivial⟩, by simp only [Pg.sz, szL]; omega, by simp only [Pg.dp, dpL]; omega⟩
  have k4 : ¬ form < 4 := fun z => c4 (decide_eq_true z)
  refine ⟨_, rfl, rfl, _, rfl, ?_⟩
  refine ite2 (fun c => ?_) (fun c5 => ?_)
  · refine ⟨_, rfl, a, rfl, hF, fun u1 n1 H1 b1 F1 rep1 => ⟨_, rfl, a, rfl, F1, fun u2 n2 H2 b2 F2 rep2 => ⟨(by show 3 ≤ sizeLine; decide), fun t ht => ?_⟩⟩⟩
    have t3 := Tup.new ht (.tup [.str "plus", u1, u2])
    exact q (.ref t) (.node .plus [.whole n1, .whole n2]) _ ((b1.trans b2).new ht _) (F2.new ht _) ⟨t, _, rfl, upd_same, u1, _, rfl, (rep1.mono (F1.tup b2)).mono t3, RepL.one (rep2.mono t3)⟩ ⟨⟨rfl, trivial, trivial, trivial⟩, by simp only [Pg.sz, szL]; omega, by simp only [Pg.dp, dpL]; omega⟩
  have k5 : form ≠ 4 := fun z => c5 (decide_eq_true (by rw [z]))
  refine ⟨_, rfl, rfl, _, rfl, ?_⟩
  refine ite2 (fun c => ?_) (fun c6 => ?_)
  · refine ⟨_, rfl, _, rfl, _, rfl, _, rfl, _, _, rfl, rfl, a, many, ((room - 2) / 2), deep - 2, rfl, hF, by omega, by omega, by omega, by omega, by omega, fun u1 p1 H1 b1 F1 rep1 z1 => ?_⟩
    refine ⟨_, rfl, a, rfl, F1, fun u2 n2 H2 b2 F2 rep2 => ⟨_, rfl, ?_⟩⟩
    refine ⟨_, rfl, _, rfl, _, rfl, _, rfl, _, _, rfl, rfl, a, many, ((room - 2) / 2), deep - 2, rfl, F2, by omega, by omega, by omega, by omega, by omega, fun u3 p3 H3 b3 F3 rep3 z3 => ⟨(by show 4 ≤ sizeLine; decide), fun t ht => ?_⟩⟩
    have t4 := Tup.new ht (.tup [.str "look", u2, u1, u3])
    have y1 := z1.sz
    have y2 := z1.dp
    have y3 := z3.sz
    have y4 := z3.dp
    exact q (.ref t) (.node .look [.whole n2, p1, p3]) _ (((b1.trans b2).trans b3).new ht _) (F3.new ht _)
      ⟨t, _, rfl, upd_same, u2, _, rfl, (rep2.mono (F2.tup b3)).mono t4, u1, _, rfl, ((rep1.mono (F1.tup b2)).mono (F2.tup b3)).mono t4, RepL.one (rep3.mono t4)⟩ ⟨⟨rfl, trivial, z1.ok, z3.ok, trivial⟩, by simp only [Pg.sz, szL]; omega, by simp only [Pg.dp, dpL]; omega⟩
  have k6 : form ≠ 5 := fun z => c6 (decide_eq_true (by rw [z]))
  refine ⟨_, rfl, _, rfl, _, rfl, _, rfl, _, _, rfl, rfl, a, many, ((room - 2) / 2), deep - 2, rfl, hF, by omega, by omega, by omega, by omega, by omega, fun u1 p1 H1 b1 F1 rep1 z1 => ?_⟩
  have y1 := z1.sz
  have y2 := z1.dp
  have hw : ∃ wd : Wd, atI [V.str "first", V.str "second", V.str "give", V.str "plus", V.str "look"] (form - 6) = some (.str wd.str) ∧ (form < 8 → wd.ar = 1) ∧ (form = 8 → wd = .give) ∧ (form = 9 → wd = .plus) := by
    rcases (by omega : form = 6 ∨ form = 7 ∨ form = 8 ∨ form = 9 ∨ form = 10) with z | z | z | z | z <;> subst z
    · exact ⟨.first, rfl, fun _ => rfl, fun z => by omega, fun z => by omega⟩
    · exact ⟨.second, rfl, fun _ => rfl, fun z => by omega, fun z => by omega⟩
    · exact ⟨.give, rfl, fun z => by omega, fun _ => rfl, fun z => by omega⟩
    · exact ⟨.plus, rfl, fun z => by omega, fun z => by omega, fun _ => rfl⟩
    · exact ⟨.look, rfl, fun z => by omega, fun z => by omega, fun z => by omega⟩
  obtain ⟨wd, hwd, w1, w8, w9⟩ := hw
  refine ⟨(by show 5 ≤ sizeLine; decide), fun l hl => ⟨_, rfl, _, _, rfl, rfl, l, _, _, _, rfl, rfl, SqL.of upd_same, hwd, ?_⟩⟩
  have v1 := same_new hl (.lst [V.str "first", V.str "second", V.str "give", V.str "plus", V.str "look"])
  generalize upd H1 l (.lst [V.str "first", V.str "second", V.str "give", V.str "plus", V.str "look"]) = H2 at v1
  have F2 := F1.same v1
  have R2 := rep1.mono (Tup.of v1)
  have B2 := b1.same v1
  refine ⟨_, rfl, _, _, rfl, rfl, _, rfl, ?_⟩
  refine ite2 (fun c => ?_) (fun c8 => ?_)
  · have c' : form < 8 := of_decide_eq_true c
    refine ⟨_, rfl, _, rfl, _, rfl, _, rfl, _, rfl, _, rfl, _, _, rfl, rfl, a, many, ((room - 2) / 2), deep - 2, rfl, F2, by omega, by omega, by omega, by omega, by omega, fun u2 p2 H3 b3 F3 rep2 z2 => ⟨(by show 3 ≤ sizeLine; decide), fun t1 ht1 => ⟨(by show 2 ≤ sizeLine; decide), fun t2 ht2 => ?_⟩⟩⟩
    have v3 := same_new ht1 (.tup [.str "pair", u1, u2])
    have e3 : upd H3 t1 (.tup [.str "pair", u1, u2]) t1 = some (.tup [.str "pair", u1, u2]) := upd_same
    generalize upd H3 t1 (.tup [.str "pair", u1, u2]) = H4 at v3 e3 ht2
    have t5 := Tup.new ht2 (.tup [.str wd.str, .ref t1])
    have T5 := (Tup.of v3).trans t5
    have y3 := z2.sz
    have y4 := z2.dp
    exact q (.ref t2) (.node wd [.node .pair [p1, p2]]) _ (((B2.trans b3).same v3).new ht2 _) ((F3.same v3).new ht2 _)
      ⟨t2, _, rfl, upd_same, RepL.one ⟨t1, _, rfl, t5 _ _ e3, u1, _, rfl, (R2.mono (F2.tup b3)).mono T5, RepL.one (rep2.mono T5)⟩⟩ ⟨⟨(w1 c').symm, ⟨rfl, z1.ok, z2.ok, trivial⟩, trivial⟩, by simp only [Pg.sz, szL]; omega, by simp only [Pg.dp, dpL]; omega⟩
  have k8 : ¬ form < 8 := fun z => c8 (decide_eq_true z)
  refine ⟨_, rfl, rfl, _, rfl, ?_⟩
  refine ite2 (fun c => ?_) (fun c10 => ?_)
  · refine ⟨_, rfl, (by show 2 ≤ sizeLine; decide), fun t1 ht1 => ⟨(by show 2 ≤ sizeLine; decide), fun t2 ht2 => ?_⟩⟩
    have v3 := same_new ht1 (.tup [.str "way", u1])
    have e3 : upd H2 t1 (.tup [.str "way", u1]) t1 = some (.tup [.str "way", u1]) := upd_same
    generalize upd H2 t1 (.tup [.str "way", u1]) = H3 at v3 e3 ht2
    have v4 := same_new ht2 (.tup [.str "whole", .int 0])
    have e4 : upd H3 t2 (.tup [.str "whole", .int 0]) t2 = some (.tup [.str "whole", .int 0]) := upd_same
    generalize upd H3 t2 (.tup [.str "whole", .int 0]) = H4 at v4 e4
    have F4 := F2.same (v3.trans v4)
    refine ⟨_, rfl, _, rfl, a, many, rfl, F4, by omega, by omega, fun u2 p2 H5 b5 F5 rep2 z2 => ⟨(by show 4 ≤ sizeLine; decide), fun t3 ht3 => ?_⟩⟩
    have T5 := F4.tup b5
    have t6 := Tup.new ht3 (.tup [.str "look", .ref t1, .ref t2, u2])
    have T6 := T5.trans t6
    have y3 := z2.sz
    have y4 := z2.dp
    exact q (.ref t3) (.node .look [.node .way [p1], .whole 0, p2]) _ (((B2.same (v3.trans v4)).trans b5).new ht3 _) (F5.new ht3 _)
      ⟨t3, _, rfl, upd_same, .ref t1, _, rfl, ⟨t1, _, rfl, T6 _ _ (v4 _ _ e3), RepL.one ((R2.mono (Tup.of (v3.trans v4))).mono T6)⟩, .ref t2, _, rfl, ⟨t2, rfl, T6 _ _ e4⟩, RepL.one (rep2.mono t6)⟩ ⟨⟨rfl, ⟨rfl, z1.ok, trivial⟩, trivial, z2.ok, trivial⟩, by simp only [Pg.sz, szL]; omega, by simp only [Pg.dp, dpL]; omega⟩
  have k10 : form ≠ 10 := fun z => c10 (decide_eq_true (by rw [z]))
  refine ⟨_, rfl, _, rfl, _, rfl, a, many, rfl, F2, by omega, by omega, fun u2 p2 H3 b3 F3 rep2 z2 => ⟨(by show 3 ≤ sizeLine; decide), fun t1 ht1 => ⟨(by show 2 ≤ sizeLine; decide), fun t2 ht2 => ⟨(by show 2 ≤ sizeLine; decide), fun l2 hl2 => ?_⟩⟩⟩⟩
  have v3 := same_new ht1 (.tup [.str "pair", u1, u2])
  have e3 : upd H3 t1 (.tup [.str "pair", u1, u2]) t1 = some (.tup [.str "pair", u1, u2]) := upd_same
  generalize upd H3 t1 (.tup [.str "pair", u1, u2]) = H4 at v3 e3 ht2 hl2
  have v4 := same_new ht2 (.tup [.str "whole", .int 0])
  have e4 : upd H4 t2 (.tup [.str "whole", .int 0]) t2 = some (.tup [.str "whole", .int 0]) := upd_same
  generalize upd H4 t2 (.tup [.str "whole", .int 0]) = H5 at v4 e4 hl2
  have v5 := same_new hl2 (.lst [.ref t1, .ref t2])
  have e5 : upd H5 l2 (.lst [.ref t1, .ref t2]) l2 = some (.lst [.ref t1, .ref t2]) := upd_same
  generalize upd H5 l2 (.lst [.ref t1, .ref t2]) = H6 at v5 e5
  have VV := (v3.trans v4).trans v5
  have F6 := F3.same VV
  have y3 := z2.sz
  have y4 := z2.dp
  have key : ∃ hd ph, atI [V.ref t1, V.ref t2] (form - 8) = some hd ∧ Rep H6 ph hd ∧ ph.ok ∧ wd.ar = 2 ∧ (ph.sz : Int) ≤ ((room - 2) / 2) + 2 ∧ (ph.dp : Int) ≤ deep - 1 := by
    rcases (by omega : form = 8 ∨ form = 9) with z | z
    · rw [w8 z]
      subst z
      exact ⟨.ref t1, .node .pair [p1, p2], rfl, ⟨t1, _, rfl, v5 _ _ (v4 _ _ e3), u1, _, rfl, (R2.mono (F2.tup b3)).mono (Tup.of VV), RepL.one (rep2.mono (Tup.of VV))⟩, ⟨rfl, z1.ok, z2.ok, trivial⟩, rfl, by simp only [Pg.sz, szL]; omega, by simp only [Pg.dp, dpL]; omega⟩
    · rw [w9 z]
      subst z
      exact ⟨.ref t2, .whole 0, rfl, ⟨t2, rfl, v5 _ _ e4⟩, trivial, rfl, by simp only [Pg.sz]; omega, by simp only [Pg.dp]; omega⟩
  obtain ⟨hd, ph, ha, hp, po, wa, ps, pd⟩ := key
  refine ⟨_, rfl, _, _, rfl, rfl, l2, _, _, _, rfl, rfl, SqL.of e5, ha, ?_⟩
  refine ⟨_, rfl, _, rfl, _, rfl, _, rfl, _, rfl, _, _, rfl, rfl, _, rfl, _, _, rfl, rfl, a, many, ((room - 2) / 2) - 1, deep - 2, rfl, F6, by omega, by omega, by omega, by omega, by omega, fun u3 p3 H7 b7 F7 rep3 z3 => ⟨(by show 3 ≤ sizeLine; decide), fun t ht => ?_⟩⟩
  have t8 := Tup.new ht (.tup [.str wd.str, hd, u3])
  have y5 := z3.sz
  have y6 := z3.dp
  exact q (.ref t) (.node wd [ph, p3]) _ ((((B2.trans b3).same VV).trans b7).new ht _) (F7.new ht _) ⟨t, _, rfl, upd_same, hd, _, rfl, (hp.mono (F6.tup b7)).mono t8, RepL.one (rep3.mono t8)⟩ ⟨⟨wa.symm, po, z3.ok, trivial⟩, by simp only [Pg.sz, szL]; omega, by simp only [Pg.dp, dpL]; omega⟩
end
end KB
namespace KB
open PySem L2
section
variable {P : Program} {w : World} {K : PySem.W.Frag} {mg : Str → Option Value} {base : Heap} {f : Addr} {fd : FuncData}
set_option maxHeartbeats 4000000
abbrev st_any : Stmt := top 20
theorem sc_any : FnScope ["_law_feed_here", "_law_many", "_law_room", "_law_deep", "_law_form", "_law_half", "_law_one", "_law_other"] ["_law_feed_here", "_law_many", "_law_room", "_law_deep"] (defScope st_any) := ⟨rfl, rfl, rfl, by decide +kernel, rfl, by decide +kernel, by decide +kernel⟩
/- names: 0 _law_feed_here, 1 _law_many, 2 _law_room, 3 _law_deep, 4 _law_form, 5 _law_half, 6 _law_one, 7 _law_other -/
theorem no_any : FnOk P w K mg base CX0 4 f fd ["_law_feed_here", "_law_many", "_law_room", "_law_deep"] (spAny 0) := by
  have no : ∀ vs H Q E, ¬ spAny 0 vs H Q E := fun vs H Q E h => by
    obtain ⟨a, many, room, deep, _, _, _, _, _, h1, h2, _⟩ := h
    omega
  exact ⟨fun vs H Q E h => absurd h (no vs H Q E), fun A outer s H args us vs Q E _ _ _ _ h => absurd h (no vs H Q E)⟩
theorem ok_any {n : Nat} (g_take : Got P w K mg base 1 "_law_take" ["_law_feed_here", "_law_many"] spTake) (g_leaf : Got P w K mg base 3 "_law_leaf" ["_law_feed_here", "_law_many"] spLeaf) (g_headed : Got P w K mg base (2 * n + 5) "_law_headed" ["_law_feed_here", "_law_form", "_law_many", "_law_room", "_law_deep"] (spHeaded (n + 1))) (g_any : Got P w K mg base (2 * n + 4) "_law_any" ["_law_feed_here", "_law_many", "_law_room", "_law_deep"] (spAny n)) (F : Fun K "_law_any" "_law_any" st_any f fd) : FnOk P w K mg base CX0 (2 * (n + 1) + 4) f fd ["_law_feed_here", "_law_many", "_law_room", "_law_deep"] (spAny (n + 1)) := by
  refine F.okJ (k := 2 * n + 5) sc_any (fun vs H Q E h => ?_) (fun cdv A outer s H vs Q E hr h => ?_)
  · obtain ⟨a, many, room, deep, rfl, _⟩ := h
    rfl
  obtain ⟨a, many, room, deep, rfl, hF, m0, m1, r1, d0, d1, q⟩ := h
  refine ⟨_, (jb_cons (js_set (k := 4) sc_any.nd rfl (Or.inl rfl) (je_cg g_take hr (by omega) rfl (ja_cons (jv 0) (ja_cons je_int ja_nil))))
      (jb_cons (js_set (k := 5) sc_any.nd rfl (Or.inl rfl) (je_op ⟨op_fdivL⟩ (je_op ⟨op_sub⟩ (jv 2) je_int) je_int))
      (jb_cons (js_if (JW.pt (jw_or (jt_cmpR ⟨op_lt⟩ (jv 2) je_int (nomark _)) (jw_or1 (jt_cmpR ⟨op_lt⟩ (jv 3) je_int (nomark _))))) (jb_one (js_ret (je_cg g_leaf hr (by omega) rfl (ja_cons (jv 0) (ja_cons (jv 1) ja_nil))))) jb_nil)
      (jb_cons (js_if (jt_cmpR ⟨op_lt⟩ (jv 4) je_int (nomark _)) (jb_one (js_ret (je_cg g_headed hr (by omega) rfl (ja_cons (jv 0) (ja_cons (jv 4) (ja_cons (jv 1) (ja_cons (jv 2) (ja_cons (jv 3) ja_nil)))))))) jb_nil)
      (jb_cons (js_if (jt_cmpR ⟨op_lt⟩ (jv 4) je_int (nomark _)) (jb_one (js_ret (je_tup (ja_cons je_str (ja_cons (je_cg g_any hr (by omega) rfl (ja_cons (jv 0) (ja_cons (je_op ⟨op_add⟩ (jv 1) je_int) (ja_cons (je_op ⟨op_sub⟩ (jv 2) je_int) (ja_cons (je_op ⟨op_sub⟩ (jv 3) je_int) ja_nil))))) ja_nil))))) jb_nil)
      (jb_cons (js_if (jt_cmpR ⟨op_lt⟩ (jv 4) je_int (nomark _)) (jb_one (js_ret (je_tup (ja_cons (je_ix ⟨ix_list⟩ (je_lst (ja_cons je_str (ja_cons je_str ja_nil))) (je_op ⟨op_sub⟩ (jv 4) je_int) (fun _ _ => rfl)) (ja_cons (je_cg g_any hr (by omega) rfl (ja_cons (jv 0) (ja_cons (jv 1) (ja_cons (je_op ⟨op_sub⟩ (jv 2) je_int) (ja_cons (je_op ⟨op_sub⟩ (jv 3) je_int) ja_nil))))) ja_nil))))) jb_nil)
      (jb_cons (js_if (jt_cmpR ⟨op_eq⟩ (jv 4) je_int (nomark _)) (jb_cons (js_set (k := 6) sc_any.nd rfl (Or.inl rfl) (je_cg g_any hr (by omega) rfl (ja_cons (jv 0) (ja_cons (jv 1) (ja_cons (je_op ⟨op_fdivL⟩ (jv 5) je_int) (ja_cons (je_op ⟨op_sub⟩ (jv 3) je_int) ja_nil))))))
      (jb_cons (js_set (k := 7) sc_any.nd rfl (Or.inl rfl) (je_cg g_any hr (by omega) rfl (ja_cons (jv 0) (ja_cons (jv 1) (ja_cons (je_op ⟨op_fdivL⟩ (jv 5) je_int) (ja_cons (je_op ⟨op_sub⟩ (jv 3) je_int) ja_nil))))))
      (jb_one (js_ret (je_tup (ja_cons je_str (ja_cons (jv 6) (ja_cons (jv 7) (ja_cons (je_cg g_any hr (by omega) rfl (ja_cons (jv 0) (ja_cons (jv 1) (ja_cons (je_op ⟨op_sub⟩ (jv 5) je_int) (ja_cons (je_op ⟨op_sub⟩ (jv 3) je_int) ja_nil))))) ja_nil))))))))) jb_nil)
      (jb_cons (js_set (k := 6) sc_any.nd rfl (Or.inl rfl) (je_cg g_any hr (by omega) rfl (ja_cons (jv 0) (ja_cons (jv 1) (ja_cons (jv 5) (ja_cons (je_op ⟨op_sub⟩ (jv 3) je_int) ja_nil))))))
      (jb_one (js_ret (je_tup (ja_cons (je_ix ⟨ix_list⟩ (je_lst (ja_cons je_str (ja_cons je_str ja_nil))) (je_op ⟨op_sub⟩ (jv 4) je_int) (fun _ _ => rfl)) (ja_cons (jv 6) (ja_cons (je_cg g_any hr (by omega) rfl (ja_cons (jv 0) (ja_cons (jv 1) (ja_cons (jv 5) (ja_cons (je_op ⟨op_sub⟩ (jv 3) je_int) ja_nil))))) ja_nil)))))))))))))), ?_⟩
  refine ⟨_, rfl, a, 18, rfl, hF, by decide, by decide, fun form x y f0 f1 => ?_⟩
  have B1 : But a H (upd H a (.lst [.int x, .int y])) := (But.refl a _).upd _
  have F1 : Feed (upd H a (.lst [.int x, .int y])) a := Feed.put _ _ _ _
  generalize upd H a (.lst [.int x, .int y]) = H1 at B1 F1
  refine ⟨_, rfl, _, _, rfl, rfl, _, _, rfl, rfl, ⟨by decide, by decide⟩, ?_⟩
  have leaf : spLeaf [.ref a, .int many] H1 (fun v H' => Q v H') E := ⟨a, many, rfl, F1, m0, by omega, fun r p H' b f rep z => q r p H' (B1.trans b) f rep ⟨z.ok, by have := z.sz; omega, by have := z.dp; omega⟩⟩
  refine ⟨_, rfl, _, _, rfl, rfl, _, rfl, ?_⟩
  refine ite2 (fun c => iteT ⟨_, rfl, _, rfl, leaf⟩) (fun c1 => ⟨_, rfl, _, _, rfl, rfl, _, rfl, ite2 (fun c => ⟨_, rfl, _, rfl, leaf⟩) (fun c2 => ?_)⟩)
  have k1 : ¬ room < 6 := fun z => c1 (decide_eq_true z)
  have k2 : ¬ deep < 3 := fun z => c2 (decide_eq_true z)
  have eh : (room - 1) / 2 * 2 ≤ room - 1 ∧ 2 ≤ (room - 1) / 2 := by omega
  refine ⟨_, rfl, _, _, rfl, rfl, _, rfl, ?_⟩
  refine ite2 (fun c => ?_) (fun c3 => ?_)
  · have c' : form < 11 := of_decide_eq_true c
    exact ⟨_, rfl, _, rfl, _, rfl, _, rfl, _, rfl, a, form, many, room, deep, rfl, F1, f0, c', m0, by omega, by omega, by omega, by omega, by omega, fun r p H' b f rep z => q r p H' (B1.trans b) f rep ⟨z.ok, by have := z.sz; omega, z.dp⟩⟩
  have k3 : ¬ form < 11 := fun z => c3 (decide_eq_true z)
  refine ⟨_, rfl, _, _, rfl, rfl, _, rfl, ?_⟩
  refine ite2 (fun c => ?_) (fun c4 => ?_)
  · refine ⟨_, rfl, _, rfl, _, _, rfl, rfl, _, rfl, _, _, rfl, rfl, _, rfl, _, _, rfl, rfl, a, many + 1, room - 1, deep - 1, rfl, F1, by omega, by omega, by omega, by omega, by omega, fun u1 p1 H2 b2 F2 rep1 z1 => ⟨(by show 2 ≤ sizeLine; decide), fun t ht => ?_⟩⟩
    have y1 := z1.sz
    have y2 := z1.dp
    exact q (.ref t) (.node .way [p1]) _ ((B1.trans b2).new ht _) (F2.new ht _) ⟨t, _, rfl, upd_same, RepL.one (rep1.mono (Tup.new ht _))⟩ ⟨⟨rfl, z1.ok, trivial⟩, by simp only [Pg.sz, szL]; omega, by simp only [Pg.dp, dpL]; omega⟩
  have k4 : ¬ form < 13 := fun z => c4 (decide_eq_true z)
  refine ⟨_, rfl, _, _, rfl, rfl, _, rfl, ?_⟩
  refine ite2 (fun c => ?_) (fun c5 => ?_)
  · have c' : form < 15 := of_decide_eq_true c
    obtain ⟨wd, hwa, hw⟩ := at2p (i := form - 13) 1 .first .second rfl rfl (by omega) (by omega)
    refine ⟨(by show 2 ≤ sizeLine; decide), fun l hl => ⟨_, rfl, _, _, rfl, rfl, l, _, _, _, rfl, rfl, SqL.of upd_same, hw, ?_⟩⟩
    have v1 := same_new hl (.lst [V.str "first", V.str "second"])
    refine ⟨_, rfl, _, rfl, _, rfl, _, _, rfl, rfl, _, rfl, _, _, rfl, rfl, a, many, room - 1, deep - 1, rfl, F1.same v1, by omega, by omega, by omega, by omega, by omega, fun u1 p1 H2 b2 F2 rep1 z1 => ⟨(by show 2 ≤ sizeLine; decide), fun t ht => ?_⟩⟩
    have y1 := z1.sz
    have y2 := z1.dp
    exact q (.ref t) (.node wd [p1]) _ (((B1.same v1).trans b2).new ht _) (F2.new ht _) ⟨t, _, rfl, upd_same, RepL.one (rep1.mono (Tup.new ht _))⟩ ⟨⟨hwa.symm, z1.ok, trivial⟩, by simp only [Pg.sz, szL]; omega, by simp only [Pg.dp, dpL]; omega⟩
  have k5 : ¬ form < 15 := fun z => c5 (decide_eq_true z)
  refine ⟨_, rfl, rfl, _, rfl, ?_⟩
  refine ite2 (fun c => ?_) (fun c6 => ?_)
  · have e2 : ((room - 1) / 2) / 2 * 2 ≤ ((room - 1) / 2) ∧ 1 ≤ ((room - 1) / 2) / 2 := by omega
    refine ⟨_, rfl, _, rfl, _, rfl, _, _, rfl, rfl, ⟨by decide, by decide⟩, _, rfl, _, _, rfl, rfl, a, many, ((room - 1) / 2) / 2, deep - 1, rfl, F1, by omega, by omega, by omega, by omega, by omega, fun u1 p1 H2 b2 F2 rep1 z1 => ?_⟩
    refine ⟨_, rfl, _, rfl, _, rfl, _, _, rfl, rfl, ⟨by decide, by decide⟩, _, rfl, _, _, rfl, rfl, a, many, ((room - 1) / 2) / 2, deep - 1, rfl, F2, by omega, by omega, by omega, by omega, by omega, fun u2 p2 H3 b3 F3 rep2 z2 => ?_⟩
    refine ⟨_, rfl, _, rfl, _, rfl, _, rfl, _, rfl, _, _, rfl, rfl, _, rfl, _, _, rfl, rfl, a, many, ((room - 1) / 2) - 1, deep - 1, rfl, F3, by omega, by omega, by omega, by omega, by omega, fun u3 p3 H4 b4 F4 rep3 z3 => ⟨(by show 4 ≤ sizeLine; decide), fun t ht => ?_⟩⟩
    have t5 := Tup.new ht (.tup [.str "look", u1, u2, u3])
    have y1 := z1.sz
    have y2 := z1.dp
    have y3 := z2.sz
    have y4 := z2.dp
    have y5 := z3.sz
    have y6 := z3.dp
    exact q (.ref t) (.node .look [p1, p2, p3]) _ ((((B1.trans b2).trans b3).trans b4).new ht _) (F4.new ht _)
      ⟨t, _, rfl, upd_same, u1, _, rfl, ((rep1.mono (F2.tup b3)).mono (F3.tup b4)).mono t5, u2, _, rfl, (rep2.mono (F3.tup b4)).mono t5, RepL.one (rep3.mono t5)⟩ ⟨⟨rfl, z1.ok, z2.ok, z3.ok, trivial⟩, by simp only [Pg.sz, szL]; omega, by simp only [Pg.dp, dpL]; omega⟩
  · have k6 : form ≠ 17 := fun z => c6 (decide_eq_true (by rw [z]))
    refine ⟨_, rfl, _, rfl, _, rfl, _, rfl, _, _, rfl, rfl, a, many, ((room - 1) / 2), deep - 1, rfl, F1, by omega, by omega, by omega, by omega, by omega, fun u1 p1 H2 b2 F2 rep1 z1 => ?_⟩
    obtain ⟨wd, hwa, hw⟩ := at2p (i := form - 15) 2 .pair .plus rfl rfl (by omega) (by omega)
    refine ⟨(by show 2 ≤ sizeLine; decide), fun l hl => ⟨_, rfl, _, _, rfl, rfl, l, _, _, _, rfl, rfl, SqL.of upd_same, hw, ?_⟩⟩
    have v1 := same_new hl (.lst [V.str "pair", V.str "plus"])
    have F3 := F2.same v1
    refine ⟨_, rfl, _, rfl, _, rfl, _, rfl, _, rfl, _, _, rfl, rfl, a, many, ((room - 1) / 2), deep - 1, rfl, F3, by omega, by omega, by omega, by omega, by omega, fun u2 p2 H3 b3 F4 rep2 z2 => ⟨(by show 3 ≤ sizeLine; decide), fun t ht => ?_⟩⟩
    have t5 := Tup.new ht (.tup [.str wd.str, u1, u2])
    have y1 := z1.sz
    have y2 := z1.dp
    have y3 := z2.sz
    have y4 := z2.dp
    exact q (.ref t) (.node wd [p1, p2]) _ ((((B1.trans b2).same v1).trans b3).new ht _) (F4.new ht _)
      ⟨t, _, rfl, upd_same, u1, _, rfl, ((rep1.mono (Tup.of v1)).mono (F3.tup b3)).mono t5, RepL.one (rep2.mono t5)⟩ ⟨⟨hwa.symm, z1.ok, z2.ok, trivial⟩, by simp only [Pg.sz, szL]; omega, by simp only [Pg.dp, dpL]; omega⟩
end
end KB
namespace KB
open PySem L2
section
variable {P : Program} {w : World} {K : PySem.W.Frag} {mg : Str → Option Value} {base : Heap} {f : Addr} {fd : FuncData}
set_option maxHeartbeats 4000000
abbrev st_halted : Stmt := top 21
theorem sc_halted : FnScope ["_law_feed_here", "_law_some"] ["_law_feed_here"] (defScope st_halted) := ⟨rfl, rfl, rfl, by decide +kernel, rfl, by decide +kernel, by decide +kernel⟩
/- names: 0 _law_feed_here, 1 _law_some -/
theorem ok_halted (g_take : Got P w K mg base 1 "_law_take" ["_law_feed_here", "_law_many"] spTake) (g_whole : Got P w K mg base 2 "_law_whole" ["_law_feed_here"] spWhole) (g_leaf : Got P w K mg base 3 "_law_leaf" ["_law_feed_here", "_law_many"] spLeaf) (F : Fun K "_law_halted" "_law_halted" st_halted f fd) : FnOk P w K mg base CX0 4 f fd ["_law_feed_here"] spHalted := by
  refine F.okJ (k := 3) sc_halted (fun vs H Q E h => ?_) (fun cdv A outer s H vs Q E hr h => ?_)
  · obtain ⟨a, rfl, _⟩ := h
    rfl
  obtain ⟨a, rfl, hF, q⟩ := h
  refine ⟨_, (jb_cons (js_set (k := 1) sc_halted.nd rfl (Or.inl rfl) (je_lst (ja_cons (je_tup (ja_cons je_str (ja_cons (je_cg g_whole hr (by omega) rfl (ja_cons (jv 0) ja_nil)) ja_nil))) (ja_cons (je_tup (ja_cons je_str (ja_cons (je_cg g_whole hr (by omega) rfl (ja_cons (jv 0) ja_nil)) (ja_cons (je_tup (ja_cons je_str (ja_cons je_int ja_nil))) ja_nil)))) (ja_cons (je_cg g_leaf hr (by omega) rfl (ja_cons (jv 0) (ja_cons je_int ja_nil))) ja_nil)))))
      (jb_cons (js_set (k := 1) sc_halted.nd rfl (Or.inl rfl) (je_op ⟨op_cat⟩ (jv 1) (je_lst (ja_cons (je_tup (ja_cons je_str (ja_cons (je_cg g_whole hr (by omega) rfl (ja_cons (jv 0) ja_nil)) ja_nil))) (ja_cons (je_tup (ja_cons je_str (ja_cons (je_tup (ja_cons je_str (ja_cons je_int ja_nil))) (ja_cons (je_cg g_whole hr (by omega) rfl (ja_cons (jv 0) ja_nil)) ja_nil)))) ja_nil)))))
      (jb_cons (js_set (k := 1) sc_halted.nd rfl (Or.inl rfl) (je_op ⟨op_cat⟩ (jv 1) (je_lst (ja_cons (je_tup (ja_cons je_str (ja_cons (je_tup (ja_cons je_str (ja_cons (je_tup (ja_cons je_str (ja_cons je_int ja_nil))) ja_nil))) (ja_cons (je_tup (ja_cons je_str (ja_cons je_int ja_nil))) ja_nil)))) (ja_cons (je_tup (ja_cons je_str (ja_cons (je_ix ⟨ix_list⟩ (jv 1) je_int (fun _ _ => rfl)) (ja_cons (je_tup (ja_cons je_str (ja_cons je_int ja_nil))) (ja_cons (je_tup (ja_cons je_str (ja_cons je_int ja_nil))) ja_nil))))) ja_nil)))))
      (jb_one (js_ret (je_ix ⟨ix_list⟩ (jv 1) (je_cg g_take hr (by omega) rfl (ja_cons (jv 0) (ja_cons je_int ja_nil))) (fun _ _ => rfl))))))), ?_⟩
  -- the first three
  refine ⟨_, rfl, a, rfl, hF, fun r1 n1 H1 b1 F1 rep1 => ⟨(by show 2 ≤ sizeLine; decide), fun t1 ht1 => ?_⟩⟩
  have v1 := same_new ht1 (.tup [.str "first", r1])
  have e1 : upd H1 t1 (.tup [.str "first", r1]) t1 = some (.tup [.str "first", r1]) := upd_same
  generalize upd H1 t1 (.tup [.str "first", r1]) = H2 at v1 e1
  have Ra : Rep H2 (.node .first [.whole n1]) (.ref t1) := ⟨t1, _, rfl, e1, RepL.one (rep1.mono (Tup.of v1))⟩
  have F2 := F1.same v1
  refine ⟨_, rfl, a, rfl, F2, fun r2 n2 H3 b3 F3 rep2 => ⟨(by show 2 ≤ sizeLine; decide), fun t2 ht2 => ⟨(by show 3 ≤ sizeLine; decide), fun t3 ht3 => ?_⟩⟩⟩
  have v2 := same_new ht2 (.tup [.str "whole", .int 1])
  have e2 : upd H3 t2 (.tup [.str "whole", .int 1]) t2 = some (.tup [.str "whole", .int 1]) := upd_same
  generalize upd H3 t2 (.tup [.str "whole", .int 1]) = G3 at v2 e2 ht3
  have v3 := same_new ht3 (.tup [.str "give", r2, .ref t2])
  have e3 : upd G3 t3 (.tup [.str "give", r2, .ref t2]) t3 = some (.tup [.str "give", r2, .ref t2]) := upd_same
  generalize upd G3 t3 (.tup [.str "give", r2, .ref t2]) = H4 at v3 e3
  have Rb : Rep H4 (.node .give [.whole n2, .whole 1]) (.ref t3) := ⟨t3, _, rfl, e3, r2, _, rfl, rep2.mono (Tup.of (v2.trans v3)), .ref t2, _, rfl, ⟨t2, rfl, v3 _ _ e2⟩, rfl⟩
  have Ra := Ra.mono ((F2.tup b3).trans (Tup.of (v2.trans v3)))
  have F4 := F3.same (v2.trans v3)
  have B4 : But a H H4 := ((b1.same v1).trans b3).same (v2.trans v3)
  refine ⟨_, rfl, a, 0, rfl, F4, by decide, by decide, fun r3 p3 H5 b5 F5 rep3 z3 => ⟨(by show 3 ≤ sizeLine; decide), fun l1 hl1 => ?_⟩⟩
  have v5 := same_new hl1 (.lst [.ref t1, .ref t3, r3])
  have e5 : upd H5 l1 (.lst [.ref t1, .ref t3, r3]) l1 = some (.lst [.ref t1, .ref t3, r3]) := upd_same
  generalize upd H5 l1 (.lst [.ref t1, .ref t3, r3]) = H6 at v5 e5
  have T6 := (F4.tup b5).trans (Tup.of v5)
  have Ra := Ra.mono T6
  have Rb := Rb.mono T6
  have Rc := rep3.mono (Tup.of v5)
  have F6 := F5.same v5
  have B6 : But a H H6 := (B4.trans b5).same v5
  have nl1 : l1 ≠ a := by
    obtain ⟨_, _, e⟩ := F5
    exact (ne_of_none e hl1).symm
  -- two more
  refine ⟨_, rfl, ?_⟩
  refine ⟨_, rfl, a, rfl, F6, fun r4 n4 H7 b7 F7 rep4 => ⟨(by show 2 ≤ sizeLine; decide), fun t4 ht4 => ⟨(by show 2 ≤ sizeLine; decide), fun t5 ht5 => ?_⟩⟩⟩
  have v6 := same_new ht4 (.tup [.str "way", r4])
  have e6 : upd H7 t4 (.tup [.str "way", r4]) t4 = some (.tup [.str "way", r4]) := upd_same
  generalize upd H7 t4 (.tup [.str "way", r4]) = G7 at v6 e6 ht5
  have v7 := same_new ht5 (.tup [.str "whole", .int 1])
  have e7 : upd G7 t5 (.tup [.str "whole", .int 1]) t5 = some (.tup [.str "whole", .int 1]) := upd_same
  generalize upd G7 t5 (.tup [.str "whole", .int 1]) = G8 at v7 e7
  have f8 := F7.same (v6.trans v7)
  refine ⟨_, rfl, a, rfl, f8, fun r5 n5 H8 b8 F8 rep5 => ⟨(by show 3 ≤ sizeLine; decide), fun t6 ht6 => ⟨(by show 2 ≤ sizeLine; decide), fun l2 hl2 => ?_⟩⟩⟩
  have v8 := same_new ht6 (.tup [.str "pair", .ref t5, r5])
  have e8 : upd H8 t6 (.tup [.str "pair", .ref t5, r5]) t6 = some (.tup [.str "pair", .ref t5, r5]) := upd_same
  generalize upd H8 t6 (.tup [.str "pair", .ref t5, r5]) = G9 at v8 e8 hl2
  have v9 := same_new hl2 (.lst [.ref t4, .ref t6])
  have e9 : upd G9 l2 (.lst [.ref t4, .ref t6]) l2 = some (.lst [.ref t4, .ref t6]) := upd_same
  generalize upd G9 l2 (.lst [.ref t4, .ref t6]) = H9 at v9 e9
  have V9 := v8.trans v9
  have F9 := F8.same V9
  have b69 : But a H6 H9 := ((b7.same (v6.trans v7)).trans b8).same V9
  have T69 := F6.tup b69
  have T89 : Tup G8 H9 := (f8.tup b8).trans (Tup.of V9)
  have Rd : Rep H9 (.node .way [.whole n4]) (.ref t4) := ⟨t4, _, rfl, T89 _ _ (v7 _ _ e6), RepL.one ((rep4.mono (Tup.of (v6.trans v7))).mono T89)⟩
  have Re : Rep H9 (.node .pair [.whole 1, .whole n5]) (.ref t6) := ⟨t6, _, rfl, v9 _ _ e8, .ref t5, _, rfl, ⟨t5, rfl, T89 _ _ e7⟩, RepL.one (rep5.mono (Tup.of V9))⟩
  refine ⟨l1, l2, _, _, rfl, rfl, b69 _ _ nl1 e5, e9, (by show 5 ≤ sizeLine; decide), fun l3 hl3 => ?_⟩
  have v10 := same_new hl3 (.lst ([.ref t1, .ref t3, r3] ++ [.ref t4, .ref t6]))
  have e10 : upd H9 l3 (.lst ([.ref t1, .ref t3, r3] ++ [.ref t4, .ref t6])) l3 = some (.lst [.ref t1, .ref t3, r3, .ref t4, .ref t6]) := upd_same
  generalize upd H9 l3 (.lst ([.ref t1, .ref t3, r3] ++ [.ref t4, .ref t6])) = K0 at v10 e10
  -- and two
  refine ⟨_, rfl, (by show 2 ≤ sizeLine; decide), fun s1 hs1 => ⟨(by show 2 ≤ sizeLine; decide), fun s2 hs2 => ⟨(by show 2 ≤ sizeLine; decide), fun s3 hs3 => ⟨(by show 3 ≤ sizeLine; decide), fun s4 hs4 => ?_⟩⟩⟩⟩
  have u1 := same_new hs1 (.tup [.str "name", .int 0])
  have g1 : upd K0 s1 (.tup [.str "name", .int 0]) s1 = some (.tup [.str "name", .int 0]) := upd_same
  generalize upd K0 s1 (.tup [.str "name", .int 0]) = K1 at u1 g1 hs2 hs3 hs4
  have u2 := same_new hs2 (.tup [.str "way", .ref s1])
  have g2 : upd K1 s2 (.tup [.str "way", .ref s1]) s2 = some (.tup [.str "way", .ref s1]) := upd_same
  generalize upd K1 s2 (.tup [.str "way", .ref s1]) = K2 at u2 g2 hs3 hs4
  have u3 := same_new hs3 (.tup [.str "whole", .int 1])
  have g3 : upd K2 s3 (.tup [.str "whole", .int 1]) s3 = some (.tup [.str "whole", .int 1]) := upd_same
  generalize upd K2 s3 (.tup [.str "whole", .int 1]) = K3 at u3 g3 hs4
  have u4 := same_new hs4 (.tup [.str "plus", .ref s2, .ref s3])
  have g4 : upd K3 s4 (.tup [.str "plus", .ref s2, .ref s3]) s4 = some (.tup [.str "plus", .ref s2, .ref s3]) := upd_same
  generalize upd K3 s4 (.tup [.str "plus", .ref s2, .ref s3]) = K4 at u4 g4
  have U4 := ((u1.trans u2).trans u3).trans u4
  refine ⟨_, rfl, l3, _, _, _, rfl, rfl, SqL.of (U4 _ _ e10), atI_nat (j := 4) rfl, (by show 2 ≤ sizeLine; decide), fun s5 hs5 => ⟨(by show 2 ≤ sizeLine; decide), fun s6 hs6 => ⟨(by show 4 ≤ sizeLine; decide), fun s7 hs7 => ⟨(by show 2 ≤ sizeLine; decide), fun l4 hl4 => ?_⟩⟩⟩⟩
  have u5 := same_new hs5 (.tup [.str "whole", .int 0])
  have g5 : upd K4 s5 (.tup [.str "whole", .int 0]) s5 = some (.tup [.str "whole", .int 0]) := upd_same
  generalize upd K4 s5 (.tup [.str "whole", .int 0]) = K5 at u5 g5 hs6 hs7 hl4
  have u6 := same_new hs6 (.tup [.str "whole", .int 1])
  have g6 : upd K5 s6 (.tup [.str "whole", .int 1]) s6 = some (.tup [.str "whole", .int 1]) := upd_same
  generalize upd K5 s6 (.tup [.str "whole", .int 1]) = K6 at u6 g6 hs7 hl4
  have u7 := same_new hs7 (.tup [.str "look", .ref t6, .ref s5, .ref s6])
  have g7 : upd K6 s7 (.tup [.str "look", .ref t6, .ref s5, .ref s6]) s7 = some (.tup [.str "look", .ref t6, .ref s5, .ref s6]) := upd_same
  generalize upd K6 s7 (.tup [.str "look", .ref t6, .ref s5, .ref s6]) = K7 at u7 g7 hl4
  have u8 := same_new hl4 (.lst [.ref s4, .ref s7])
  have g8 : upd K7 l4 (.lst [.ref s4, .ref s7]) l4 = some (.lst [.ref s4, .ref s7]) := upd_same
  generalize upd K7 l4 (.lst [.ref s4, .ref s7]) = K8 at u8 g8
  have U8 := (((U4.trans u5).trans u6).trans u7).trans u8
  refine ⟨l3, l4, _, _, rfl, rfl, U8 _ _ e10, g8, (by show 7 ≤ sizeLine; decide), fun l5 hl5 => ?_⟩
  have u9 := same_new hl5 (.lst ([.ref t1, .ref t3, r3, .ref t4, .ref t6] ++ [.ref s4, .ref s7]))
  have g9 : upd K8 l5 (.lst ([.ref t1, .ref t3, r3, .ref t4, .ref t6] ++ [.ref s4, .ref s7])) l5 = some (.lst [.ref t1, .ref t3, r3, .ref t4, .ref t6, .ref s4, .ref s7]) := upd_same
  generalize upd K8 l5 (.lst ([.ref t1, .ref t3, r3, .ref t4, .ref t6] ++ [.ref s4, .ref s7])) = K9 at u9 g9
  have W := (v10.trans U8).trans u9
  have F10 := F9.same W
  have T10 := T69.trans (Tup.of W)
  have Rf : Rep K9 (.node .plus [.node .way [.name 0], .whole 1]) (.ref s4) :=
    have k := (((u5.trans u6).trans u7).trans u8).trans u9
    ⟨s4, _, rfl, k _ _ g4, .ref s2, _, rfl, ⟨s2, _, rfl, k _ _ (u4 _ _ (u3 _ _ g2)), .ref s1, _, rfl, ⟨s1, rfl, k _ _ (u4 _ _ (u3 _ _ (u2 _ _ g1)))⟩, rfl⟩, .ref s3, _, rfl, ⟨s3, rfl, k _ _ (u4 _ _ g3)⟩, rfl⟩
  have Rg : Rep K9 (.node .look [.node .pair [.whole 1, .whole n5], .whole 0, .whole 1]) (.ref s7) :=
    have k := u8.trans u9
    ⟨s7, _, rfl, k _ _ g7, .ref t6, _, rfl, Re.mono (Tup.of W), .ref s5, _, rfl, ⟨s5, rfl, k _ _ (u7 _ _ (u6 _ _ g5))⟩, .ref s6, _, rfl, ⟨s6, rfl, k _ _ (u7 _ _ g6)⟩, rfl⟩
  refine ⟨_, rfl, _, rfl, a, 7, rfl, F10, by decide, by decide, fun dd x9 y9 dd0 dd1 => ?_⟩
  have b11 : But a K9 (upd K9 a (.lst [.int x9, .int y9])) := (But.refl a _).upd _
  have f11 : Feed (upd K9 a (.lst [.int x9, .int y9])) a := Feed.put _ _ _ _
  have nl5 : l5 ≠ a := by
    obtain ⟨_, _, e⟩ := F9.same (v10.trans U8)
    exact (ne_of_none e hl5).symm
  have hL11 := b11 _ _ nl5 g9
  have BB := ((B6.trans b69).same W).trans b11
  generalize upd K9 a (.lst [.int x9, .int y9]) = K10 at b11 f11 hL11 BB
  have T11 := F10.tup b11
  have rows : RepL K9 [.node .first [.whole n1], .node .give [.whole n2, .whole 1], p3, .node .way [.whole n4], .node .pair [.whole 1, .whole n5], .node .plus [.node .way [.name 0], .whole 1], .node .look [.node .pair [.whole 1, .whole n5], .whole 0, .whole 1]] [.ref t1, .ref t3, r3, .ref t4, .ref t6, .ref s4, .ref s7] :=
    ⟨_, _, rfl, Ra.mono T10, _, _, rfl, Rb.mono T10, _, _, rfl, Rc.mono T10, _, _, rfl, Rd.mono (Tup.of W), _, _, rfl, Re.mono (Tup.of W), _, _, rfl, Rf, _, _, rfl, Rg, rfl⟩
  have hus : ∃ u, ([.ref t1, .ref t3, r3, .ref t4, .ref t6, .ref s4, .ref s7] : List V)[dd.toNat]? = some u := ⟨_, List.getElem?_eq_getElem (by show dd.toNat < 7; omega)⟩
  obtain ⟨u, hu⟩ := hus
  obtain ⟨p, hp, hrep⟩ := rows.get hu
  have atd : atI ([.ref t1, .ref t3, r3, .ref t4, .ref t6, .ref s4, .ref s7] : List V) dd = some u := by
    have z := atI_nat hu
    rwa [show ((dd.toNat : Nat) : Int) = dd by omega] at z
  refine ⟨l5, _, _, _, rfl, rfl, SqL.of hL11, atd, q u p _ BB f11 (hrep.mono T11) ?_⟩
  have hm := List.mem_of_getElem? hp
  have y1 := z3.sz
  have y2 := z3.dp
  simp only [List.mem_cons, List.not_mem_nil, or_false] at hm
  rcases hm with rfl | rfl | rfl | rfl | rfl | rfl | rfl
  · exact ⟨by simp [Pg.ok, okL, Wd.ar], by simp [Pg.sz, szL], by simp [Pg.dp, dpL]⟩
  · exact ⟨by simp [Pg.ok, okL, Wd.ar], by simp [Pg.sz, szL], by simp [Pg.dp, dpL]⟩
  · exact ⟨z3.ok, by omega, by omega⟩
  all_goals exact ⟨by simp [Pg.ok, okL, Wd.ar], by simp [Pg.sz, szL], by simp [Pg.dp, dpL]⟩
end
end KB
namespace KB
open PySem L2
section
variable {P : Program} {w : World} {K : PySem.W.Frag} {mg : Str → Option Value} {base : Heap} {f : Addr} {fd : FuncData}
set_option maxHeartbeats 4000000
abbrev st_wrapped : Stmt := top 22
theorem sc_wrapped : FnScope ["_law_feed_here", "_law_part", "_law_form"] ["_law_feed_here", "_law_part"] (defScope st_wrapped) := ⟨rfl, rfl, rfl, by decide +kernel, rfl, by decide +kernel, by decide +kernel⟩
/- names: 0 _law_feed_here, 1 _law_part, 2 _law_form -/
theorem ok_wrapped (g_take : Got P w K mg base 1 "_law_take" ["_law_feed_here", "_law_many"] spTake) (g_whole : Got P w K mg base 2 "_law_whole" ["_law_feed_here"] spWhole) (g_leaf : Got P w K mg base 3 "_law_leaf" ["_law_feed_here", "_law_many"] spLeaf) (g_halted : Got P w K mg base 4 "_law_halted" ["_law_feed_here"] spHalted) (F : Fun K "_law_wrapped" "_law_wrapped" st_wrapped f fd) : FnOk P w K mg base CX0 5 f fd ["_law_feed_here", "_law_part"] spAround := by
  refine F.okJ (k := 4) sc_wrapped (fun vs H Q E h => ?_) (fun cdv A outer s H vs Q E hr h => ?_)
  · obtain ⟨a, v, p, rfl, _⟩ := h
    rfl
  obtain ⟨a, v, p, rfl, hF, hR, hok, q⟩ := h
  refine ⟨_, (jb_cons (js_set (k := 2) sc_wrapped.nd rfl (Or.inl rfl) (je_cg g_take hr (by omega) rfl (ja_cons (jv 0) (ja_cons je_int ja_nil))))
      (jb_cons (js_if (jt_cmpR ⟨op_eq⟩ (jv 2) je_int (nomark _)) (jb_one (js_ret (je_tup (ja_cons je_str (ja_cons (je_cg g_halted hr (by omega) rfl (ja_cons (jv 0) ja_nil)) (ja_cons (jv 1) ja_nil)))))) jb_nil)
      (jb_cons (js_if (jt_cmpR ⟨op_lt⟩ (jv 2) je_int (nomark _)) (jb_one (js_ret (je_tup (ja_cons (je_ix ⟨ix_list⟩ (je_lst (ja_cons je_str (ja_cons je_str ja_nil))) (jv 2) (fun _ _ => rfl)) (ja_cons (jv 1) ja_nil))))) jb_nil)
      (jb_cons (js_if (jt_cmpR ⟨op_eq⟩ (jv 2) je_int (nomark _)) (jb_one (js_ret (je_tup (ja_cons je_str (ja_cons (jv 1) (ja_cons (je_cg g_leaf hr (by omega) rfl (ja_cons (jv 0) (ja_cons je_int ja_nil))) ja_nil)))))) jb_nil)
      (jb_cons (js_if (jt_cmpR ⟨op_eq⟩ (jv 2) je_int (nomark _)) (jb_one (js_ret (je_tup (ja_cons je_str (ja_cons (jv 1) (ja_cons (je_cg g_leaf hr (by omega) rfl (ja_cons (jv 0) (ja_cons je_int ja_nil))) ja_nil)))))) jb_nil)
      (jb_cons (js_if (jt_cmpR ⟨op_eq⟩ (jv 2) je_int (nomark _)) (jb_one (js_ret (je_tup (ja_cons je_str (ja_cons (jv 1) (ja_cons (je_cg g_leaf hr (by omega) rfl (ja_cons (jv 0) (ja_cons je_int ja_nil))) (ja_cons (je_cg g_leaf hr (by omega) rfl (ja_cons (jv 0) (ja_cons je_int ja_nil))) ja_nil))))))) jb_nil)
      (jb_one (js_ret (je_tup (ja_cons je_str (ja_cons (je_cg g_whole hr (by omega) rfl (ja_cons (jv 0) ja_nil)) (ja_cons (jv 1) ja_nil)))))))))))), ?_⟩
  refine ⟨_, rfl, a, 8, rfl, hF, by decide, by decide, fun form x y f0 f1 => ?_⟩
  have B1 : But a H (upd H a (.lst [.int x, .int y])) := (But.refl a _).upd _
  have F1 : Feed (upd H a (.lst [.int x, .int y])) a := Feed.put _ _ _ _
  have R1 := hR.mono (hF.tup B1)
  generalize upd H a (.lst [.int x, .int y]) = H1 at B1 F1 R1
  refine ⟨_, rfl, rfl, _, rfl, ?_⟩
  refine ite2 (fun c => ?_) (fun c1 => ?_)
  · refine ⟨_, rfl, a, rfl, F1, fun u1 p1 H2 b2 F2 rep1 z1 => ⟨_, rfl, (by show 3 ≤ sizeLine; decide), fun t ht => ?_⟩⟩
    have t3 := Tup.new ht (.tup [.str "plus", u1, v])
    have y1 := z1.sz
    have y2 := z1.dp
    exact q (.ref t) (.node .plus [p1, p]) _ ((B1.trans b2).new ht _) (F2.new ht _) ⟨t, _, rfl, upd_same, u1, _, rfl, rep1.mono t3, RepL.one ((R1.mono (F1.tup b2)).mono t3)⟩ ⟨⟨rfl, z1.ok, hok, trivial⟩, by simp only [Pg.sz, szL]; omega, by simp only [Pg.dp, dpL]; omega⟩
  refine ⟨_, rfl, _, _, rfl, rfl, _, rfl, ?_⟩
  refine ite2 (fun c => ?_) (fun c2 => ?_)
  · have c' : form < 2 := of_decide_eq_true c
    obtain ⟨wd, hwa, hw⟩ := at2p (i := form) 1 .first .second rfl rfl (by omega) (by omega)
    refine ⟨(by show 2 ≤ sizeLine; decide), fun l hl => ⟨_, rfl, l, _, _, _, rfl, rfl, SqL.of upd_same, hw, _, rfl, (by show 2 ≤ sizeLine; decide), fun t ht => ?_⟩⟩
    have v1 := same_new hl (.lst [V.str "first", V.str "second"])
    exact q (.ref t) (.node wd [p]) _ ((B1.same v1).new ht _) ((F1.same v1).new ht _) ⟨t, _, rfl, upd_same, RepL.one ((R1.mono (Tup.of v1)).mono (Tup.new ht _))⟩ ⟨⟨hwa.symm, hok, trivial⟩, by simp only [Pg.sz, szL]; omega, by simp only [Pg.dp, dpL]; omega⟩
  refine ⟨_, rfl, rfl, _, rfl, ?_⟩
  refine ite2 (fun c => ?_) (fun c3 => ?_)
  · refine ⟨_, rfl, _, rfl, a, 0, rfl, F1, by decide, by decide, fun u1 p1 H2 b2 F2 rep1 z1 => ⟨(by show 3 ≤ sizeLine; decide), fun t ht => ?_⟩⟩
    have t3 := Tup.new ht (.tup [.str "give", v, u1])
    have y1 := z1.sz
    have y2 := z1.dp
    exact q (.ref t) (.node .give [p, p1]) _ ((B1.trans b2).new ht _) (F2.new ht _) ⟨t, _, rfl, upd_same, v, _, rfl, (R1.mono (F1.tup b2)).mono t3, RepL.one (rep1.mono t3)⟩ ⟨⟨rfl, hok, z1.ok, trivial⟩, by simp only [Pg.sz, szL]; omega, by simp only [Pg.dp, dpL]; omega⟩
  refine ⟨_, rfl, rfl, _, rfl, ?_⟩
  refine ite2 (fun c => ?_) (fun c4 => ?_)
  · refine ⟨_, rfl, _, rfl, a, 0, rfl, F1, by decide, by decide, fun u1 p1 H2 b2 F2 rep1 z1 => ⟨(by show 3 ≤ sizeLine; decide), fun t ht => ?_⟩⟩
    have t3 := Tup.new ht (.tup [.str "plus", v, u1])
    have y1 := z1.sz
    have y2 := z1.dp
    exact q (.ref t) (.node .plus [p, p1]) _ ((B1.trans b2).new ht _) (F2.new ht _) ⟨t, _, rfl, upd_same, v, _, rfl, (R1.mono (F1.tup b2)).mono t3, RepL.one (rep1.mono t3)⟩ ⟨⟨rfl, hok, z1.ok, trivial⟩, by simp only [Pg.sz, szL]; omega, by simp only [Pg.dp, dpL]; omega⟩
  refine ⟨_, rfl, rfl, _, rfl, ?_⟩
  refine ite2 (fun c => ?_) (fun c5 => ?_)
  · refine ⟨_, rfl, _, rfl, a, 0, rfl, F1, by decide, by decide, fun u1 p1 H2 b2 F2 rep1 z1 => ⟨_, rfl, a, 0, rfl, F2, by decide, by decide, fun u2 p2 H3 b3 F3 rep2 z2 => ⟨(by show 4 ≤ sizeLine; decide), fun t ht => ?_⟩⟩⟩
    have t3 := Tup.new ht (.tup [.str "look", v, u1, u2])
    have y1 := z1.sz
    have y2 := z1.dp
    have y3 := z2.sz
    have y4 := z2.dp
    exact q (.ref t) (.node .look [p, p1, p2]) _ (((B1.trans b2).trans b3).new ht _) (F3.new ht _) ⟨t, _, rfl, upd_same, v, _, rfl, ((R1.mono (F1.tup b2)).mono (F2.tup b3)).mono t3, u1, _, rfl, (rep1.mono (F2.tup b3)).mono t3, RepL.one (rep2.mono t3)⟩ ⟨⟨rfl, hok, z1.ok, z2.ok, trivial⟩, by simp only [Pg.sz, szL]; omega, by simp only [Pg.dp, dpL]; omega⟩
  · refine ⟨_, rfl, a, rfl, F1, fun u1 n1 H2 b2 F2 rep1 => ⟨_, rfl, (by show 3 ≤ sizeLine; decide), fun t ht => ?_⟩⟩
    have t3 := Tup.new ht (.tup [.str "plus", u1, v])
    exact q (.ref t) (.node .plus [.whole n1, p]) _ ((B1.trans b2).new ht _) (F2.new ht _) ⟨t, _, rfl, upd_same, u1, _, rfl, rep1.mono t3, RepL.one ((R1.mono (F1.tup b2)).mono t3)⟩ ⟨⟨rfl, trivial, hok, trivial⟩, by simp only [Pg.sz, szL]; omega, by simp only [Pg.dp, dpL]; omega⟩
end
end KB
namespace KB
open PySem L2
section
variable {P : Program} {w : World} {K : PySem.W.Frag} {mg : Str → Option Value} {base : Heap} {f : Addr} {fd : FuncData}
set_option maxHeartbeats 4000000
abbrev st_answer : Stmt := top 23
theorem sc_answer : FnScope ["_law_feed_here", "_law_deep", "_law_form", "_law_one"] ["_law_feed_here", "_law_deep"] (defScope st_answer) := ⟨rfl, rfl, rfl, by decide +kernel, rfl, by decide +kernel, by decide +kernel⟩
/- names: 0 _law_feed_here, 1 _law_deep, 2 _law_form, 3 _law_one -/
theorem no_answer : FnOk P w K mg base CX0 4 f fd ["_law_feed_here", "_law_deep"] (spAns 0) := by
  have no : ∀ vs H Q E, ¬ spAns 0 vs H Q E := fun vs H Q E h => by
    obtain ⟨a, deep, _, _, h1, _, h2, _⟩ := h
    omega
  exact ⟨fun vs H Q E h => absurd h (no vs H Q E), fun A outer s H args us vs Q E _ _ _ _ h => absurd h (no vs H Q E)⟩
theorem ok_answer {n : Nat} (g_take : Got P w K mg base 1 "_law_take" ["_law_feed_here", "_law_many"] spTake) (g_whole : Got P w K mg base 2 "_law_whole" ["_law_feed_here"] spWhole) (g_leaf : Got P w K mg base 3 "_law_leaf" ["_law_feed_here", "_law_many"] spLeaf) (g_answer : Got P w K mg base (n + 4) "_law_answer" ["_law_feed_here", "_law_deep"] (spAns n)) (F : Fun K "_law_answer" "_law_answer" st_answer f fd) : FnOk P w K mg base CX0 (n + 1 + 4) f fd ["_law_feed_here", "_law_deep"] (spAns (n + 1)) := by
  refine F.okJ (k := n + 4) sc_answer (fun vs H Q E h => ?_) (fun cdv A outer s H vs Q E hr h => ?_)
  · obtain ⟨a, deep, rfl, _⟩ := h
    rfl
  obtain ⟨a, deep, rfl, hF, d0, d1, dn, q⟩ := h
  refine ⟨_, (jb_cons (js_set (k := 2) sc_answer.nd rfl (Or.inl rfl) (je_cg g_take hr (by omega) rfl (ja_cons (jv 0) (ja_cons je_int ja_nil))))
      (jb_cons (js_if (JW.pt (jw_and (jt_cmpR ⟨op_gt⟩ (jv 1) je_int (nomark _)) (jw_and1 (jt_cmpR ⟨op_gt⟩ (jv 2) je_int (nomark _))))) (jb_cons (js_set (k := 3) sc_answer.nd rfl (Or.inl rfl) (je_cg g_answer hr (by omega) rfl (ja_cons (jv 0) (ja_cons (je_op ⟨op_sub⟩ (jv 1) je_int) ja_nil))))
      (jb_one (js_ret (je_tup (ja_cons je_str (ja_cons (jv 3) (ja_cons (je_cg g_answer hr (by omega) rfl (ja_cons (jv 0) (ja_cons (je_op ⟨op_sub⟩ (jv 1) je_int) ja_nil))) ja_nil))))))) jb_nil)
      (jb_cons (js_if (jt_cmpR ⟨op_eq⟩ (jv 2) je_int (nomark _)) (jb_one (js_ret (je_tup (ja_cons je_str (ja_cons (je_cg g_leaf hr (by omega) rfl (ja_cons (jv 0) (ja_cons je_int ja_nil))) ja_nil))))) jb_nil)
      (jb_one (js_ret (je_cg g_whole hr (by omega) rfl (ja_cons (jv 0) ja_nil))))))), ?_⟩
  refine ⟨_, rfl, a, 4, rfl, hF, by decide, by decide, fun form x y f0 f1 => ?_⟩
  have B1 : But a H (upd H a (.lst [.int x, .int y])) := (But.refl a _).upd _
  have F1 : Feed (upd H a (.lst [.int x, .int y])) a := Feed.put _ _ _ _
  generalize upd H a (.lst [.int x, .int y]) = H1 at B1 F1
  refine ⟨_, rfl, _, _, rfl, rfl, _, rfl, ?_⟩
  refine ite2 (fun c => ⟨_, rfl, _, _, rfl, rfl, _, rfl, ite2 (fun c2 => ?A) (fun c2 => ?B)⟩) (fun c => iteF ?C)
  case A =>
    have c' : 0 < deep := of_decide_eq_true c
    refine ⟨_, rfl, _, rfl, _, _, rfl, rfl, a, deep - 1, rfl, F1, by omega, by omega, by omega, fun u1 p1 H2 b2 F2 rep1 z1 => ?_⟩
    refine ⟨_, rfl, _, rfl, _, rfl, _, _, rfl, rfl, a, deep - 1, rfl, F2, by omega, by omega, by omega, fun u2 p2 H3 b3 F3 rep2 z2 => ⟨(by show 3 ≤ sizeLine; decide), fun t ht => ?_⟩⟩
    have t3 := Tup.new ht (.tup [.str "pair", u1, u2])
    have y1 := z1.sz
    have y2 := z1.dp
    have y3 := z2.sz
    have y4 := z2.dp
    exact q (.ref t) (.node .pair [p1, p2]) _ (((B1.trans b2).trans b3).new ht _) (F3.new ht _) ⟨t, _, rfl, upd_same, u1, _, rfl, (rep1.mono (F2.tup b3)).mono t3, RepL.one (rep2.mono t3)⟩ ⟨⟨rfl, z1.ok, z2.ok, trivial⟩, by simp only [Pg.sz, szL]; omega, by simp only [Pg.dp, dpL]; omega⟩
  case B | C =>
    refine ⟨_, rfl, rfl, _, rfl, ?_⟩
    refine ite2 (fun c => ?_) (fun c3 => ?_)
    · refine ⟨_, rfl, a, 1, rfl, F1, by decide, by decide, fun u1 p1 H2 b2 F2 rep1 z1 => ⟨(by show 2 ≤ sizeLine; decide), fun t ht => ?_⟩⟩
      have y1 := z1.sz
      have y2 := z1.dp
      exact q (.ref t) (.node .way [p1]) _ ((B1.trans b2).new ht _) (F2.new ht _) ⟨t, _, rfl, upd_same, RepL.one (rep1.mono (Tup.new ht _))⟩ ⟨⟨rfl, z1.ok, trivial⟩, by simp only [Pg.sz, szL]; omega, by simp only [Pg.dp, dpL]; omega⟩
    · exact ⟨_, rfl, a, rfl, F1, fun r n H' b f rep => q r (.whole n) H' (B1.trans b) f rep ⟨trivial, by simp only [Pg.sz]; omega, by simp only [Pg.dp]; omega⟩⟩
end
end KB
namespace KB
open PySem L2
section
variable {P : Program} {w : World} {K : PySem.W.Frag} {mg : Str → Option Value} {base : Heap} {f : Addr} {fd : FuncData}
set_option maxHeartbeats 4000000
abbrev st_among : Stmt := top 24
theorem sc_among : FnScope ["_law_feed_here", "_law_part", "_law_form"] ["_law_feed_here", "_law_part"] (defScope st_among) := ⟨rfl, rfl, rfl, by decide +kernel, rfl, by decide +kernel, by decide +kernel⟩
/- names: 0 _law_feed_here, 1 _law_part, 2 _law_form -/
theorem ok_among (g_take : Got P w K mg base 1 "_law_take" ["_law_feed_here", "_law_many"] spTake) (g_leaf : Got P w K mg base 3 "_law_leaf" ["_law_feed_here", "_law_many"] spLeaf) (g_halted : Got P w K mg base 4 "_law_halted" ["_law_feed_here"] spHalted) (g_answer : Got P w K mg base 6 "_law_answer" ["_law_feed_here", "_law_deep"] (spAns 2)) (F : Fun K "_law_among" "_law_among" st_among f fd) : FnOk P w K mg base CX0 7 f fd ["_law_feed_here", "_law_part"] spAround := by
  refine F.okJ (k := 6) sc_among (fun vs H Q E h => ?_) (fun cdv A outer s H vs Q E hr h => ?_)
  · obtain ⟨a, v, p, rfl, _⟩ := h
    rfl
  obtain ⟨a, v, p, rfl, hF, hR, hok, q⟩ := h
  refine ⟨_, (jb_cons (js_set (k := 2) sc_among.nd rfl (Or.inl rfl) (je_cg g_take hr (by omega) rfl (ja_cons (jv 0) (ja_cons je_int ja_nil))))
      (jb_cons (js_if (jt_cmpR ⟨op_lt⟩ (jv 2) je_int (nomark _)) (jb_one (js_ret (je_tup (ja_cons je_str (ja_cons (je_ix ⟨ix_list⟩ (je_lst (ja_cons (jv 1) (ja_cons (je_cg g_halted hr (by omega) rfl (ja_cons (jv 0) ja_nil)) ja_nil))) (jv 2) (fun _ _ => rfl)) (ja_cons (je_ix ⟨ix_list⟩ (je_lst (ja_cons (je_cg g_leaf hr (by omega) rfl (ja_cons (jv 0) (ja_cons je_int ja_nil))) (ja_cons (jv 1) ja_nil))) (jv 2) (fun _ _ => rfl)) ja_nil)))))) jb_nil)
      (jb_one (js_ret (je_tup (ja_cons je_str (ja_cons (je_cg g_answer hr (by omega) rfl (ja_cons (jv 0) (ja_cons je_int ja_nil))) (ja_cons (jv 1) ja_nil)))))))), ?_⟩
  refine ⟨_, rfl, a, 5, rfl, hF, by decide, by decide, fun form x y f0 f1 => ?_⟩
  have B1 : But a H (upd H a (.lst [.int x, .int y])) := (But.refl a _).upd _
  have F1 : Feed (upd H a (.lst [.int x, .int y])) a := Feed.put _ _ _ _
  have R1 := hR.mono (hF.tup B1)
  generalize upd H a (.lst [.int x, .int y]) = H1 at B1 F1 R1
  refine ⟨_, rfl, _, _, rfl, rfl, _, rfl, ?_⟩
  refine ite2 (fun c => ?_) (fun c1 => ?_)
  · have c' : form < 2 := of_decide_eq_true c
    refine ⟨_, rfl, _, rfl, a, rfl, F1, fun u1 p1 H2 b2 F2 rep1 z1 => ⟨(by show 2 ≤ sizeLine; decide), fun l1 hl1 => ?_⟩⟩
    have v2 := same_new hl1 (.lst [v, u1])
    have e2 : upd H2 l1 (.lst [v, u1]) l1 = some (.lst [v, u1]) := upd_same
    generalize upd H2 l1 (.lst [v, u1]) = H3 at v2 e2
    have k1 : ∃ z1, atI [v, u1] form = some z1 := by
      rcases (by omega : form = 0 ∨ form = 1) with z | z <;> subst z
      · exact ⟨v, rfl⟩
      · exact ⟨u1, rfl⟩
    obtain ⟨w1, hw1⟩ := k1
    have F3 := F2.same v2
    refine ⟨_, rfl, l1, _, _, _, rfl, rfl, SqL.of e2, hw1, ?_⟩
    refine ⟨_, rfl, a, 0, rfl, F3, by decide, by decide, fun u2 p2 H4 b4 F4 rep2 z2 => ⟨_, rfl, (by show 2 ≤ sizeLine; decide), fun l2 hl2 => ?_⟩⟩
    have v4 := same_new hl2 (.lst [u2, v])
    have e4 : upd H4 l2 (.lst [u2, v]) l2 = some (.lst [u2, v]) := upd_same
    generalize upd H4 l2 (.lst [u2, v]) = H5 at v4 e4
    have T3 := (F1.tup b2).trans (Tup.of v2)
    have T5 := (F3.tup b4).trans (Tup.of v4)
    have Rv := (R1.mono T3).mono T5
    have Ru := (rep1.mono (Tup.of v2)).mono T5
    have Rl := rep2.mono (Tup.of v4)
    have y1 := z1.sz
    have y2 := z1.dp
    have y3 := z2.sz
    have y4 := z2.dp
    have key : ∃ w2 q1 q2, atI [u2, v] form = some w2 ∧ Rep H5 q1 w1 ∧ Rep H5 q2 w2 ∧ q1.ok ∧ q2.ok ∧ q1.sz + q2.sz ≤ p.sz + 6 ∧ q1.dp ≤ max p.dp 2 ∧ q2.dp ≤ max p.dp 2 := by
      rcases (by omega : form = 0 ∨ form = 1) with z | z <;> subst z
      · cases (show some v = some w1 from hw1)
        exact ⟨u2, p, p2, rfl, Rv, Rl, hok, z2.ok, by omega, by omega, by omega⟩
      · cases (show some u1 = some w1 from hw1)
        exact ⟨v, p1, p, rfl, Ru, Rv, z1.ok, hok, by omega, by omega, by omega⟩
    obtain ⟨w2, q1, q2, hw2, hq1, hq2, o1, o2, s1, s2, s3⟩ := key
    refine ⟨_, rfl, l2, _, _, _, rfl, rfl, SqL.of e4, hw2, (by show 3 ≤ sizeLine; decide), fun t ht => ?_⟩
    have t6 := Tup.new ht (.tup [.str "pair", w1, w2])
    exact q (.ref t) (.node .pair [q1, q2]) _ (((((B1.trans b2).same v2).trans b4).same v4).new ht _) ((F4.same v4).new ht _) ⟨t, _, rfl, upd_same, w1, _, rfl, hq1.mono t6, RepL.one (hq2.mono t6)⟩ ⟨⟨rfl, o1, o2, trivial⟩, by simp only [Pg.sz, szL]; omega, by simp only [Pg.dp, dpL]; omega⟩
  · refine ⟨_, rfl, a, 1, rfl, F1, by decide, by decide, by decide, fun u1 p1 H2 b2 F2 rep1 z1 => ⟨_, rfl, (by show 3 ≤ sizeLine; decide), fun t ht => ?_⟩⟩
    have t3 := Tup.new ht (.tup [.str "pair", u1, v])
    have y1 := z1.sz
    have y2 := z1.dp
    exact q (.ref t) (.node .pair [p1, p]) _ ((B1.trans b2).new ht _) (F2.new ht _) ⟨t, _, rfl, upd_same, u1, _, rfl, rep1.mono t3, RepL.one ((R1.mono (F1.tup b2)).mono t3)⟩ ⟨⟨rfl, z1.ok, hok, trivial⟩, by simp only [Pg.sz, szL]; omega, by simp only [Pg.dp, dpL]; omega⟩
end
end KB
namespace KB
open PySem L2
section
variable {P : Program} {w : World} {K : PySem.W.Frag} {mg : Str → Option Value} {base : Heap} {f : Addr} {fd : FuncData}
set_option maxHeartbeats 4000000
abbrev st_line : Stmt := top 25
theorem sc_line : FnScope ["_law_feed_here", "_law_part", "_law_k"] ["_law_feed_here"] (defScope st_line) := ⟨rfl, rfl, rfl, by decide +kernel, rfl, by decide +kernel, by decide +kernel⟩
/- names: 0 _law_feed_here, 1 _law_part, 2 _law_k -/
theorem ok_line (B : Blt mg) (g_take : Got P w K mg base 1 "_law_take" ["_law_feed_here", "_law_many"] spTake) (g_any : Got P w K mg base 46 "_law_any" ["_law_feed_here", "_law_many", "_law_room", "_law_deep"] (spAny 21)) (g_wrapped : Got P w K mg base 5 "_law_wrapped" ["_law_feed_here", "_law_part"] spAround) (g_among : Got P w K mg base 7 "_law_among" ["_law_feed_here", "_law_part"] spAround) (F : Fun K "_law_line" "_law_line" st_line f fd) : FnOk P w K mg base CX0 50 f fd ["_law_feed_here"] spLine := by
  refine F.okJ (k := 49) sc_line (fun vs H Q E h => ?_) (fun cdv A outer s H vs Q E hr h => ?_)
  · obtain ⟨a, rfl, _⟩ := h
    rfl
  obtain ⟨a, rfl, hF, q⟩ := h
  refine ⟨_, (jb_cons (js_set (k := 1) sc_line.nd rfl (Or.inl rfl) (je_cg g_any hr (by omega) rfl (ja_cons (jv 0) (ja_cons je_int (ja_cons (je_op ⟨op_add⟩ je_int (je_cg g_take hr (by omega) rfl (ja_cons (jv 0) (ja_cons je_int ja_nil)))) (ja_cons je_int ja_nil))))))
      (jb_cons (js_for PassesOwn.never rfl (ji_range1 rfl B.range (ja_cons (je_cg g_take hr (by omega) rfl (ja_cons (jv 0) (ja_cons je_int ja_nil))) ja_nil)) (jg_name (k := 2) sc_line.nd rfl (Or.inl rfl)) (jb_one (js_set (k := 1) sc_line.nd rfl (Or.inl rfl) (je_cg g_wrapped hr (by omega) rfl (ja_cons (jv 0) (ja_cons (jv 1) ja_nil))))))
      (jb_cons (js_for PassesOwn.never rfl (ji_range1 rfl B.range (ja_cons (je_cg g_take hr (by omega) rfl (ja_cons (jv 0) (ja_cons je_int ja_nil))) ja_nil)) (jg_name (k := 2) sc_line.nd rfl (Or.inl rfl)) (jb_one (js_set (k := 1) sc_line.nd rfl (Or.inl rfl) (je_cg g_among hr (by omega) rfl (ja_cons (jv 0) (ja_cons (jv 1) ja_nil))))))
      (jb_one (js_ret (jv 1)))))), ?_⟩
  refine ⟨_, rfl, _, rfl, a, 10, rfl, hF, by decide, by decide, fun d x y d0 d1 => ⟨_, _, rfl, rfl, a, 0, 2 + d, 20, rfl, Feed.put _ _ _ _, by decide, by decide, by omega, by decide, by decide, fun r0 p0 H1 b1 F1 rep0 z0 => ?_⟩⟩
  have B1 : But a H H1 := ((But.refl a H).upd _).trans b1
  have y1 := z0.sz
  have y2 := z0.dp
  refine ⟨_, rfl, a, 5, rfl, F1, by decide, by decide, fun d2 x2 y2' d20 d21 => ⟨d2, rfl, by omega, by omega, ?_⟩⟩
  have b2 : But a H1 (upd H1 a (.lst [.int x2, .int y2'])) := (But.refl a _).upd _
  have F2 : Feed (upd H1 a (.lst [.int x2, .int y2'])) a := Feed.put _ _ _ _
  have R2 := rep0.mono (F1.tup b2)
  have B2 := B1.trans b2
  generalize upd H1 a (.lst [.int x2, .int y2']) = H2 at b2 F2 R2 B2
  refine for_range (fun i σ H' => ∃ r p o2, σ = [some (.ref a), some r, o2] ∧ But a H H' ∧ Feed H' a ∧ Rep H' p r ∧ p.ok ∧ (p.sz : Int) ≤ 11 + 8 * i ∧ (p.dp : Int) ≤ 20 + i) ⟨r0, p0, _, rfl, B2, F2, R2, z0.ok, by omega, by omega⟩ (fun i σ H' hi hPv => ?_) (fun σ H' hPv => ?_)
  · obtain ⟨r, p, o2, rfl, b3, f3, rp, ok3, s3, dp3⟩ := hPv
    refine ⟨_, rfl, _, rfl, a, r, p, rfl, f3, rp, ok3, fun r' p' H4 b4 f4 rp4 z4 => ⟨r', p', _, rfl, b3.trans b4, f4, rp4, z4.ok, by have := z4.sz; omega, by have := z4.dp; omega⟩⟩
  obtain ⟨r, p, o2, rfl, b3, f3, rp, ok3, s3, dp3⟩ := hPv
  have hd2 : d2.toNat ≤ 4 := by omega
  refine ⟨_, rfl, a, 4, rfl, f3, by decide, by decide, fun d3 x3 y3 d30 d31 => ⟨d3, rfl, by omega, by omega, ?_⟩⟩
  have b5 : But a H' (upd H' a (.lst [.int x3, .int y3])) := (But.refl a _).upd _
  have F5 : Feed (upd H' a (.lst [.int x3, .int y3])) a := Feed.put _ _ _ _
  have R5 := rp.mono (f3.tup b5)
  have B5 := b3.trans b5
  generalize upd H' a (.lst [.int x3, .int y3]) = H5 at b5 F5 R5 B5
  refine for_range (fun i σ H' => ∃ r p o2, σ = [some (.ref a), some r, o2] ∧ But a H H' ∧ Feed H' a ∧ Rep H' p r ∧ p.ok ∧ (p.sz : Int) ≤ 43 + 8 * i ∧ (p.dp : Int) ≤ 24 + i) ⟨r, p, _, rfl, B5, F5, R5, ok3, by omega, by omega⟩ (fun i σ H' hi hPv => ?_) (fun σ H' hPv => ?_)
  · obtain ⟨r, p, o2, rfl, b3, f3, rp, ok3, s3, dp3⟩ := hPv
    refine ⟨_, rfl, _, rfl, a, r, p, rfl, f3, rp, ok3, fun r' p' H4 b4 f4 rp4 z4 => ⟨r', p', _, rfl, b3.trans b4, f4, rp4, z4.ok, by have := z4.sz; omega, by have := z4.dp; omega⟩⟩
  obtain ⟨r, p, o2, rfl, b3, f3, rp, ok3, s3, dp3⟩ := hPv
  have hd3 : d3.toNat ≤ 3 := by omega
  exact ⟨_, rfl, q r p _ b3 f3 rp ⟨ok3, by omega, by omega⟩⟩
end
end KB
namespace KB
open PySem L2
section
variable {P : Program} {w : World} {K : PySem.W.Frag} {mg : Str → Option Value} {base : Heap} {f : Addr} {fd : FuncData}
set_option maxHeartbeats 4000000
abbrev st_can : Stmt := top 26
theorem sc_can : FnScope ["_law_part"] ["_law_part"] (defScope st_can) := ⟨rfl, rfl, rfl, by decide +kernel, rfl, by decide +kernel, by decide +kernel⟩
/- names: 0 _law_part -/
theorem ok_can (F : Fun K "_law_can" "_law_can" st_can f fd) : FnOk P w K mg base CX0 1 f fd ["_law_part"] spHas := by
  refine F.okJ (k := 0) sc_can (fun vs H Q E h => ?_) (fun cdv A outer s H vs Q E hr h => ?_)
  · obtain ⟨v, p, rfl, _⟩ := h
    rfl
  obtain ⟨v, p, rfl, hR, hok, q⟩ := h
  obtain ⟨a, vs, rfl, hH, hxs⟩ := hR.word
  refine ⟨_, (jb_cons (js_if (jt_cmpR ⟨op_eq⟩ (je_ix ⟨ix_tup⟩ (jv 0) je_int (fun _ _ => rfl)) je_str (nomark _)) (jb_one (js_ret (je_cmpR ⟨op_eq⟩ (je_ix ⟨ix_tup⟩ (je_ix ⟨ix_tup⟩ (jv 0) je_int (fun _ _ => rfl)) je_int (fun _ _ => rfl)) je_str (nomark _)))) jb_nil)
      (jb_cons (js_if (jt_cmpR ⟨op_in_seq⟩ (je_ix ⟨ix_tup⟩ (jv 0) je_int (fun _ _ => rfl)) (je_tup (ja_cons je_str (ja_cons je_str ja_nil))) (by with_unfolding_all rfl)) (jb_one (js_ret (je_cmpR ⟨op_eq⟩ (je_ix ⟨ix_tup⟩ (je_ix ⟨ix_tup⟩ (jv 0) je_int (fun _ _ => rfl)) je_int (fun _ _ => rfl)) je_str (nomark _)))) jb_nil)
      (jb_cons (js_if (jt_cmpR ⟨op_eq⟩ (je_ix ⟨ix_tup⟩ (jv 0) je_int (fun _ _ => rfl)) je_str (nomark _)) (jb_one (js_ret (je_and (je_cmpR ⟨op_eq⟩ (je_ix ⟨ix_tup⟩ (je_ix ⟨ix_tup⟩ (jv 0) je_int (fun _ _ => rfl)) je_int (fun _ _ => rfl)) je_str (nomark _)) (je_one (je_cmpR ⟨op_eq⟩ (je_ix ⟨ix_tup⟩ (je_ix ⟨ix_tup⟩ (jv 0) je_int (fun _ _ => rfl)) je_int (fun _ _ => rfl)) je_str (nomark _)))))) jb_nil)
      (jb_one (js_ret (je_and (je_cmpR ⟨op_eq⟩ (je_ix ⟨ix_tup⟩ (jv 0) je_int (fun _ _ => rfl)) je_str (nomark _)) (je_one (je_cmpR ⟨op_eq⟩ (je_ix ⟨ix_tup⟩ (je_ix ⟨ix_tup⟩ (jv 0) je_int (fun _ _ => rfl)) je_int (fun _ _ => rfl)) je_str (nomark _))))))))), ?_⟩
  refine ⟨_, rfl, a, _, _, _, rfl, rfl, SqT.of hH, atI_nat (j := 0) rfl, rfl, _, rfl, ?_⟩
  rw [decS]
  refine ite2 (fun c => ?_) (fun c1 => ?_)
  · have q := q H (Same.refl _)
    obtain ⟨x, y, rfl, ox, oy⟩ := shape2 (w := .give) hok (of_decide_eq_true c) rfl
    obtain ⟨u, r, rfl, hu, _⟩ := hxs _ _ rfl
    obtain ⟨b, ws, rfl, hb, _⟩ := hu.word
    refine ⟨_, rfl, a, _, _, _, rfl, rfl, SqT.of hH, atI_nat (j := 1) rfl, b, _, _, _, rfl, rfl, SqT.of hb, atI_nat (j := 0) rfl, rfl, ?_⟩
    rw [decS]
    exact q
  have n1 : p.word ≠ "give" := fun z => c1 (decide_eq_true z)
  refine ⟨_, rfl, a, _, _, _, rfl, rfl, SqT.of hH, atI_nat (j := 0) rfl, (by show 2 ≤ sizeLine; decide), fun tp htp => ⟨tp, _, rfl, .inr (SqT.of upd_same), rfl, rfl, _, rfl, ?_⟩⟩
  have w1 := same_new htp (.tup [.str "first", .str "second"])
  have e1 : inV (.str p.word) [.str "first", .str "second"] = decide (p.word ∈ (["first", "second"] : List Str)) := inV_str p.word ["first", "second"]
  generalize upd H tp (.tup [.str "first", .str "second"]) = H1 at w1
  have q := q H1 w1
  have hH1 := w1 _ _ hH
  by_cases hin : p.word ∈ (["first", "second"] : List Str)
  · refine iteT' (show inV (.str p.word) [.str "first", .str "second"] = true from e1.trans (decide_eq_true hin)) ?_
    have fs : ∃ b x ws, H b = some (.tup (.str x :: ws)) ∧ atI (V.str p.word :: vs) 1 = some (.ref b) ∧ p.hasRule = decide (x = "pair") := by
      simp only [List.mem_cons, List.not_mem_nil, or_false] at hin
      rcases hin with z | z
      · obtain ⟨x, rfl, ox⟩ := shape1 (w := .first) hok z rfl
        obtain ⟨u, r, rfl, hu, _⟩ := hxs _ _ rfl
        obtain ⟨b, ws, rfl, hb, _⟩ := hu.word
        exact ⟨b, _, _, hb, atI_nat (j := 1) rfl, rfl⟩
      · obtain ⟨x, rfl, ox⟩ := shape1 (w := .second) hok z rfl
        obtain ⟨u, r, rfl, hu, _⟩ := hxs _ _ rfl
        obtain ⟨b, ws, rfl, hb, _⟩ := hu.word
        exact ⟨b, _, _, hb, atI_nat (j := 1) rfl, rfl⟩
    obtain ⟨b, x, ws, hb, e2, e3⟩ := fs
    rw [e3] at q
    refine ⟨_, rfl, a, _, _, _, rfl, rfl, SqT.of hH1, e2, b, _, _, _, rfl, rfl, SqT.of (w1 _ _ hb), atI_nat (j := 0) rfl, rfl, ?_⟩
    rw [decS]
    exact q
  refine iteF' (show inV (.str p.word) [.str "first", .str "second"] = false from e1.trans (decide_eq_false hin)) ?_
  have n2 : p.word ≠ "first" := fun z => hin (by rw [z]; simp)
  have n3 : p.word ≠ "second" := fun z => hin (by rw [z]; simp)
  refine ⟨_, rfl, a, _, _, _, rfl, rfl, SqT.of hH1, atI_nat (j := 0) rfl, rfl, _, rfl, ?_⟩
  rw [decS]
  refine ite2 (fun c => ?_) (fun c4 => ?_)
  · obtain ⟨x, y, rfl, ox, oy⟩ := shape2 (w := .plus) hok (of_decide_eq_true c) rfl
    obtain ⟨u, r, rfl, hu, u2, r2, rfl, hu2, _⟩ := hxs _ _ rfl
    obtain ⟨b, ws, rfl, hb, _⟩ := hu.word
    obtain ⟨b2, ws2, rfl, hb2, _⟩ := hu2.word
    refine ⟨_, rfl, a, _, _, _, rfl, rfl, SqT.of hH1, atI_nat (j := 1) rfl, b, _, _, _, rfl, rfl, SqT.of (w1 _ _ hb), atI_nat (j := 0) rfl, rfl, _, rfl, ?_⟩
    have q' : Q (.bl (decide (x.word = "whole") && decide (y.word = "whole"))) H1 := q
    rw [decS]
    by_cases hx : x.word = "whole"
    · rw [decide_eq_true hx] at q' ⊢
      refine iteT ⟨_, rfl, a, _, _, _, rfl, rfl, SqT.of hH1, atI_nat (j := 2) rfl, b2, _, _, _, rfl, rfl, SqT.of (w1 _ _ hb2), atI_nat (j := 0) rfl, rfl, ?_⟩
      rw [decS]
      exact q'
    · rw [decide_eq_false hx] at q' ⊢
      exact iteF q'
  have n4 : p.word ≠ "plus" := fun z => c4 (decide_eq_true z)
  refine ⟨_, rfl, a, _, _, _, rfl, rfl, SqT.of hH1, atI_nat (j := 0) rfl, rfl, _, rfl, ?_⟩
  rw [decS]
  refine ite2 (fun c => ?_) (fun c5 => ?_)
  · obtain ⟨x, y, z, rfl, ox, oy, oz⟩ := shape3 (w := .look) hok (of_decide_eq_true c) rfl
    obtain ⟨u, r, rfl, hu, _⟩ := hxs _ _ rfl
    obtain ⟨b, ws, rfl, hb, _⟩ := hu.word
    refine ⟨_, rfl, a, _, _, _, rfl, rfl, SqT.of hH1, atI_nat (j := 1) rfl, b, _, _, _, rfl, rfl, SqT.of (w1 _ _ hb), atI_nat (j := 0) rfl, rfl, ?_⟩
    rw [decS]
    exact q
  · rw [norule n1 n2 n3 n4 fun z => c5 (decide_eq_true z)] at q
    exact q
end
end KB
namespace KB
open PySem L2
section
variable {P : Program} {w : World} {K : PySem.W.Frag} {mg : Str → Option Value} {base : Heap} {f : Addr} {fd : FuncData}
set_option maxHeartbeats 4000000
abbrev st_isans : Stmt := top 27
theorem sc_isans : FnScope ["_law_part"] ["_law_part"] (defScope st_isans) := ⟨rfl, rfl, rfl, by decide +kernel, rfl, by decide +kernel, by decide +kernel⟩
/- names: 0 _law_part -/
theorem no_isans : FnOk P w K mg base CX0 1 f fd ["_law_part"] (spIsans 0) := by
  have no : ∀ vs H Q E, ¬ spIsans 0 vs H Q E := fun vs H Q E h => by
    obtain ⟨v, p, _, _, _, h1, _⟩ := h
    omega
  exact ⟨fun vs H Q E h => absurd h (no vs H Q E), fun A outer s H args us vs Q E _ _ _ _ h => absurd h (no vs H Q E)⟩
theorem ok_isans {n : Nat} (g_isans : Got P w K mg base (n + 1) "_law_is_answer" ["_law_part"] (spIsans n)) (F : Fun K "_law_is_answer" "_law_is_answer" st_isans f fd) : FnOk P w K mg base CX0 (n + 1 + 1) f fd ["_law_part"] (spIsans (n + 1)) := by
  refine F.okJ (k := n + 1) sc_isans (fun vs H Q E h => ?_) (fun cdv A outer s H vs Q E hr h => ?_)
  · obtain ⟨v, p, rfl, _⟩ := h
    rfl
  obtain ⟨v, p, rfl, hR, hok, hd, q⟩ := h
  obtain ⟨a, vs, rfl, hH, hxs⟩ := hR.word
  refine ⟨_, (jb_cons (js_if (jt_cmpR ⟨op_eq⟩ (je_ix ⟨ix_tup⟩ (jv 0) je_int (fun _ _ => rfl)) je_str (nomark _)) (jb_one (js_ret (je_and (je_cg g_isans hr (by omega) rfl (ja_cons (je_ix ⟨ix_tup⟩ (jv 0) je_int (fun _ _ => rfl)) ja_nil)) (je_one (je_cg g_isans hr (by omega) rfl (ja_cons (je_ix ⟨ix_tup⟩ (jv 0) je_int (fun _ _ => rfl)) ja_nil)))))) jb_nil)
      (jb_one (js_ret (je_cmpR ⟨op_in_seq⟩ (je_ix ⟨ix_tup⟩ (jv 0) je_int (fun _ _ => rfl)) (je_tup (ja_cons je_str (ja_cons je_str ja_nil))) (by with_unfolding_all rfl))))), ?_⟩
  refine ⟨_, rfl, a, _, _, _, rfl, rfl, SqT.of hH, atI_nat (j := 0) rfl, rfl, _, rfl, ?_⟩
  rw [decS]
  refine ite2 (fun c => ?_) (fun c => ?_)
  · obtain ⟨x, y, rfl, ox, oy⟩ := shape2 (w := .pair) hok (of_decide_eq_true c) rfl
    obtain ⟨u1, _, rfl, h1, u2, _, rfl, h2, e3⟩ := hxs _ _ rfl
    subst e3
    simp only [Pg.dp, dpL] at hd
    have ea : isAns (.node .pair [x, y]) = (isAns x && isAns y) := by simp [isAns, isAnsL]
    rw [ea] at q
    refine ⟨_, rfl, a, _, _, _, rfl, rfl, SqT.of hH, atI_nat (j := 1) rfl, u1, x, rfl, h1, ox, by omega, fun H1 s1 => ⟨_, rfl, ?_⟩⟩
    cases hx : isAns x with
    | true =>
      rw [hx] at q
      exact iteT ⟨_, rfl, a, _, _, _, rfl, rfl, SqT.of (s1 _ _ hH), atI_nat (j := 2) rfl, u2, y, rfl, h2.mono (Tup.of s1), oy, by omega, fun H2 s2 => q H2 (s1.trans s2)⟩
    | false =>
      rw [hx] at q
      exact iteF (q H1 s1)
  · have e : p.word ≠ "pair" := fun z => c (decide_eq_true z)
    refine ⟨_, rfl, a, _, _, _, rfl, rfl, SqT.of hH, atI_nat (j := 0) rfl, (by show 2 ≤ sizeLine; decide), fun tp htp => ⟨tp, _, rfl, .inr (SqT.of upd_same), rfl, rfl, ?_⟩⟩
    have z := q _ (same_new htp (.tup [.str "whole", .str "way"]))
    have e1 : inV (.str p.word) [.str "whole", .str "way"] = isAns p := (inV_str p.word ["whole", "way"]).trans (ans_leaf e).symm
    rw [← e1] at z
    exact z
end
end KB
namespace KB
open PySem L2
section
variable {P : Program} {w : World} {K : PySem.W.Frag} {mg : Str → Option Value} {base : Heap} {f : Addr} {fd : FuncData}
set_option maxHeartbeats 4000000
abbrev st_lnext : Stmt := top 28
theorem sc_lnext : FnScope ["_law_program", "_law_place", "_law_k"] ["_law_program"] (defScope st_lnext) := ⟨rfl, rfl, rfl, by decide +kernel, rfl, by decide +kernel, by decide +kernel⟩
/- names: 0 _law_program, 1 _law_place, 2 _law_k -/
theorem ok_lnext (B : Blt mg) (g_isans : Got P w K mg base 41 "_law_is_answer" ["_law_part"] (spIsans 40)) (g_can : Got P w K mg base 1 "_law_can" ["_law_part"] spHas) (F : Fun K "_law_next" "_law_next" st_lnext f fd) : FnOk P w K mg base CX0 42 f fd ["_law_program"] spNext := by
  refine F.okJ (k := 41) sc_lnext (fun vs H Q E h => ?_) (fun cdv A outer s H vs Q E hr h => ?_)
  · obtain ⟨v, p, rfl, _⟩ := h
    rfl
  obtain ⟨v, p, rfl, hR, hok, hz, hdp, qn, qs⟩ := h
  refine ⟨_, (jb_cons (js_set (k := 1) sc_lnext.nd rfl (Or.inl rfl) (je_tup ja_nil))
      (jb_cons (js_while PassesOwn.never (jt_cmpR ⟨op_eq⟩ (je_ix ⟨ix_tup⟩ (jv 0) je_int (fun _ _ => rfl)) je_str (nomark _)) (jb_cons (js_set (k := 2) sc_lnext.nd rfl (Or.inl rfl) (je_callTy ⟨call_int1⟩ rfl B.int PyProof.Rows.boot_int (ja_cons (je_cg g_isans hr (by omega) rfl (ja_cons (je_ix ⟨ix_tup⟩ (jv 0) je_int (fun _ _ => rfl)) ja_nil)) ja_nil)))
      (jb_cons (js_set (k := 1) sc_lnext.nd rfl (Or.inl rfl) (je_op ⟨op_catW⟩ (jv 1) (je_tup (ja_cons (jv 2) ja_nil))))
      (jb_one (js_set (k := 0) sc_lnext.nd rfl (Or.inl rfl) (je_ix ⟨ix_tup⟩ (jv 0) (je_op ⟨op_add⟩ je_int (jv 2)) (fun _ _ => rfl)))))))
      (jb_cons (js_while PassesOwn.never (jt_not (jt_val (je_cg g_can hr (by omega) rfl (ja_cons (jv 0) ja_nil)))) (jb_cons (js_if (jt_cmpR ⟨op_in_seq⟩ (je_ix ⟨ix_tup⟩ (jv 0) je_int (fun _ _ => rfl)) (je_tup (ja_cons je_str (ja_cons je_str (ja_cons je_str (ja_cons je_str ja_nil))))) (by with_unfolding_all rfl)) (jb_one (js_ret je_non)) jb_nil)
      (jb_cons (js_set (k := 2) sc_lnext.nd rfl (Or.inl rfl) (je_callTy ⟨call_int1⟩ rfl B.int PyProof.Rows.boot_int (ja_cons (je_and (je_cmpR ⟨op_eq⟩ (je_ix ⟨ix_tup⟩ (jv 0) je_int (fun _ _ => rfl)) je_str (nomark _)) (je_one (je_cmpR ⟨op_eq⟩ (je_ix ⟨ix_tup⟩ (je_ix ⟨ix_tup⟩ (jv 0) je_int (fun _ _ => rfl)) je_int (fun _ _ => rfl)) je_str (nomark _)))) ja_nil)))
      (jb_cons (js_set (k := 1) sc_lnext.nd rfl (Or.inl rfl) (je_op ⟨op_catW⟩ (jv 1) (je_tup (ja_cons (jv 2) ja_nil))))
      (jb_one (js_set (k := 0) sc_lnext.nd rfl (Or.inl rfl) (je_ix ⟨ix_tup⟩ (jv 0) (je_op ⟨op_add⟩ je_int (jv 2)) (fun _ _ => rfl))))))))
      (jb_one (js_ret (jv 1)))))), ?_⟩
  refine ⟨(by show 0 ≤ sizeLine; decide), fun e0 he0 => ?_⟩
  have w0 := same_new he0 (.tup [])
  refine ⟨fun m σ H' => ∃ u x r pre o2, σ = [some u, some r, o2] ∧ Same H H' ∧ Rep H' x u ∧ x.ok ∧ RepPl H' pre r ∧ nextF x pre = nextP p ∧ x.dp + pre.length ≤ p.dp ∧ m = x.sz,
    ⟨_, v, p, .ref e0, [], _, rfl, w0, hR.mono (Tup.of w0), hok, ⟨e0, rfl, upd_same⟩, rfl, by simp, rfl⟩, ?_⟩
  rintro m σ H' ⟨u, x, r, pre, o2, rfl, hS, hx, ox, hpl, hi, hd, rfl⟩
  obtain ⟨a, vs, rfl, hH, hxs⟩ := hx.word
  obtain ⟨b, rfl, hB⟩ := hpl
  refine ⟨_, rfl, a, _, _, _, rfl, rfl, SqT.of hH, atI_nat (j := 0) rfl, rfl, _, rfl, ?_⟩
  rw [decS]
  refine ite2 (fun c => ?_) (fun c => ?_)
  · refine ⟨_, fun σ' H'' z => z, ?_⟩
    obtain ⟨x1, x2, rfl, o1, o2'⟩ := shape2 (w := .pair) ox (of_decide_eq_true c) rfl
    obtain ⟨u1, _, rfl, h1, u2, _, rfl, h2, e3⟩ := hxs _ _ rfl
    subst e3
    simp only [Pg.dp, dpL] at hd
    refine ⟨_, rfl, a, _, _, _, rfl, rfl, SqT.of hH, atI_nat (j := 1) rfl, u1, x1, rfl, h1, o1, by omega, fun H1 s1 => .inr ⟨_, rfl, ?_⟩⟩
    refine ⟨_, rfl, _, rfl, (by show 1 ≤ sizeLine; decide), fun t1 ht1 => ?_⟩
    have s2 := same_new ht1 (.tup [.int (if isAns x1 = true then (1 : Int) else 0)])
    refine catW_use (ns := pre) (ms := [if isAns x1 = true then (1 : Int) else 0]) ((s1.trans s2) _ _ hB) upd_same (by simp only [List.length_singleton]; omega) fun r3 H3 s3 h3 => ?_
    have S3 := (s1.trans s2).trans s3
    have hH3 := S3 _ _ hH
    rw [nextF_pair] at hi
    refine ⟨_, rfl, _, rfl, _, _, rfl, rfl, ?_⟩
    cases ha : isAns x1 with
    | true =>
      rw [ha] at hi h3
      refine ⟨a, _, _, _, rfl, rfl, SqT.of hH3, (show atI [V.str "pair", u1, u2] (1 + 1) = some u2 from rfl), ?_⟩
      exact ⟨x2.sz, by simp only [Pg.sz, szL]; omega, u2, x2, r3, pre ++ [1], _, rfl, hS.trans S3, h2.mono (Tup.of S3), o2', h3, hi, by rw [List.length_append, List.length_singleton]; omega, rfl⟩
    | false =>
      rw [ha] at hi h3
      refine ⟨a, _, _, _, rfl, rfl, SqT.of hH3, (show atI [V.str "pair", u1, u2] (1 + 0) = some u1 from rfl), ?_⟩
      exact ⟨x1.sz, by simp only [Pg.sz, szL]; omega, u1, x1, r3, pre ++ [0], _, rfl, hS.trans S3, h1.mono (Tup.of S3), o1, h3, hi, by rw [List.length_append, List.length_singleton]; omega, rfl⟩
  have hnp : x.word ≠ "pair" := fun z => c (decide_eq_true z)
  rw [nextF_other pre hnp] at hi
  refine ⟨fun m σ H' => ∃ u x r pre o2, σ = [some u, some r, o2] ∧ Same H H' ∧ Rep H' x u ∧ x.ok ∧ RepPl H' pre r ∧ (piu x).map (pre ++ ·) = nextP p ∧ x.dp + pre.length ≤ p.dp ∧ m = x.sz,
    ⟨_, .ref a, x, .ref b, pre, _, rfl, hS, hx, ox, ⟨b, rfl, hB⟩, hi, hd, rfl⟩, ?_⟩
  clear hS hx ox hB hi hd hH hxs hnp c
  rintro m σ H' ⟨u, x, r, pre, o2, rfl, hS, hx, ox, hpl, hi, hd, rfl⟩
  refine ⟨_, rfl, u, x, rfl, hx, ox, fun H1 s1 => ⟨_, rfl, ?_⟩⟩
  have S1 := hS.trans s1
  have hx1 := hx.mono (Tup.of s1)
  have hpl1 := hpl.mono (Tup.of s1)
  cases hr' : x.hasRule with
  | true =>
    refine iteF ?_
    rw [piu_rule hr'] at hi
    refine ⟨_, rfl, qs pre r H1 S1 (by rw [← hi]; simp) hpl1⟩
  | false =>
    refine iteT ⟨_, fun σ' H'' z => z, ?_⟩
    obtain ⟨a, vs, rfl, hH, hxs⟩ := hx1.word
    refine ⟨_, rfl, a, _, _, _, rfl, rfl, SqT.of hH, atI_nat (j := 0) rfl, (by show 4 ≤ sizeLine; decide), fun tp htp => ⟨tp, _, rfl, .inr (SqT.of upd_same), rfl, rfl, _, rfl, ?_⟩⟩
    have s2 := same_new htp (.tup [.str "name", .str "whole", .str "way", .str "pair"])
    have e1 : inV (.str x.word) [.str "name", .str "whole", .str "way", .str "pair"] = decide (x.word ∈ (["name", "whole", "way", "pair"] : List Str)) := inV_str x.word ["name", "whole", "way", "pair"]
    generalize upd H1 tp (.tup [.str "name", .str "whole", .str "way", .str "pair"]) = H2 at s2
    have S2 := S1.trans s2
    have hH2 := s2 _ _ hH
    by_cases hin : x.word ∈ (["name", "whole", "way", "pair"] : List Str)
    · refine iteT' (show inV (.str x.word) [.str "name", .str "whole", .str "way", .str "pair"] = true from e1.trans (decide_eq_true hin)) ?_
      have hin' : x.word ∈ (["name", "way", "pair", "whole"] : List Str) := by
        simp only [List.mem_cons, List.not_mem_nil, or_false] at hin ⊢
        rcases hin with z | z | z | z <;> simp [z]
      rw [piu_none hr' (nouse hin').1] at hi
      exact qn H2 S2 hi.symm
    refine iteF' (show inV (.str x.word) [.str "name", .str "whole", .str "way", .str "pair"] = false from e1.trans (decide_eq_false hin)) ?_
    have hin' : x.word ∉ (["name", "way", "pair", "whole"] : List Str) := fun hh => hin (by
      simp only [List.mem_cons, List.not_mem_nil, or_false] at hh ⊢
      rcases hh with z | z | z | z <;> simp [z])
    obtain ⟨wd, x1, xs, rfl, hpw, hu⟩ := inuse ox hin'
    obtain ⟨u1, rest, rfl, h1, hrest⟩ := hxs _ _ rfl
    obtain ⟨b1, ws, rfl, hb1, _⟩ := h1.word
    obtain ⟨bp, rfl, hbp⟩ := hpl1
    have go : ∀ (k : Nat) (y : Pg) (uy : V), (Pg.node wd (x1 :: xs)).use = some k → (x1 :: xs)[k]? = some y → Rep H1 y uy → ∀ (H3 : Hp) (r3 : V), Same H2 H3 → RepPl H3 (pre ++ [(k : Int)]) r3 →
        ∃ m', m' < (Pg.node wd (x1 :: xs)).sz ∧ ∃ u x r pre' o2, ([some uy, some r3, some (.int k)] : St) = [some u, some r, o2] ∧ Same H H3 ∧ Rep H3 x u ∧ x.ok ∧ RepPl H3 pre' r ∧ (piu x).map (pre' ++ ·) = nextP p ∧ x.dp + pre'.length ≤ p.dp ∧ m' = x.sz := by
      intro k y uy huk hyk hyr H3 r3 s3 h3
      have hmem := List.mem_of_getElem? hyk
      have hs := Pg.sz_mem (p := Pg.node wd (x1 :: xs)) hmem
      have hdd := Pg.dp_inn (p := Pg.node wd (x1 :: xs)) hmem
      rw [piu_go hr' huk hyk] at hi
      exact ⟨y.sz, by omega, uy, y, r3, pre ++ [(k : Int)], _, rfl, S2.trans s3, (hyr.mono (Tup.of s2)).mono (Tup.of s3), okL_mem ox.2 hmem, h3, by rw [← hi]; cases piu y <;> simp, by rw [List.length_append, List.length_singleton]; omega, rfl⟩
    refine ⟨_, rfl, a, _, _, _, rfl, rfl, SqT.of hH2, atI_nat (j := 0) rfl, rfl, _, rfl, ?_⟩
    rw [decS]
    have hwp : wd.str = "plus" → wd = .plus := by cases wd <;> decide
    by_cases cp : wd.str = "plus"
    · refine iteT' (decide_eq_true cp) ?_
      refine ⟨_, rfl, a, _, _, _, rfl, rfl, SqT.of hH2, atI_nat (j := 1) rfl, b1, _, _, _, rfl, rfl, SqT.of (s2 _ _ hb1), atI_nat (j := 0) rfl, rfl, ?_⟩
      rw [decS]
      by_cases cw : x1.word = "whole"
      · rw [decide_eq_true cw]
        obtain ⟨y, rfl⟩ := hpw (hwp cp)
        obtain ⟨uy, _, rfl, hy, e3⟩ := hrest
        subst e3
        refine .inr ⟨_, rfl, ?_⟩
        refine ⟨_, rfl, _, rfl, (by show 1 ≤ sizeLine; decide), fun t1 ht1 => ?_⟩
        have s4 := same_new ht1 (.tup [.int (1 : Nat)])
        refine catW_use (ns := pre) (ms := [((1 : Nat) : Int)]) (s4 _ _ (s2 _ _ hbp)) upd_same (by simp only [List.length_singleton]; omega) fun r4 H4 s5 h4 => ?_
        refine ⟨_, rfl, _, rfl, _, _, rfl, rfl, a, _, _, _, rfl, rfl, SqT.of ((s4.trans s5) _ _ hH2), (show atI (V.str (Pg.node wd (x1 :: [y])).word :: .ref b1 :: [uy]) (1 + 1) = some uy from rfl), ?_⟩
        exact go 1 y uy (by rw [hu, if_pos ⟨hwp cp, cw⟩]) rfl hy H4 r4 (s4.trans s5) h4
      · rw [decide_eq_false cw]
        have ne : ¬ (wd = .plus ∧ x1.word = "whole") := fun z => cw z.2
        refine .inr ⟨_, rfl, ?_⟩
        refine ⟨_, rfl, _, rfl, (by show 1 ≤ sizeLine; decide), fun t1 ht1 => ?_⟩
        have s4 := same_new ht1 (.tup [.int (0 : Nat)])
        refine catW_use (ns := pre) (ms := [((0 : Nat) : Int)]) (s4 _ _ (s2 _ _ hbp)) upd_same (by simp only [List.length_singleton]; omega) fun r4 H4 s5 h4 => ?_
        refine ⟨_, rfl, _, rfl, _, _, rfl, rfl, a, _, _, _, rfl, rfl, SqT.of ((s4.trans s5) _ _ hH2), (show atI (V.str (Pg.node wd (x1 :: xs)).word :: .ref b1 :: rest) (1 + 0) = some (.ref b1) from atI_nat (j := 1) rfl), ?_⟩
        exact go 0 x1 (.ref b1) (by rw [hu, if_neg ne]) rfl h1 H4 r4 (s4.trans s5) h4
    · refine iteF' (decide_eq_false cp) ?_
      have ne : ¬ (wd = .plus ∧ x1.word = "whole") := fun z => cp (by rw [z.1]; rfl)
      refine .inr ⟨_, rfl, ?_⟩
      refine ⟨_, rfl, _, rfl, (by show 1 ≤ sizeLine; decide), fun t1 ht1 => ?_⟩
      have s4 := same_new ht1 (.tup [.int (0 : Nat)])
      refine catW_use (ns := pre) (ms := [((0 : Nat) : Int)]) (s4 _ _ (s2 _ _ hbp)) upd_same (by simp only [List.length_singleton]; omega) fun r4 H4 s5 h4 => ?_
      refine ⟨_, rfl, _, rfl, _, _, rfl, rfl, a, _, _, _, rfl, rfl, SqT.of ((s4.trans s5) _ _ hH2), (show atI (V.str (Pg.node wd (x1 :: xs)).word :: .ref b1 :: rest) (1 + 0) = some (.ref b1) from atI_nat (j := 1) rfl), ?_⟩
      exact go 0 x1 (.ref b1) (by rw [hu, if_neg ne]) rfl h1 H4 r4 (s4.trans s5) h4

end
end KB
namespace KB
open PySem L2
section
variable {P : Program} {w : World} {K : PySem.W.Frag} {mg : Str → Option Value} {base : Heap} {f : Addr} {fd : FuncData}
set_option maxHeartbeats 4000000
abbrev st_alike : Stmt := top 29
theorem sc_alike : FnScope ["_law_found", "_law_due"] ["_law_found", "_law_due"] (defScope st_alike) := ⟨rfl, rfl, rfl, by decide +kernel, rfl, by decide +kernel, by decide +kernel⟩
/- names: 0 _law_found, 1 _law_due -/
theorem co_alike {cdv : Value} {A : Around} {outer : List Env} {s : Shared} {H : Hp} {E : XK} :
    CompOk (cxOf CX0 P w K mg base ["_law_found", "_law_due"] "_law_alike" (defScope st_alike) f cdv A outer s H E).nox
      { kind := .function, names := [(".0", .local), ("_law_one", .local), ("_law_other", .local), ("_law_alike", .globalImplicit)], isGenerator := false, isCoroutine := false, more := [] } ["_law_one", "_law_other"] 2 [] where
  kind := rfl
  nocell := by decide +kernel
  locs := by decide +kernel
  frees := fun y hy hk => absurd hk (by revert y; decide +kernel)
  len := rfl
  caps := fun j i x h => by cases h
theorem comp_zip {K : PySem.W.Frag} {H1 : Hp} {a b acc : Addr} {ns : List Int} {te : TE} {R : Hp → Prop} (ha : H1 a = some (.tup (ns.map V.int))) (hb : H1 b = some (.tup (ns.map V.int))) (hl : ns.length ≤ 1000) (hacc : H1 acc = none)
    (ht : ∀ (i : Int) H2 (Q : VK), (∀ H4, Same H2 H4 → Q (.bl true) H4) → te [some (.int i), some (.int i)] H2 Q) (q : ∀ H', Same H1 H' → H' acc = some (.lst ((List.replicate ns.length true).map V.bl)) → R H') :
    ∃ W : Nat → Nat → List V → St → Hp → Prop, (∃ m, W 0 m [] [none, none] (upd H1 acc (.lst []))) ∧ ∀ i m ys σ' H', W i m ys σ' H' →
      ((Itz K a b).stop i H' ∧ R H') ∨ ((Itz K a b).go i H' ∧ ∀ x H2, (Itz K a b).yld i H' x H2 → gTup K 2 (gCons (gName 0) (gCons (gName 1) gNil)) x σ' H2 fun σ3 H3 => te σ3 H3 fun y H4 =>
        H4 acc = some (.lst ys) ∧ ys.length < sizeLine ∧ ∃ m', m' < m ∧ W (i + 1) m' (ys ++ [y]) σ3 (upd H4 acc (.lst (ys ++ [y])))) := by
  refine ⟨fun i m ys σ' H' => i ≤ ns.length ∧ m = ns.length - i ∧ (∃ o1 o2, σ' = [o1, o2]) ∧ Same H1 H' ∧ H' acc = some (.lst ys) ∧ ys = (List.replicate i true).map V.bl, ⟨ns.length, Nat.zero_le _, rfl, ⟨_, _, rfl⟩, same_new hacc _, upd_same, rfl⟩, ?_⟩
  rintro i m ys σ' H' ⟨hi, rfl, ⟨o1, o2, rfl⟩, s1, hys, rfl⟩
  by_cases hlt : i < ns.length
  · have hget : (ns.map V.int)[i]? = some (.int ns[i]) := by rw [List.getElem?_map, List.getElem?_eq_getElem hlt]; rfl
    refine .inr ⟨⟨_, _, _, _, SqT.of (s1 _ _ ha), SqT.of (s1 _ _ hb), hget, hget⟩, fun x H2 hy => ?_⟩
    obtain ⟨T, x1, y1, rfl, hT, rfl, hx, hy⟩ := hy
    have ex := hx _ (SqT.of (s1 _ _ ha))
    have ey := hy _ (SqT.of (s1 _ _ hb))
    rw [hget] at ex ey
    cases ex
    cases ey
    have sT := same_new hT (.tup [.int ns[i], .int ns[i]])
    refine ⟨T, [.int ns[i], .int ns[i]], rfl, SqT.of upd_same, rfl, _, _, rfl, _, _, rfl, rfl, ht _ _ _ fun H4 s4 => ?_⟩
    refine ⟨(sT.trans s4) _ _ hys, small (by rw [List.length_map, List.length_replicate]; omega), ns.length - (i + 1), by omega, by omega, rfl, ⟨_, _, rfl⟩, same_upd (s1.trans (sT.trans s4)) hacc _, upd_same, ?_⟩
    rw [List.replicate_succ', List.map_append]
    rfl
  · have hi' : i = ns.length := by omega
    subst hi'
    exact .inl ⟨⟨_, SqT.of (s1 _ _ ha), by rw [List.length_map]; exact Nat.le_refl _⟩, q H' s1 hys⟩
theorem no_alike {k : Nat} : FnOk P w K mg base CX0 k f fd ["_law_found", "_law_due"] (spAlike 0) :=
  ⟨fun vs H Q E h => absurd h (fun z => z), fun A outer s H args us vs Q E _ _ _ _ h => absurd h (fun z => z)⟩
theorem ok_alike1 (B : Blt mg) (g_alike : Got P w K mg base 1 "_law_alike" ["_law_found", "_law_due"] (spAlike 0)) (F : Fun K "_law_alike" "_law_alike" st_alike f fd) : FnOk P w K mg base CX0 2 f fd ["_law_found", "_law_due"] (spAlike 1) := by
  refine F.okJ (k := 1) sc_alike (fun vs H Q E h => ?_) (fun cdv A outer s H vs Q E hr h => ?_)
  · obtain ⟨i, rfl, _⟩ := h
    rfl
  obtain ⟨i, rfl, q⟩ := h
  have CO4 := co_alike (P := P) (w := w) (K := K) (mg := mg) (base := base) (f := f) (cdv := cdv) (A := A) (outer := outer) (s := s) (H := H) (E := E)
  refine ⟨_, (jb_cons (js_if (jt_val (je_callB ⟨call_isI⟩ rfl B.isinstance PyProof.Rows.boot_isinstance (ja_cons (jv 1) (ja_cons (je_bltn (v := .ty "tuple") rfl B.tuple PyProof.Rows.boot_tuple rfl) ja_nil)))) (jb_cons (js_if (JW.pt (jw_or (jt_not (jt_val (je_callB ⟨call_isI⟩ rfl B.isinstance PyProof.Rows.boot_isinstance (ja_cons (jv 0) (ja_cons (je_bltn (v := .ty "tuple") rfl B.tuple PyProof.Rows.boot_tuple rfl) ja_nil))))) (jw_or1 (jt_cmpR ⟨op_ne⟩ (je_callB ⟨call_len_seq⟩ rfl B.len PySem.boot_len (ja_cons (jv 0) ja_nil)) (je_callB ⟨call_len_seq⟩ rfl B.len PySem.boot_len (ja_cons (jv 1) ja_nil)) (nomark _))))) (jb_one (js_ret je_bl)) jb_nil)
      (jb_one (js_ret (je_callB ⟨call_allL rfl⟩ rfl B.all PyProof.Rows.boot_all (ja_cons (je_comp rfl CO4 (ji_zip rfl B.zip (ja_cons (jv 0) (ja_cons (jv 1) ja_nil))) (fun _ _ _ _ => (jg_tupC (n := 2) rfl (jgs_cons (jg_name (k := 0) (show List.Nodup (["_law_one", "_law_other"] : List Str) by decide +kernel) rfl (Or.inl rfl)) (jgs_cons (jg_name (k := 1) (show List.Nodup (["_law_one", "_law_other"] : List Str) by decide +kernel) rfl (Or.inl rfl)) jgs_nil)))) (fun _ _ _ _ => (je_cg g_alike hr (by omega) rfl (ja_cons (jv 0) (ja_cons (jv 1) ja_nil))))) ja_nil))))) jb_nil)
      (jb_cons (js_if (jt_val (je_callB ⟨call_isI⟩ rfl B.isinstance PyProof.Rows.boot_isinstance (ja_cons (jv 1) (ja_cons (je_bltn (v := .ty "str") rfl B.str PyProof.Rows.boot_str rfl) ja_nil)))) (jb_one (js_ret (je_and (je_callB ⟨call_isI⟩ rfl B.isinstance PyProof.Rows.boot_isinstance (ja_cons (jv 0) (ja_cons (je_bltn (v := .ty "str") rfl B.str PyProof.Rows.boot_str rfl) ja_nil))) (je_one (je_cmpR ⟨op_eq⟩ (jv 0) (jv 1) (nomark _)))))) jb_nil)
      (jb_one (js_ret (je_and (je_callB ⟨call_isI⟩ rfl B.isinstance PyProof.Rows.boot_isinstance (ja_cons (jv 0) (ja_cons (je_bltn (v := .ty "int") rfl B.int PyProof.Rows.boot_int rfl) ja_nil))) (je_and (je_not (je_callB ⟨call_isI⟩ rfl B.isinstance PyProof.Rows.boot_isinstance (ja_cons (jv 0) (ja_cons (je_bltn (v := .ty "bool") rfl B.bool PyProof.Rows.boot_bool rfl) ja_nil)))) (je_one (je_cmpR ⟨op_eq⟩ (jv 0) (jv 1) (nomark _))))))))), ?_⟩
  refine ⟨_, rfl, _, _, _, false, rfl, .int _, kit_other rfl (by decide), false, rfl, iteF ?_⟩
  refine ⟨_, rfl, _, _, _, false, rfl, .int _, kit_other rfl (by decide), false, rfl, iteF ?_⟩
  refine ⟨_, rfl, _, _, _, true, rfl, .int _, rfl, true, rfl, iteT ?_⟩
  refine ⟨_, rfl, _, _, _, false, rfl, .int _, kit_other rfl (by decide), false, rfl, true, rfl, iteT ?_⟩
  refine ⟨_, rfl, _, rfl, rfl, ?_⟩
  rw [decide_eq_true rfl]
  exact q _ (Same.refl _)
theorem ok_alike2 (B : Blt mg) (g_alike : Got P w K mg base 2 "_law_alike" ["_law_found", "_law_due"] (spAlike 1)) (F : Fun K "_law_alike" "_law_alike" st_alike f fd) : FnOk P w K mg base CX0 3 f fd ["_law_found", "_law_due"] (spAlike 2) := by
  refine F.okJ (k := 2) sc_alike (fun vs H Q E h => ?_) (fun cdv A outer s H vs Q E hr h => ?_)
  · obtain ⟨a, b, ns, rfl, _⟩ := h
    rfl
  obtain ⟨_, _, ns, rfl, ⟨a, rfl, hA⟩, ⟨b, rfl, hB⟩, hl, q⟩ := h
  have CO4 := co_alike (P := P) (w := w) (K := K) (mg := mg) (base := base) (f := f) (cdv := cdv) (A := A) (outer := outer) (s := s) (H := H) (E := E)
  refine ⟨_, (jb_cons (js_if (jt_val (je_callB ⟨call_isI⟩ rfl B.isinstance PyProof.Rows.boot_isinstance (ja_cons (jv 1) (ja_cons (je_bltn (v := .ty "tuple") rfl B.tuple PyProof.Rows.boot_tuple rfl) ja_nil)))) (jb_cons (js_if (JW.pt (jw_or (jt_not (jt_val (je_callB ⟨call_isI⟩ rfl B.isinstance PyProof.Rows.boot_isinstance (ja_cons (jv 0) (ja_cons (je_bltn (v := .ty "tuple") rfl B.tuple PyProof.Rows.boot_tuple rfl) ja_nil))))) (jw_or1 (jt_cmpR ⟨op_ne⟩ (je_callB ⟨call_len_seq⟩ rfl B.len PySem.boot_len (ja_cons (jv 0) ja_nil)) (je_callB ⟨call_len_seq⟩ rfl B.len PySem.boot_len (ja_cons (jv 1) ja_nil)) (nomark _))))) (jb_one (js_ret je_bl)) jb_nil)
      (jb_one (js_ret (je_callB ⟨call_allL rfl⟩ rfl B.all PyProof.Rows.boot_all (ja_cons (je_comp rfl CO4 (ji_zip rfl B.zip (ja_cons (jv 0) (ja_cons (jv 1) ja_nil))) (fun _ _ _ _ => (jg_tupC (n := 2) rfl (jgs_cons (jg_name (k := 0) (show List.Nodup (["_law_one", "_law_other"] : List Str) by decide +kernel) rfl (Or.inl rfl)) (jgs_cons (jg_name (k := 1) (show List.Nodup (["_law_one", "_law_other"] : List Str) by decide +kernel) rfl (Or.inl rfl)) jgs_nil)))) (fun _ _ _ _ => (je_cg g_alike hr (by omega) rfl (ja_cons (jv 0) (ja_cons (jv 1) ja_nil))))) ja_nil))))) jb_nil)
      (jb_cons (js_if (jt_val (je_callB ⟨call_isI⟩ rfl B.isinstance PyProof.Rows.boot_isinstance (ja_cons (jv 1) (ja_cons (je_bltn (v := .ty "str") rfl B.str PyProof.Rows.boot_str rfl) ja_nil)))) (jb_one (js_ret (je_and (je_callB ⟨call_isI⟩ rfl B.isinstance PyProof.Rows.boot_isinstance (ja_cons (jv 0) (ja_cons (je_bltn (v := .ty "str") rfl B.str PyProof.Rows.boot_str rfl) ja_nil))) (je_one (je_cmpR ⟨op_eq⟩ (jv 0) (jv 1) (nomark _)))))) jb_nil)
      (jb_one (js_ret (je_and (je_callB ⟨call_isI⟩ rfl B.isinstance PyProof.Rows.boot_isinstance (ja_cons (jv 0) (ja_cons (je_bltn (v := .ty "int") rfl B.int PyProof.Rows.boot_int rfl) ja_nil))) (je_and (je_not (je_callB ⟨call_isI⟩ rfl B.isinstance PyProof.Rows.boot_isinstance (ja_cons (jv 0) (ja_cons (je_bltn (v := .ty "bool") rfl B.bool PyProof.Rows.boot_bool rfl) ja_nil)))) (je_one (je_cmpR ⟨op_eq⟩ (jv 0) (jv 1) (nomark _))))))))), ?_⟩
  refine ⟨_, rfl, _, _, _, true, rfl, .tup hB, rfl, true, rfl, iteT ?_⟩
  refine ⟨_, rfl, _, _, _, true, rfl, .tup hA, rfl, true, rfl, iteF ?_⟩
  refine ⟨_, rfl, a, _, rfl, .inr (SqT.of hA), _, rfl, b, _, rfl, .inr (SqT.of hB), rfl, _, rfl, ?_⟩
  refine iteF' (by rw [decide_eq_true rfl]; rfl) ?_
  refine ⟨_, rfl, _, rfl, a, b, rfl, ⟨_, SqT.of hA⟩, ⟨_, SqT.of hB⟩, fun acc hacc => ?_⟩
  refine comp_zip hA hB (by omega) hacc (fun i H2 Q' hQ => ⟨_, rfl, _, rfl, i, rfl, hQ⟩) fun H' s' h' => ⟨acc, _, rfl, SqL.of h', ?_⟩
  have e : (List.replicate ns.length true).all id = true := by simp
  rw [e]
  exact q H' s'
end
end KB
namespace KB
open PySem L2
section
variable {P : Program} {w : World} {K : PySem.W.Frag} {mg : Str → Option Value} {base : Heap} {f : Addr} {fd : FuncData}
set_option maxHeartbeats 4000000
abbrev st_law : Stmt := top 30
theorem sc_law : FnScope ["_law_script", "_law_feed_here", "_law_program", "_law_due", "_law_found"] ["_law_script"] (defScope st_law) := ⟨rfl, rfl, rfl, by decide +kernel, rfl, by decide +kernel, by decide +kernel⟩
/- names: 0 _law_script, 1 _law_feed_here, 2 _law_program, 3 _law_due, 4 _law_found -/
theorem ok_law (g_take : Got P w K mg base 1 "_law_take" ["_law_feed_here", "_law_many"] spTake) (g_feed : Got P w K mg base 1 "_law_feed" ["_law_script", "_law_k"] (spFeed K)) (g_any : Got P w K mg base 62 "_law_any" ["_law_feed_here", "_law_many", "_law_room", "_law_deep"] (spAny 29)) (g_line : Got P w K mg base 50 "_law_line" ["_law_feed_here"] spLine)
    (g_lnext : Got P w K mg base 42 "_law_next" ["_law_program"] spNext) (g_next : Got P w K mg base 3 "next_place" ["program"] spNext) (g_alike : Got P w K mg base 3 "_law_alike" ["_law_found", "_law_due"] (spAlike 2)) (g_cango : Got P w K mg base 3 "can_go" ["program", "place"] spCango) (F : Fun K "law" "law" st_law f fd) : FnOk P w K mg base CX0 110 f fd ["_law_script"] (spLaw K) := by
  refine F.okJ (k := 109) sc_law (fun vs H Q E h => ?_) (fun cdv A outer s H vs Q E hr h => ?_)
  · obtain ⟨a, ns, rfl, _⟩ := h
    rfl
  obtain ⟨a, ns, rfl, hS, h63, q⟩ := h
  refine ⟨_, (jb_cons (js_set (k := 1) sc_law.nd rfl (Or.inl rfl) (je_cg g_feed hr (by omega) rfl (ja_cons (jv 0) (ja_cons je_int ja_nil))))
      (jb_cons (js_if (jt_cmpR ⟨op_eq⟩ (je_cg g_take hr (by omega) rfl (ja_cons (jv 1) (ja_cons je_int ja_nil))) je_int (nomark _)) (jb_one (js_set (k := 2) sc_law.nd rfl (Or.inl rfl) (je_cg g_line hr (by omega) rfl (ja_cons (jv 1) ja_nil)))) (jb_one (js_set (k := 2) sc_law.nd rfl (Or.inl rfl) (je_cg g_any hr (by omega) rfl (ja_cons (jv 1) (ja_cons je_int (ja_cons (je_op ⟨op_add⟩ je_int (je_cg g_take hr (by omega) rfl (ja_cons (jv 1) (ja_cons je_int ja_nil)))) (ja_cons je_int ja_nil))))))))
      (jb_cons (js_set (k := 3) sc_law.nd rfl (Or.inl rfl) (je_cg g_lnext hr (by omega) rfl (ja_cons (jv 2) ja_nil)))
      (jb_cons (js_set (k := 4) sc_law.nd rfl (Or.inl rfl) (je_cg g_next hr (by omega) rfl (ja_cons (jv 2) ja_nil)))
      (jb_cons (js_if (jt_cmpR ⟨op_isN⟩ (jv 3) je_non (nomark _)) (jb_one (js_ret (je_cmpR ⟨op_isN⟩ (jv 4) je_non (nomark _)))) jb_nil)
      (jb_one (js_ret (je_and (je_cg g_alike hr (by omega) rfl (ja_cons (jv 4) (ja_cons (jv 3) ja_nil))) (je_one (je_cmpR ⟨op_isT⟩ (je_cg g_cango hr (by omega) rfl (ja_cons (jv 2) (ja_cons (jv 4) ja_nil))) je_bl (nomark _))))))))))), ?_⟩
  refine ⟨_, rfl, a, ns, 0, rfl, hS, h63, by decide, by decide, fun fe x y hfe => ?_⟩
  refine ⟨_, rfl, fe, 2, rfl, Feed.put _ _ _ _, by decide, by decide, fun d x1 y1 d0 d1 => ?_⟩
  have F1 : Feed (upd (upd H fe (.lst [.int x, .int y])) fe (.lst [.int x1, .int y1])) fe := Feed.put _ _ _ _
  generalize upd (upd H fe (.lst [.int x, .int y])) fe (.lst [.int x1, .int y1]) = H1 at F1
  refine ⟨rfl, _, rfl, ?_⟩
  refine ite2 (fun c => ?_) (fun c => ?_)
  · refine ⟨_, rfl, fe, rfl, F1, fun r p H3 b3 F3 hrep fit => ?_⟩
    obtain ⟨ok, sz, dp⟩ : p.ok ∧ p.sz ≤ 900 ∧ p.dp ≤ 38 := ⟨fit.1, by have := fit.sz; omega, by have := fit.dp; omega⟩
    refine ⟨_, rfl, r, p, rfl, hrep, ok, sz, dp, fun H4 s4 hn => ?_, fun ks u H4 s4 hn hu => ?_⟩
    · refine ⟨_, rfl, r, p, rfl, hrep.mono (Tup.of s4), ok, sz, dp, fun H5 s5 hn' => ?_, fun ks' u' H5 s5 hn' hu' => ?_⟩
      · refine ⟨_, rfl, rfl, _, rfl, iteT' (decide_eq_true rfl) ?_⟩
        refine ⟨_, rfl, rfl, ?_⟩
        rw [decide_eq_true rfl]
        exact q _
      · rw [hn] at hn'
        cases hn'
    · refine ⟨_, rfl, r, p, rfl, hrep.mono (Tup.of s4), ok, sz, dp, fun H5 s5 hn' => ?_, fun ks' u' H5 s5 hn' hu' => ?_⟩
      · rw [hn] at hn'
        cases hn'
      · rw [hn] at hn'
        cases hn'
        obtain ⟨z, hz, hzr⟩ := next_at hn
        have hlen := Pg.at_len hz
        obtain ⟨bu, rfl, hbu⟩ := hu
        refine ⟨_, rfl, rfl, _, rfl, iteF' (decide_eq_false fun z => by cases z) ?_⟩
        refine ⟨_, rfl, _, rfl, u', .ref bu, ks, rfl, hu', ⟨bu, rfl, s5 _ _ hbu⟩, by omega, fun H6 s6 => ?_⟩
        refine ⟨_, rfl, iteT ?_⟩
        refine ⟨_, rfl, _, rfl, r, u', p, ks, z, rfl, hrep.mono (Tup.of ((s4.trans s5).trans s6)), hu'.mono (Tup.of s6), ok, sz, hz, fun H7 s7 => ?_⟩
        refine ⟨_, _, rfl, rfl, ?_⟩
        rw [hzr, decide_eq_true rfl]
        exact q _
  · refine ⟨_, rfl, _, rfl, fe, 55, rfl, F1, by decide, by decide, fun d2 x2 y2 e0 e1 => ?_⟩
    have F2 : Feed (upd H1 fe (.lst [.int x2, .int y2])) fe := Feed.put _ _ _ _
    generalize upd H1 fe (.lst [.int x2, .int y2]) = H2 at F2
    refine ⟨_, _, rfl, rfl, fe, 0, 6 + d2, 28, rfl, F2, by decide, by decide, by omega, by decide, by decide, fun r p H3 b3 F3 hrep fit => ?_⟩
    obtain ⟨ok, sz, dp⟩ : p.ok ∧ p.sz ≤ 900 ∧ p.dp ≤ 38 := ⟨fit.1, by have := fit.sz; omega, by have := fit.dp; omega⟩
    refine ⟨_, rfl, r, p, rfl, hrep, ok, sz, dp, fun H4 s4 hn => ?_, fun ks u H4 s4 hn hu => ?_⟩
    · refine ⟨_, rfl, r, p, rfl, hrep.mono (Tup.of s4), ok, sz, dp, fun H5 s5 hn' => ?_, fun ks' u' H5 s5 hn' hu' => ?_⟩
      · refine ⟨_, rfl, rfl, _, rfl, iteT' (decide_eq_true rfl) ?_⟩
        refine ⟨_, rfl, rfl, ?_⟩
        rw [decide_eq_true rfl]
        exact q _
      · rw [hn] at hn'
        cases hn'
    · refine ⟨_, rfl, r, p, rfl, hrep.mono (Tup.of s4), ok, sz, dp, fun H5 s5 hn' => ?_, fun ks' u' H5 s5 hn' hu' => ?_⟩
      · rw [hn] at hn'
        cases hn'
      · rw [hn] at hn'
        cases hn'
        obtain ⟨z, hz, hzr⟩ := next_at hn
        have hlen := Pg.at_len hz
        obtain ⟨bu, rfl, hbu⟩ := hu
        refine ⟨_, rfl, rfl, _, rfl, iteF' (decide_eq_false fun z => by cases z) ?_⟩
        refine ⟨_, rfl, _, rfl, u', .ref bu, ks, rfl, hu', ⟨bu, rfl, s5 _ _ hbu⟩, by omega, fun H6 s6 => ?_⟩
        refine ⟨_, rfl, iteT ?_⟩
        refine ⟨_, rfl, _, rfl, r, u', p, ks, z, rfl, hrep.mono (Tup.of ((s4.trans s5).trans s6)), hu'.mono (Tup.of s6), ok, sz, hz, fun H7 s7 => ?_⟩
        refine ⟨_, _, rfl, rfl, ?_⟩
        rw [hzr, decide_eq_true rfl]
        exact q _
end
end KB
namespace KB
open PySem L2
theorem all_mk {l : PySem.W.OpenLaw} {w : World} {K : PySem.W.Frag} {h : Heap} {mg : Str → Option Value} {fa f0 f1 f2 f3 f4 f5 f6 f7 f8 f9 f10 f11 f12 f13 f14 f15 f16 f17 f18 f19 f20 f21 f22 f23 f24 : Addr} (X : K.In h) (G : h.Ns mainGlobals mg) (hfa : mg "law" = some (.ref fa))
    {od0 an0 od1 an1 od2 an2 od3 an3 od4 an4 od5 an5 od6 an6 od7 an7 od8 an8 od9 an9 od10 an10 od11 an11 od12 an12 od13 an13 od14 an14 od15 an15 od16 an16 od17 an17 od18 an18 od19 an19 od20 an20 od21 an21 od22 an22 od23 an23 od24 an24 : Option Addr} {sl0 sl1 sl2 sl3 sl4 sl5 sl6 sl7 sl8 sl9 sl10 sl11 sl12 sl13 sl14 sl15 sl16 sl17 sl18 sl19 sl20 sl21 sl22 sl23 sl24 : Array (Option Value)} {oc0 kV0 dc0 pm0 cd0 ct0 oc1 kV1 dc1 pm1 cd1 ct1 oc2 kV2 dc2 pm2 cd2 ct2 oc3 kV3 dc3 pm3 cd3 ct3 oc4 kV4 dc4 pm4 cd4 ct4 oc5 kV5 dc5 pm5 cd5 ct5 oc6 kV6 dc6 pm6 cd6 ct6 oc7 kV7 dc7 pm7 cd7 ct7 oc8 kV8 dc8 pm8 cd8 ct8 oc9 kV9 dc9 pm9 cd9 ct9 oc10 kV10 dc10 pm10 cd10 ct10 oc11 kV11 dc11 pm11 cd11 ct11 oc12 kV12 dc12 pm12 cd12 ct12 oc13 kV13 dc13 pm13 cd13 ct13 oc14 kV14 dc14 pm14 cd14 ct14 oc15 kV15 dc15 pm15 cd15 ct15 oc16 kV16 dc16 pm16 cd16 ct16 oc17 kV17 dc17 pm17 cd17 ct17 oc18 kV18 dc18 pm18 cd18 ct18 oc19 kV19 dc19 pm19 cd19 ct19 oc20 kV20 dc20 pm20 cd20 ct20 oc21 kV21 dc21 pm21 cd21 ct21 oc22 kV22 dc22 pm22 cd22 ct22 oc23 kV23 dc23 pm23 cd23 ct23 oc24 kV24 dc24 pm24 cd24 ct24 : Value}
    (a0 : PySem.W.nsIn K mainGlobals "path_of" = some (some (.ref f0))) (l0 : K.lookup f0 = some ⟨oc0, od0, .func (PySem.W.fnOf "path_of" "path_of" (defArgs st_path) (defBody st_path) (defScope st_path) .none kV0 dc0 pm0 an0 cd0 ct0), sl0⟩) (c0 : PySem.W.codeIn K cd0 "path_of" = true) (k0 : PySem.W.keepIn K (.ref f0) = true)
    (a1 : PySem.W.nsIn K mainGlobals "inner" = some (some (.ref f1))) (l1 : K.lookup f1 = some ⟨oc1, od1, .func (PySem.W.fnOf "inner" "inner" (defArgs st_inner) (defBody st_inner) (defScope st_inner) .none kV1 dc1 pm1 an1 cd1 ct1), sl1⟩) (c1 : PySem.W.codeIn K cd1 "inner" = true) (k1 : PySem.W.keepIn K (.ref f1) = true)
    (a2 : PySem.W.nsIn K mainGlobals "at_place" = some (some (.ref f2))) (l2 : K.lookup f2 = some ⟨oc2, od2, .func (PySem.W.fnOf "at_place" "at_place" (defArgs st_at) (defBody st_at) (defScope st_at) .none kV2 dc2 pm2 an2 cd2 ct2), sl2⟩) (c2 : PySem.W.codeIn K cd2 "at_place" = true) (k2 : PySem.W.keepIn K (.ref f2) = true)
    (a3 : PySem.W.nsIn K mainGlobals "can_go" = some (some (.ref f3))) (l3 : K.lookup f3 = some ⟨oc3, od3, .func (PySem.W.fnOf "can_go" "can_go" (defArgs st_cango) (defBody st_cango) (defScope st_cango) .none kV3 dc3 pm3 an3 cd3 ct3), sl3⟩) (c3 : PySem.W.codeIn K cd3 "can_go" = true) (k3 : PySem.W.keepIn K (.ref f3) = true)
    (a4 : PySem.W.nsIn K mainGlobals "has_rule" = some (some (.ref f4))) (l4 : K.lookup f4 = some ⟨oc4, od4, .func (PySem.W.fnOf "has_rule" "has_rule" (defArgs st_hasr) (defBody st_hasr) (defScope st_hasr) .none kV4 dc4 pm4 an4 cd4 ct4), sl4⟩) (c4 : PySem.W.codeIn K cd4 "has_rule" = true) (k4 : PySem.W.keepIn K (.ref f4) = true)
    (a5 : PySem.W.nsIn K mainGlobals "next_place" = some (some (.ref f5))) (l5 : K.lookup f5 = some ⟨oc5, od5, .func (PySem.W.fnOf "next_place" "next_place" (defArgs st_next) (defBody st_next) (defScope st_next) .none kV5 dc5 pm5 an5 cd5 ct5), sl5⟩) (c5 : PySem.W.codeIn K cd5 "next_place" = true) (k5 : PySem.W.keepIn K (.ref f5) = true)
    (a6 : PySem.W.nsIn K mainGlobals "first_unanswered" = some (some (.ref f6))) (l6 : K.lookup f6 = some ⟨oc6, od6, .func (PySem.W.fnOf "first_unanswered" "first_unanswered" (defArgs st_firstu) (defBody st_firstu) (defScope st_firstu) .none kV6 dc6 pm6 an6 cd6 ct6), sl6⟩) (c6 : PySem.W.codeIn K cd6 "first_unanswered" = true) (k6 : PySem.W.keepIn K (.ref f6) = true)
    (a7 : PySem.W.nsIn K mainGlobals "place_in_use" = some (some (.ref f7))) (l7 : K.lookup f7 = some ⟨oc7, od7, .func (PySem.W.fnOf "place_in_use" "place_in_use" (defArgs st_piu) (defBody st_piu) (defScope st_piu) .none kV7 dc7 pm7 an7 cd7 ct7), sl7⟩) (c7 : PySem.W.codeIn K cd7 "place_in_use" = true) (k7 : PySem.W.keepIn K (.ref f7) = true)
    (a8 : PySem.W.nsIn K mainGlobals "inner_in_use" = some (some (.ref f8))) (l8 : K.lookup f8 = some ⟨oc8, od8, .func (PySem.W.fnOf "inner_in_use" "inner_in_use" (defArgs st_iiu) (defBody st_iiu) (defScope st_iiu) .none kV8 dc8 pm8 an8 cd8 ct8), sl8⟩) (c8 : PySem.W.codeIn K cd8 "inner_in_use" = true) (k8 : PySem.W.keepIn K (.ref f8) = true)
    (a9 : PySem.W.nsIn K mainGlobals "_law_feed" = some (some (.ref f9))) (l9 : K.lookup f9 = some ⟨oc9, od9, .func (PySem.W.fnOf "_law_feed" "_law_feed" (defArgs st_feed) (defBody st_feed) (defScope st_feed) .none kV9 dc9 pm9 an9 cd9 ct9), sl9⟩) (c9 : PySem.W.codeIn K cd9 "_law_feed" = true) (k9 : PySem.W.keepIn K (.ref f9) = true)
    (a10 : PySem.W.nsIn K mainGlobals "_law_take" = some (some (.ref f10))) (l10 : K.lookup f10 = some ⟨oc10, od10, .func (PySem.W.fnOf "_law_take" "_law_take" (defArgs st_take) (defBody st_take) (defScope st_take) .none kV10 dc10 pm10 an10 cd10 ct10), sl10⟩) (c10 : PySem.W.codeIn K cd10 "_law_take" = true) (k10 : PySem.W.keepIn K (.ref f10) = true)
    (a11 : PySem.W.nsIn K mainGlobals "_law_whole" = some (some (.ref f11))) (l11 : K.lookup f11 = some ⟨oc11, od11, .func (PySem.W.fnOf "_law_whole" "_law_whole" (defArgs st_whole) (defBody st_whole) (defScope st_whole) .none kV11 dc11 pm11 an11 cd11 ct11), sl11⟩) (c11 : PySem.W.codeIn K cd11 "_law_whole" = true) (k11 : PySem.W.keepIn K (.ref f11) = true)
    (a12 : PySem.W.nsIn K mainGlobals "_law_leaf" = some (some (.ref f12))) (l12 : K.lookup f12 = some ⟨oc12, od12, .func (PySem.W.fnOf "_law_leaf" "_law_leaf" (defArgs st_leaf) (defBody st_leaf) (defScope st_leaf) .none kV12 dc12 pm12 an12 cd12 ct12), sl12⟩) (c12 : PySem.W.codeIn K cd12 "_law_leaf" = true) (k12 : PySem.W.keepIn K (.ref f12) = true)
    (a13 : PySem.W.nsIn K mainGlobals "_law_headed" = some (some (.ref f13))) (l13 : K.lookup f13 = some ⟨oc13, od13, .func (PySem.W.fnOf "_law_headed" "_law_headed" (defArgs st_headed) (defBody st_headed) (defScope st_headed) .none kV13 dc13 pm13 an13 cd13 ct13), sl13⟩) (c13 : PySem.W.codeIn K cd13 "_law_headed" = true) (k13 : PySem.W.keepIn K (.ref f13) = true)
    (a14 : PySem.W.nsIn K mainGlobals "_law_any" = some (some (.ref f14))) (l14 : K.lookup f14 = some ⟨oc14, od14, .func (PySem.W.fnOf "_law_any" "_law_any" (defArgs st_any) (defBody st_any) (defScope st_any) .none kV14 dc14 pm14 an14 cd14 ct14), sl14⟩) (c14 : PySem.W.codeIn K cd14 "_law_any" = true) (k14 : PySem.W.keepIn K (.ref f14) = true)
    (a15 : PySem.W.nsIn K mainGlobals "_law_halted" = some (some (.ref f15))) (l15 : K.lookup f15 = some ⟨oc15, od15, .func (PySem.W.fnOf "_law_halted" "_law_halted" (defArgs st_halted) (defBody st_halted) (defScope st_halted) .none kV15 dc15 pm15 an15 cd15 ct15), sl15⟩) (c15 : PySem.W.codeIn K cd15 "_law_halted" = true) (k15 : PySem.W.keepIn K (.ref f15) = true)
    (a16 : PySem.W.nsIn K mainGlobals "_law_wrapped" = some (some (.ref f16))) (l16 : K.lookup f16 = some ⟨oc16, od16, .func (PySem.W.fnOf "_law_wrapped" "_law_wrapped" (defArgs st_wrapped) (defBody st_wrapped) (defScope st_wrapped) .none kV16 dc16 pm16 an16 cd16 ct16), sl16⟩) (c16 : PySem.W.codeIn K cd16 "_law_wrapped" = true) (k16 : PySem.W.keepIn K (.ref f16) = true)
    (a17 : PySem.W.nsIn K mainGlobals "_law_answer" = some (some (.ref f17))) (l17 : K.lookup f17 = some ⟨oc17, od17, .func (PySem.W.fnOf "_law_answer" "_law_answer" (defArgs st_answer) (defBody st_answer) (defScope st_answer) .none kV17 dc17 pm17 an17 cd17 ct17), sl17⟩) (c17 : PySem.W.codeIn K cd17 "_law_answer" = true) (k17 : PySem.W.keepIn K (.ref f17) = true)
    (a18 : PySem.W.nsIn K mainGlobals "_law_among" = some (some (.ref f18))) (l18 : K.lookup f18 = some ⟨oc18, od18, .func (PySem.W.fnOf "_law_among" "_law_among" (defArgs st_among) (defBody st_among) (defScope st_among) .none kV18 dc18 pm18 an18 cd18 ct18), sl18⟩) (c18 : PySem.W.codeIn K cd18 "_law_among" = true) (k18 : PySem.W.keepIn K (.ref f18) = true)
    (a19 : PySem.W.nsIn K mainGlobals "_law_line" = some (some (.ref f19))) (l19 : K.lookup f19 = some ⟨oc19, od19, .func (PySem.W.fnOf "_law_line" "_law_line" (defArgs st_line) (defBody st_line) (defScope st_line) .none kV19 dc19 pm19 an19 cd19 ct19), sl19⟩) (c19 : PySem.W.codeIn K cd19 "_law_line" = true) (k19 : PySem.W.keepIn K (.ref f19) = true)
    (a20 : PySem.W.nsIn K mainGlobals "_law_can" = some (some (.ref f20))) (l20 : K.lookup f20 = some ⟨oc20, od20, .func (PySem.W.fnOf "_law_can" "_law_can" (defArgs st_can) (defBody st_can) (defScope st_can) .none kV20 dc20 pm20 an20 cd20 ct20), sl20⟩) (c20 : PySem.W.codeIn K cd20 "_law_can" = true) (k20 : PySem.W.keepIn K (.ref f20) = true)
    (a21 : PySem.W.nsIn K mainGlobals "_law_is_answer" = some (some (.ref f21))) (l21 : K.lookup f21 = some ⟨oc21, od21, .func (PySem.W.fnOf "_law_is_answer" "_law_is_answer" (defArgs st_isans) (defBody st_isans) (defScope st_isans) .none kV21 dc21 pm21 an21 cd21 ct21), sl21⟩) (c21 : PySem.W.codeIn K cd21 "_law_is_answer" = true) (k21 : PySem.W.keepIn K (.ref f21) = true)
    (a22 : PySem.W.nsIn K mainGlobals "_law_next" = some (some (.ref f22))) (l22 : K.lookup f22 = some ⟨oc22, od22, .func (PySem.W.fnOf "_law_next" "_law_next" (defArgs st_lnext) (defBody st_lnext) (defScope st_lnext) .none kV22 dc22 pm22 an22 cd22 ct22), sl22⟩) (c22 : PySem.W.codeIn K cd22 "_law_next" = true) (k22 : PySem.W.keepIn K (.ref f22) = true)
    (a23 : PySem.W.nsIn K mainGlobals "_law_alike" = some (some (.ref f23))) (l23 : K.lookup f23 = some ⟨oc23, od23, .func (PySem.W.fnOf "_law_alike" "_law_alike" (defArgs st_alike) (defBody st_alike) (defScope st_alike) .none kV23 dc23 pm23 an23 cd23 ct23), sl23⟩) (c23 : PySem.W.codeIn K cd23 "_law_alike" = true) (k23 : PySem.W.keepIn K (.ref f23) = true)
    (a24 : PySem.W.nsIn K mainGlobals "law" = some (some (.ref f24))) (l24 : K.lookup f24 = some ⟨oc24, od24, .func (PySem.W.fnOf "law" "law" (defArgs st_law) (defBody st_law) (defScope st_law) .none kV24 dc24 pm24 an24 cd24 ct24), sl24⟩) (c24 : PySem.W.codeIn K cd24 "law" = true) (k24 : PySem.W.keepIn K (.ref f24) = true)
    (z0 : PySem.W.nsIn K mainGlobals "len" = some none)
    (z1 : PySem.W.nsIn K mainGlobals "all" = some none)
    (z2 : PySem.W.nsIn K mainGlobals "isinstance" = some none)
    (z3 : PySem.W.nsIn K mainGlobals "range" = some none)
    (z4 : PySem.W.nsIn K mainGlobals "int" = some none)
    (z5 : PySem.W.nsIn K mainGlobals "bool" = some none)
    (z6 : PySem.W.nsIn K mainGlobals "str" = some none)
    (z7 : PySem.W.nsIn K mainGlobals "tuple" = some none)
    (z8 : PySem.W.nsIn K mainGlobals "zip" = some none)
    (z9 : PySem.W.nsIn K mainGlobals "reversed" = some none)
    : ∃ fd : FuncData, (∀ (s : Shared) (v : Value), BindsTo s fd ⟨[v], []⟩ [("_law_script", v)]) ∧ ∀ base : Heap, K.In base → base.Ns mainGlobals mg → FnOk l.prog w K mg base CX0 110 fa fd ["_law_script"] (spLaw K) := by
  have e := hfa.symm.trans (PySem.W.mg_of X G a24)
  cases e
  have F_path := fun_mk (st := st_path) l0 c0 k0
  have F_inner := fun_mk (st := st_inner) l1 c1 k1
  have F_at := fun_mk (st := st_at) l2 c2 k2
  have F_cango := fun_mk (st := st_cango) l3 c3 k3
  have F_hasr := fun_mk (st := st_hasr) l4 c4 k4
  have F_next := fun_mk (st := st_next) l5 c5 k5
  have F_firstu := fun_mk (st := st_firstu) l6 c6 k6
  have F_piu := fun_mk (st := st_piu) l7 c7 k7
  have F_iiu := fun_mk (st := st_iiu) l8 c8 k8
  have F_feed := fun_mk (st := st_feed) l9 c9 k9
  have F_take := fun_mk (st := st_take) l10 c10 k10
  have F_whole := fun_mk (st := st_whole) l11 c11 k11
  have F_leaf := fun_mk (st := st_leaf) l12 c12 k12
  have F_headed := fun_mk (st := st_headed) l13 c13 k13
  have F_any := fun_mk (st := st_any) l14 c14 k14
  have F_halted := fun_mk (st := st_halted) l15 c15 k15
  have F_wrapped := fun_mk (st := st_wrapped) l16 c16 k16
  have F_answer := fun_mk (st := st_answer) l17 c17 k17
  have F_among := fun_mk (st := st_among) l18 c18 k18
  have F_line := fun_mk (st := st_line) l19 c19 k19
  have F_can := fun_mk (st := st_can) l20 c20 k20
  have F_isans := fun_mk (st := st_isans) l21 c21 k21
  have F_lnext := fun_mk (st := st_lnext) l22 c22 k22
  have F_alike := fun_mk (st := st_alike) l23 c23 k23
  have F_law := fun_mk (st := st_law) l24 c24 k24
  have b_path := F_path.binds (ps := sc_path_ps) fun _ _ _ _ _ _ us hl => match us, hl with | [_], _ => rfl
  have m_path := PySem.W.mg_of X G a0
  have b_inner := F_inner.binds (ps := sc_inner_ps) fun _ _ _ _ _ _ us hl => match us, hl with | [_], _ => rfl
  have m_inner := PySem.W.mg_of X G a1
  have b_at := F_at.binds (ps := sc_at_ps) fun _ _ _ _ _ _ us hl => match us, hl with | [_, _], _ => rfl
  have m_at := PySem.W.mg_of X G a2
  have b_cango := F_cango.binds (ps := sc_cango_ps) fun _ _ _ _ _ _ us hl => match us, hl with | [_, _], _ => rfl
  have m_cango := PySem.W.mg_of X G a3
  have b_hasr := F_hasr.binds (ps := sc_hasr_ps) fun _ _ _ _ _ _ us hl => match us, hl with | [_], _ => rfl
  have m_hasr := PySem.W.mg_of X G a4
  have b_next := F_next.binds (ps := sc_next_ps) fun _ _ _ _ _ _ us hl => match us, hl with | [_], _ => rfl
  have m_next := PySem.W.mg_of X G a5
  have b_firstu := F_firstu.binds (ps := sc_firstu_ps) fun _ _ _ _ _ _ us hl => match us, hl with | [_], _ => rfl
  have m_firstu := PySem.W.mg_of X G a6
  have b_piu := F_piu.binds (ps := sc_piu_ps) fun _ _ _ _ _ _ us hl => match us, hl with | [_], _ => rfl
  have m_piu := PySem.W.mg_of X G a7
  have b_iiu := F_iiu.binds (ps := sc_iiu_ps) fun _ _ _ _ _ _ us hl => match us, hl with | [_], _ => rfl
  have m_iiu := PySem.W.mg_of X G a8
  have b_feed := F_feed.binds (ps := sc_feed_ps) fun _ _ _ _ _ _ us hl => match us, hl with | [_, _], _ => rfl
  have m_feed := PySem.W.mg_of X G a9
  have b_take := F_take.binds (ps := sc_take_ps) fun _ _ _ _ _ _ us hl => match us, hl with | [_, _], _ => rfl
  have m_take := PySem.W.mg_of X G a10
  have b_whole := F_whole.binds (ps := sc_whole_ps) fun _ _ _ _ _ _ us hl => match us, hl with | [_], _ => rfl
  have m_whole := PySem.W.mg_of X G a11
  have b_leaf := F_leaf.binds (ps := sc_leaf_ps) fun _ _ _ _ _ _ us hl => match us, hl with | [_, _], _ => rfl
  have m_leaf := PySem.W.mg_of X G a12
  have b_headed := F_headed.binds (ps := sc_headed_ps) fun _ _ _ _ _ _ us hl => match us, hl with | [_, _, _, _, _], _ => rfl
  have m_headed := PySem.W.mg_of X G a13
  have b_any := F_any.binds (ps := sc_any_ps) fun _ _ _ _ _ _ us hl => match us, hl with | [_, _, _, _], _ => rfl
  have m_any := PySem.W.mg_of X G a14
  have b_halted := F_halted.binds (ps := sc_halted_ps) fun _ _ _ _ _ _ us hl => match us, hl with | [_], _ => rfl
  have m_halted := PySem.W.mg_of X G a15
  have b_wrapped := F_wrapped.binds (ps := sc_wrapped_ps) fun _ _ _ _ _ _ us hl => match us, hl with | [_, _], _ => rfl
  have m_wrapped := PySem.W.mg_of X G a16
  have b_answer := F_answer.binds (ps := sc_answer_ps) fun _ _ _ _ _ _ us hl => match us, hl with | [_, _], _ => rfl
  have m_answer := PySem.W.mg_of X G a17
  have b_among := F_among.binds (ps := sc_among_ps) fun _ _ _ _ _ _ us hl => match us, hl with | [_, _], _ => rfl
  have m_among := PySem.W.mg_of X G a18
  have b_line := F_line.binds (ps := sc_line_ps) fun _ _ _ _ _ _ us hl => match us, hl with | [_], _ => rfl
  have m_line := PySem.W.mg_of X G a19
  have b_can := F_can.binds (ps := sc_can_ps) fun _ _ _ _ _ _ us hl => match us, hl with | [_], _ => rfl
  have m_can := PySem.W.mg_of X G a20
  have b_isans := F_isans.binds (ps := sc_isans_ps) fun _ _ _ _ _ _ us hl => match us, hl with | [_], _ => rfl
  have m_isans := PySem.W.mg_of X G a21
  have b_lnext := F_lnext.binds (ps := sc_lnext_ps) fun _ _ _ _ _ _ us hl => match us, hl with | [_], _ => rfl
  have m_lnext := PySem.W.mg_of X G a22
  have b_alike := F_alike.binds (ps := sc_alike_ps) fun _ _ _ _ _ _ us hl => match us, hl with | [_, _], _ => rfl
  have m_alike := PySem.W.mg_of X G a23
  have B : Blt mg := ⟨PySem.W.mg_none_of X G z0, PySem.W.mg_none_of X G z1, PySem.W.mg_none_of X G z2, PySem.W.mg_none_of X G z3, PySem.W.mg_none_of X G z4, PySem.W.mg_none_of X G z5, PySem.W.mg_none_of X G z6, PySem.W.mg_none_of X G z7, PySem.W.mg_none_of X G z8, PySem.W.mg_none_of X G z9⟩
  refine ⟨PySem.W.fnOf "law" "law" (defArgs st_law) (defBody st_law) (defScope st_law) .none kV24 dc24 pm24 an24 cd24 ct24, fun s v => .of_eq rfl, fun base _ _ => ?_⟩
  have g_inner : Got l.prog w K mg base 1 "inner" sc_inner_ps spInner := ⟨f1, _, ok_inner F_inner, m_inner, F_inner.kp, b_inner⟩
  have g_path : Got l.prog w K mg base 1 "path_of" sc_path_ps spPath := ⟨f0, _, ok_path B F_path, m_path, F_path.kp, b_path⟩
  have g_at : Got l.prog w K mg base 2 "at_place" sc_at_ps spAt := ⟨f2, _, ok_at B g_inner F_at, m_at, F_at.kp, b_at⟩
  have g_hasr : Got l.prog w K mg base 1 "has_rule" sc_hasr_ps spHas := ⟨f4, _, ok_hasr F_hasr, m_hasr, F_hasr.kp, b_hasr⟩
  have g_cango : Got l.prog w K mg base 3 "can_go" sc_cango_ps spCango := ⟨f3, _, ok_cango g_at g_hasr F_cango, m_cango, F_cango.kp, b_cango⟩
  have g_iiu : Got l.prog w K mg base 1 "inner_in_use" sc_iiu_ps spIiu := ⟨f8, _, ok_iiu F_iiu, m_iiu, F_iiu.kp, b_iiu⟩
  have g_piu : Got l.prog w K mg base 2 "place_in_use" sc_piu_ps spPiu := ⟨f7, _, ok_piu B g_inner g_hasr g_iiu F_piu, m_piu, F_piu.kp, b_piu⟩
  have g_firstu : Got l.prog w K mg base 2 "first_unanswered" sc_firstu_ps spFirst := ⟨f6, _, ok_firstu g_path F_firstu, m_firstu, F_firstu.kp, b_firstu⟩
  have g_next : Got l.prog w K mg base 3 "next_place" sc_next_ps spNext := ⟨f5, _, ok_next g_firstu g_piu F_next, m_next, F_next.kp, b_next⟩
  have g_feed : Got l.prog w K mg base 1 "_law_feed" sc_feed_ps (spFeed K) := ⟨f9, _, ok_feed B F_feed, m_feed, F_feed.kp, b_feed⟩
  have g_take : Got l.prog w K mg base 1 "_law_take" sc_take_ps spTake := ⟨f10, _, ok_take F_take, m_take, F_take.kp, b_take⟩
  have g_whole : Got l.prog w K mg base 2 "_law_whole" sc_whole_ps spWhole := ⟨f11, _, ok_whole g_take F_whole, m_whole, F_whole.kp, b_whole⟩
  have g_leaf : Got l.prog w K mg base 3 "_law_leaf" sc_leaf_ps spLeaf := ⟨f12, _, ok_leaf g_take g_whole F_leaf, m_leaf, F_leaf.kp, b_leaf⟩
  have g_any : ∀ n : Nat, Got l.prog w K mg base (2 * n + 4) "_law_any" sc_any_ps (spAny n) := fun n => by
    induction n with
    | zero => exact ⟨f14, _, no_any, m_any, F_any.kp, b_any⟩
    | succ n ih =>
      have g_headed : Got l.prog w K mg base (2 * n + 5) "_law_headed" sc_headed_ps (spHeaded (n + 1)) := ⟨f13, _, ok_headed g_whole g_leaf ih F_headed, m_headed, F_headed.kp, b_headed⟩
      exact ⟨f14, _, ok_any g_take g_leaf g_headed ih F_any, m_any, F_any.kp, b_any⟩
  have g_halted : Got l.prog w K mg base 4 "_law_halted" sc_halted_ps spHalted := ⟨f15, _, ok_halted g_take g_whole g_leaf F_halted, m_halted, F_halted.kp, b_halted⟩
  have g_wrapped : Got l.prog w K mg base 5 "_law_wrapped" sc_wrapped_ps spAround := ⟨f16, _, ok_wrapped g_take g_whole g_leaf g_halted F_wrapped, m_wrapped, F_wrapped.kp, b_wrapped⟩
  have g_answer : ∀ n : Nat, Got l.prog w K mg base (n + 4) "_law_answer" sc_answer_ps (spAns n) := fun n => by
    induction n with
    | zero => exact ⟨f17, _, no_answer, m_answer, F_answer.kp, b_answer⟩
    | succ n ih => exact ⟨f17, _, ok_answer g_take g_whole g_leaf ih F_answer, m_answer, F_answer.kp, b_answer⟩
  have g_among : Got l.prog w K mg base 7 "_law_among" sc_among_ps spAround := ⟨f18, _, ok_among g_take g_leaf g_halted (g_answer 2) F_among, m_among, F_among.kp, b_among⟩
  have g_line : Got l.prog w K mg base 50 "_law_line" sc_line_ps spLine := ⟨f19, _, ok_line B g_take (g_any 21) g_wrapped g_among F_line, m_line, F_line.kp, b_line⟩
  have g_can : Got l.prog w K mg base 1 "_law_can" sc_can_ps spHas := ⟨f20, _, ok_can F_can, m_can, F_can.kp, b_can⟩
  have g_isans : ∀ n : Nat, Got l.prog w K mg base (n + 1) "_law_is_answer" sc_isans_ps (spIsans n) := fun n => by
    induction n with
    | zero => exact ⟨f21, _, no_isans, m_isans, F_isans.kp, b_isans⟩
    | succ n ih => exact ⟨f21, _, ok_isans ih F_isans, m_isans, F_isans.kp, b_isans⟩
  have g_lnext : Got l.prog w K mg base 42 "_law_next" sc_lnext_ps spNext := ⟨f22, _, ok_lnext B (g_isans 40) g_can F_lnext, m_lnext, F_lnext.kp, b_lnext⟩
  have g_al0 : Got l.prog w K mg base 1 "_law_alike" sc_alike_ps (spAlike 0) := ⟨f23, _, no_alike, m_alike, F_alike.kp, b_alike⟩
  have g_al1 : Got l.prog w K mg base 2 "_law_alike" sc_alike_ps (spAlike 1) := ⟨f23, _, ok_alike1 B g_al0 F_alike, m_alike, F_alike.kp, b_alike⟩
  have g_al2 : Got l.prog w K mg base 3 "_law_alike" sc_alike_ps (spAlike 2) := ⟨f23, _, ok_alike2 B g_al1 F_alike, m_alike, F_alike.kp, b_alike⟩
  exact ok_law g_take g_feed (g_any 29) g_line g_lnext g_next g_al2 g_cango F_law
theorem walk {l : PySem.W.OpenLaw} {q : Program} {loose : List Str} {XP : (Str → Option Value) → Heap → Prop} {YP : World → Heap → Prop} {d : DefRec} {K : Params → PySem.W.Frag} (hn : l.most = some 63) (hdf : d.params.defaults = [])
    (hY : ∀ (w : World) (h : Heap), YP w h → (K w.params).In h)
    (F : ∀ (w : World) (mg : Str → Option Value) (fa : Addr) (h : Heap), (K w.params).In h → h.Ns mainGlobals mg → mg d.name = some (.ref fa) →
      ∃ fd : FuncData, (∀ (s : Shared) (u : Value), BindsTo s fd ⟨[u], []⟩ [("_law_script", u)]) ∧ ∀ base : Heap, (K w.params).In base → base.Ns mainGlobals mg → FnOk l.prog w (K w.params) mg base CX0 110 fa fd ["_law_script"] (spLaw (K w.params))) :
    PySem.W.WalkO q loose XP YP l.row.toRowW d [] (fun f vs => PySem.call f vs) :=
  L2.walk_of (n := 63) (k := 110) (x := "_law_script") (CX := fun _ => CX0) (sp := fun w => spLaw (K w.params)) hn (by decide) hdf ⟨rfl, by decide, by decide⟩ hY F (fun _ _ a ns hl _ hS => ⟨a, ns, rfl, hS, hl, fun _ => rfl⟩) fun _ _ _ _ _ z => z
end KB
open PySem PySem.W PyProof.Rows
set_option maxRecDepth 100000 in
set_option maxHeartbeats 0 in
theorem PySem.Challenge.cw_kindbags_k17_the_next_place_holds : PySem.Challenge.rw_kindbags_k17_the_next_place.Holds := by
  w_on; o_law; k_head; (case hw => w_witness2)
  k_fill
  refine KB.walk (l := PySem.Challenge.rw_kindbags_k17_the_next_place) rfl rfl (fun w h Y => PySem.W.kIn_of Y) ?F
  case F =>
    intro w mg fa h KX G hmg
    refine' KB.all_mk KX G hmg ?a0 ?l0 ?c0 ?k0 ?a1 ?l1 ?c1 ?k1 ?a2 ?l2 ?c2 ?k2 ?a3 ?l3 ?c3 ?k3 ?a4 ?l4 ?c4 ?k4 ?a5 ?l5 ?c5 ?k5 ?a6 ?l6 ?c6 ?k6 ?a7 ?l7 ?c7 ?k7 ?a8 ?l8 ?c8 ?k8 ?a9 ?l9 ?c9 ?k9 ?a10 ?l10 ?c10 ?k10 ?a11 ?l11 ?c11 ?k11 ?a12 ?l12 ?c12 ?k12 ?a13 ?l13 ?c13 ?k13 ?a14 ?l14 ?c14 ?k14 ?a15 ?l15 ?c15 ?k15 ?a16 ?l16 ?c16 ?k16 ?a17 ?l17 ?c17 ?k17 ?a18 ?l18 ?c18 ?k18 ?a19 ?l19 ?c19 ?k19 ?a20 ?l20 ?c20 ?k20 ?a21 ?l21 ?c21 ?k21 ?a22 ?l22 ?c22 ?k22 ?a23 ?l23 ?c23 ?k23 ?a24 ?l24 ?c24 ?k24 ?z0 ?z1 ?z2 ?z3 ?z4 ?z5 ?z6 ?z7 ?z8 ?z9
    (case a0 => k_is); (case l0 => k_is); (case c0 => k_is); (case k0 => k_is)
    (case a1 => k_is); (case l1 => k_is); (case c1 => k_is); (case k1 => k_is)
    (case a2 => k_is); (case l2 => k_is); (case c2 => k_is); (case k2 => k_is)
    (case a3 => k_is); (case l3 => k_is); (case c3 => k_is); (case k3 => k_is)
    (case a4 => k_is); (case l4 => k_is); (case c4 => k_is); (case k4 => k_is)
    (case a5 => k_is); (case l5 => k_is); (case c5 => k_is); (case k5 => k_is)
    (case a6 => k_is); (case l6 => k_is); (case c6 => k_is); (case k6 => k_is)
    (case a7 => k_is); (case l7 => k_is); (case c7 => k_is); (case k7 => k_is)
    (case a8 => k_is); (case l8 => k_is); (case c8 => k_is); (case k8 => k_is)
    (case a9 => k_is); (case l9 => k_is); (case c9 => k_is); (case k9 => k_is)
    (case a10 => k_is); (case l10 => k_is); (case c10 => k_is); (case k10 => k_is)
    (case a11 => k_is); (case l11 => k_is); (case c11 => k_is); (case k11 => k_is)
    (case a12 => k_is); (case l12 => k_is); (case c12 => k_is); (case k12 => k_is)
    (case a13 => k_is); (case l13 => k_is); (case c13 => k_is); (case k13 => k_is)
    (case a14 => k_is); (case l14 => k_is); (case c14 => k_is); (case k14 => k_is)
    (case a15 => k_is); (case l15 => k_is); (case c15 => k_is); (case k15 => k_is)
    (case a16 => k_is); (case l16 => k_is); (case c16 => k_is); (case k16 => k_is)
    (case a17 => k_is); (case l17 => k_is); (case c17 => k_is); (case k17 => k_is)
    (case a18 => k_is); (case l18 => k_is); (case c18 => k_is); (case k18 => k_is)
    (case a19 => k_is); (case l19 => k_is); (case c19 => k_is); (case k19 => k_is)
    (case a20 => k_is); (case l20 => k_is); (case c20 => k_is); (case k20 => k_is)
    (case a21 => k_is); (case l21 => k_is); (case c21 => k_is); (case k21 => k_is)
    (case a22 => k_is); (case l22 => k_is); (case c22 => k_is); (case k22 => k_is)
    (case a23 => k_is); (case l23 => k_is); (case c23 => k_is); (case k23 => k_is)
    (case a24 => k_is); (case l24 => k_is); (case c24 => k_is); (case k24 => k_is)
    (case z0 => k_is)
    (case z1 => k_is)
    (case z2 => k_is)
    (case z3 => k_is)
    (case z4 => k_is)
    (case z5 => k_is)
    (case z6 => k_is)
    (case z7 => k_is)
    (case z8 => k_is)
    (case z9 => k_is)
