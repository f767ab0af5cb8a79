import PyProof.Rows.All
import Wide.All
import OpenK.AllK
import Wide.FinOn
import Lean
import PyProof.EqAt
import PyProof.EqKinds
import PyProof.TupleCall
import PySem.Challenge.RW_kindbags_k04_put_in
set_option Elab.async false
set_option linter.all false
set_option maxRecDepth 100000
namespace L2
open PySem PySem.Spec PyProof.Rows
/-- a key: an int or a str -/
abbrev Key := Sum Int Str
def keyIs : Key → Value → Bool
  | .inl k, v => Value.isInt k v
  | .inr x, v => Value.isStrOf x v
def keyH (w : World) : Key → Int
  | .inl k => hashInt k
  | .inr x => hashStr w x
theorem keyIs_shape : ∀ {k : Key} {v : Value}, keyIs k v = true → (∃ i t, k = Sum.inl i ∧ v = Value.int i t) ∨ (∃ x t, k = Sum.inr x ∧ v = Value.str x t)
  | .inl i, v, h => by
    obtain ⟨t, e⟩ := Value.isInt_shape (k := i) (v := v) h
    exact .inl ⟨i, t, rfl, e⟩
  | .inr x, v, h => by
    obtain ⟨t, e⟩ := Value.isStrOf_shape (x := x) (v := v) h
    exact .inr ⟨x, t, rfl, e⟩
theorem keyIs_int (i : Int) (t : Tok) : keyIs (.inl i) (.int i t) = true := by simp [keyIs, Value.isInt]
theorem keyIs_str (x : Str) (t : Tok) : keyIs (.inr x) (.str x t) = true := by simp [keyIs, Value.isStrOf]
theorem key_ll (a b : Int) : decide ((Sum.inl a : Key) = Sum.inl b) = (a == b) := by
  by_cases e : a = b
  · subst e; simp
  · have h : ¬ (Sum.inl a : Key) = Sum.inl b := fun q => e (Sum.inl.inj q)
    rw [decide_eq_false h]
    exact (beq_eq_false_iff_ne.mpr e).symm
theorem key_rr (a b : Str) : decide ((Sum.inr a : Key) = Sum.inr b) = decide (a = b) := by
  by_cases e : a = b
  · subst e; simp
  · have h : ¬ (Sum.inr a : Key) = Sum.inr b := fun q => e (Sum.inr.inj q)
    rw [decide_eq_false h, decide_eq_false e]
theorem key_lr (a : Int) (b : Str) : decide ((Sum.inl a : Key) = Sum.inr b) = false := decide_eq_false (fun q => nomatch q)
theorem key_rl (a : Str) (b : Int) : decide ((Sum.inr a : Key) = Sum.inl b) = false := decide_eq_false (fun q => nomatch q)
def mixKind (prog : Program) (w : World) : PySem.KeyKind prog w Key where
  is := keyIs
  hash := keyH w
  inj := fun v a b ha hb => by
    rcases keyIs_shape ha with ⟨i, t, rfl, rfl⟩ | ⟨x, t, rfl, rfl⟩
    · rcases keyIs_shape hb with ⟨j, u, rfl, e⟩ | ⟨y, u, rfl, e⟩
      · injection e with e1 _; rw [e1]
      · exact nomatch e
    · rcases keyIs_shape hb with ⟨j, u, rfl, e⟩ | ⟨y, u, rfl, e⟩
      · exact nomatch e
      · injection e with e1 _; rw [e1]
  byValue := fun k v h => by
    rcases keyIs_shape h with ⟨i, t, rfl, rfl⟩ | ⟨x, t, rfl, rfl⟩ <;> rfl
  pyHash := fun hv h => by
    rcases keyIs_shape hv with ⟨i, t, rfl, rfl⟩ | ⟨x, t, rfl, rfl⟩
    · exact wpAny_pyHash_int h
    · exact wpAny_pyHash_str h
  eqBool := fun hu hv h => by
    rcases keyIs_shape hu with ⟨i, t, rfl, rfl⟩ | ⟨x, t, rfl, rfl⟩
    · rcases keyIs_shape hv with ⟨j, u, rfl, rfl⟩ | ⟨y, u, rfl, rfl⟩
      · rw [key_ll] at h; exact wpAny_eqBool_int h
      · rw [key_lr] at h; exact SeqAt.EqAt.int_str i t y u _ _ _ _ h
    · rcases keyIs_shape hv with ⟨j, u, rfl, rfl⟩ | ⟨y, u, rfl, rfl⟩
      · rw [key_rl] at h; exact SeqAt.EqAt.str_int x t j u _ _ _ _ h
      · rw [key_rr] at h; exact wpAny_eqBool_str h
  «strs» := fun k x t v h => by
    rcases keyIs_shape h with ⟨i, u, rfl, e⟩ | ⟨y, u, rfl, e⟩
    · exact nomatch e
    · injection e with e1 _
      subst e1
      cases v <;> rfl
theorem mixKind_int (prog : Program) (w : World) (i : Int) (t : Tok) : (mixKind prog w).is (.inl i) (.int i t) = true := keyIs_int i t
theorem mixKind_str (prog : Program) (w : World) (x : Str) (t : Tok) : (mixKind prog w).is (.inr x) (.str x t) = true := keyIs_str x t
end L2
namespace L2
open PySem PySem.Spec PyProof.Rows
/-- a value, without the heap -/
inductive V where
  | non | bl (b : Bool) | int (i : Int) | str (x : Str) | byt (b : Array UInt8) | flt (b : UInt64) | ref (a : Addr) | ty (n : String)
  deriving DecidableEq
def RelV : V → Value → Prop
  | .non, u => u = Value.none
  | .bl b, u => u = Value.bool b
  | .int i, u => ∃ t, u = Value.int i t
  | .str x, u => ∃ t, u = Value.str x t
  | .byt b, u => ∃ t, u = Value.bytes b t
  | .flt b, u => ∃ t, u = Value.float b t
  | .ref a, u => u = Value.ref a
  | .ty n, u => u = Value.type n
abbrev Vals : List V → List Value → Prop := Paired RelV
theorem Vals.length {xs : List V} {us : List Value} (r : Vals xs us) : xs.length = us.length := Paired.length r
theorem Vals.get : ∀ {xs : List V} {us : List Value} {i : Nat} {x : V}, Vals xs us → xs[i]? = some x → ∃ u, us[i]? = some u ∧ RelV x u
  | _, _, _, _, .nil, e => by simp at e
  | _, _, 0, _, .cons r _, e => by simp at e; subst e; exact ⟨_, rfl, r⟩
  | _, _, i + 1, x, .cons _ t, e => by
    obtain ⟨u, h1, h2⟩ := Vals.get (i := i) (x := x) t (by simpa using e)
    exact ⟨u, by simpa using h1, h2⟩
theorem Vals.set {x : V} {u : Value} (r : RelV x u) : ∀ {xs : List V} {us : List Value} (i : Nat), Vals xs us → Vals (xs.set i x) (us.set i u)
  | _, _, _, .nil => .nil
  | _, _, 0, .cons _ t => .cons r t
  | _, _, i + 1, .cons q t => .cons q (Vals.set r i t)
theorem Vals.append : ∀ {xs ys : List V} {us ws : List Value}, Vals xs us → Vals ys ws → Vals (xs ++ ys) (us ++ ws)
  | _, _, _, _, .nil, s => s
  | _, _, _, _, .cons r t, s => .cons r (Vals.append t s)
theorem Vals.take : ∀ {xs : List V} {us : List Value} (n : Nat), Vals xs us → Vals (xs.take n) (us.take n)
  | _, _, 0, _ => .nil
  | _, _, _ + 1, .nil => .nil
  | _, _, n + 1, .cons r t => .cons r (Vals.take n t)
theorem Vals.drop : ∀ {xs : List V} {us : List Value} (n : Nat), Vals xs us → Vals (xs.drop n) (us.drop n)
  | _, _, 0, r => r
  | _, _, _ + 1, .nil => .nil
  | _, _, n + 1, .cons _ t => Vals.drop n t
def RelO : Option V → Option Value → Prop
  | some v, some u => RelV v u
  | none, none => True
  | _, _ => False
def KV {κ : Type} : List (κ × V) → List (κ × Value) → Prop := Paired fun (p : κ × V) (q : κ × Value) => p.1 = q.1 ∧ RelV p.2 q.2
/-- a key of a dict (00_mix): an int or a text -/
def kV : Key → V
  | .inl i => .int i
  | .inr x => .str x
/-- what stands at a tracked address -/
inductive HO where
  /-- a list -/
  | lst (xs : List V)
  /-- a tuple (never changes) -/
  | tup (xs : List V)
  /-- a dict whose keys are ints and texts; one whose keys are tuples of ints and texts (the empty one is both) -/
  | dK (kvs : List (Key × V)) | dT (kvs : List (List Key × V))
  /-- a set of ints: its members, its size -/
  | set (S : Int → Bool) (n : Nat)
  /-- an instance of the class at C, its dict at dx, its attributes -/
  | ins (C dx : Addr) (fs : List (Str × V))
  /-- the dict of the instance at x -/
  | own (x : Addr)
  /-- the dict of an exception -/
  | xd (fs : List (Str × V))
  /-- a bound method, f of x -/
  | met (f x : Addr)
  /-- a range object lo, lo + 1, .. below hi -/
  | rng (lo hi : Int)
  /-- a thing that is known to the object (the script; a dict while a loop walks it): read, never written while it is so -/
  | frz (o : Obj) (u : HO)
  /-- a code object's table -/
  | tbl (ps : Array Value)
  /-- any other thing, by what is true of its one object (a def of one's own: SetO a S n := HO.ext fun h => ..) -/
  | ext (φ : Heap → Prop)
abbrev Hp := Addr → Option HO
def upd (H : Hp) (a : Addr) (o : HO) : Hp := fun b => if b = a then some o else H b
theorem upd_same {H : Hp} {a : Addr} {o : HO} : upd H a o a = some o := by unfold upd; rw [if_pos rfl]
theorem upd_ne {H : Hp} {a b : Addr} {o : HO} (h : b ≠ a) : upd H a o b = H b := by unfold upd; rw [if_neg h]
/-- two objects of different content stand apart -/
theorem ne_of {H : Hp} {a b : Addr} {o u : HO} (h : H a = some o) (h' : H b = some u) (d : o ≠ u) : a ≠ b := by
  intro e; subst e; rw [h] at h'; exact d (Option.some.inj h')
theorem ne_of_none {H : Hp} {a b : Addr} {o : HO} (h : H a = some o) (h' : H b = none) : a ≠ b := by
  intro e; subst e; rw [h] at h'; cases h'
section
variable (P : Program) (w : World)
def ObjOk (H : Hp) (h : Heap) (a : Addr) : HO → Prop
  | .lst xs => xs.length ≤ sizeLine ∧ ∃ (its : List Value) (n : Nat), Vals xs its ∧ h.get? a = some { cls := .type "list", data := .seq its.toArray n }
  | .tup xs => xs.length ≤ sizeLine ∧ ∃ its : List Value, Vals xs its ∧ IsTup h a its.toArray
  | .dK kvs => kvs.length ≤ sizeLine ∧ (a == sysModules) = false ∧ ∃ vs, KV kvs vs ∧ h.DictOf (mixKind P w) a vs
  | .dT kvs => kvs.length ≤ sizeLine ∧ (a == sysModules) = false ∧ ∃ xs : List (List Key × Addr × Value),
      Paired (fun (p : List Key × V) (q : List Key × Addr × Value) => p.1 = q.1 ∧ H q.2.1 = some (.tup (p.1.map kV)) ∧ RelV p.2 q.2.2) kvs xs ∧
      ∃ o es ep, h.get? a = some o ∧ o.ExactDict ∧ o.data = .dict es ep ∧ es.toList = xs.map (entryOfKey (tupleKind (mixKind P w))) ∧ (xs.map (·.1)).Nodup
  | .set S n => h.SetOf (intKind P w) a S n
  | .ins C dx fs => H dx = some (.own a) ∧ fs.length ≤ 1000 ∧ dx ≠ a ∧ h.get? a = some (PySem.W.instObj C dx) ∧
      ∃ mA, h.Ns1 dx mA ∧ (∀ f, RelO (fs.lookup f) (mA f)) ∧ PySem.Within mA (fs.map (·.1))
  | .own _ => ∃ o, h.get? a = some o
  | .xd fs => ∃ mA, h.Ns1 a mA ∧ ∀ f, RelO (fs.lookup f) (mA f)
  | .rng lo hi => ∃ t u v, h.get? a = some { cls := .type "range", data := .fields #[.int lo t, .int hi u, .int 1 v] }
  | .frz o u => h.get? a = some o ∧ ObjOk H h a u
  | .tbl ps => h.get? a = some { cls := .none, data := .fields ps }
  | .met f x => h.get? a = some (PySem.W.methodObj (.ref f) (.ref x))
  | .ext φ => φ h ∧ (∃ o, h.get? a = some o) ∧ ∀ h1 h2 : Heap, φ h1 → (∀ o, h1.get? a = some o → h2.get? a = some o) → φ h2
/-- the abstract heap is held -/
def HOk (H : Hp) (h : Heap) : Prop := ∀ a o, H a = some o → ObjOk P w H h a o
end
section
variable {P : Program} {w : World} {H H' : Hp} {h h' : Heap} {a : Addr} {o : HO}
theorem ObjOk.lt (x : ObjOk P w H h a o) : a < h.objs.size := by
  cases o with
  | lst xs => obtain ⟨_, _, _, _, e⟩ := x; exact Heap.lt_size e
  | tup xs => obtain ⟨_, _, _, p⟩ := x; exact p.lt
  | dK kvs => obtain ⟨_, _, _, _, o, _, _, e, _⟩ := x; exact Heap.lt_size e
  | dT kvs => obtain ⟨_, _, _, _, o, _, _, e, _⟩ := x; exact Heap.lt_size e
  | set S n => obtain ⟨o, _, _, _, e, _⟩ := x; exact Heap.lt_size e
  | ins C dx fs => obtain ⟨_, _, _, e, _⟩ := x; exact Heap.lt_size e
  | own y => obtain ⟨_, e⟩ := x; exact Heap.lt_size e
  | xd fs => obtain ⟨_, ⟨_, _, _, e, _⟩, _⟩ := x; exact Heap.lt_size e
  | rng lo hi => obtain ⟨_, _, _, e⟩ := x; exact Heap.lt_size e
  | frz ob u => obtain ⟨e, _⟩ := x; exact Heap.lt_size e
  | tbl ps => exact Heap.lt_size (show h.get? a = some _ from x)
  | met f y => exact Heap.lt_size (show h.get? a = some _ from x)
  | ext φ => obtain ⟨_, ⟨_, e⟩, _⟩ := x; exact Heap.lt_size e
theorem Paired.mapP {α β : Type} {F G : α → β → Prop} : ∀ {l₁ : List α} {l₂ : List β}, Paired F l₁ l₂ → (∀ a b, F a b → G a b) → Paired G l₁ l₂
  | _, _, .nil, _ => .nil
  | _, _, .cons r t, f => .cons (f _ _ r) (Paired.mapP t f)
/-- what an object's description leans on: its own object, its own dict, the tuples -/
theorem ObjOk.stay (x : ObjOk P w H h a o) (k : ∀ b u, (b = a ∨ H b = some (.own a)) → h.get? b = some u → h'.get? b = some u)
    (ho : ∀ b, H b = some (.own a) → H' b = some (.own a)) (ht : ∀ b xs, H b = some (.tup xs) → H' b = some (.tup xs)) : ObjOk P w H' h' a o := by
  induction o with
  | lst xs => obtain ⟨z, its, n, r, e⟩ := x; exact ⟨z, its, n, r, k _ _ (.inl rfl) e⟩
  | tup xs => obtain ⟨z, its, r, ob, e, c⟩ := x; exact ⟨z, its, r, ob, k _ _ (.inl rfl) e, c⟩
  | dK kvs => obtain ⟨z, y, vs, r, ob, es, ep, e, c⟩ := x; exact ⟨z, y, vs, r, ob, es, ep, k _ _ (.inl rfl) e, c⟩
  | dT kvs =>
    obtain ⟨z, y, xs, r, ob, es, ep, e, c⟩ := x
    exact ⟨z, y, xs, Paired.mapP r fun p q z => ⟨z.1, ht _ _ z.2.1, z.2.2⟩, ob, es, ep, k _ _ (.inl rfl) e, c⟩
  | set S n => obtain ⟨ob, es, ep, t, e, c⟩ := x; exact ⟨ob, es, ep, t, k _ _ (.inl rfl) e, c⟩
  | ins C dx fs =>
    obtain ⟨d, z, ne, e, mA, ⟨od, es, ep, e2, c⟩, r⟩ := x
    exact ⟨ho _ d, z, ne, k _ _ (.inl rfl) e, mA, ⟨od, es, ep, k _ _ (.inr d) e2, c⟩, r⟩
  | own y => obtain ⟨ob, e⟩ := x; exact ⟨ob, k _ _ (.inl rfl) e⟩
  | xd fs => obtain ⟨mA, ⟨od, es, ep, e, c⟩, r⟩ := x; exact ⟨mA, ⟨od, es, ep, k _ _ (.inl rfl) e, c⟩, r⟩
  | rng lo hi => obtain ⟨t, u, v, e⟩ := x; exact ⟨t, u, v, k _ _ (.inl rfl) e⟩
  | frz ob u ih => obtain ⟨e, q⟩ := x; exact ⟨k _ _ (.inl rfl) e, ih q⟩
  | tbl ps =>
    have e : h.get? a = some { cls := .none, data := .fields ps } := x
    show h'.get? a = some { cls := .none, data := .fields ps }
    exact k a _ (.inl rfl) e
  | met f y =>
    have e : h.get? a = some (PySem.W.methodObj (.ref f) (.ref y)) := x
    show h'.get? a = some (PySem.W.methodObj (.ref f) (.ref y))
    exact k a _ (.inl rfl) e
  | ext φ => obtain ⟨p, ⟨o, e⟩, st⟩ := x; exact ⟨st _ _ p fun o q => k _ _ (.inl rfl) q, ⟨o, k _ _ (.inl rfl) e⟩, st⟩
theorem HOk.lt (x : HOk P w H h) (e : H a = some o) : a < h.objs.size := (x a o e).lt
theorem HOk.fresh (x : HOk P w H h) (e : h.objs.size ≤ a) : H a = none := by
  cases q : H a with
  | none => rfl
  | some u => exact absurd (Nat.lt_of_lt_of_le (x.lt q) e) (Nat.lt_irrefl _)
/-- every object of the heap is kept -/
theorem HOk.kept (x : HOk P w H h) (k : ∀ b u, h.get? b = some u → h'.get? b = some u) : HOk P w H h' := fun a o e =>
  (x a o e).stay (fun b u _ q => k b u q) (fun _ q => q) fun _ _ q => q
/-- a new object is laid and tracked -/
theorem HOk.laid (x : HOk P w H h) (k : ∀ b u, h.get? b = some u → h'.get? b = some u) (hp : h.objs.size ≤ a) (new : ObjOk P w (upd H a o) h' a o) : HOk P w (upd H a o) h' := fun b u e => by
  have hn := x.fresh hp
  by_cases hb : b = a
  · subst hb; rw [upd_same] at e; cases e; exact new
  · rw [upd_ne hb] at e
    exact (x b u e).stay (fun c v _ q => k c v q) (fun c q => by rw [upd_ne (ne_of_none q hn)]; exact q) fun c xs q => by rw [upd_ne (ne_of_none q hn)]; exact q
end
/-- what may be read as u: it is u, or a known u -/
def Rd (H : Hp) (a : Addr) (u : HO) : Prop := H a = some u ∨ ∃ o, H a = some (.frz o u)
theorem Rd.ok {P : Program} {w : World} {H : Hp} {h : Heap} {a : Addr} {u : HO} (r : Rd H a u) (x : HOk P w H h) : ObjOk P w H h a u := by
  rcases r with r | ⟨o, r⟩
  · exact x a u r
  · obtain ⟨_, q⟩ := x a _ r
    exact q
/-- what may be written -/
def Mut : Option HO → Prop
  | some (.lst _) => True
  | some (.dK _) => True
  | some (.dT _) => True
  | some (.set _ _) => True
  | some (.ins _ _ _) => True
  | some (.ext _) => True
  | _ => False
section
variable {P : Program} {w : World} {H : Hp} {h h' : Heap} {x e : Addr} {o' : HO}
/-- the object at e is changed: x itself, or the dict of the instance x -/
theorem HOk.write (ok : HOk P w H h) (mu : Mut (H x)) (he : e = x ∨ H e = some (.own x)) (k : ∀ b u, b ≠ e → h.get? b = some u → h'.get? b = some u) (heo : ∃ u, h'.get? e = some u)
    (new : ObjOk P w (upd H x o') h' x o') : HOk P w (upd H x o') h' := fun b u q => by
  have nown : ∀ c y, H c = some (.own y) → c ≠ x := fun c y r z => by subst z; rw [r] at mu; exact mu
  have ntup : ∀ c xs, H c = some (.tup xs) → c ≠ x := fun c xs r z => by subst z; rw [r] at mu; exact mu
  by_cases hb : b = x
  · subst hb; rw [upd_same] at q; cases q; exact new
  · rw [upd_ne hb] at q
    by_cases hbe : b = e
    · have q' : H b = some (.own x) := by
        rcases he with z | z
        · exact absurd (hbe.trans z) hb
        · rw [hbe]; exact z
      rw [q] at q'; cases q'
      obtain ⟨v, hv⟩ := heo
      exact ⟨v, by rw [hbe]; exact hv⟩
    · refine (ok b u q).stay (fun c v hc r => k c v ?_ r) (fun c r => by rw [upd_ne (nown c b r)]; exact r) fun c xs r => by rw [upd_ne (ntup c xs r)]; exact r
      rcases hc with rfl | hc
      · exact hbe
      · rintro rfl
        rcases he with z | z
        · exact nown c b hc z
        · rw [hc] at z; cases z; exact hb rfl
end
structure Un (fs ex : List Addr) (H H' : Hp) (h h' : Heap) : Prop where
  keep : ∀ b o, h.get? b = some o → H b = none → b ∉ fs → b ∉ ex → h'.get? b = some o
  slot : ∀ b o, h.get? b = some o → H b = none → b ∈ fs → b ∉ ex → ∃ sl, h'.get? b = some { o with slots := sl }
  free : ∀ b o, h.get? b = some o → H b = none → b ∉ ex → H' b = none
  there : ∀ b o, h.get? b = some o → b ∉ ex → ∃ o', h'.get? b = some o'
  tups : ∀ b xs, H b = some (.tup xs) → H' b = some (.tup xs)
  frzs : ∀ b o u, H b = some (.frz o u) → H' b = some (.frz o u)
  tbls : ∀ b ps, H b = some (.tbl ps) → ∃ more, H' b = some (.tbl (ps ++ more))
section
variable {fs fs' ex ex' : List Addr} {H H1 H2 : Hp} {h h1 h2 h' : Heap} {a x e : Addr} {o : HO}
theorem Un.any (u : Un fs ex H H1 h h1) {b : Addr} {ob : Obj} (q : h.get? b = some ob) (n : H b = none) (hx : b ∉ ex) : ∃ sl, h1.get? b = some { ob with slots := sl } := by
  by_cases hb : b ∈ fs
  · exact u.slot b ob q n hb hx
  · exact ⟨ob.slots, u.keep b ob q n hb hx⟩
theorem Un.kept (k : ∀ b u, h.get? b = some u → h'.get? b = some u) : Un fs ex H H h h' :=
  ⟨fun b ob q _ _ _ => k b ob q, fun b ob q _ _ _ => ⟨ob.slots, k b ob q⟩, fun _ _ _ n _ => n, fun b ob q _ => ⟨ob, k b ob q⟩, fun _ _ q => q, fun _ _ _ q => q, fun _ ps q => ⟨#[], by rw [q]; simp⟩⟩
theorem Un.refl : Un fs ex H H h h := Un.kept fun _ _ q => q
theorem Un.laid (k : ∀ b u, h.get? b = some u → h'.get? b = some u) (hp : h.objs.size ≤ a) (hn : H a = none) : Un fs ex H (upd H a o) h h' where
  keep := fun b u q _ _ _ => k b u q
  slot := fun b u q _ _ _ => ⟨u.slots, k b u q⟩
  free := fun b u q n _ => by rw [upd_ne (Nat.ne_of_lt (Nat.lt_of_lt_of_le (Heap.lt_size q) hp))]; exact n
  there := fun b u q _ => ⟨u, k b u q⟩
  tups := fun b xs q => by rw [upd_ne (ne_of_none q hn)]; exact q
  frzs := fun b u xs q => by rw [upd_ne (ne_of_none q hn)]; exact q
  tbls := fun b ps q => ⟨#[], by rw [upd_ne (ne_of_none q hn), q]; simp⟩
theorem Un.write (mu : Mut (H x)) (he : e = x ∨ H e = some (.own x)) (k : ∀ b u, b ≠ e → h.get? b = some u → h'.get? b = some u) (heo : ∃ u, h'.get? e = some u) : Un fs ex H (upd H x o) h h' := by
  have hx : ∀ b, H b = none → b ≠ x := fun b n z => by subst z; rw [n] at mu; exact mu
  have hb : ∀ b, H b = none → b ≠ e := fun b n z => by
    subst z
    rcases he with r | r
    · exact hx b n r
    · rw [n] at r; cases r
  have hm : ∀ b u, H b = some u → ¬ Mut (some u) → b ≠ x := fun b u q nm z => by subst z; rw [q] at mu; exact nm mu
  refine ⟨fun b u q n _ _ => k b u (hb b n) q, fun b u q n _ _ => ⟨u.slots, k b u (hb b n) q⟩, fun b u q n _ => by rw [upd_ne (hx b n)]; exact n, fun b u q _ => ?_,
    fun b xs q => by rw [upd_ne (hm b _ q fun z => z)]; exact q, fun b u xs q => by rw [upd_ne (hm b _ q fun z => z)]; exact q, fun b ps q => ⟨#[], by rw [upd_ne (hm b _ q fun z => z), q]; simp⟩⟩
  by_cases hbe : b = e
  · subst hbe; exact heo
  · exact ⟨u, k b u hbe q⟩
end
def trk (h : Heap) (H : Hp) : List Addr := (List.range h.objs.size).filter fun a => (H a).isSome
def hidT (h : Heap) (H : Hp) : Heap := PySem.W.hideAll h (trk h H)
theorem hidT_size (h : Heap) (H : Hp) : (hidT h H).objs.size = h.objs.size := PySem.W.hideAll_size _ _
theorem hidT_get {h : Heap} {H : Hp} {b : Addr} {o : Obj} (e : h.get? b = some o) (n : H b = none) : (hidT h H).get? b = some o :=
  PySem.W.hideAll_get _ e fun hm => by
    have q : (H b).isSome = true := (List.mem_filter.mp hm).2
    rw [n] at q; simp at q
theorem of_hidT {h : Heap} {H : Hp} {b : Addr} {o : Obj} (e : (hidT h H).get? b = some o) : h.get? b = some o ∧ H b = none := by
  have e' : h.get? b = some o := PySem.W.of_hideAll (trk h H) e
  refine ⟨e', ?_⟩
  cases q : H b with
  | none => rfl
  | some x =>
    have hm : b ∈ trk h H := List.mem_filter.mpr ⟨List.mem_range.mpr (Heap.lt_size e'), by simp [q]⟩
    have z : (hidT h H).get? b = none := PySem.W.hideAll_none (trk h H) hm
    rw [z] at e; cases e
end L2
namespace L2
open PySem PySem.Spec PyProof.Rows
/-- the module's facts, over the base: the heap at the law's entry without what is tracked there -/
structure Mod (K : PySem.W.Frag) (mg : Str → Option Value) (base : Heap) : Prop where
  kin : K.In base
  glob : base.Ns mainGlobals mg
  blt : ∃ mb, base.Ns builtinsNs mb ∧ ∀ x : Str, x ≠ "__name__" → mb x = bootBuiltins x
  nolimit : base.NoLimit
/-- the context: a def's body (or a comprehension's block) running. base: fixed through the whole law; s₀, H₀: the entry; outer: the frames whose slots others may change (a def's callers); stack: all frames that run;
   ex: iterators that were made ahead of the entry and are walked here (a comprehension's); fn: the names whose cells were made at the entry (a def: all; a comprehension's block: its own); calm: not within an except suite; pn: pins that every state bears; xe: what is wanted of an exception that leaves the code -/
structure Cx where
  prog : Program
  w : World
  K : PySem.W.Frag
  mg : Str → Option Value
  base : Heap
  A : Around
  N : List Str
  s₀ : Shared
  H₀ : Hp
  env : Env
  outer : List Env
  stack : List Env
  ex : List Addr
  fn : Str → Bool
  calm : Bool
  pn : List (Addr × Obj)
  xe : Value → Shared → Prop
/-- the callers' frames -/
def frs (l : List Env) : List Addr := l.filterMap (·.frame)
abbrev Cx.fs (X : Cx) : List Addr := frs X.outer
def Vis (sc : Scope) (x : Str) : Prop := sc.names.lookup x = some .local ∨ sc.names.lookup x = some .cell ∨ sc.names.lookup x = some .free
def Loc (sc : Scope) (x : Str) : Prop := sc.names.lookup x = some .local ∨ sc.names.lookup x = some .cell
def Look (env : Env) (h : Heap) (m : Str → Option Value) (x : Str) (u : Value) : Prop :=
  (env.kindOf x = some .local ∧ m x = some u) ∨ ((env.kindOf x = some .cell ∨ env.kindOf x = some .free) ∧ ∃ c, env.cells.lookup x = some c ∧ h.IsCell c (some u))
structure Cx.Ok (X : Cx) : Prop where
  mod : Mod X.K X.mg X.base
  kind : X.env.scope.kind = .function
  glob : X.env.globals = mainGlobals
  blt : X.env.builtins = builtinsNs
  above : X.s₀.heap.objs.size ≤ X.env.locals
  inj : ∀ x y c, X.env.cells.lookup x = some c → X.env.cells.lookup y = some c → x = y
  has : ∀ x, (X.env.kindOf x = some .cell ∨ X.env.kindOf x = some .free) → ∃ c, X.env.cells.lookup x = some c
  cab : ∀ x c, X.fn x = true → X.env.cells.lookup x = some c → X.s₀.heap.objs.size ≤ c
  hd : X.calm = true → X.A.handled = none
  frames : X.A.frames = some X.stack
  stk : X.stack = X.outer ∨ (X.stack = X.env :: X.outer ∧ X.env.frame = some X.env.locals)
  exf : ∀ b ∈ X.ex, b ≠ X.env.locals ∧ ∀ x c, X.env.cells.lookup x = some c → c ≠ b
  bs : ∀ b o, X.base.get? b = some o → X.s₀.heap.get? b = some o ∧ X.H₀ b = none
  bsz : X.base.objs.size ≤ X.s₀.heap.objs.size
  noex : ∀ b o, X.base.get? b = some o → b ∉ X.ex
  exfs : ∀ b ∈ X.ex, b ∉ X.fs
  funs : X.s₀.heap.FunFrames X.base X.outer
  frf : ∀ b ∈ X.fs, X.H₀ b = none
structure Inv (X : Cx) (pins : List (Addr × Obj)) (σ : List (Option V)) (H : Hp) (s : Shared) : Prop where
  ok : X.Ok
  os : s.os = X.s₀.os
  bare : AllBare s.gens
  base : Un X.fs X.ex X.H₀ H X.s₀.heap s.heap
  loc : ∃ m, s.heap.Ns X.env.locals m ∧ ∀ (i : Nat) (x : Str) (v : V), X.N[i]? = some x → σ[i]? = some (some v) → Vis X.env.scope x → ∃ u, RelV v u ∧ Look X.env s.heap m x u
  cell : ∀ x c, X.env.cells.lookup x = some c → ∃ v, s.heap.IsCell c v
  free : H X.env.locals = none
  freeC : ∀ x c, X.env.cells.lookup x = some c → H c = none
  pin : ∀ p ∈ X.pn ++ pins, s.heap.get? p.1 = some p.2 ∧ H p.1 = none ∧ p.1 ≠ X.env.locals ∧ p.1 ∉ X.fs ∧ ∀ v, p.2.data ≠ .cell v
  hok : HOk X.prog X.w H s.heap
  len : σ.length = X.N.length
section
variable {X : Cx} {pins : List (Addr × Obj)} {σ : List (Option V)} {H H' : Hp} {s : Shared} {h' : Heap}
theorem Cx.Ok.nofr (ok : X.Ok) {b : Addr} {o : Obj} (e : X.base.get? b = some o) : b ∉ X.fs := fun hb => by
  have := (ok.funs.mem hb).1
  rw [e] at this; cases this
theorem Inv.bs (I : Inv X pins σ H s) : ∀ b o, X.base.get? b = some o → s.heap.get? b = some o ∧ H b = none := fun b o e =>
  ⟨I.base.keep b o (I.ok.bs b o e).1 (I.ok.bs b o e).2 (I.ok.nofr e) (I.ok.noex b o e), I.base.free b o (I.ok.bs b o e).1 (I.ok.bs b o e).2 (I.ok.noex b o e)⟩
theorem Inv.bk (I : Inv X pins σ H s) : ∀ b o, X.base.get? b = some o → s.heap.get? b = some o := fun b o e => (I.bs b o e).1
theorem Inv.mod (I : Inv X pins σ H s) : Mod X.K X.mg X.base := I.ok.mod
theorem Inv.kIn (I : Inv X pins σ H s) : X.K.In s.heap := I.ok.mod.kin.keeps I.bk
theorem Inv.lt (I : Inv X pins σ H s) : X.env.locals < s.heap.objs.size := let ⟨_, hn, _⟩ := I.loc; hn.lt
theorem Inv.sz (I : Inv X pins σ H s) : X.s₀.heap.objs.size ≤ s.heap.objs.size := Nat.le_trans I.ok.above (Nat.le_of_lt I.lt)
theorem Inv.nofs (I : Inv X pins σ H s) {a : Addr} (h : s.heap.objs.size ≤ a) : a ∉ X.fs := fun hb => by
  obtain ⟨_, o, ho, _⟩ := I.ok.funs.mem hb
  exact absurd (Nat.lt_of_lt_of_le (Heap.lt_size ho) (Nat.le_trans I.sz h)) (Nat.lt_irrefl _)
theorem Inv.cne (I : Inv X pins σ H s) : ∀ x c, X.env.cells.lookup x = some c → c ≠ X.env.locals := fun x c e z => by
  obtain ⟨v, o, ho, hd⟩ := I.cell x c e
  obtain ⟨m, ⟨o', es, ep, ho', hd', _⟩, _⟩ := I.loc
  rw [z, ho'] at ho; cases ho; rw [hd'] at hd; cases hd
theorem Inv.funs (I : Inv X pins σ H s) : s.heap.FunFrames X.base X.outer := by
  have all : ∀ (l : List Env), (∀ b ∈ frs l, b ∈ X.fs) → X.s₀.heap.FunFrames X.base l → s.heap.FunFrames X.base l := by
    intro l
    induction l with
    | nil => intro _ _; trivial
    | cons env r ih =>
      intro hs hl
      obtain ⟨hk, ⟨L, o, hf, hn, ho, hd⟩, hr⟩ := hl
      have hL : L ∈ X.fs := hs L (by unfold frs; rw [List.filterMap_cons, hf]; exact List.mem_cons_self)
      obtain ⟨sl, e⟩ := I.base.slot L o ho (I.ok.frf L hL) hL fun z => I.ok.exfs L z hL
      exact ⟨hk, ⟨L, _, hf, hn, e, hd⟩, ih (fun b hb => hs b (by unfold frs; rw [List.filterMap_cons, hf]; exact List.mem_cons_of_mem _ hb)) hr⟩
  exact all X.outer (fun _ hb => hb) I.ok.funs
/-- the frames that run, for a call -/
theorem Inv.stack (I : Inv X pins σ H s) : s.heap.FunFrames X.base X.stack := by
  rcases I.ok.stk with e | ⟨e, hf⟩
  · rw [e]; exact I.funs
  · rw [e]
    obtain ⟨m, hn, _⟩ := I.loc
    refine .cons (by rw [I.ok.kind]; decide) hf hn ?_ I.funs
    exact Heap.get?_none_of_le (Nat.le_trans I.ok.bsz I.ok.above)
theorem Inv.stkSub (I : Inv X pins σ H s) : ∀ b ∈ frs X.stack, b ∈ X.env.locals :: X.fs := fun b hb => by
  rcases I.ok.stk with e | ⟨e, hf⟩
  · rw [e] at hb; exact List.mem_cons_of_mem _ hb
  · rw [e] at hb
    unfold frs at hb
    rw [List.filterMap_cons, hf] at hb
    exact hb
theorem Inv.stkFree (I : Inv X pins σ H s) : ∀ b ∈ frs X.stack, H b = none := fun b hb => by
  rcases List.mem_cons.mp (I.stkSub b hb) with e | hb
  · rw [e]; exact I.free
  · obtain ⟨_, o, ho, _⟩ := I.ok.funs.mem hb
    exact I.base.free b o ho (I.ok.frf b hb) fun z => I.ok.exfs b z hb
/-- THE STEP: the untracked objects but the frame and the records at ch are kept (the callers' frames up to slots), the frame's map is kept, the new abstract heap is held -/
theorem Inv.step {g' : Array GenState} {t' : Nat} {d' : Drawn} {ch : List Addr} (I : Inv X pins σ H s)
    (hch : ∀ b ∈ ch, (b ∈ X.ex ∨ X.s₀.heap.objs.size ≤ b) ∧ b ≠ X.env.locals ∧ (∀ x c, X.env.cells.lookup x = some c → c ≠ b) ∧ ∀ p ∈ X.pn ++ pins, p.1 ≠ b)
    (keep : ∀ b o, b ≠ X.env.locals → b ∉ X.fs → b ∉ ch → s.heap.get? b = some o → H b = none → h'.get? b = some o)
    (slot : ∀ b o, b ≠ X.env.locals → b ∈ X.fs → b ∉ ch → s.heap.get? b = some o → H b = none → ∃ sl, h'.get? b = some { o with slots := sl }) (free : ∀ b o, b ∉ ch → s.heap.get? b = some o → H b = none → H' b = none)
    (there : ∀ b o, b ∉ ch → s.heap.get? b = some o → ∃ o', h'.get? b = some o')
    (tups : ∀ b xs, H b = some (.tup xs) → H' b = some (.tup xs)) (frzs : ∀ b o u, H b = some (.frz o u) → H' b = some (.frz o u)) (tbls : ∀ b ps, H b = some (.tbl ps) → ∃ more, H' b = some (.tbl (ps ++ more)))
    (ns : ∀ m, s.heap.Ns X.env.locals m → h'.Ns X.env.locals m) (hok : HOk X.prog X.w H' h') (hg : AllBare g') :
    Inv X pins σ H' { s with heap := h', gens := g', drawn := d', toks := t' } := by
  have neL : ∀ b o, X.s₀.heap.get? b = some o → b ≠ X.env.locals := fun b o e => Nat.ne_of_lt (Nat.lt_of_lt_of_le (Heap.lt_size e) I.ok.above)
  have neC : ∀ b o, X.s₀.heap.get? b = some o → b ∉ X.ex → b ∉ ch := fun b o e hx hb => by
    rcases (hch b hb).1 with z | z
    · exact hx z
    · exact absurd (Nat.lt_of_lt_of_le (Heap.lt_size e) z) (Nat.lt_irrefl _)
  have cellK : ∀ x c, X.env.cells.lookup x = some c → ∀ v, s.heap.IsCell c v → h'.IsCell c v := fun x c e v ⟨o, ho, hd⟩ => by
    have nch : c ∉ ch := fun z => (hch c z).2.2.1 x c e rfl
    by_cases hc : c ∈ X.fs
    · obtain ⟨sl, q⟩ := slot c o (I.cne x c e) hc nch ho (I.freeC x c e)
      exact ⟨_, q, hd⟩
    · exact ⟨o, keep c o (I.cne x c e) hc nch ho (I.freeC x c e), hd⟩
  refine ⟨I.ok, I.os, hg, ⟨fun b o e n hb hx => ?_, fun b o e n hb hx => ?_, fun b o e n hx => ?_, fun b o e hx => ?_, fun b xs e => tups b xs (I.base.tups b xs e), fun b o xs e => frzs b o xs (I.base.frzs b o xs e), fun b ps e => ?_⟩, ?_, fun x c e => ?_, ?_, fun x c e => ?_, fun p hp => ?_, hok, I.len⟩
  · exact keep b o (neL b o e) hb (neC b o e hx) (I.base.keep b o e n hb hx) (I.base.free b o e n hx)
  · obtain ⟨sl, e1⟩ := I.base.slot b o e n hb hx
    obtain ⟨sl', e2⟩ := slot b _ (neL b o e) hb (neC b o e hx) e1 (I.base.free b o e n hx)
    exact ⟨sl', e2⟩
  · obtain ⟨o', e1⟩ := I.base.there b o e hx
    exact free b o' (neC b o e hx) e1 (I.base.free b o e n hx)
  · obtain ⟨o', e1⟩ := I.base.there b o e hx
    exact there b o' (neC b o e hx) e1
  · obtain ⟨m1, e1⟩ := I.base.tbls b ps e
    obtain ⟨m2, e2⟩ := tbls b _ e1
    exact ⟨m1 ++ m2, by rw [e2, Array.append_assoc]⟩
  · obtain ⟨m, hn, hl⟩ := I.loc
    refine ⟨m, ns m hn, fun i x v e1 e2 e3 => ?_⟩
    obtain ⟨u, r, l⟩ := hl i x v e1 e2 e3
    refine ⟨u, r, ?_⟩
    rcases l with l | ⟨k, c, e, z⟩
    · exact .inl l
    · exact .inr ⟨k, c, e, cellK x c e _ z⟩
  · obtain ⟨v, z⟩ := I.cell x c e
    exact ⟨v, cellK x c e v z⟩
  · obtain ⟨m, ⟨o, _, _, ho, _⟩, _⟩ := I.loc
    exact free _ o (fun z => (hch _ z).2.1 rfl) ho I.free
  · obtain ⟨v, o, ho, hd⟩ := I.cell x c e
    exact free c o (fun z => (hch c z).2.2.1 x c e rfl) ho (I.freeC x c e)
  · obtain ⟨e, n, ne, nf, d⟩ := I.pin p hp
    have nch : p.1 ∉ ch := fun z => (hch p.1 z).2.2.2 p hp rfl
    exact ⟨keep p.1 p.2 ne nf nch e n, free p.1 p.2 nch e n, ne, nf, d⟩
/-- .. where the frame's own object is kept too -/
theorem Inv.un {t' : Nat} (I : Inv X pins σ H s) (u : Un X.fs [] H H' s.heap h') (hok : HOk X.prog X.w H' h') : Inv X pins σ H' { s with heap := h', toks := t' } := by
  obtain ⟨m, ⟨o, es, ep, ho, r⟩, _⟩ := id I.loc
  obtain ⟨sl, hL⟩ := u.any ho I.free (by simp)
  exact I.step (g' := s.gens) (d' := s.drawn) (ch := []) (fun _ z => nomatch z) (fun b o _ hb _ e n => u.keep b o e n hb (by simp)) (fun b o _ hb _ e n => u.slot b o e n hb (by simp)) (fun b o _ e n => u.free b o e n (by simp)) (fun b o _ e => u.there b o e (by simp)) u.tups u.frzs u.tbls (fun m' hm => by
    obtain ⟨o', es', ep', ho', r'⟩ := hm
    rw [ho] at ho'; cases ho'
    exact ⟨_, es', ep', hL, r'⟩) hok I.bare
/-- behind a call (or a comprehension's block): the slots of this frame may have changed too, the records at ch may have turned -/
theorem Inv.call {g' : Array GenState} {t' : Nat} {d' : Drawn} {ch : List Addr} (I : Inv X pins σ H s) (u : Un (frs X.stack) ch H H' s.heap h') (hok : HOk X.prog X.w H' h') (hg : AllBare g')
    (hch : ∀ b ∈ ch, (b ∈ X.ex ∨ X.s₀.heap.objs.size ≤ b) ∧ b ≠ X.env.locals ∧ (∀ x c, X.env.cells.lookup x = some c → c ≠ b) ∧ ∀ p ∈ X.pn ++ pins, p.1 ≠ b) :
    Inv X pins σ H' { s with heap := h', gens := g', drawn := d', toks := t' } := by
  obtain ⟨m, ⟨o, es, ep, ho, r⟩, _⟩ := id I.loc
  obtain ⟨sl, hL⟩ := u.any ho I.free fun z => (hch _ z).2.1 rfl
  exact I.step (ch := ch) hch (fun b o hL hb hc e n => u.keep b o e n (fun z => (List.mem_cons.mp (I.stkSub b z)).elim hL hb) hc) (fun b o _ _ hc e n => u.any e n hc) (fun b o hc e n => u.free b o e n hc) (fun b o hc e => u.there b o e hc) u.tups u.frzs u.tbls (fun m' hm => by
    obtain ⟨o', es', ep', ho', r'⟩ := hm
    rw [ho] at ho'; cases ho'
    exact ⟨_, es', ep', hL, r'⟩) hok hg
/-- an untracked record of ours (an iterator) has turned -/
theorem Inv.turned {t' : Nat} {it : Addr} (I : Inv X pins σ H s) (k : ∀ b o, b ≠ it → s.heap.get? b = some o → h'.get? b = some o) (hn : H it = none) (hL : it ≠ X.env.locals)
    (h1 : it ∈ X.ex ∨ X.s₀.heap.objs.size ≤ it) (h2 : ∀ x c, X.env.cells.lookup x = some c → c ≠ it) (h3 : ∀ p ∈ X.pn ++ pins, p.1 ≠ it) : Inv X pins σ H { s with heap := h', toks := t' } := by
  have nit : ∀ b u, H b = some u → b ≠ it := fun b u e z => by rw [z, hn] at e; cases e
  refine I.step (g' := s.gens) (d' := s.drawn) (ch := [it]) (fun b hb => ?_) (fun b o _ _ hc e _ => k b o (fun z => hc (by simp [z])) e) (fun b o _ _ hc e _ => ⟨o.slots, k b o (fun z => hc (by simp [z])) e⟩) (fun _ _ _ _ n => n)
    (fun b o hc e => ⟨o, k b o (fun z => hc (by simp [z])) e⟩) (fun _ _ e => e) (fun _ _ _ e => e) (fun b ps e => ⟨#[], by rw [e]; simp⟩) (fun m hm => ?_) (fun b u e => ?_) I.bare
  · have e : b = it := by simpa using hb
    subst e
    exact ⟨h1, hL, h2, h3⟩
  · obtain ⟨o, es, ep, ho, r⟩ := hm
    exact ⟨o, es, ep, k _ o (Ne.symm hL) ho, r⟩
  · refine (I.hok b u e).stay (fun c v hc q => k c v ?_ q) (fun _ q => q) fun _ _ q => q
    rcases hc with z | z
    · rw [z]; exact nit b u e
    · exact nit c _ z
theorem Inv.tok (I : Inv X pins σ H s) (t : Nat) : Inv X pins σ H { s with toks := t } := I.un (h' := s.heap) (t' := t) Un.refl I.hok
/-- all objects kept -/
theorem Inv.kept {t' : Nat} (I : Inv X pins σ H s) (k : ∀ b u, s.heap.get? b = some u → h'.get? b = some u) : Inv X pins σ H { s with heap := h', toks := t' } := I.un (Un.kept k) (I.hok.kept k)
/-- a new object laid and tracked -/
theorem Inv.laid {a : Addr} {o : HO} {t' : Nat} (I : Inv X pins σ H s) (k : ∀ b u, s.heap.get? b = some u → h'.get? b = some u) (hp : s.heap.objs.size ≤ a) (new : ObjOk X.prog X.w (upd H a o) h' a o) :
    Inv X pins σ (upd H a o) { s with heap := h', toks := t' } := I.un (Un.laid k hp (I.hok.fresh hp)) (I.hok.laid k hp new)
/-- an object written -/
theorem Inv.write {x e : Addr} {o : HO} {t' : Nat} (I : Inv X pins σ H s) (mu : Mut (H x)) (he : e = x ∨ H e = some (.own x)) (k : ∀ b u, b ≠ e → s.heap.get? b = some u → h'.get? b = some u) (heo : ∃ u, h'.get? e = some u)
    (new : ObjOk X.prog X.w (upd H x o) h' x o) : Inv X pins σ (upd H x o) { s with heap := h', toks := t' } := I.un (Un.write mu he k heo) (I.hok.write mu he k heo new)
theorem Inv.pins_of {pins' : List (Addr × Obj)} (I : Inv X pins σ H s) (h : ∀ p ∈ pins', s.heap.get? p.1 = some p.2 ∧ H p.1 = none ∧ p.1 ≠ X.env.locals ∧ p.1 ∉ X.fs ∧ ∀ v, p.2.data ≠ .cell v) : Inv X pins' σ H s :=
  ⟨I.ok, I.os, I.bare, I.base, I.loc, I.cell, I.free, I.freeC, fun p hp => (List.mem_append.mp hp).elim (fun z => I.pin p (List.mem_append_left _ z)) (h p), I.hok, I.len⟩
theorem nodup_ix {N : List Str} (hN : N.Nodup) {i j : Nat} {x : Str} (a : N[i]? = some x) (b : N[j]? = some x) : i = j := by
  obtain ⟨h1, e1⟩ := List.getElem?_eq_some_iff.mp a
  obtain ⟨h2, e2⟩ := List.getElem?_eq_some_iff.mp b
  exact (List.getElem_inj hN).mp (e1.trans e2.symm)
/-- a name is stored; what changed -/
theorem store_ok2 {M : Model} {A : Around} {E : Value → Shared → Prop} {i : Nat} {x : Str} {v : V} {u : Value} {Q : Unit → Shared → Prop} (I : Inv X pins σ H s) (hN : X.N.Nodup) (hi : X.N[i]? = some x) (hx : Loc X.env.scope x) (r : RelV v u)
    (h : ∀ s', Inv X pins (σ.set i (some v)) H s' → (∃ a, Heap.SameBut a s.heap s'.heap ∧ (a = X.env.locals ∨ X.env.cells.lookup x = some a)) → Q () s') (hf : X.fn x = true ∨ X.env.scope.names.lookup x = some .local := by first | exact .inl rfl | exact .inr rfl | assumption) : wpAny M A (storeName X.env x u) Q E s := by
  obtain ⟨m, hn, hl⟩ := id I.loc
  have hcls : (X.env.scope.kind == .class || (X.env.scope.kind == .module && X.env.locals != X.env.globals)) = false := by rw [I.ok.kind]; rfl
  have hiσ : i < σ.length := by rw [I.len]; exact (List.getElem?_eq_some_iff.mp hi).1
  have cne := I.cne
  have tracked : ∀ {a : Addr} {h' : Heap}, (∃ o, s.heap.get? a = some o ∧ H a = none) → Heap.SameBut a s.heap h' → HOk X.prog X.w H h' := fun {a h'} ha hs b ob e => by
    obtain ⟨_, _, hfree⟩ := ha
    refine (I.hok b ob e).stay (fun c w' hc q => (hs.2 c ?_).trans q) (fun _ q => q) fun _ _ q => q
    rintro rfl
    rcases hc with rfl | hc
    · rw [hfree] at e; cases e
    · rw [hfree] at hc; cases hc
  rcases hx with hk | hk
  · refine wpAny_storeName_local hk hn (fun h' hn' hs => ?_) hcls
    obtain ⟨oL, _, _, hoL, _⟩ := id hn
    refine h _ ⟨I.ok, I.os, I.bare, ⟨fun b o e n hb hx => ?_, fun b o e n hb hx => ?_, I.base.free, fun b o e hx => ?_, I.base.tups, I.base.frzs, I.base.tbls⟩, ⟨_, hn', fun j y v' e1 e2 e3 => ?_⟩, fun y c e => ?_, I.free, I.freeC, fun p hp => ?_, tracked ⟨oL, hoL, I.free⟩ hs, by simpa using I.len⟩ ⟨_, hs, .inl rfl⟩
    · exact (hs.2 b (Nat.ne_of_lt (Nat.lt_of_lt_of_le (Heap.lt_size e) I.ok.above))).trans (I.base.keep b o e n hb hx)
    · obtain ⟨sl, e1⟩ := I.base.slot b o e n hb hx
      exact ⟨sl, (hs.2 b (Nat.ne_of_lt (Nat.lt_of_lt_of_le (Heap.lt_size e) I.ok.above))).trans e1⟩
    · obtain ⟨o', e1⟩ := I.base.there b o e hx
      exact ⟨o', (hs.2 b (Nat.ne_of_lt (Nat.lt_of_lt_of_le (Heap.lt_size e) I.ok.above))).trans e1⟩
    · by_cases hj : j = i
      · subst hj
        rw [hi] at e1; cases e1
        rw [List.getElem?_set_self hiσ] at e2
        cases e2
        exact ⟨u, r, .inl ⟨hk, by simp⟩⟩
      · rw [List.getElem?_set_ne (Ne.symm hj)] at e2
        obtain ⟨u', r', q⟩ := hl j y v' e1 e2 e3
        refine ⟨u', r', ?_⟩
        rcases q with ⟨k, e⟩ | ⟨k, c, e, z⟩
        · refine .inl ⟨k, ?_⟩
          have : y ≠ x := fun e => hj (nodup_ix hN e1 (e ▸ hi))
          simp [this, e]
        · exact .inr ⟨k, c, e, z.sameBut hs (cne y c e)⟩
    · obtain ⟨w', z⟩ := I.cell y c e
      exact ⟨w', z.sameBut hs (cne y c e)⟩
    · obtain ⟨e, n, ne, nf, d⟩ := I.pin p hp
      exact ⟨(hs.2 p.1 ne).trans e, n, ne, nf, d⟩
  · have hfn : X.fn x = true := by
      rcases hf with z | z
      · exact z
      · rw [z] at hk; cases hk
    obtain ⟨c, hc⟩ := I.ok.has x (.inl hk)
    obtain ⟨w', z⟩ := I.cell x c hc
    refine wpAny_storeName_cell I.ok.kind hk hc z (fun h' hc' hs => ?_)
    obtain ⟨oc, hoc, hocd⟩ := id z
    refine h { s with heap := h' } ⟨I.ok, I.os, I.bare, ⟨fun b o e n hb hx => ?_, fun b o e n hb hx => ?_, I.base.free, fun b o e hx => ?_, I.base.tups, I.base.frzs, I.base.tbls⟩, ⟨m, hn.sameBut hs (Ne.symm (cne x c hc)), fun j y v' e1 e2 e3 => ?_⟩, fun y c' e => ?_, I.free, I.freeC, fun p hp => ?_, tracked ⟨oc, hoc, I.freeC x c hc⟩ hs, by simpa using I.len⟩ ⟨c, hs, .inr hc⟩
    · exact (hs.2 b (Nat.ne_of_lt (Nat.lt_of_lt_of_le (Heap.lt_size e) (I.ok.cab x c hfn hc)))).trans (I.base.keep b o e n hb hx)
    · obtain ⟨sl, e1⟩ := I.base.slot b o e n hb hx
      exact ⟨sl, (hs.2 b (Nat.ne_of_lt (Nat.lt_of_lt_of_le (Heap.lt_size e) (I.ok.cab x c hfn hc)))).trans e1⟩
    · obtain ⟨o', e1⟩ := I.base.there b o e hx
      exact ⟨o', (hs.2 b (Nat.ne_of_lt (Nat.lt_of_lt_of_le (Heap.lt_size e) (I.ok.cab x c hfn hc)))).trans e1⟩
    · by_cases hj : j = i
      · subst hj
        rw [hi] at e1; cases e1
        rw [List.getElem?_set_self hiσ] at e2
        cases e2
        exact ⟨u, r, .inr ⟨.inl hk, c, hc, hc'⟩⟩
      · rw [List.getElem?_set_ne (Ne.symm hj)] at e2
        obtain ⟨u', r', q⟩ := hl j y v' e1 e2 e3
        refine ⟨u', r', ?_⟩
        rcases q with q | ⟨k, c', e, z'⟩
        · exact .inl q
        · refine .inr ⟨k, c', e, z'.sameBut hs ?_⟩
          rintro rfl
          exact hj (nodup_ix hN e1 (I.ok.inj _ _ _ e hc ▸ hi))
    · by_cases hcc : c' = c
      · subst hcc; exact ⟨_, hc'⟩
      · obtain ⟨w2, z2⟩ := I.cell y c' e
        exact ⟨w2, z2.sameBut hs hcc⟩
    · obtain ⟨e, n, ne, nf, d⟩ := I.pin p hp
      refine ⟨(hs.2 p.1 ?_).trans e, n, ne, nf, d⟩
      intro q
      rw [q, hoc] at e
      have q' : oc = p.2 := Option.some.inj e
      exact d w' (by rw [← q']; exact hocd)
theorem store_ok {M : Model} {A : Around} {E : Value → Shared → Prop} {i : Nat} {x : Str} {v : V} {u : Value} {Q : Unit → Shared → Prop} (I : Inv X pins σ H s) (hN : X.N.Nodup) (hi : X.N[i]? = some x) (hx : Loc X.env.scope x) (r : RelV v u)
    (h : ∀ s', Inv X pins (σ.set i (some v)) H s' → Q () s') (hf : X.fn x = true ∨ X.env.scope.names.lookup x = some .local := by first | exact .inl rfl | exact .inr rfl | assumption) : wpAny M A (storeName X.env x u) Q E s :=
  store_ok2 I hN hi hx r (fun s' I' _ => h s' I') hf
/-- behind a call or a block, the state as it is -/
theorem Inv.call' {s' : Shared} {ch : List Addr} (I : Inv X pins σ H s) (ho : s'.os = s.os) (u : Un (frs X.stack) ch H H' s.heap s'.heap) (hok : HOk X.prog X.w H' s'.heap) (hg : AllBare s'.gens)
    (hch : ∀ b ∈ ch, (b ∈ X.ex ∨ X.s₀.heap.objs.size ≤ b) ∧ b ≠ X.env.locals ∧ (∀ x c, X.env.cells.lookup x = some c → c ≠ b) ∧ ∀ p ∈ X.pn ++ pins, p.1 ≠ b) : Inv X pins σ H' s' := by
  obtain ⟨h', g', d', t', o'⟩ := s'
  have e : o' = s.os := ho
  subst e
  exact I.call (g' := g') (t' := t') (d' := d') u hok hg hch
end
/-- an exception: its class, its own dict's address (where it has one), the abstract heap behind it -/
abbrev XK := Value → Option Addr → Hp → Prop
abbrev St := List (Option V)
abbrev VK := V → Hp → Prop
/-- an expression's reading; a test's; an argument list's -/
abbrev TE := St → Hp → VK → Prop
abbrev TT := St → Hp → (Bool → Hp → Prop) → Prop
abbrev TA := St → Hp → (List V → Hp → Prop) → Prop
/-- what is wanted behind a statement -/
structure Ends where
  nx : St → Hp → Prop
  rt : VK
  bk : St → Hp → Prop := fun _ _ => False
  ct : St → Hp → Prop := fun _ _ => False
abbrev TS := Ends → St → Hp → Prop
def EP (X : Cx) (pins : List (Addr × Obj)) (σ : St) (Q : VK) (u : Value) (s' : Shared) : Prop := ∃ v H', Inv X pins σ H' s' ∧ RelV v u ∧ Q v H'
def TP (X : Cx) (pins : List (Addr × Obj)) (σ : St) (Q : Bool → Hp → Prop) (b : Bool) (s' : Shared) : Prop := ∃ H', Inv X pins σ H' s' ∧ Q b H'
def AP (X : Cx) (pins : List (Addr × Obj)) (σ : St) (Q : List V → Hp → Prop) (us : List Value) (s' : Shared) : Prop := ∃ vs H', Inv X pins σ H' s' ∧ Vals vs us ∧ Q vs H'
def SP (X : Cx) (pins : List (Addr × Obj)) (D : Ends) (f : Flow) (s' : Shared) : Prop :=
  match f with
  | .next => ∃ σ' H', Inv X pins σ' H' s' ∧ D.nx σ' H'
  | .brk => ∃ σ' H', Inv X pins σ' H' s' ∧ D.bk σ' H'
  | .cont => ∃ σ' H', Inv X pins σ' H' s' ∧ D.ct σ' H'
  | .ret u => ∃ v σ' H', Inv X pins σ' H' s' ∧ RelV v u ∧ D.rt v H'
def PE (X : Cx) (e : Expr) (t : TE) : Prop :=
  ∀ (pins : List (Addr × Obj)) (s : Shared) (σ : St) (H : Hp) (Q : VK), Inv X pins σ H s → t σ H Q → wpAny (model X.prog X.w) X.A (eval e X.env) (EP X pins σ Q) X.xe s
def PT (X : Cx) (e : Expr) (t : TT) : Prop :=
  ∀ (pins : List (Addr × Obj)) (s : Shared) (σ : St) (H : Hp) (Q : Bool → Hp → Prop), Inv X pins σ H s → t σ H Q → wpAny (model X.prog X.w) X.A (isTrue e X.env (eval e X.env)) (TP X pins σ Q) X.xe s
/-- a test whatever its 'whole' is (and, or) -/
def PW (X : Cx) (e : Expr) (t : TT) : Prop :=
  ∀ (whole : Sem Value) (pins : List (Addr × Obj)) (s : Shared) (σ : St) (H : Hp) (Q : Bool → Hp → Prop), Inv X pins σ H s → t σ H Q → wpAny (model X.prog X.w) X.A (isTrue e X.env whole) (TP X pins σ Q) X.xe s
theorem PW.pt {X : Cx} {e : Expr} {t : TT} (h : PW X e t) : PT X e t := h _
/-- an argument list (no star), from the left -/
def PA (X : Cx) (es : List Expr) (t : TA) : Prop :=
  ∀ (pos : Pos) (pins : List (Addr × Obj)) (s : Shared) (σ : St) (H : Hp) (Q : List V → Hp → Prop), Inv X pins σ H s → t σ H Q → wpAny (model X.prog X.w) X.A (spliced (backTo pos (starEach es X.env))) (AP X pins σ Q) X.xe s
def PS (X : Cx) (st : Stmt) (t : TS) : Prop :=
  ∀ (pins : List (Addr × Obj)) (s : Shared) (σ : St) (H : Hp) (D : Ends), Inv X pins σ H s → t D σ H → wpAny (model X.prog X.w) X.A (exec st X.env) (SP X pins D) X.xe s
def PSs (X : Cx) (st : List Stmt) (t : TS) : Prop :=
  ∀ (pins : List (Addr × Obj)) (s : Shared) (σ : St) (H : Hp) (D : Ends), Inv X pins σ H s → t D σ H → wpAny (model X.prog X.w) X.A (execs st X.env) (SP X pins D) X.xe s
/-- weaken the end -/
theorem thn {α : Type} {t : Sem α} {Q Q' : α → Shared → Prop} {M : Model} {A : Around} {E : Value → Shared → Prop} {s : Shared} (h : wpAny M A t Q E s) (hQ : ∀ a s, Q a s → Q' a s) : wpAny M A t Q' E s := wpAny_mono h hQ fun _ _ x => x
end L2
namespace L2
open PySem PySem.Spec PyProof.Rows
section
variable {X : Cx}
/-- two expressions in a row -/
theorem bin {a b : Expr} {ta tb : TE} (ha : PE X a ta) (hb : PE X b tb) {pins : List (Addr × Obj)} {s : Shared} {σ : St} {H : Hp} {R : V → V → Hp → Prop} (I : Inv X pins σ H s) (h : ta σ H fun x H1 => tb σ H1 fun y H2 => R x y H2)
    {α : Type} {Q : α → Shared → Prop} {f : Value → Value → Sem α}
    (hf : ∀ v u s2 x y H2, Inv X pins σ H2 s2 → RelV x v → RelV y u → R x y H2 → wpAny (model X.prog X.w) X.A (f v u) Q X.xe s2) :
    wpAny (model X.prog X.w) X.A (eval a X.env) (fun v s₁ => wpAny (model X.prog X.w) X.A (eval b X.env) (fun u s₂ => wpAny (model X.prog X.w) X.A (f v u) Q X.xe s₂) X.xe s₁) X.xe s := by
  refine thn (ha pins s σ H _ I h) fun v s1 ⟨x, H1, I1, r1, q1⟩ => ?_
  refine thn (hb pins s1 σ H1 _ I1 q1) fun u s2 ⟨y, H2, I2, r2, q2⟩ => ?_
  exact hf v u s2 x y H2 I2 r1 r2 q2
def tVar (i : Nat) : TE := fun σ H Q => ∃ v, σ[i]? = some (some v) ∧ Q v H
def tC (v : V) : TE := fun _ H Q => Q v H
theorem pe_var {i : Nat} {x : Str} {pos : Pos} (hN : X.N[i]? = some x) (hv : Vis X.env.scope x) (hd : (x == ("__debug__" : Str)) = false := by decide) (hcd : (x == ("__classdict__" : Str)) = false := by decide) : PE X (.Name x pos) (tVar i) := by
  intro pins s σ H Q I h
  obtain ⟨v, e, h⟩ := h
  obtain ⟨m, hn, hl⟩ := I.loc
  obtain ⟨u, r, l⟩ := hl i x v hN e hv
  have fin : EP X pins σ Q u s := ⟨v, H, I, r, h⟩
  rcases l with ⟨hk, hm⟩ | ⟨hk, c, hc, hcell⟩
  · exact wpAny_Name (wpAny_loadName_local I.ok.kind hk hn hm fin) hd
  · rcases hk with hk | hk
    · exact wpAny_Name (wpAny_loadName_cell I.ok.kind hk hc hcell fin) hd
    · exact wpAny_Name (wpAny_loadName_free I.ok.kind hk hc hcell fin hcd) hd
theorem pe_int {i j pos} : PE X (.Constant (.int i) j pos) (tC (.int i)) := fun _ _ _ H _ I h => wpAny_Constant_int ⟨.int i, H, I.tok _, ⟨_, rfl⟩, h⟩
theorem pe_bl {b j pos} : PE X (.Constant (.bool b) j pos) (tC (.bl b)) := fun _ _ _ H _ I h => Constant_bool ⟨.bl b, H, I, rfl, h⟩
theorem pe_non {j pos} : PE X (.Constant .none j pos) (tC .non) := fun _ _ _ H _ I h => Constant_none ⟨.non, H, I, rfl, h⟩
theorem pe_str {x j pos} : PE X (.Constant (.str x) j pos) (tC (.str x)) := fun _ _ _ H _ I h => Calls.Constant_str ⟨.str x, H, I.tok _, ⟨_, rfl⟩, h⟩
/-- a global name of the def -/
def Gl (X : Cx) (x : Str) : Prop := X.env.kindOf x = some .globalImplicit
theorem ld_glob {E : Value → Shared → Prop} {pins : List (Addr × Obj)} {s : Shared} {σ : St} {H : Hp} {x : Str} {u : Value} {pos : Pos} {Q : Value → Shared → Prop} (I : Inv X pins σ H s) (hg : Gl X x) (hm : X.mg x = some u) (h : Q u s)
    (hd : (x == ("__debug__" : Str)) = false := by decide) : wpAny (model X.prog X.w) X.A (eval (.Name x pos) X.env) Q E s :=
  Calls.Name_function_global I.ok.kind hg (Calls.loadGlobal_global (by rw [I.ok.glob]; exact I.mod.glob.keeps I.bk) hm h) hd
theorem ld_blt {E : Value → Shared → Prop} {pins : List (Addr × Obj)} {s : Shared} {σ : St} {H : Hp} {x : Str} {u : Value} {pos : Pos} {Q : Value → Shared → Prop} (I : Inv X pins σ H s) (hg : Gl X x) (hm : X.mg x = none) (hv : bootBuiltins x = some u) (h : Q u s)
    (hn : x ≠ "__name__" := by decide) (hd : (x == ("__debug__" : Str)) = false := by decide) : wpAny (model X.prog X.w) X.A (eval (.Name x pos) X.env) Q E s := by
  obtain ⟨mb, h1, h2⟩ := I.mod.blt
  exact Calls.Name_function_global I.ok.kind hg (Calls.loadGlobal_builtin (by rw [I.ok.glob]; exact I.mod.glob.keeps I.bk) hm (by rw [I.ok.blt]; exact h1.keeps I.bk) ((h2 x hn).trans hv) h) hd
variable {a b : Expr} {ta tb : TE} {pos : Pos}
variable {tA tB' : TT} {rest : List Expr}
def tAnd (t u : TT) : TT := fun σ H Q => t σ H fun c H1 => if c = true then u σ H1 Q else Q false H1
def tOr (t u : TT) : TT := fun σ H Q => t σ H fun c H1 => if c = true then Q true H1 else u σ H1 Q
def tNot (t : TT) : TT := fun σ H Q => t σ H fun c H1 => Q (!c) H1
theorem pw_and1 (ha : PT X a tA) : PW X (.BoolOp .And [a] pos) tA := by
  intro wh pins s σ H Q I h
  refine isTrue_and (thn (ha pins s σ H Q I h) fun c s1 e => ?_)
  cases c with
  | true => exact isTrue_and_nil e
  | false => exact e
theorem pw_or1 (ha : PT X a tA) : PW X (.BoolOp .Or [a] pos) tA := by
  intro wh pins s σ H Q I h
  refine isTrue_or (thn (ha pins s σ H Q I h) fun c s1 e => ?_)
  cases c with
  | false => exact isTrue_or_nil e
  | true => exact e
theorem pw_and (ha : PT X a tA) (hb : PW X (.BoolOp .And (b :: rest) pos) tB') : PW X (.BoolOp .And (a :: b :: rest) pos) (tAnd tA tB') := by
  intro wh pins s σ H Q I h
  refine isTrue_and (thn (ha pins s σ H _ I h) fun c s1 ⟨H1, I1, q1⟩ => ?_)
  cases c with
  | true => exact hb wh pins s1 σ H1 Q I1 q1
  | false => exact ⟨H1, I1, q1⟩
theorem pw_or (ha : PT X a tA) (hb : PW X (.BoolOp .Or (b :: rest) pos) tB') : PW X (.BoolOp .Or (a :: b :: rest) pos) (tOr tA tB') := by
  intro wh pins s σ H Q I h
  refine isTrue_or (thn (ha pins s σ H _ I h) fun c s1 ⟨H1, I1, q1⟩ => ?_)
  cases c with
  | true => exact ⟨H1, I1, q1⟩
  | false => exact hb wh pins s1 σ H1 Q I1 q1
theorem pt_not (ha : PT X a tA) : PT X (.UnaryOp .Not a pos) (tNot tA) := by
  intro pins s σ H Q I h
  exact isTrue_not (ha pins s σ H (fun c H1 => Q (!c) H1) I h)
/-- .. as values (bools) -/
def tAndV (ta tb : TE) : TE := fun σ H Q => ta σ H fun x H1 => ∃ c, x = .bl c ∧ if c = true then tb σ H1 Q else Q (.bl false) H1
theorem pe_one {op} {t : TE} (h : PE X a t) : PE X (.BoolOp op [a] pos) t := fun pins s σ H Q I hw => BoolOp_one (h pins s σ H Q I hw)
theorem pe_and (ha : PE X a ta) (hb : PE X (.BoolOp .And (b :: rest) pos) tb) : PE X (.BoolOp .And (a :: b :: rest) pos) (tAndV ta tb) := by
  intro pins s σ H Q I h
  refine BoolOp_and (thn (ha pins s σ H _ I h) fun v s1 ⟨x, H1, I1, r1, q1⟩ => ?_)
  obtain ⟨c, rfl, q1⟩ := q1
  cases r1
  refine wpAny_truthy_bool ?_
  cases c with
  | true => exact hb pins s1 σ H1 Q I1 q1
  | false => exact ⟨.bl false, H1, I1, rfl, q1⟩
/-- a if t else b -/
def tIf (t : TT) (ta tb : TE) : TE := fun σ H Q => t σ H fun c H1 => if c = true then ta σ H1 Q else tb σ H1 Q
theorem pe_ifExp {c : Expr} (hc : PT X c tA) (ha : PE X a ta) (hb : PE X b tb) : PE X (.IfExp c a b pos) (tIf tA ta tb) := by
  intro pins s σ H Q I h
  refine wpAny_IfExp (thn (hc pins s σ H _ I h) fun d s1 ⟨H1, I1, q1⟩ => ?_)
  cases d with
  | true => exact ha pins s1 σ H1 Q I1 q1
  | false => exact hb pins s1 σ H1 Q I1 q1
end
end L2
namespace L2
open PySem PySem.Spec PyProof.Rows
def SqL (K : PySem.W.Frag) (H : Hp) (a : Addr) (xs : List V) : Prop :=
  Rd H a (.lst xs) ∨
    ∃ (o : Obj) (its : Array Value) (n : Nat), K.lookup a = some o ∧ o.cls = .type "list" ∧ o.dict = none ∧ o.data = .seq its n ∧ its.size ≤ sizeLine ∧ Vals xs its.toList
def SqT (K : PySem.W.Frag) (H : Hp) (a : Addr) (xs : List V) : Prop :=
  Rd H a (.tup xs) ∨
    ∃ (o : Obj) (its : Array Value) (n : Nat), K.lookup a = some o ∧ o.cls = .type "tuple" ∧ o.data = .seq its n ∧ its.size ≤ sizeLine ∧ Vals xs its.toList
def absV : Value → Option V
  | .none => some .non
  | .bool b => some (.bl b)
  | .int i _ => some (.int i)
  | .str x _ => some (.str x)
  | .bytes b _ => some (.byt b)
  | .float b _ => some (.flt b)
  | .ref a => some (.ref a)
  | .type n => some (.ty n)
  | _ => none
theorem RelV.abs {x : V} {u : Value} (r : RelV x u) : absV u = some x := by
  cases x with
  | non => cases r; rfl
  | bl _ => cases r; rfl
  | int _ => obtain ⟨t, rfl⟩ := r; rfl
  | str _ => obtain ⟨t, rfl⟩ := r; rfl
  | byt _ => obtain ⟨t, rfl⟩ := r; rfl
  | flt _ => obtain ⟨t, rfl⟩ := r; rfl
  | ref _ => cases r; rfl
  | ty _ => cases r; rfl
theorem RelV.inj {x y : V} {u : Value} (r : RelV x u) (q : RelV y u) : x = y := Option.some.inj (r.abs.symm.trans q.abs)
theorem Vals.inj : ∀ {xs ys : List V} {us : List Value}, Vals xs us → Vals ys us → xs = ys
  | _, _, _, .nil, .nil => rfl
  | _, _, _, .cons r t, .cons r' t' => by rw [r.inj r', Vals.inj t t']
section
variable {X : Cx} {pins : List (Addr × Obj)} {σ : St} {H : Hp} {s : Shared} {a : Addr} {xs ys : List V}
theorem SqL.of {K : PySem.W.Frag} (h : H a = some (.lst xs)) : SqL K H a xs := .inl (.inl h)
theorem SqT.of {K : PySem.W.Frag} (h : H a = some (.tup xs)) : SqT K H a xs := .inl (.inl h)
theorem Inv.list (I : Inv X pins σ H s) (h : SqL X.K H a xs) : ∃ its : List Value, Vals xs its ∧ PlainL s.heap a its.toArray ∧ xs.length ≤ sizeLine := by
  rcases h with h | ⟨o, its, n, hk, hc, hd, hs, hz, r⟩
  · obtain ⟨z, its, n, r, e⟩ := h.ok I.hok
    exact ⟨its, r, ⟨_, n, e, rfl, rfl, rfl⟩, z⟩
  · refine ⟨its.toList, r, ⟨o, n, I.kIn a o hk, hc, hd, by simpa using hs⟩, ?_⟩
    have e := r.length
    simp only [Array.length_toList] at e
    omega
theorem Inv.tuple (I : Inv X pins σ H s) (h : SqT X.K H a xs) : ∃ its : List Value, Vals xs its ∧ IsTup s.heap a its.toArray ∧ xs.length ≤ sizeLine := by
  rcases h with h | ⟨o, its, n, hk, hc, hs, hz, r⟩
  · obtain ⟨z, its, r, p⟩ := h.ok I.hok
    exact ⟨its, r, p, z⟩
  · refine ⟨its.toList, r, ⟨o, I.kIn a o hk, hc, n, by simpa using hs⟩, ?_⟩
    have e := r.length
    simp only [Array.length_toList] at e
    omega
theorem Inv.list_inj (I : Inv X pins σ H s) (h : SqL X.K H a xs) (h' : SqL X.K H a ys) : xs = ys := by
  obtain ⟨its, r, ⟨o, n, e, _, _, d⟩, _⟩ := I.list h
  obtain ⟨its', r', ⟨o', n', e', _, _, d'⟩, _⟩ := I.list h'
  rw [e] at e'; cases e'
  rw [d] at d'
  injection d' with d1 _
  have : its = its' := by simpa using congrArg Array.toList d1
  subst this
  exact r.inj r'
theorem Inv.tuple_inj (I : Inv X pins σ H s) (h : SqT X.K H a xs) (h' : SqT X.K H a ys) : xs = ys := by
  obtain ⟨its, r, ⟨o, e, _, n, d⟩, _⟩ := I.tuple h
  obtain ⟨its', r', ⟨o', e', _, n', d'⟩, _⟩ := I.tuple h'
  rw [e] at e'; cases e'
  rw [d] at d'
  injection d' with d1 _
  have : its = its' := by simpa using congrArg Array.toList d1
  subst this
  exact r.inj r'
end
abbrev Cx.wish (X : Cx) (E : Value → Shared → Prop) : Cx := { X with xe := E }
/-- no exception leaves -/
abbrev Cx.nox (X : Cx) : Cx := X.wish fun _ _ => False
theorem Cx.Ok.wish {X : Cx} (ok : X.Ok) (E : Value → Shared → Prop) : (X.wish E).Ok :=
  ⟨ok.mod, ok.kind, ok.glob, ok.blt, ok.above, ok.inj, ok.has, ok.cab, ok.hd, ok.frames, ok.stk, ok.exf, ok.bs, ok.bsz, ok.noex, ok.exfs, ok.funs, ok.frf⟩
theorem Cx.Ok.unwish {X : Cx} {E : Value → Shared → Prop} (ok : (X.wish E).Ok) : X.Ok :=
  ⟨ok.mod, ok.kind, ok.glob, ok.blt, ok.above, ok.inj, ok.has, ok.cab, ok.hd, ok.frames, ok.stk, ok.exf, ok.bs, ok.bsz, ok.noex, ok.exfs, ok.funs, ok.frf⟩
section
variable {X : Cx} {pins : List (Addr × Obj)} {σ : St} {H : Hp} {s : Shared} {E : Value → Shared → Prop}
theorem Inv.wish (I : Inv X pins σ H s) (E : Value → Shared → Prop) : Inv (X.wish E) pins σ H s := ⟨I.ok.wish E, I.os, I.bare, I.base, I.loc, I.cell, I.free, I.freeC, I.pin, I.hok, I.len⟩
theorem Inv.unwish (I : Inv (X.wish E) pins σ H s) : Inv X pins σ H s := ⟨I.ok.unwish, I.os, I.bare, I.base, I.loc, I.cell, I.free, I.freeC, I.pin, I.hok, I.len⟩
theorem SP.unwish {D : Ends} {f : Flow} {s' : Shared} (h : SP (X.wish E) pins D f s') : SP X pins D f s' := by
  cases f with
  | next => obtain ⟨σ', H', I, q⟩ := h; exact ⟨σ', H', I.unwish, q⟩
  | brk => obtain ⟨σ', H', I, q⟩ := h; exact ⟨σ', H', I.unwish, q⟩
  | cont => obtain ⟨σ', H', I, q⟩ := h; exact ⟨σ', H', I.unwish, q⟩
  | ret u => obtain ⟨v, σ', H', I, r, q⟩ := h; exact ⟨v, σ', H', I.unwish, r, q⟩
theorem PSs.nox {st : List Stmt} {t : TS} (h : PSs X.nox st t) : PSs X st t := fun pins s σ H D I hw =>
  wpAny_mono (h pins s σ H D (I.wish _) hw) (fun _ _ q => q.unwish) fun _ _ z => False.elim z
end
section
variable {X : Cx} {st : Stmt} {rest : List Stmt} {t u : TS} {e : Expr} {te : TE} {pos : Pos}
def tNext : TS := fun D σ H => D.nx σ H
def tSeq (t u : TS) : TS := fun D σ H => t { D with nx := u D } σ H
theorem pss_nil : PSs X [] tNext := fun _ _ σ H _ I h => wpAny_execs_nil ⟨σ, H, I, h⟩
theorem pss_cons (h1 : PS X st t) (h2 : PSs X rest u) : PSs X (st :: rest) (tSeq t u) := by
  intro pins s σ H D I h
  refine wpAny_execs_cons (thn (h1 pins s σ H { D with nx := u D } I h) fun f s1 q => ?_)
  cases f with
  | next =>
    obtain ⟨σ', H', I', q⟩ := q
    exact h2 pins s1 σ' H' D I' q
  | ret v => exact q
  | brk => exact q
  | cont => exact q
theorem pss_one (h1 : PS X st t) : PSs X [st] t := by
  intro pins s σ H D I h
  refine wpAny_execs_cons (thn (h1 pins s σ H D I h) fun f s1 q => ?_)
  cases f with
  | next => exact wpAny_execs_nil q
  | ret v => exact q
  | brk => exact q
  | cont => exact q
/-- in a def's body nothing is shown -/
theorem Inv.quiet {pins : List (Addr × Obj)} {σ : St} {H : Hp} {s : Shared} (I : Inv X pins σ H s) : interactive X.env = false := by simp [interactive, I.ok.kind]
/-- an expression whose value is dropped -/
def tDrop (te : TE) : TS := fun D σ H => te σ H fun _ H1 => D.nx σ H1
theorem ps_expr (he : PE X e te) (hs : swapsWith e none pos.line X.env = pure false := by rfl) : PS X (.Expr e pos) (tDrop te) := by
  intro pins s σ H D I h
  exact wpAny_Expr_any (thn (he pins s σ H _ I h) fun v s1 ⟨x, H1, I1, r1, q1⟩ => ⟨σ, H1, I1, q1⟩) I.quiet hs
def tRet (te : TE) : TS := fun D σ H => te σ H D.rt
theorem ps_ret (he : PE X e te) : PS X (.Return (some e) pos) (tRet te) := by
  intro pins s σ H D I h
  exact wpAny_Return_some (thn (he pins s σ H _ I h) fun v s1 ⟨x, H1, I1, r1, q1⟩ => ⟨x, σ, H1, I1, r1, q1⟩)
def tIfS (c : TT) (t u : TS) : TS := fun D σ H => c σ H fun b H1 => if b = true then t D σ H1 else u D σ H1
theorem ps_if {c : Expr} {a b : List Stmt} {tc : TT} (hc : PT X c tc) (ha : PSs X a t) (hb : PSs X b u) : PS X (.If c a b pos) (tIfS tc t u) := by
  intro pins s σ H D I h
  refine wpAny_If (thn (hc pins s σ H _ I h) fun d s1 ⟨H1, I1, q1⟩ => ?_)
  cases d with
  | true => exact ha pins s1 σ H1 D I1 q1
  | false => exact hb pins s1 σ H1 D I1 q1
end
abbrev TG := V → St → Hp → (St → Hp → Prop) → Prop
abbrev TGs := List V → St → Hp → (St → Hp → Prop) → Prop
def PG (X : Cx) (target : Expr) (t : TG) : Prop :=
  ∀ (pins : List (Addr × Obj)) (s : Shared) (σ : St) (H : Hp) (v : V) (u : Value) (Q : St → Hp → Prop), Inv X pins σ H s → RelV v u → t v σ H Q →
    wpAny (model X.prog X.w) X.A (assign target X.env u) (fun _ s' => ∃ σ' H', Inv X pins σ' H' s' ∧ Q σ' H') X.xe s
/-- several targets, one after another -/
def PGs (X : Cx) (ts : List Expr) (t : TGs) : Prop :=
  ∀ (pins : List (Addr × Obj)) (s : Shared) (σ : St) (H : Hp) (vs : List V) (us : List Value) (Q : St → Hp → Prop), Inv X pins σ H s → Vals vs us → t vs σ H Q →
    wpAny (model X.prog X.w) X.A (assignInOrder ((assignEach ts X.env).map (·.2)) us) (fun _ s' => ∃ σ' H', Inv X pins σ' H' s' ∧ Q σ' H') X.xe s
/-- o[i] = v, by values -/
abbrev TSet := V → V → V → Hp → (Hp → Prop) → Prop
def PSet (X : Cx) (t : TSet) : Prop :=
  ∀ (pins : List (Addr × Obj)) (s : Shared) (σ : St) (H : Hp) (o i v : V) (ov iv u : Value) (Q : Hp → Prop), Inv X pins σ H s → RelV o ov → RelV i iv → RelV v u → t o i v H Q →
    wpAny (model X.prog X.w) X.A (setItem ov iv u) (fun _ s' => ∃ H', Inv X pins σ H' s' ∧ Q H') X.xe s
section
variable {X : Cx} {pos : Pos}
def gName (i : Nat) : TG := fun v σ H Q => Q (σ.set i (some v)) H
theorem pg_name {i : Nat} {x : Str} (hN : X.N.Nodup) (hi : X.N[i]? = some x) (hx : Loc X.env.scope x) (hf : X.fn x = true ∨ X.env.scope.names.lookup x = some .local := by first | exact .inl rfl | exact .inr rfl | assumption) : PG X (.Name x pos) (gName i) := by
  intro pins s σ H v u Q I r h
  exact wpAny_assign_Name (store_ok I hN hi hx r (fun s' I' => ⟨_, H, I', h⟩) hf)
def gNil : TGs := fun vs σ H Q => vs = [] ∧ Q σ H
def gCons (t : TG) (u : TGs) : TGs := fun vs σ H Q => ∃ v r, vs = v :: r ∧ t v σ H fun σ' H' => u r σ' H' Q
theorem pgs_nil : PGs X [] gNil := by
  intro pins s σ H vs us Q I r h
  obtain ⟨e, h⟩ := h
  subst e
  cases r
  exact assignInOrder_nil ⟨σ, H, I, h⟩
theorem pgs_cons {e : Expr} {es : List Expr} {t : TG} {u : TGs} (h1 : PG X e t) (h2 : PGs X es u)
    (hs : (assignEach (e :: es) X.env).map (·.2) = assign e X.env :: (assignEach es X.env).map (·.2) := by rfl) : PGs X (e :: es) (gCons t u) := by
  intro pins s σ H vs us Q I r h
  obtain ⟨v, vr, e1, h⟩ := h
  subst e1
  cases r with
  | cons r rr =>
    rw [hs]
    refine assignInOrder_cons (thn (h1 pins s σ H _ _ _ I r h) fun _ s1 ⟨σ1, H1, I1, q1⟩ => ?_)
    exact h2 pins s1 σ1 H1 _ _ Q I1 rr q1
/-- (a, b, ..) = a tuple of that length -/
def gTup (K : PySem.W.Frag) (n : Nat) (t : TGs) : TG := fun v σ H Q => ∃ a xs, v = .ref a ∧ SqT K H a xs ∧ xs.length = n ∧ t xs σ H Q
theorem pg_tup {es : List Expr} {k : Nat} {t : TGs} {n : Nat} (hc : X.calm = true) (h : PGs X es t)
    (hn : (assignEach es X.env).length = n := by rfl) (hst : (assignEach es X.env).findIdx? (·.1) = none := by rfl) : PG X (.Tuple es k pos) (gTup X.K n t) := by
  intro pins s σ H v u Q I r hw
  obtain ⟨a, xs, e1, hq, hl, hw⟩ := hw
  subst e1
  cases r
  obtain ⟨its, rv, ht, hz⟩ := I.tuple hq
  refine assign_Tuple_tuple (I.ok.hd hc) ht (by simp [hn, ← hl, rv.length]) hst fun h' hx => ?_
  have I1 : Inv X pins σ H { s with heap := h' } := I.kept (t' := s.toks) fun b o e => hx b o (Nat.ne_of_lt (Heap.lt_size e)) e
  exact h pins _ σ H xs _ Q I1 (by simpa using rv) hw
/-- o[i] = .. -/
def gSub (to ti : TE) (t : TSet) : TG := fun v σ H Q => to σ H fun o H1 => ti σ H1 fun i H2 => t o i v H2 fun H3 => Q σ H3
theorem pg_sub {o i : Expr} {to ti : TE} {t : TSet} (ho : PE X o to) (hi : PE X i ti) (hs : PSet X t)
    (ha : ∀ v, assign (.Subscript o i pos) X.env v = (do
      let ov ← holding [v] (eval o X.env)
      let iv ← holding [v, ov] (eval i X.env)
      standAt pos
      holding [v, ov, iv] (setItem ov iv v)
      release [v, ov, iv] []) := by intro _; rfl) : PG X (.Subscript o i pos) (gSub to ti t) := by
  intro pins s σ H v u Q I r h
  rw [ha]
  refine wpAny_bind (wpAny_holding (thn (ho pins s σ H _ I h) fun ov s1 ⟨x, H1, I1, r1, q1⟩ => ?_))
  refine wpAny_bind (wpAny_holding (thn (hi pins s1 σ H1 _ I1 q1) fun iv s2 ⟨y, H2, I2, r2, q2⟩ => ?_))
  refine wpAny_bind (wpAny_standAt (wpAny_bind (wpAny_holding (thn (hs pins s2 σ H2 x y v ov iv u _ I2 r1 r2 r q2) fun _ s3 ⟨H3, I3, q3⟩ => ?_))))
  exact wpAny_release ⟨σ, H3, I3, q3⟩
/-- target = value -/
def tAsg (te : TE) (g : TG) : TS := fun D σ H => te σ H fun x H1 => g x σ H1 D.nx
theorem ps_asg {tg e : Expr} {te : TE} {g : TG} (he : PE X e te) (hg : PG X tg g) (hs : swapsWithSole [tg] e pos.line X.env = pure false := by rfl) (hw : swappedStores [tg] e X.env = pure none := by rfl)
    (h1 : (assignEach [tg] X.env).map (·.2) = [assign tg X.env] := by rfl) : PS X (.Assign [tg] e pos) (tAsg te g) := by
  intro pins s σ H D I h
  refine wpAny_Assign_stores (thn (he pins s σ H _ I h) fun v s1 ⟨x, H1, I1, r1, q1⟩ => ?_) hs hw
  rw [h1]
  exact thn (hg pins s1 σ H1 x v _ I1 r1 q1) fun _ s2 q => q
/-- name = value -/
theorem ps_set {i : Nat} {x : Str} {e : Expr} {te : TE} {pos' : Pos} (hN : X.N.Nodup) (hi : X.N[i]? = some x) (hx : Loc X.env.scope x) (he : PE X e te) (hs : swapsWith e (some (.Name x pos')) pos.line X.env = pure false := by rfl) (hf : X.fn x = true ∨ X.env.scope.names.lookup x = some .local := by first | exact .inl rfl | exact .inr rfl | assumption) :
    PS X (.Assign [.Name x pos'] e pos) (tAsg te (gName i)) := by
  intro pins s σ H D I h
  refine wpAny_Assign_Name (thn (he pins s σ H _ I h) fun v s1 ⟨y, H1, I1, r1, q1⟩ => ?_) hs
  exact store_ok I1 hN hi hx r1 (fun s2 I2 => ⟨_, H1, I2, q1⟩) hf
end
section
variable {X : Cx} {pos : Pos}
/-- the invariant W with its measure -/
def tWhile (c : TT) (tb : TS) : TS := fun D σ H => ∃ W : Nat → St → Hp → Prop, (∃ m, W m σ H) ∧ ∀ m σ H, W m σ H →
  c σ H fun b H1 => if b = true then ∃ N : St → Hp → Prop, (∀ σ' H', N σ' H' → ∃ m', m' < m ∧ W m' σ' H') ∧ tb { D with nx := N, ct := N, bk := D.nx } σ H1 else D.nx σ H1
theorem ps_while {c : Expr} {body : List Stmt} {tc : TT} {tb : TS} (hp : PassesOwn (model X.prog X.w) X.A X.env X.xe) (hc : PT X c tc) (hb : PSs X body tb) : PS X (.While c body [] pos) (tWhile tc tb) := by
  intro pins s σ H D I h
  obtain ⟨W, ⟨m0, w0⟩, turn⟩ := h
  refine wpAny_While (codeAny_whileLoop (fun n s' => ∃ σ' H', Inv X pins σ' H' s' ∧ W n σ' H') ?_ m0 ⟨σ, H, I, w0⟩)
  rintro n s1 ⟨σ1, H1, I1, w1⟩
  refine wpAny_passesOwn hp (thn (hc pins s1 σ1 H1 _ I1 (turn n σ1 H1 w1)) fun b s2 ⟨H2, I2, q2⟩ => ?_)
  cases b with
  | true =>
    obtain ⟨N, hN, q2⟩ := q2
    rw [if_pos rfl]
    refine wpAny_passesOwn hp (thn (hb pins s2 σ1 H2 _ I2 q2) fun f s3 q3 => ?_)
    cases f with
    | next =>
      obtain ⟨σ3, H3, I3, n3⟩ := q3
      obtain ⟨m', hm, w3⟩ := hN σ3 H3 n3
      exact ⟨m', hm, σ3, H3, I3, w3⟩
    | cont =>
      obtain ⟨σ3, H3, I3, n3⟩ := q3
      obtain ⟨m', hm, w3⟩ := hN σ3 H3 n3
      exact ⟨m', hm, σ3, H3, I3, w3⟩
    | brk => exact q3
    | ret v => exact q3
  | false =>
    rw [if_neg Bool.false_ne_true]
    exact wpAny_execs_nil ⟨σ1, H2, I2, q2⟩
end
/-- at turn i: it yields x (the heap may grow), or it stops -/
structure It where
  go : Nat → Hp → Prop
  yld : Nat → Hp → V → Hp → Prop
  stop : Nat → Hp → Prop
/-- the iterator's own objects may turn: they are not the frame's, not pinned, younger than the entry (or a comprehension's own) -/
def FpOk (X : Cx) (pins : List (Addr × Obj)) (H : Hp) (b : Addr) : Prop :=
  H b = none ∧ b ≠ X.env.locals ∧ b ∉ X.fs ∧ (b ∈ X.ex ∨ X.s₀.heap.objs.size ≤ b) ∧ (∀ x c, X.env.cells.lookup x = some c → c ≠ b) ∧ ∀ p ∈ X.pn ++ pins, p.1 ≠ b
theorem Inv.fpOk {X : Cx} {pins : List (Addr × Obj)} {σ : St} {H H' : Hp} {s : Shared} {b : Addr} (I : Inv X pins σ H s) (hb : s.heap.objs.size ≤ b) (hn : H' b = none) : FpOk X pins H' b := by
  refine ⟨hn, Nat.ne_of_gt (Nat.lt_of_lt_of_le I.lt hb), I.nofs hb, .inr (Nat.le_trans I.sz hb), fun x c e z => ?_, fun p hp z => ?_⟩
  · obtain ⟨v, q⟩ := I.cell x c e
    exact absurd (Nat.lt_of_lt_of_le q.lt (by rw [z]; exact hb)) (Nat.lt_irrefl _)
  · exact absurd (Nat.lt_of_lt_of_le (Heap.lt_size (I.pin p hp).1) (by rw [z]; exact hb)) (Nat.lt_irrefl _)
structure Turn (P : Program) (w : World) (K : PySem.W.Frag) (tg : Expr) (J : It) (fp : List Addr) (it : Addr) (tn : Nat → Heap → Prop) : Prop where
  mem : it ∈ fp
  obj : ∀ i h, tn i h → ∀ b ∈ fp, ∃ o, h.get? b = some o ∧ ∀ v, o.data ≠ .cell v
  keep : ∀ i h h', tn i h → (∀ b ∈ fp, ∀ o, h.get? b = some o → h'.get? b = some o) → tn i h'
  item : ∀ (X : Cx), X.prog = P → X.w = w → X.K = K → X.calm = true → ∀ (i : Nat) (pins : List (Addr × Obj)) (s : Shared) (σ : St) (H : Hp) (E : Value → Shared → Prop), Inv X pins σ H s → (∀ b ∈ fp, FpOk X pins H b) → tn i s.heap → J.go i H →
    wpAny (model P w) X.A (pyNext (.ref it)) (fun r s1 => ∃ u, r = some u ∧
      wpAny (model P w) X.A (letOwnedTupleGo tg (.ref it) u) (fun _ s2 => ∃ x H', Inv X pins σ H' s2 ∧ RelV x u ∧ J.yld i H x H' ∧ tn (i + 1) s2.heap ∧ ∀ b ∈ fp, H' b = none) E s1) E s
  done : ∀ (X : Cx), X.prog = P → X.w = w → X.K = K → X.calm = true → ∀ (i : Nat) (pins : List (Addr × Obj)) (s : Shared) (σ : St) (H : Hp) (E : Value → Shared → Prop), Inv X pins σ H s → (∀ b ∈ fp, FpOk X pins H b) → tn i s.heap → J.stop i H →
    wpAny (model P w) X.A (pyNext (.ref it)) (fun r s1 => r = none ∧ Inv X pins σ H s1) E s
  self : ∀ (A : Around) (i : Nat) (s : Shared) (Q : Value → Shared → Prop) (E : Value → Shared → Prop), tn i s.heap → Q (.ref it) s → wpAny (model P w) A (pyIter (.ref it)) Q E s
abbrev TI := St → Hp → (It → Hp → Prop) → Prop
/-- an iterator has come -/
def PIE (X : Cx) (pins : List (Addr × Obj)) (σ : St) (tg : Expr) (R : It → Hp → Prop) (itv : Value) (s2 : Shared) : Prop :=
  ∃ (it : Addr) (fp : List Addr) (tn : Nat → Heap → Prop) (J : It) (H' : Hp), itv = .ref it ∧ Inv X pins σ H' s2 ∧ Turn X.prog X.w X.K tg J fp it tn ∧ tn 0 s2.heap ∧ (∀ b ∈ fp, FpOk X pins H' b) ∧ R J H'
def PI (X : Cx) (tg iter : Expr) (wi : TI) : Prop :=
  ∀ (pins : List (Addr × Obj)) (s : Shared) (σ : St) (H : Hp) (R : It → Hp → Prop), Inv X pins σ H s → wi σ H R →
    wpAny (model X.prog X.w) X.A (eval iter X.env) (fun v s1 => wpAny (model X.prog X.w) X.A (pyIter v) (PIE X pins σ tg R) X.xe s1) X.xe s
/-- the step ahead of the store is nothing for an iterator that keeps no tuple -/
theorem go_of {M : Model} {A : Around} {E : Value → Shared → Prop} {s : Shared} {tg : Expr} {it : Addr} {u : Value} {o : Obj} {n : String} {vs : Array Value} {Q : Unit → Shared → Prop} (ho : s.heap.get? it = some o) (hc : o.cls = .type n) (hd : o.data = .fields vs)
    (hn : ["enumerate", "zip", "dict_itemiterator", "dict_reverseitemiterator", "odict_iterator", "itertools.zip_longest", "itertools.pairwise"].contains n = false) (hQ : Q () s) : wpAny M A (letOwnedTupleGo tg (.ref it) u) Q E s := by
  unfold letOwnedTupleGo
  cases tg <;> first
    | exact wpAny_pure hQ
    | (cases u <;> first
        | exact wpAny_pure hQ
        | (refine wpAny_bind (wpAny_load ho ?_)
           rw [hc, hd]
           show wpAny M A (if (["enumerate", "zip", "dict_itemiterator", "dict_reverseitemiterator", "odict_iterator", "itertools.zip_longest", "itertools.pairwise"].contains n && vs[0]? == some (rawInt _)) = true then _ else _) Q E s
           rw [if_neg (by intro h; rw [hn, Bool.false_and] at h; cases h)]
           exact wpAny_pure hQ))
/-- the list at a, as it stands at each turn (a loop may append to it) -/
def Itl (K : PySem.W.Frag) (a : Addr) : It :=
  ⟨fun i H => ∃ xs x, SqL K H a xs ∧ xs[i]? = some x, fun i H x H' => H' = H ∧ ∀ xs, SqL K H a xs → xs[i]? = some x, fun i H => ∃ xs, SqL K H a xs ∧ xs.length ≤ i⟩
def Itt (K : PySem.W.Frag) (a : Addr) : It :=
  ⟨fun i H => ∃ xs x, SqT K H a xs ∧ xs[i]? = some x, fun i H x H' => H' = H ∧ ∀ xs, SqT K H a xs → xs[i]? = some x, fun i H => ∃ xs, SqT K H a xs ∧ xs.length ≤ i⟩
/-- lo, lo + 1, .. (n of them) -/
def Itr (lo : Int) (n : Nat) : It := ⟨fun i _ => i < n, fun i H x H' => H' = H ∧ x = .int (lo + i), fun i _ => n ≤ i⟩
theorem turn_list {P : Program} {w : World} {K : PySem.W.Frag} {tg : Expr} (a it : Addr) : Turn P w K tg (Itl K a) [it] it (fun i h => h.IsListIter it a i) where
  mem := by simp
  obj := fun i h st b hb => by
    have e : b = it := by simpa using hb
    subst e
    obtain ⟨o, e, c, d⟩ := st
    exact ⟨o, e, fun v z => by rw [d] at z; cases z⟩
  keep := fun i h h' st k => st.at fun o e => k it (by simp) o e
  item := by
    intro X hP hw hK hc i pins s σ H E I hf st hg
    subst hP hw hK
    obtain ⟨xs, x, hq, hx⟩ := hg
    obtain ⟨its, rv, p, hz⟩ := I.list hq
    obtain ⟨u, hu, ru⟩ := rv.get hx
    obtain ⟨f0, f1, f2, f3, f4, f5⟩ := hf it (by simp)
    refine wpAny_pyNext_list_item st p.isList (x := u) (by simpa using hu) fun h' st' sb => ?_
    have I1 : Inv X pins σ H { s with heap := h' } := I.turned (t' := s.toks) (fun b o hb e => (sb.2 b hb).trans e) f0 f1 f3 f4 f5
    obtain ⟨o, e, c, d⟩ := id st'
    exact ⟨u, rfl, go_of (s := { s with heap := h' }) e c d (by decide) ⟨x, H, I1, ru, ⟨rfl, fun ys hy => by rw [I.list_inj hy hq]; exact hx⟩, st', fun b hb => (hf b hb).1⟩⟩
  done := by
    intro X hP hw hK hc i pins s σ H E I hf st hg
    subst hP hw hK
    obtain ⟨xs, hq, hx⟩ := hg
    obtain ⟨its, rv, p, hz⟩ := I.list hq
    obtain ⟨f0, f1, f2, f3, f4, f5⟩ := hf it (by simp)
    have hl := rv.length
    exact wpAny_pyNext_list_end (I.ok.hd hc) st p.isList (by simp; omega) fun h' eb => ⟨rfl, I.turned (t' := s.toks) (fun b o hb e => eb b o hb e) f0 f1 f3 f4 f5⟩
  self := fun _ _ _ _ _ st h => wpAny_pyIter_listiter st h
theorem turn_tuple {P : Program} {w : World} {K : PySem.W.Frag} {tg : Expr} (a it : Addr) : Turn P w K tg (Itt K a) [it] it (fun i h => h.IsTupleIter it a i) where
  mem := by simp
  obj := fun i h st b hb => by
    have e : b = it := by simpa using hb
    subst e
    obtain ⟨o, e, c, d⟩ := st
    exact ⟨o, e, fun v z => by rw [d] at z; cases z⟩
  keep := fun i h h' st k => st.at fun o e => k it (by simp) o e
  item := by
    intro X hP hw hK hc i pins s σ H E I hf st hg
    subst hP hw hK
    obtain ⟨xs, x, hq, hx⟩ := hg
    obtain ⟨its, rv, p, hz⟩ := I.tuple hq
    obtain ⟨u, hu, ru⟩ := rv.get hx
    obtain ⟨f0, f1, f2, f3, f4, f5⟩ := hf it (by simp)
    refine wpAny_pyNext_tuple_item st (show s.heap.IsTuple a its.toArray from p) (x := u) (by simpa using hu) fun h' st' sb => ?_
    have I1 : Inv X pins σ H { s with heap := h' } := I.turned (t' := s.toks) (fun b o hb e => (sb.2 b hb).trans e) f0 f1 f3 f4 f5
    obtain ⟨o, e, c, d⟩ := id st'
    exact ⟨u, rfl, go_of (s := { s with heap := h' }) e c d (by decide) ⟨x, H, I1, ru, ⟨rfl, fun ys hy => by rw [I.tuple_inj hy hq]; exact hx⟩, st', fun b hb => (hf b hb).1⟩⟩
  done := by
    intro X hP hw hK hc i pins s σ H E I hf st hg
    subst hP hw hK
    obtain ⟨xs, hq, hx⟩ := hg
    obtain ⟨its, rv, p, hz⟩ := I.tuple hq
    obtain ⟨f0, f1, f2, f3, f4, f5⟩ := hf it (by simp)
    have hl := rv.length
    exact wpAny_pyNext_tuple_end (I.ok.hd hc) st (show s.heap.IsTuple a its.toArray from p) (by simp; omega) fun h' eb => ⟨rfl, I.turned (t' := s.toks) (fun b o hb e => eb b o hb e) f0 f1 f3 f4 f5⟩
  self := fun _ _ _ _ _ st h => wpAny_pyIter_tupleiter st h
theorem turn_range {P : Program} {w : World} {K : PySem.W.Frag} {tg : Expr} (it : Addr) (lo : Int) (n : Nat) : Turn P w K tg (Itr lo n) [it] it (fun i h => IsRangeIter h it (lo + (i : Nat) * 1) ((n : Int) - (i : Nat)) 1) where
  mem := by simp
  obj := fun i h st b hb => by
    have e : b = it := by simpa using hb
    subst e
    exact ⟨_, st, fun v z => by
      have z' : Data.fields _ = Data.cell v := z
      cases z'⟩
  keep := fun i h h' st k => k it (by simp) _ st
  item := by
    intro X hP hw hK hc i pins s σ H E I hf st hg
    subst hP hw hK
    obtain ⟨f0, f1, f2, f3, f4, f5⟩ := hf it (by simp)
    have W := Walks.range (prog := X.prog) (w := X.w) (I.ok.hd hc) it lo 1 n
    refine W.item i s _ _ hg st fun v h' tk hv st' kk => ?_
    obtain ⟨t, rfl⟩ := hv
    have I1 : Inv X pins σ H { s with heap := h', toks := tk } := I.turned (fun b o hb e => kk b o (by simpa using hb) e) f0 f1 f3 f4 f5
    refine ⟨_, rfl, go_of (s := { s with heap := h', toks := tk }) (n := "range_iterator") st' rfl rfl (by decide) ⟨.int (lo + i), H, I1, ⟨t, ?_⟩, ⟨rfl, rfl⟩, st', fun b hb => (hf b hb).1⟩⟩
    rw [Int.mul_one]
  done := by
    intro X hP hw hK hc i pins s σ H E I hf st hg
    subst hP hw hK
    obtain ⟨f0, f1, f2, f3, f4, f5⟩ := hf it (by simp)
    exact wpAny_pyNext_range_end (I.ok.hd hc) st (by have : n ≤ i := hg; omega) fun h' eb => ⟨rfl, I.turned (t' := s.toks) (fun b o hb e => eb b o hb e) f0 f1 f3 f4 f5⟩
  self := fun _ _ _ _ _ st h => wpAny_pyIter_rangeiter st h
end L2
namespace L2
open PySem PySem.Spec PyProof.Rows
section
variable {X : Cx} {tg : Expr}
/-- a range object just made, walked -/
theorem range_it {pins : List (Addr × Obj)} {σ : St} {H : Hp} {s : Shared} {R : It → Hp → Prop} {E : Value → Shared → Prop} {lo hi : Int} {t u v : Tok} {tk : Nat} (I : Inv X pins σ H s) (h1 : -(2 ^ 62) ≤ lo) (h2 : lo < 2 ^ 62) (h3 : -(2 ^ 62) ≤ hi) (h4 : hi < 2 ^ 62)
    (q : R (Itr lo (hi - lo).toNat) H) : wpAny (model X.prog X.w) X.A (pyIter (.ref s.heap.objs.size)) (PIE X pins σ tg R) E { s with heap := s.heap.push { cls := .type "range", data := .fields #[.int lo t, .int hi u, .int 1 v] }, toks := tk } := by
  refine wpAny_pyIter_range (IsRange.new ..) (small_one h1 h2 h3 h4) ?_
  have I1 : Inv X pins σ H { s with heap := s.heap.push { cls := .type "range", data := .fields #[.int lo t, .int hi u, .int 1 v] }, toks := tk } := I.kept fun b o e => Heap.get?_push_of_some _ e
  refine ⟨(s.heap.push { cls := .type "range", data := .fields #[.int lo t, .int hi u, .int 1 v] }).objs.size, [(s.heap.push { cls := .type "range", data := .fields #[.int lo t, .int hi u, .int 1 v] }).objs.size], _, _, H, rfl,
    I1.kept (t' := tk) fun b o e => Heap.get?_push_of_some _ e, turn_range _ lo (hi - lo).toNat, ?_, fun b hb => ?_, q⟩
  · have e1 : lo + ((0 : Nat) : Int) * 1 = lo := by simp
    have e2 : (((hi - lo).toNat : Nat) : Int) - ((0 : Nat) : Int) = Builtin.Range.rangeSize lo hi 1 := by rw [rangeSize_one]; split <;> omega
    show IsRangeIter _ _ (lo + ((0 : Nat) : Int) * 1) ((((hi - lo).toNat : Nat) : Int) - ((0 : Nat) : Int)) 1
    rw [e1, e2]
    exact Heap.get?_push_size _ rfl
  · have e : b = (s.heap.push { cls := .type "range", data := .fields #[.int lo t, .int hi u, .int 1 v] }).objs.size := by simpa using hb
    subst e
    exact I1.fpOk (Nat.le_refl _) (I1.hok.fresh (Nat.le_refl _))
def iRng1 (ta : TA) : TI := fun σ H R => ta σ H fun vs H1 => ∃ j : Int, vs = [.int j] ∧ -(2 ^ 62) ≤ j ∧ j < 2 ^ 62 ∧ R (Itr 0 j.toNat) H1
def iRng2 (ta : TA) : TI := fun σ H R => ta σ H fun vs H1 => ∃ i j : Int, vs = [.int i, .int j] ∧ (-(2 ^ 62) ≤ i ∧ i < 2 ^ 62 ∧ -(2 ^ 62) ≤ j ∧ j < 2 ^ 62) ∧ R (Itr i (j - i).toNat) H1
theorem pi_range1 {a : Expr} {ta : TA} {p pos : Pos} (hg : Gl X "range") (hm : X.mg "range" = none) (ha : PA X [a] ta) (hs : starEach [a] X.env = [(false, eval a X.env)] := by rfl) : PI X tg (.Call (.Name "range" p) [a] [] pos) (iRng1 ta) := by
  intro pins s σ H R I h
  refine Call_ (ld_blt I hg hm boot_range (PyProof.Rows.callWith_type1 (thn (ha pos pins s σ H _ I h) fun us s1 ⟨vs, H1, I1, r1, q1⟩ => ?_) hs rfl))
  obtain ⟨j, e, q1, q2, q⟩ := q1
  subst e
  cases r1 with
  | cons r rr =>
    cases rr
    obtain ⟨t, rfl⟩ := r
    exact call_range_1 (range_it I1 (by omega) (by omega) q1 q2 (by simpa using q))
theorem pi_range2 {a b : Expr} {ta : TA} {p pos : Pos} (hg : Gl X "range") (hm : X.mg "range" = none) (ha : PA X [a, b] ta) (hs : starEach [a, b] X.env = [(false, eval a X.env), (false, eval b X.env)] := by rfl) (hs2 : starEach [b] X.env = [(false, eval b X.env)] := by rfl) :
    PI X tg (.Call (.Name "range" p) [a, b] [] pos) (iRng2 ta) := by
  intro pins s σ H R I h
  refine Call_ (ld_blt I hg hm boot_range (PyProof.Rows.callWith_type1 (thn (ha pos pins s σ H _ I h) fun us s1 ⟨vs, H1, I1, r1, q1⟩ => ?_) (by rw [hs, hs2]) (by rw [hs2]; rfl)))
  obtain ⟨i, j, e, ⟨q1, q2, q3, q4⟩, q⟩ := q1
  subst e
  cases r1 with
  | cons r rr =>
    cases rr with
    | cons r' rr =>
      cases rr
      obtain ⟨t, rfl⟩ := r
      obtain ⟨t', rfl⟩ := r'
      exact call_range_2 (range_it I1 q1 q2 q3 q4 q)
/-- W: the invariant by the turn and a measure; N: what the body is to reach -/
def tFor (wi : TI) (g : TG) (tb : TS) : TS := fun D σ H => wi σ H fun J H1 => ∃ W : Nat → Nat → St → Hp → Prop, (∃ m, W 0 m σ H1) ∧ ∀ i m σ H, W i m σ H →
  (J.stop i H ∧ D.nx σ H) ∨ (J.go i H ∧ ∃ N : St → Hp → Prop, (∀ σ' H', N σ' H' → ∃ m', m' < m ∧ W (i + 1) m' σ' H') ∧ ∀ x H', J.yld i H x H' → g x σ H' fun σ2 H2 => tb { D with nx := N, ct := N, bk := D.nx } σ2 H2)
/-- the records at fp as they stand -/
def pinsAt (fp : List Addr) (h : Heap) : List (Addr × Obj) := fp.filterMap fun b => (h.get? b).map fun o => (b, o)
theorem mem_pinsAt {fp : List Addr} {h : Heap} {b : Addr} {o : Obj} (hb : b ∈ fp) (e : h.get? b = some o) : (b, o) ∈ pinsAt fp h := List.mem_filterMap.mpr ⟨b, hb, by rw [e]; rfl⟩
theorem of_pinsAt {fp : List Addr} {h : Heap} {p : Addr × Obj} (hp : p ∈ pinsAt fp h) : p.1 ∈ fp ∧ h.get? p.1 = some p.2 := by
  obtain ⟨b, hb, e⟩ := List.mem_filterMap.mp hp
  cases q : h.get? b with
  | none => rw [q] at e; cases e
  | some o =>
    rw [q] at e
    have e' : (b, o) = p := Option.some.inj e
    subst e'
    exact ⟨hb, q⟩
theorem Inv.pinned {pins : List (Addr × Obj)} {σ : St} {H : Hp} {s : Shared} {fp : List Addr} (I : Inv X pins σ H s) (hf : ∀ b ∈ fp, FpOk X pins H b) (ho : ∀ b ∈ fp, ∃ o, s.heap.get? b = some o ∧ ∀ v, o.data ≠ .cell v) : Inv X (pins ++ pinsAt fp s.heap) σ H s :=
  I.pins_of fun p hp => (List.mem_append.mp hp).elim (fun z => I.pin p (List.mem_append_right _ z)) fun z => by
    obtain ⟨hb, e⟩ := of_pinsAt z
    obtain ⟨f0, f1, f2, _⟩ := hf p.1 hb
    obtain ⟨o, e', d⟩ := ho p.1 hb
    rw [e] at e'; cases e'
    exact ⟨e, f0, f1, f2, d⟩
theorem Inv.unpinned {pins pl : List (Addr × Obj)} {σ : St} {H : Hp} {s : Shared} (I : Inv X (pins ++ pl) σ H s) : Inv X pins σ H s := I.pins_of fun p hp => I.pin p (List.mem_append_right _ (List.mem_append_left _ hp))
theorem ps_for {iter : Expr} {body : List Stmt} {wi : TI} {g : TG} {tb : TS} {pos : Pos} (hp : PassesOwn (model X.prog X.w) X.A X.env X.xe) (hc : X.calm = true) (hi : PI X tg iter wi) (hg : PG X tg g) (hb : PSs X body tb)
    (hs : ∀ x, foldedSetIterable iter X.env x = pure x := by intro _; rfl) : PS X (.For tg iter body [] pos) (tFor wi g tb) := by
  intro pins s σ H D I h
  refine wpAny_For (thn (hi pins s σ H _ I h) fun v s1 h1 => thn h1 fun itv s2 h2 => ?_) hs
  obtain ⟨it, fp, tn, J, H2, e, I2, T, st2, f2, W, ⟨m0, w0⟩, turn⟩ := h2
  subst e
  -- what stays true of the iterator's objects through the loop
  have stat : ∀ {H' : Hp}, (∀ b ∈ fp, H' b = none) → ∀ b ∈ fp, FpOk X pins H' b := fun hn b hb => ⟨hn b hb, (f2 b hb).2⟩
  refine codeAny_forLoop_any (fun n s' => ∃ i σ' H', Inv X pins σ' H' s' ∧ tn i s'.heap ∧ (∀ b ∈ fp, H' b = none) ∧ W i n σ' H') ?_ m0 ⟨0, σ, H2, I2, st2, fun b hb => (f2 b hb).1, w0⟩
  rintro n s3 ⟨i, σ3, H3, I3, st3, fr3, w3⟩
  rcases turn i n σ3 H3 w3 with ⟨stop, qn⟩ | ⟨go, N, hN, step⟩
  · refine wpAny_passesOwn hp (thn (T.done X rfl rfl rfl hc i pins s3 σ3 H3 X.xe I3 (stat fr3) st3 stop) fun r s4 ⟨hr, I4⟩ => ?_)
    subst hr
    exact wpAny_execs_nil ⟨σ3, H3, I4, qn⟩
  · refine wpAny_passesOwn hp (thn (T.item X rfl rfl rfl hc i pins s3 σ3 H3 X.xe I3 (stat fr3) st3 go) fun r s4 ⟨u, hr, h4⟩ => ?_)
    subst hr
    refine wpAny_passesOwn hp (thn h4 fun _ s5 ⟨x, H5, I5, r5, y5, st5, fr5⟩ => ?_)
    have I5' := I5.pinned (stat fr5) (T.obj _ _ st5)
    refine wpAny_passesOwn hp (thn (hg _ s5 σ3 H5 x u _ I5' r5 (step x H5 y5)) fun _ s6 ⟨σ6, H6, I6, q6⟩ => ?_)
    refine wpAny_passesOwn hp (thn (hb _ s6 σ6 H6 _ I6 q6) fun f s7 q7 => ?_)
    have again : ∀ {σ7 : St} {H7 : Hp}, Inv X (pins ++ pinsAt fp s5.heap) σ7 H7 s7 → N σ7 H7 → ∃ m, m < n ∧ ∃ i σ' H', Inv X pins σ' H' s7 ∧ tn i s7.heap ∧ (∀ b ∈ fp, H' b = none) ∧ W i m σ' H' := fun {σ7 H7} I7 n7 => by
      obtain ⟨m', hm, w7⟩ := hN σ7 H7 n7
      refine ⟨m', hm, i + 1, σ7, H7, I7.unpinned, T.keep _ _ _ st5 fun b hb o e => (I7.pin (b, o) (List.mem_append_right _ (List.mem_append_right _ (mem_pinsAt hb e)))).1, fun b hb => ?_, w7⟩
      obtain ⟨o, e, d⟩ := T.obj _ _ st5 b hb
      exact (I7.pin (b, o) (List.mem_append_right _ (List.mem_append_right _ (mem_pinsAt hb e)))).2.1
    cases f with
    | next => obtain ⟨σ7, H7, I7, n7⟩ := q7; exact again I7 n7
    | cont => obtain ⟨σ7, H7, I7, n7⟩ := q7; exact again I7 n7
    | brk => obtain ⟨σ7, H7, I7, q7⟩ := q7; exact ⟨σ7, H7, I7.unpinned, q7⟩
    | ret v => obtain ⟨x7, σ7, H7, I7, r7, q7⟩ := q7; exact ⟨x7, σ7, H7, I7.unpinned, r7, q7⟩
end
end L2
namespace L2
open PySem PySem.Spec PyProof.Rows
abbrev R2 := V → V → Hp → VK → Prop
/-- a two-place operation on values: f is binaryOp op, inplaceOp op or compareOp op -/
def OpR (X : Cx) (f : Value → Value → Sem Value) (r : R2) : Prop :=
  ∀ (pins : List (Addr × Obj)) (s : Shared) (σ : St) (H : Hp) (x y : V) (v u : Value) (Q : VK), Inv X pins σ H s → RelV x v → RelV y u → r x y H Q →
    wpAny (model X.prog X.w) X.A (f v u) (EP X pins σ Q) X.xe s
/-- a one-place operation -/
def UnR (X : Cx) (f : Value → Sem Value) (r : V → Hp → VK → Prop) : Prop :=
  ∀ (pins : List (Addr × Obj)) (s : Shared) (σ : St) (H : Hp) (x : V) (v : Value) (Q : VK), Inv X pins σ H s → RelV x v → r x H Q →
    wpAny (model X.prog X.w) X.A (f v) (EP X pins σ Q) X.xe s
/-- a call of a value that is known (a builtin, a type) with values -/
def CallR (X : Cx) (f : Value) (r : List V → Hp → VK → Prop) : Prop :=
  ∀ (pins : List (Addr × Obj)) (s : Shared) (σ : St) (H : Hp) (xs : List V) (us : List Value) (Q : VK), Inv X pins σ H s → Vals xs us → r xs H Q →
    wpAny (model X.prog X.w) X.A (call f us) (EP X pins σ Q) X.xe s
/-- a value's truth -/
def TruR (X : Cx) (r : V → Hp → (Bool → Hp → Prop) → Prop) : Prop :=
  ∀ (pins : List (Addr × Obj)) (s : Shared) (σ : St) (H : Hp) (x : V) (v : Value) (Q : Bool → Hp → Prop), Inv X pins σ H s → RelV x v → r x H Q →
    wpAny (model X.prog X.w) X.A (truthy v) (TP X pins σ Q) X.xe s
def tOp (r : R2) (ta tb : TE) : TE := fun σ H Q => ta σ H fun x H1 => tb σ H1 fun y H2 => r x y H2 Q
def tUn (r : V → Hp → VK → Prop) (ta : TE) : TE := fun σ H Q => ta σ H fun x H1 => r x H1 Q
/-- ints in, under C, and a value out -/
def rI (C : Int → Int → Prop) (g : Int → Int → V) : R2 := fun x y H Q => ∃ i j, x = .int i ∧ y = .int j ∧ C i j ∧ Q (g i j) H
def rI0 (g : Int → Int → V) : R2 := fun x y H Q => ∃ i j, x = .int i ∧ y = .int j ∧ Q (g i j) H
def rU (g : Int → V) : V → Hp → VK → Prop := fun x H Q => ∃ i, x = .int i ∧ Q (g i) H
section
variable {X : Cx} {a b c : Expr} {ta tb tc : TE} {pos : Pos}
theorem binT (ha : PE X a ta) (hb : PE X b tb) {pins : List (Addr × Obj)} {s : Shared} {σ : St} {H : Hp} {R : V → V → Hp → Prop} (I : Inv X pins σ H s)
    (h : ta σ H fun x H1 => tb σ H1 fun y H2 => R x y H2) {Q : Value → Shared → Prop} {f : Value → Value → Sem Value}
    (hf : ∀ v u s2 x y H2, Inv X pins σ H2 s2 → RelV x v → RelV y u → R x y H2 → wpAny (model X.prog X.w) X.A (f v u) Q X.xe s2) :
    wpAny (model X.prog X.w) X.A (eval a X.env) (fun v s₁ => wpAny (model X.prog X.w) X.A (eval b X.env) (fun u s₂ => wpAny (model X.prog X.w) X.A (f v u) Q X.xe s₂) X.xe s₁) X.xe s := by
  refine thn (ha pins s σ H _ I h) fun v s1 ⟨x, H1, I1, r1, q1⟩ => ?_
  refine thn (hb pins s1 σ H1 _ I1 q1) fun u s2 ⟨y, H2, I2, r2, q2⟩ => ?_
  exact hf v u s2 x y H2 I2 r1 r2 q2
theorem pe_op {op : Operator} {r : R2} (ho : OpR X (binaryOp op) r) (ha : PE X a ta) (hb : PE X b tb) : PE X (.BinOp a op b pos) (tOp r ta tb) := by
  intro pins s σ H Q I h
  exact wpAny_BinOp (binT ha hb I h fun v u s2 x y H2 I2 rx ry q => ho pins s2 σ H2 x y v u Q I2 rx ry q)
theorem pe_un {op : UnaryOp} {r : V → Hp → VK → Prop} (ho : UnR X (unaryOp op) r) (ha : PE X a ta) : PE X (.UnaryOp op a pos) (tUn r ta) := by
  intro pins s σ H Q I h
  exact UnaryOp_ (thn (ha pins s σ H _ I h) fun v s1 ⟨x, H1, I1, r1, q1⟩ => ho pins s1 σ H1 x v Q I1 r1 q1)
theorem opI {f : Value → Value → Sem Value} {C : Int → Int → Prop} {g : Int → Int → Int}
    (rule : ∀ (i j : Int) (t u : Tok) (s : Shared) (Q : Value → Shared → Prop) (E : Value → Shared → Prop), C i j → Q (.int (g i j) s.toks) { s with toks := s.toks + 1 } → wpAny (model X.prog X.w) X.A (f (.int i t) (.int j u)) Q E s) :
    OpR X f (rI C fun i j => .int (g i j)) := by
  intro pins s σ H x y v u Q I rx ry h
  obtain ⟨i, j, rfl, rfl, hc, q⟩ := h
  obtain ⟨t, rfl⟩ := rx
  obtain ⟨t', rfl⟩ := ry
  exact rule i j t t' s _ _ hc ⟨.int (g i j), H, I.tok _, ⟨_, rfl⟩, q⟩
theorem opI0 {f : Value → Value → Sem Value} {g : Int → Int → Int}
    (rule : ∀ (i j : Int) (t u : Tok) (s : Shared) (Q : Value → Shared → Prop) (E : Value → Shared → Prop), Q (.int (g i j) s.toks) { s with toks := s.toks + 1 } → wpAny (model X.prog X.w) X.A (f (.int i t) (.int j u)) Q E s) :
    OpR X f (rI0 fun i j => .int (g i j)) := by
  intro pins s σ H x y v u Q I rx ry h
  obtain ⟨i, j, rfl, rfl, q⟩ := h
  obtain ⟨t, rfl⟩ := rx
  obtain ⟨t', rfl⟩ := ry
  exact rule i j t t' s _ _ ⟨.int (g i j), H, I.tok _, ⟨_, rfl⟩, q⟩
theorem opB0 {f : Value → Value → Sem Value} {g : Int → Int → Bool}
    (rule : ∀ (i j : Int) (t u : Tok) (s : Shared) (Q : Value → Shared → Prop) (E : Value → Shared → Prop), Q (.bool (g i j)) s → wpAny (model X.prog X.w) X.A (f (.int i t) (.int j u)) Q E s) :
    OpR X f (rI0 fun i j => .bl (g i j)) := by
  intro pins s σ H x y v u Q I rx ry h
  obtain ⟨i, j, rfl, rfl, q⟩ := h
  obtain ⟨t, rfl⟩ := rx
  obtain ⟨t', rfl⟩ := ry
  exact rule i j t t' s _ _ ⟨.bl (g i j), H, I, rfl, q⟩
def CPow (i j : Int) : Prop := 0 ≤ j ∧ j ≤ 1000000 ∧ i.natAbs < 2 ^ 64
def CMul (i j : Int) : Prop := (-(2 ^ 64) < i ∧ i < 2 ^ 64) ∨ (-(2 ^ 64) < j ∧ j < 2 ^ 64)
theorem CMul.ok {i j : Int} (h : CMul i j) : IntMulOk i j := by
  rcases h with ⟨h1, h2⟩ | ⟨h1, h2⟩
  · exact .of_left (intBits_le_64 h1 h2)
  · exact .of_right (intBits_le_64 h1 h2)
theorem op_add : OpR X (binaryOp .Add) (rI0 fun i j => .int (i + j)) := opI0 fun _ _ _ _ _ _ _ q => add_int q
theorem op_sub : OpR X (binaryOp .Sub) (rI0 fun i j => .int (i - j)) := opI0 fun _ _ _ _ _ _ _ q => sub_int q
theorem op_mul : OpR X (binaryOp .Mult) (rI CMul fun i j => .int (i * j)) := opI fun _ _ _ _ _ _ _ hc q => mul_int q hc.ok
/-- % by a positive divisor of any size -/
theorem op_mod : OpR X (binaryOp .Mod) (rI (fun _ j => 0 < j) fun i j => .int (i % j)) := opI fun i j _ _ _ _ _ hc q => by
  have h1 : (0 : Int) < j := hc
  exact mod_int' (by omega) (by rw [Int.fmod_eq_emod_of_nonneg i (by omega)]; exact q)
theorem op_pow : OpR X (binaryOp .Pow) (rI CPow fun i j => .int (i ^ j.toNat)) := opI fun _ _ _ _ _ _ _ hc q => pow_int_small hc.1 hc.2.1 hc.2.2 q
theorem unI {f : Value → Sem Value} {g : Int → Int}
    (rule : ∀ (i : Int) (t : Tok) (s : Shared) (Q : Value → Shared → Prop) (E : Value → Shared → Prop), Q (.int (g i) s.toks) { s with toks := s.toks + 1 } → wpAny (model X.prog X.w) X.A (f (.int i t)) Q E s) :
    UnR X f (rU fun i => .int (g i)) := by
  intro pins s σ H x v Q I rx h
  obtain ⟨i, rfl, q⟩ := h
  obtain ⟨t, rfl⟩ := rx
  exact rule i t s _ _ ⟨.int (g i), H, I.tok _, ⟨_, rfl⟩, q⟩
theorem un_neg : UnR X (unaryOp .USub) (rU fun i => .int (-i)) := unI fun _ _ _ _ _ q => neg_int q
end
section
variable {X : Cx} {a b c : Expr} {ta tb tc : TE} {pos : Pos}
theorem fin_bl {pins : List (Addr × Obj)} {σ : St} {H : Hp} {s : Shared} {Q : VK} {k k' : Bool} (I : Inv X pins σ H s) (q : Q (.bl k) H) (e : k = k') : EP X pins σ Q (.bool k') s := by
  subst e
  exact ⟨.bl k, H, I, rfl, q⟩
theorem op_lt : OpR X (compareOp .Lt) (rI0 fun i j => .bl (decide (i < j))) := opB0 fun _ _ _ _ _ _ _ q => lt_int q
theorem op_gt : OpR X (compareOp .Gt) (rI0 fun i j => .bl (decide (j < i))) := opB0 fun _ _ _ _ _ _ _ q => gt_int q
theorem op_ge : OpR X (compareOp .GtE) (rI0 fun i j => .bl (decide (j ≤ i))) := opB0 fun _ _ _ _ _ _ _ q => ge_int q
/-- the one string within the other -/
theorem op_in_str : OpR X (compareOp .In) (fun x y H Q => ∃ i j, x = .str i ∧ y = .str j ∧ Q (.bl (!(Builtin.Str.occurrences j i 0 j.length 1).isEmpty)) H) := by
  intro pins s σ H x y v u Q I rx ry h
  obtain ⟨i, j, rfl, rfl, q⟩ := h
  obtain ⟨t, rfl⟩ := rx
  obtain ⟨t', rfl⟩ := ry
  exact in_str (fin_bl I q rfl)
/-- two rules for one operation: by cases -/
theorem OpR.or {f : Value → Value → Sem Value} {r r' : R2} (h : OpR X f r) (h' : OpR X f r') : OpR X f (fun x y H Q => r x y H Q ∨ r' x y H Q) := by
  intro pins s σ H x y v u Q I rx ry q
  rcases q with q | q
  · exact h pins s σ H x y v u Q I rx ry q
  · exact h' pins s σ H x y v u Q I rx ry q
theorem nomark (b : Expr) {op : CmpOp} (h : op ≠ .In := by decide) (h2 : op ≠ .NotIn := by decide) : behindInMarks op b = false := by
  have e1 : (op == CmpOp.In) = false := by cases op <;> first | rfl | exact absurd rfl h
  have e2 : (op == CmpOp.NotIn) = false := by cases op <;> first | rfl | exact absurd rfl h2
  cases b <;> simp [behindInMarks, e1, e2]
/-- a comparison as a value; hm: nomark b, or (for in, not in) by with_unfolding_all rfl -/
theorem pe_cmpR {op : CmpOp} {r : R2} (ho : OpR X (compareOp op) r) (ha : PE X a ta) (hb : PE X b tb) (hm : behindInMarks op b = false) : PE X (.Compare a [op] [b] pos) (tOp r ta tb) := by
  intro pins s σ H Q I h
  exact wpAny_Compare1 (binT ha hb I h fun v u s2 x y H2 I2 rx ry q => ho pins s2 σ H2 x y v u Q I2 rx ry q) hm
/-- a reading of a value as a test -/
def tTest (t : TE) : TT := fun σ H Q => t σ H fun x H' => ∃ k, x = .bl k ∧ Q k H'
theorem pt_cmpR {op : CmpOp} {r : R2} (ho : OpR X (compareOp op) r) (ha : PE X a ta) (hb : PE X b tb) (hm : behindInMarks op b = false) : PT X (.Compare a [op] [b] pos) (tTest (tOp r ta tb)) := by
  intro pins s σ H Q I h
  refine wpAny_isTrue_Compare1 (thn (ha pins s σ H _ I h) fun v s1 ⟨x, H1, I1, r1, q1⟩ => thn (hb pins s1 σ H1 _ I1 q1) fun u s2 ⟨y, H2, I2, r2, q2⟩ =>
    thn (ho pins s2 σ H2 x y v u _ I2 r1 r2 q2) fun c s3 ⟨z, H3, I3, r3, k, e, q3⟩ => ?_) hm
  subst e
  cases r3
  exact wpAny_truthy_bool ⟨H3, I3, q3⟩
/-- a value's truth by the abstract heap -/
def TruV (K : PySem.W.Frag) (x : V) (H : Hp) (k : Bool) : Prop :=
  match x with
  | .non => k = false
  | .bl b => k = b
  | .int i => k = (i != 0)
  | .str y => y.length ≤ sizeLine ∧ k = ((y.length : Int) != 0)
  | .byt y => y.size ≤ sizeLine ∧ k = ((y.size : Int) != 0)
  | .ref p => (∃ xs, SqL K H p xs ∧ k = !xs.isEmpty) ∨ (∃ xs, SqT K H p xs ∧ k = !xs.isEmpty) ∨ ∃ kvs, H p = some (.dK kvs) ∧ k = !kvs.isEmpty
  | _ => False
theorem isEmpty_kv {κ : Type} {kvs : List (κ × V)} {vs : List (κ × Value)} (r : KV kvs vs) : (!vs.isEmpty) = !kvs.isEmpty := by
  cases r <;> rfl
theorem isEmpty_of {xs : List V} {its : List Value} (r : Vals xs its) : (!its.toArray.isEmpty) = !xs.isEmpty := by
  cases r <;> simp
theorem line63 : (sizeLine : Nat) < 2 ^ 63 := by rw [sizeLine_eq]; decide
theorem tru_ok : TruR X (fun x H Q => ∃ k, TruV X.K x H k ∧ Q k H) := by
  intro pins s σ H x v Q I rx h
  obtain ⟨k, e, q⟩ := h
  have hl := line63
  have hs : sizeLine = 16777216 := sizeLine_eq
  cases x with
  | non =>
    cases rx
    have e' : k = false := e
    subst e'
    exact truthy_none ⟨H, I, q⟩
  | bl b =>
    cases rx
    have e' : k = b := e
    subst e'
    exact wpAny_truthy_bool ⟨H, I, q⟩
  | int i =>
    obtain ⟨t, rfl⟩ := rx
    have e' : k = (i != 0) := e
    subst e'
    exact PySem.P.truthy_int ⟨H, I, q⟩
  | str y =>
    obtain ⟨t, rfl⟩ := rx
    obtain ⟨hy, e'⟩ : y.length ≤ sizeLine ∧ k = ((y.length : Int) != 0) := e
    subst e'
    exact PySem.P.truthy_str (by omega) ⟨H, I.tok _, q⟩
  | byt y =>
    obtain ⟨t, rfl⟩ := rx
    obtain ⟨hy, e'⟩ : y.size ≤ sizeLine ∧ k = ((y.size : Int) != 0) := e
    subst e'
    exact PySem.W.truthy_bytes (by omega) ⟨H, I.tok _, q⟩
  | ref p =>
    cases rx
    have e' : (∃ xs, SqL X.K H p xs ∧ k = !xs.isEmpty) ∨ (∃ xs, SqT X.K H p xs ∧ k = !xs.isEmpty) ∨ ∃ kvs, H p = some (.dK kvs) ∧ k = !kvs.isEmpty := e
    rcases e' with ⟨xs, hx, e'⟩ | ⟨xs, hx, e'⟩ | ⟨kvs, hx, e'⟩
    · subst e'
      obtain ⟨its, r, pl, hz⟩ := I.list hx
      have hlen := r.length
      exact wpAny_truthy_list pl.isList (by simp only [List.size_toArray]; omega) ⟨H, I.tok _, by rw [isEmpty_of r]; exact q⟩
    · subst e'
      obtain ⟨its, r, pl, hz⟩ := I.tuple hx
      have hlen := r.length
      exact truthy_tuple pl (by simp only [List.size_toArray]; omega) ⟨H, I.tok _, by rw [isEmpty_of r]; exact q⟩
    · subst e'
      obtain ⟨hz, hS, vs, r, m⟩ : kvs.length ≤ sizeLine ∧ (p == sysModules) = false ∧ ∃ vs, KV kvs vs ∧ s.heap.DictOf (mixKind X.prog X.w) p vs := I.hok p _ hx
      have hlen : kvs.length = vs.length := Paired.length r
      exact wpAny_truthy_dict hS m (by omega) ⟨H, I.tok _, by rw [isEmpty_kv r]; exact q⟩
  | _ => exact (show False from e).elim
/-- any expression whose test is its value's truth (a name, a call, a subscript, a field ..: he by fun _ => rfl) -/
theorem pt_truth (ha : PE X a ta) (he : ∀ whole, isTrue a X.env whole = (do let v ← whole; standAt a.pos; holding [v] (truthy v))) :
    PT X a (fun σ H Q => ta σ H fun x H' => ∃ k, TruV X.K x H' k ∧ Q k H') := by
  intro pins s σ H Q I h
  exact isTrue_plain (thn (ha pins s σ H _ I h) fun v s1 ⟨x, H1, I1, r1, q1⟩ => tru_ok pins s1 σ H1 x v Q I1 r1 q1) (he _)
theorem op_add_str : OpR X (binaryOp .Add) (fun x y H Q => ∃ i j, x = .str i ∧ y = .str j ∧ i.length + j.length ≤ sizeLine ∧ Q (.str (i ++ j)) H) := by
  intro pins s σ H x y v u Q I rx ry h
  obtain ⟨i, j, rfl, rfl, hz, q⟩ := h
  obtain ⟨t, rfl⟩ := rx
  obtain ⟨t', rfl⟩ := ry
  exact add_str (fun t' tk => ⟨.str (i ++ j), H, I.tok _, ⟨_, rfl⟩, q⟩) hz
theorem vals1 {x : V} {us : List Value} (r : Vals [x] us) : ∃ u, us = [u] ∧ RelV x u := by
  cases r with
  | cons r1 r2 => cases r2; exact ⟨_, rfl, r1⟩
theorem vals2 {x y : V} {us : List Value} (r : Vals [x, y] us) : ∃ u w', us = [u, w'] ∧ RelV x u ∧ RelV y w' := by
  cases r with
  | cons r1 r2 =>
    cases r2 with
    | cons r3 r4 => cases r4; exact ⟨_, _, rfl, r1, r3⟩
theorem call_max2 (hc : X.calm = true) : CallR X (.builtin "max") (fun xs H Q => ∃ i j, xs = [.int i, .int j] ∧ Q (.int (if j > i then j else i)) H) := by
  intro pins s σ H xs us Q I r h
  obtain ⟨i, j, rfl, q⟩ := h
  obtain ⟨u, w', rfl, ⟨t, rfl⟩, ⟨t', rfl⟩⟩ := vals2 r
  refine max_two_ints (I.ok.hd hc) fun h' tk k => ⟨_, H, I.kept k, ?_, q⟩
  by_cases hj : j > i
  · rw [if_pos hj, if_pos hj]; exact ⟨_, rfl⟩
  · rw [if_neg hj, if_neg hj]; exact ⟨_, rfl⟩
theorem call_int1 : CallR X (.type "int") (fun xs H Q => (∃ i, xs = [.int i] ∧ Q (.int i) H) ∨ ∃ k, xs = [.bl k] ∧ Q (.int (if k then 1 else 0)) H) := by
  intro pins s σ H xs us Q I r h
  rcases h with ⟨i, rfl, q⟩ | ⟨k, rfl, q⟩
  · obtain ⟨u, rfl, t, rfl⟩ := vals1 r
    exact call_int_int ⟨.int i, H, I, ⟨_, rfl⟩, q⟩
  · obtain ⟨u, rfl, r1⟩ := vals1 r
    cases r1
    exact call_int_bool ⟨.int (if k then 1 else 0), H, I.tok _, ⟨_, rfl⟩, q⟩
end
end L2
namespace L2
open PySem PySem.Spec PyProof.Rows
section
variable {prog : Program} {w : World} {A : Around} {E : Value → Shared → Prop} {s : Shared} {K : PySem.W.Frag} {x dx C f : Addr} {mA : Str → Option Value} {name : Str} {v : Value}
end
theorem RelO.some_of {v : V} {o : Option Value} (r : RelO (some v) o) : ∃ u, o = some u ∧ RelV v u := by
  cases o with
  | none => exact (show False from r).elim
  | some u => exact ⟨u, rfl, r⟩
section
variable {P : Program} {w : World} {H H' : Hp} {h h' : Heap} {a C dx : Addr} {fs fs' : List (Str × V)}
end
section
variable {X : Cx} {pins : List (Addr × Obj)} {σ : St} {H : Hp} {s : Shared} {a C dx : Addr} {fs : List (Str × V)} {f : Str} {v : V} {A : Around} {E : Value → Shared → Prop}
end
section
variable {X : Cx} {o e value : Expr} {f : Str} {pos pos' tpos : Pos} {ta tv : TE}
end
section
variable {X : Cx} {pins : List (Addr × Obj)} {σ : St} {H : Hp} {s : Shared} {A : Around} {E : Value → Shared → Prop} {Q : Value → Shared → Prop} {c : Value} {b : Bool}
end
end L2
namespace L2
open PySem PySem.Spec PyProof.Rows
structure Room (k : Nat) (A : Around) : Prop where
  hd : A.handled = none
  dp : A.depth + 3 * k + 5 < recursionLimit
  un : A.units + 16 * k + 200 < cLine
theorem Room.mono {j k : Nat} {A : Around} (r : Room k A) (h : j ≤ k) : Room j A := ⟨r.hd, by have := r.dp; omega, by have := r.un; omega⟩
theorem Room.deeper {k : Nat} {A : Around} (r : Room (k + 1) A) (env : Env) : Room k (A.deeper env) :=
  ⟨r.hd, by have := r.dp; show A.depth + 1 + 3 * k + 5 < _; omega, by have := r.un; show A.units + 3 + 16 * k + 200 < _; omega⟩
theorem Room.depth {k : Nat} {A : Around} (r : Room k A) : A.depth < recursionLimit := by have := r.dp; omega
def tNil : TA := fun _ H Q => Q [] H
def tCons (ta : TE) (tr : TA) : TA := fun σ H Q => ta σ H fun x H1 => tr σ H1 fun xs H2 => Q (x :: xs) H2
section
variable {X : Cx} {e : Expr} {es : List Expr} {te : TE} {t : TA} {pos : Pos}
theorem pa_nil : PA X [] tNil := fun _ _ _ _ H Q I h => Calls.spliced_nil ⟨[], H, I, .nil, h⟩
theorem pa_cons (ha : PE X e te) (hr : PA X es t) (hs : starEach (e :: es) X.env = (false, eval e X.env) :: starEach es X.env := by rfl) : PA X (e :: es) (tCons te t) := by
  intro pos pins s σ H Q I h
  rw [hs]
  show wpAny _ _ (spliced ((false, eval e X.env) :: backTo pos (starEach es X.env))) _ _ s
  refine Calls.spliced_cons (thn (ha pins s σ H _ I h) fun u s1 ⟨x, H1, I1, r1, q1⟩ => ?_)
  exact thn (hr pos pins s1 σ H1 _ I1 q1) fun us s2 ⟨xs, H2, I2, r2, q2⟩ => ⟨x :: xs, H2, I2, .cons r1 r2, q2⟩
/-- a tuple, a list of written items -/
def tTup (t : TA) : TE := fun σ H Q => t σ H fun xs H1 => xs.length ≤ sizeLine ∧ ∀ p, H1 p = none → Q (.ref p) (upd H1 p (.tup xs))
def tLst (t : TA) : TE := fun σ H Q => t σ H fun xs H1 => xs.length ≤ sizeLine ∧ ∀ p, H1 p = none → Q (.ref p) (upd H1 p (.lst xs))
theorem pe_tup {x1} (h : PA X es t) : PE X (.Tuple es x1 pos) (tTup t) := by
  intro pins s σ H Q I hq
  refine wpAny_Tuple_spliced (thn (h pos pins s σ H _ I hq) fun us s1 ⟨xs, H1, I1, r, z, q⟩ => ⟨by rw [← r.length]; exact z, ?_⟩)
  have hf : H1 s1.heap.objs.size = none := I1.hok.fresh (Nat.le_refl _)
  refine ⟨.ref s1.heap.objs.size, upd H1 s1.heap.objs.size (.tup xs), I1.laid (t' := s1.toks) (fun b u e => Heap.get?_push_of_some _ e) (Nat.le_refl _) ?_, rfl, q _ hf⟩
  exact ⟨z, us, r, ⟨_, Heap.get?_push_size _ rfl, rfl, _, rfl⟩⟩
theorem pe_lst (h : PA X es t) : PE X (.List es pos) (tLst t) := by
  intro pins s σ H Q I hq
  refine wpAny_List_spliced (thn (h pos pins s σ H _ I hq) fun us s1 ⟨xs, H1, I1, r, z, q⟩ => ⟨by rw [← r.length]; exact z, ?_⟩)
  have hf : H1 s1.heap.objs.size = none := I1.hok.fresh (Nat.le_refl _)
  refine ⟨.ref s1.heap.objs.size, upd H1 s1.heap.objs.size (.lst xs), I1.laid (t' := s1.toks) (fun b u e => Heap.get?_push_of_some _ e) (Nat.le_refl _) ?_, rfl, q _ hf⟩
  exact ⟨z, us, 0, r, Heap.get?_push_size _ rfl⟩
end
/-- a def's promise: the bound arguments in the parameters' order, the heap, the wanted end, the wanted exception -/
abbrev Sp := List V → Hp → VK → XK → Prop
/-- how an exception lies behind a call (file 08 gives it): the callers' frames, abstract heap and state ahead of the call, the wish, the exception, the state -/
abbrev CXT := List Env → Hp → Shared → XK → Value → Shared → Prop
/-- the state at a call -/
structure Env0 (P : Program) (w : World) (K : PySem.W.Frag) (mg : Str → Option Value) (base : Heap) (A : Around) (outer : List Env) (s : Shared) (H : Hp) : Prop where
  frames : A.frames = some outer
  mod : Mod K mg base
  bs : ∀ b o, base.get? b = some o → s.heap.get? b = some o ∧ H b = none
  bsz : base.objs.size ≤ s.heap.objs.size
  funs : s.heap.FunFrames base outer
  frf : ∀ b ∈ frs outer, H b = none
  hok : HOk P w H s.heap
  bare : AllBare s.gens
/-- a call's end -/
def CE (outer : List Env) (P : Program) (w : World) (H : Hp) (s : Shared) (Q : VK) (u : Value) (s' : Shared) : Prop :=
  ∃ v H', s'.os = s.os ∧ AllBare s'.gens ∧ Un (frs outer) [] H H' s.heap s'.heap ∧ HOk P w H' s'.heap ∧ RelV v u ∧ Q v H'
def CR (CX : CXT) (outer : List Env) (P : Program) (w : World) (H : Hp) (s : Shared) (Q : VK) (E : XK) (r : Result) (s' : Shared) : Prop :=
  match r with
  | .ok (.ret u) => CE outer P w H s Q u s'
  | .ok _ => False
  | .error e => CX outer H s E e s'
structure FnOk (P : Program) (w : World) (K : PySem.W.Frag) (mg : Str → Option Value) (base : Heap) (CX : CXT) (k : Nat) (f : Addr) (fd : FuncData) (ps : List Str) (sp : Sp) : Prop where
  len : ∀ vs H Q E, sp vs H Q E → vs.length = ps.length
  run : ∀ (A : Around) (outer : List Env) (s : Shared) (H : Hp) (args : Args) (us : List Value) (vs : List V) (Q : VK) (E : XK), Room k A → Env0 P w K mg base A outer s H → BindsTo s fd args (ps.zip us) → Vals vs us → sp vs H Q E →
    codeAny (model P w) A (.call (.ref f) args) (CR CX outer P w H s Q E) s
section
variable {X : Cx} {pins : List (Addr × Obj)} {σ : St} {H : Hp} {s s' : Shared}
/-- from a body: what a callee wants -/
theorem Inv.env0 (I : Inv X pins σ H s) : Env0 X.prog X.w X.K X.mg X.base X.A X.stack s H :=
  ⟨I.ok.frames, I.ok.mod, I.bs, Nat.le_trans I.ok.bsz I.sz, I.stack, I.stkFree, I.hok, I.bare⟩
/-- behind a call -/
theorem Inv.after {Q : VK} {u : Value} (I : Inv X pins σ H s) (h : CE X.stack X.prog X.w H s Q u s') : EP X pins σ Q u s' := by
  obtain ⟨v, H', os, bare, un, hok, r, q⟩ := h
  obtain ⟨hh, g, d, t, os'⟩ := s'
  obtain rfl : os' = s.os := os
  exact ⟨v, H', I.call (h' := hh) (g' := g) (d' := d) (t' := t) (ch := []) un hok bare (fun b z => absurd z (by simp)), r, q⟩
end
/-- f(..): the written arguments, then the defaults dvs; E: what is wanted of an exception -/
def tCall (sp : Sp) (dvs : List V) (E : XK) (t : TA) : TE := fun σ H Q => t σ H fun vs H1 => sp (vs ++ dvs) H1 Q E
/-- how the parameters are bound: us the positional arguments, kw the keywords' values by name, ds the defaults that fill up -/
def Binds (K : PySem.W.Frag) (fd : FuncData) (ps : List Str) (ds : List Value) : Prop :=
  ∀ (s : Shared) (us : List Value), K.In s.heap → (us ++ ds).length = ps.length → BindsTo s fd ⟨us, []⟩ (ps.zip (us ++ ds))
/-- every parameter is given -/
theorem Binds.all {K : PySem.W.Frag} {fd : FuncData} {ps : List Str} (h : ∀ us : List Value, us.length = ps.length → bindArgs fd ⟨us, []⟩ = pure (ps.zip us)) : Binds K fd ps [] := fun s us _ hl => by
  rw [List.append_nil] at hl ⊢
  exact .of_eq (h us hl)
/-- an exception of a callee reaches what this body wants of exceptions -/
def Passes (CX : CXT) (X : Cx) (E : XK) : Prop := ∀ (pins : List (Addr × Obj)) (σ : St) (H : Hp) (s : Shared) (e : Value) (s' : Shared), Inv X pins σ H s → CX X.stack H s E e s' → X.xe e s'
section
variable {X : Cx} {CX : CXT} {k : Nat} {f C : Addr} {fd : FuncData} {ps : List Str} {sp : Sp} {dvs : List V} {ds : List Value} {E : XK} {x m : Str} {p pos apos : Pos} {e o : Expr} {es : List Expr} {ta : TE} {t : TA}
/-- the callee runs -/
theorem run_fn {pins : List (Addr × Obj)} {σ : St} {H : Hp} {s : Shared} {Q : VK} {us : List Value} {vs : List V} (F : FnOk X.prog X.w X.K X.mg X.base CX k f fd ps sp) (hr : Room k X.A) (hb : Binds X.K fd ps ds) (hd : Vals dvs ds) (hx : Passes CX X E)
    (I : Inv X pins σ H s) (r : Vals vs us) (h : sp (vs ++ dvs) H Q E) : wpAny (model X.prog X.w) X.A (call (.ref f) us) (EP X pins σ Q) X.xe s := by
  have r2 : Vals (vs ++ dvs) (us ++ ds) := r.append hd
  have hl : (us ++ ds).length = ps.length := by rw [← r2.length]; exact F.len _ _ _ _ h
  refine wpAny_call (codeAny_mono (F.run X.A X.stack s H ⟨us, []⟩ (us ++ ds) (vs ++ dvs) Q E hr I.env0 (hb s us I.kIn hl) r2 h) fun r s' hq => ?_)
  cases r with
  | error e => exact hx pins σ H s e s' I hq
  | ok fl =>
    cases fl with
    | ret u => exact I.after hq
    | next => exact False.elim hq
    | brk => exact False.elim hq
    | cont => exact False.elim hq
theorem pe_call (F : FnOk X.prog X.w X.K X.mg X.base CX k f fd ps sp) (hr : Room k X.A) (hg : Gl X x) (hm : X.mg x = some (.ref f)) (hk : PySem.W.keepIn X.K (.ref f) = true) (hb : Binds X.K fd ps ds) (hd : Vals dvs ds) (hx : Passes CX X E)
    (ha : PA X (e :: es) t) (hdb : (x == ("__debug__" : Str)) = false := by decide) (he : starEach (e :: es) X.env = (false, eval e X.env) :: starEach es X.env := by rfl) (hpl : (backTo pos (starEach es X.env)).any (·.1) = false := by rfl) :
    PE X (.Call (.Name x p) (e :: es) [] pos) (tCall sp dvs E t) := by
  intro pins s σ H Q I h
  refine wpAny_Call_Name_kw (ld_glob I hg hm ?_ hdb)
  refine PySem.W.callWith_K (h₀ := X.base) I.ok.mod.kin hk (thn (ha pos pins s σ H _ I h) fun us s1 ⟨vs, H1, I1, r, q⟩ => ⟨I1.kIn, ?_⟩) he hpl
  exact run_fn F hr hb hd hx I1 r q
end
section
variable {X : Cx} {CX : CXT} {k : Nat} {f C : Addr} {fd : FuncData} {ps ks : List Str} {sp : Sp} {E : XK} {x m : Str} {p pos apos kpos : Pos} {e o : Expr} {es : List Expr} {kws : List Keyword} {te ta : TE} {t tk : TA} {nm : Option Str}
variable {g : List Value → List Value → List Value} {gV : List V → List V → List V}
end
/-- names: the parameters first -/
structure FnScope (N P : List Str) (sc : Scope) : Prop where
  kind : sc.kind = .function
  co : sc.isCoroutine = false
  gen : sc.isGenerator = false
  nd : N.Nodup
  pre : N.take P.length = P
  par : ∀ x ∈ P, sc.names.lookup x = some .local ∨ sc.names.lookup x = some .cell
  nofree : ∀ y ∈ sc.names, y.2 ≠ .free
theorem bindL_out {kindOf : Str → Option NameKind} {x : Str} : ∀ {binds : List (Str × Value)} {m : Str → Option Value}, (∀ v, (x, v) ∉ binds) → bindL kindOf binds m x = m x
  | [], _, _ => rfl
  | (n, v) :: r, m, h => by
    unfold bindL
    rw [bindL_out fun w hw => h w (List.mem_cons_of_mem _ hw)]
    split
    · have : x ≠ n := by rintro rfl; exact h v List.mem_cons_self
      simp [this]
    · rfl
theorem bindC_out {kindOf : Str → Option NameKind} {x : Str} : ∀ {binds : List (Str × Value)} {m : Str → Option Value}, (∀ v, (x, v) ∉ binds) → bindC kindOf binds m x = m x
  | [], _, _ => rfl
  | (n, v) :: r, m, h => by
    unfold bindC
    rw [bindC_out fun w hw => h w (List.mem_cons_of_mem _ hw)]
    split
    · rfl
    · have : x ≠ n := by rintro rfl; exact h v List.mem_cons_self
      simp [this]
theorem bindL_get {kindOf : Str → Option NameKind} {x : Str} {v : Value} : ∀ {P : List Str} {vs : List Value} {i : Nat} {m : Str → Option Value}, P.Nodup → P[i]? = some x → vs[i]? = some v → kindOf x = some .local →
    bindL kindOf (P.zip vs) m x = some v
  | [], _, _, _, _, h, _, _ => by simp at h
  | _ :: _, [], _, _, _, _, h, _ => by simp at h
  | p :: P, w :: vs, 0, m, nd, h1, h2, hk => by
    simp at h1 h2; subst h1; subst h2
    show bindL kindOf ((p, w) :: P.zip vs) m p = _
    unfold bindL
    rw [bindL_out fun v hv => (List.nodup_cons.mp nd).1 (List.of_mem_zip hv).1, if_pos hk]
    simp
  | p :: P, w :: vs, i + 1, m, nd, h1, h2, hk => by
    show bindL kindOf ((p, w) :: P.zip vs) m x = _
    unfold bindL
    exact bindL_get (i := i) (List.nodup_cons.mp nd).2 (by simpa using h1) (by simpa using h2) hk
theorem bindC_get {kindOf : Str → Option NameKind} {x : Str} {v : Value} : ∀ {P : List Str} {vs : List Value} {i : Nat} {m : Str → Option Value}, P.Nodup → P[i]? = some x → vs[i]? = some v → kindOf x ≠ some .local →
    bindC kindOf (P.zip vs) m x = some v
  | [], _, _, _, _, h, _, _ => by simp at h
  | _ :: _, [], _, _, _, _, h, _ => by simp at h
  | p :: P, w :: vs, 0, m, nd, h1, h2, hk => by
    simp at h1 h2; subst h1; subst h2
    show bindC kindOf ((p, w) :: P.zip vs) m p = _
    unfold bindC
    rw [bindC_out fun v hv => (List.nodup_cons.mp nd).1 (List.of_mem_zip hv).1, if_neg hk]
    simp
  | p :: P, w :: vs, i + 1, m, nd, h1, h2, hk => by
    show bindC kindOf ((p, w) :: P.zip vs) m x = _
    unfold bindC
    exact bindC_get (i := i) (List.nodup_cons.mp nd).2 (by simpa using h1) (by simpa using h2) hk
/-- the names' values at the entry -/
def start (N : List Str) (vs : List V) : St := vs.map some ++ List.replicate (N.length - vs.length) none
/-- the context of a def's body, at its entry; an exception leaves the frame, then lies as CX says -/
def cxOf (CX : CXT) (P : Program) (w : World) (K : PySem.W.Frag) (mg : Str → Option Value) (base : Heap) (N : List Str) (qual : Str) (scope : Scope) (f : Addr) (cd : Value) (A : Around) (outer : List Env) (s : Shared) (H : Hp) (E : XK) : Cx where
  prog := P
  w := w
  K := K
  mg := mg
  base := base
  A := A.deeper (envOfC qual scope s.heap.objs.size f cd)
  N := N
  s₀ := s
  H₀ := H
  env := envOfC qual scope s.heap.objs.size f cd
  outer := outer
  stack := envOfC qual scope s.heap.objs.size f cd :: outer
  ex := []
  calm := true
  fn := fun _ => true
  pn := []
  xe := fun e s' => wpAny (model P w) (A.deeper (envOfC qual scope s.heap.objs.size f cd)) (leaving (envOfC qual scope s.heap.objs.size f cd) e) (fun _ s'' => CX outer H s E e s'') (fun e' s'' => CX outer H s E e' s'') s'
theorem cell_has {sc : Scope} {n : Nat} {x : Str} (h : sc.names.lookup x = some .cell) : ∃ c, (cellsFrom n sc.names []).lookup x = some c := by
  have q := PySem.W.cellsFrom_some sc.names n [] (.inl h)
  exact Option.isSome_iff_exists.mp q
theorem inv_start {CX : CXT} {P : Program} {w : World} {K : PySem.W.Frag} {mg : Str → Option Value} {base : Heap} {N ps : List Str} {qual : Str} {scope : Scope} {f : Addr} {cd : Value} {A : Around} {outer : List Env} {s s1 : Shared} {H : Hp} {E : XK} {us : List Value} {vs : List V}
    (S : FnScope N ps scope) (hd : A.handled = none) (e0 : Env0 P w K mg base A outer s H) (hl : vs.length = ps.length) (r : Vals vs us)
    (x : InCallC s s.heap.objs.size (bindL (envOfC qual scope s.heap.objs.size f cd).kindOf (ps.zip us) fun _ => none) (cellsFrom (s.heap.objs.size + 1) scope.names []) (bindC (envOfC qual scope s.heap.objs.size f cd).kindOf (ps.zip us) fun _ => none) s1) :
    Inv (cxOf CX P w K mg base N qual scope f cd A outer s H E) [] (start N vs) H s1 := by
  have hpl : ps.length ≤ N.length := by have := congrArg List.length S.pre; rw [List.length_take] at this; omega
  obtain ⟨h1, tk, rfl, hk⟩ := x.done
  have noA : ∀ b : Addr, b ∉ (cxOf CX P w K mg base N qual scope f cd A outer s H E).ex := fun b z => absurd (show b ∈ ([] : List Addr) from z) (by simp)
  refine ⟨⟨e0.mod, S.kind, rfl, rfl, Nat.le_refl _, fun y z c h1 h2 => ?_, fun y hy => ?_, fun y c _ h => ?_, fun _ => hd, Around.frames_deeper e0.frames, .inr ⟨rfl, rfl⟩, fun b z => absurd z (noA b), e0.bs, e0.bsz, fun b _ _ => noA b, fun b z => absurd z (noA b), e0.funs, e0.frf⟩,
    rfl, e0.bare, Un.kept hk, ⟨_, x.toInCall.ns, fun i y v h1 h2 h3 => ?_⟩, fun y c h => ⟨_, x.cell y c h⟩, e0.hok.fresh (Nat.le_refl _), fun y c h => ?_, fun p hp => absurd (show p ∈ ([] : List (Addr × Obj)) from hp) (by simp), e0.hok.kept hk, ?_⟩
  · exact name_of_addr x.apart (PySem.mem_of_lookup h1) (PySem.mem_of_lookup h2)
  · have hy : scope.names.lookup y = some .cell ∨ scope.names.lookup y = some .free := hy
    rcases hy with hy | hy
    · exact cell_has hy
    · exact absurd rfl (S.nofree _ (PySem.mem_of_lookup hy))
  · exact Nat.le_of_lt (x.above y c (PySem.mem_of_lookup h))
  · have hi : i < vs.length := by
      unfold start at h2
      by_cases hi : i < vs.length
      · exact hi
      · rw [List.getElem?_append_right (by simpa using hi)] at h2
        rw [List.getElem?_replicate] at h2
        split at h2 <;> cases h2
    have ha : vs[i]? = some v := by
      unfold start at h2
      rw [List.getElem?_append_left (by simpa using hi), List.getElem?_map] at h2
      cases e : vs[i]? with
      | none => rw [e] at h2; cases h2
      | some a => rw [e] at h2; cases h2; rfl
    obtain ⟨u, hu, rv⟩ := r.get ha
    have hp : ps[i]? = some y := by
      rw [← S.pre, List.getElem?_take_of_lt (by omega)]; exact h1
    have ndP : ps.Nodup := by rw [← S.pre]; exact S.nd.sublist (List.take_sublist _ _)
    refine ⟨u, rv, ?_⟩
    rcases S.par y (List.mem_of_getElem? hp) with k | k
    · exact .inl ⟨k, bindL_get ndP hp hu k⟩
    · obtain ⟨c, e⟩ := cell_has (n := s.heap.objs.size + 1) k
      refine .inr ⟨.inl k, c, e, ?_⟩
      have q := x.cell y c e
      rw [bindC_get ndP hp hu (by show scope.names.lookup y ≠ _; rw [k]; decide)] at q
      exact q
  · exact e0.hok.fresh (Nat.le_of_lt (x.above y c (PySem.mem_of_lookup h)))
  · unfold start
    show _ = N.length
    rw [List.length_append, List.length_map, List.length_replicate]
    omega
/-- THE RULE: a def (or a method) of the text, by its body. The body's reading t is chosen for each entry; it is run at the parameters' values -/
theorem fn_of {CX : CXT} {P : Program} {w : World} {K : PySem.W.Frag} {mg : Str → Option Value} {base : Heap} {k : Nat} {f : Addr} {name qual : Str} {params : Arguments} {body : List Stmt} {scope : Scope} {dV kV doc pm cdv ct oc : Value} {an od : Option Addr}
    {osl : Array (Option Value)} {N ps : List Str} {sp : Sp} (lk : K.lookup f = some ⟨oc, od, .func (PySem.W.fnOf name qual params body scope dV kV doc pm an cdv ct), osl⟩) (hcd : PySem.W.codeIn K cdv qual = true) (S : FnScope N ps scope)
    (len : ∀ vs H Q E, sp vs H Q E → vs.length = ps.length)
    (hbody : ∀ (A : Around) (outer : List Env) (s : Shared) (H : Hp) (vs : List V) (Q : VK) (E : XK), Room k (A.deeper (envOfC qual scope s.heap.objs.size f cdv)) → sp vs H Q E →
      ∃ t, PSs (cxOf CX P w K mg base N qual scope f cdv A outer s H E) body t ∧ t { nx := fun _ H' => Q .non H', rt := Q } (start N vs) H) :
    FnOk P w K mg base CX (k + 1) f (PySem.W.fnOf name qual params body scope dV kV doc pm an cdv ct) ps sp := by
  refine ⟨len, fun A outer s H args us vs Q E hr e0 hb r hsp => ?_⟩
  have hl := len _ _ _ _ hsp
  have KX : K.In s.heap := e0.mod.kin.keeps fun b o e => (e0.bs b o e).1
  have lim : s.heap.NoLimit := e0.mod.nolimit.keeps fun b o e => (e0.bs b o e).1
  have hkind : ∀ y ∈ ps.zip us, scope.names.lookup y.1 = some .local ∨ (scope.names.lookup y.1 = some .cell ∧ ((cellsFrom (s.heap.objs.size + 1) scope.names []).lookup y.1).isSome = true) := fun ⟨n, v⟩ hy => by
    rcases S.par n (List.of_mem_zip hy).1 with q | q
    · exact .inl q
    · exact .inr ⟨q, PySem.W.cellsFrom_some _ _ _ (.inl q)⟩
  refine codeAny_call_function hr.depth (KX _ _ lk) rfl S.co S.gen rfl (PySem.W.codeRec_of KX hcd) (hb _ _ _ _ ?_)
  refine wpAny_newFunctionEnv_cells S.kind hkind fun env he s1 x => ?_
  subst he
  refine ⟨lim.keeps x.toInCall.keep, codeAny_func ?_⟩
  obtain ⟨t, ht, hq⟩ := hbody A outer s H vs Q E (hr.deeper _) hsp
  have I : Inv (cxOf CX P w K mg base N qual scope f cdv A outer s H E) [] (start N vs) H s1 := inv_start S hr.hd e0 hl r x
  refine wpAny_mono (ht [] s1 (start N vs) H _ I hq) (fun fl s' hs => ?_) fun e s' hs => hs
  have fin : ∀ {σ' : St} {H' : Hp} {v : V} {u : Value}, Inv (cxOf CX P w K mg base N qual scope f cdv A outer s H E) [] σ' H' s' → RelV v u → Q v H' → CE outer P w H s Q u s' :=
    fun {σ' H' v u} J rv q => ⟨v, H', J.os, J.bare, J.base, J.hok, rv, q⟩
  cases fl with
  | ret u =>
    obtain ⟨v, σ', H', J, rv, q⟩ := hs
    exact fin J rv q
  | next =>
    obtain ⟨σ', H', J, q⟩ := hs
    exact fin (v := V.non) (u := Value.none) J rfl q
  | brk =>
    obtain ⟨_, _, _, q⟩ := hs
    exact False.elim q
  | cont =>
    obtain ⟨_, _, _, q⟩ := hs
    exact False.elim q
end L2
namespace L2
open PySem PySem.Spec PyProof.Rows
section
variable {X : Cx} {x : Str} {p pos : Pos} {e : Expr} {es : List Expr} {t : TA} {id T : String} {r : List V → Hp → VK → Prop}
def tCB (r : List V → Hp → VK → Prop) (t : TA) : TE := fun σ H Q => t σ H fun vs H1 => r vs H1 Q
/-- f(e, ..), f a built-in function -/
theorem pe_callB (hc : CallR X (.builtin id) r) (hg : Gl X x) (hm : X.mg x = none) (hv : bootBuiltins x = some (.builtin id)) (ha : PA X (e :: es) t) (hn : x ≠ "__name__" := by decide) (hdb : (x == ("__debug__" : Str)) = false := by decide)
    (he : starEach (e :: es) X.env = (false, eval e X.env) :: starEach es X.env := by rfl) (hpl : (backTo pos (starEach es X.env)).any (·.1) = false := by rfl) : PE X (.Call (.Name x p) (e :: es) [] pos) (tCB r t) := by
  intro pins s σ H Q I h
  refine wpAny_Call_Name_kw (ld_blt I hg hm hv ?_ hn hdb)
  exact PyProof.Rows.callWith_builtin1 (thn (ha pos pins s σ H _ I h) fun us s1 ⟨vs, H1, I1, r1, q1⟩ => hc pins s1 σ H1 vs us Q I1 r1 q1) he hpl
/-- T(e, ..), T a built-in type -/
theorem pe_callTy (hc : CallR X (.type T) r) (hg : Gl X x) (hm : X.mg x = none) (hv : bootBuiltins x = some (.type T)) (ha : PA X (e :: es) t) (hn : x ≠ "__name__" := by decide) (hdb : (x == ("__debug__" : Str)) = false := by decide)
    (he : starEach (e :: es) X.env = (false, eval e X.env) :: starEach es X.env := by rfl) (hpl : (backTo pos (starEach es X.env)).any (·.1) = false := by rfl) : PE X (.Call (.Name x p) (e :: es) [] pos) (tCB r t) := by
  intro pins s σ H Q I h
  refine wpAny_Call_Name_kw (ld_blt I hg hm hv ?_ hn hdb)
  exact PyProof.Rows.callWith_type1 (thn (ha pos pins s σ H _ I h) fun us s1 ⟨vs, H1, I1, r1, q1⟩ => hc pins s1 σ H1 vs us Q I1 r1 q1) he hpl
end
end L2
namespace HT
open PySem PyProof.Rows
section
open PySem.SeqAt
open PySem.AutoSeq1 (wpAny_loadPart')
open PySem.MeetsSeq PySem.MeetsSeq2 PySem.MeetsSeq3
end
section
variable {prog : Program} {w : World} {A : Around} {E : Value → Shared → Prop} {s : Shared}
/-- t + u, t not empty -/
theorem cat_tup {t b : Addr} {vs ws : List Value} {Q : Value → Shared → Prop} (ht : IsTup s.heap t vs.toArray) (hb : IsTup s.heap b ws.toArray) (hv : vs ≠ [])
    (h1 : ws = [] → Q (.ref t) s) (h2 : ws ≠ [] → Q (.ref s.heap.objs.size) { s with heap := s.heap.push { cls := .type "tuple", data := .seq (vs ++ ws).toArray } })
    (hsz : vs.length + ws.length ≤ sizeLine) : wpAny (model prog w) A (binaryOp .Add (.ref t) (.ref b)) Q E s := by
  obtain ⟨⟨cls, dd, data, sl⟩, ho, hc, n, hd⟩ := id ht
  obtain ⟨⟨cls2, dd2, data2, sl2⟩, ho2, hc2, n2, hd2⟩ := id hb
  simp only at hc hd hc2 hd2
  subst hc hd hc2 hd2
  have e : vs.toArray ++ ws.toArray = (vs ++ ws).toArray := by simp
  by_cases hw : ws = []
  · exact concat_meets ⟨_, ho, rfl⟩ ⟨_, ho2, rfl⟩ noFill_tuple_add seq_tuple_add PySem.F.slot_tuple_add PySem.F.entry_tuple_add (PySem.F.args_tuple_add_2 _ _)
      (tuple_addW1 t b vs.toArray ws.toArray n n2 dd dd2 sl sl2 (by simpa using hv) (by simp [hw])) ⟨ho, ho2, h1 hw⟩
  · refine concat_meets ⟨_, ho, rfl⟩ ⟨_, ho2, rfl⟩ noFill_tuple_add seq_tuple_add PySem.F.slot_tuple_add PySem.F.entry_tuple_add (PySem.F.args_tuple_add_2 _ _)
      (tuple_addW2 t b vs.toArray ws.toArray n n2 dd dd2 sl sl2 (by simpa using hv) (by simpa using hw) (by rw [List.size_toArray, List.size_toArray]; exact hsz)) ⟨ho, ho2, ?_⟩
    rw [e]
    exact h2 hw
/-- a slice's bound as a place among n (d where it is left out) -/
def sIx (n d : Nat) : Option Int → Nat
  | none => d
  | some v => if v < 0 then (v + (n : Int)).toNat else min v.toNat n
theorem sIx_nat (n d k : Nat) : sIx n d (some (k : Int)) = min k n := by
  show (if (k : Int) < 0 then ((k : Int) + (n : Int)).toNat else min (k : Int).toNat n) = min k n
  rw [if_neg (by omega), Int.toNat_natCast]
theorem sIx_le (n d : Nat) (hd : d ≤ n) (o : Option Int) : sIx n d o ≤ n := by
  cases o with
  | none => exact hd
  | some v =>
    show (if v < 0 then (v + (n : Int)).toNat else min v.toNat n) ≤ n
    by_cases hv : v < 0
    · rw [if_pos hv]; omega
    · rw [if_neg hv]; exact Nat.min_le_right _ _
theorem clip_eq (v : Int) (n d : Nat) : (if v < 0 then max (v + (n : Int)) 0 else min v (n : Int)) = ((sIx n d (some v) : Nat) : Int) := by
  show (if v < 0 then max (v + (n : Int)) 0 else min v (n : Int)) = (((if v < 0 then (v + (n : Int)).toNat else min v.toNat n) : Nat) : Int)
  by_cases hv : v < 0
  · simp only [if_pos hv]; omega
  · simp only [if_neg hv]; omega
theorem adjust_gen (lo hi : Option Int) (n : Nat) : Builtin.Slice.sliceAdjust lo hi 1 (n : Int) = (((sIx n 0 lo : Nat) : Int), ((sIx n n hi : Nat) : Int)) := by
  have h1 : ¬ ((1 : Int) < 0) := by omega
  unfold Builtin.Slice.sliceAdjust
  simp only [h1, if_false]
  refine Prod.ext ?_ ?_
  · cases lo with
    | none => rfl
    | some v => exact clip_eq v n 0
  · cases hi with
    | none => rfl
    | some v => exact clip_eq v n n
theorem places_gen (i j : Nat) : Builtin.Slice.slicePlaces (i : Int) (j : Int) 1 = j - i := by
  unfold Builtin.Slice.slicePlaces
  have h1 : (1 : Int) > 0 := by omega
  simp only [h1, if_true, Int.ediv_one]
  split <;> omega
theorem slicePart_ {v : Value} {o : Option Int} {Q : Option Int → Shared → Prop} (p : IsPart v o) (h : Q o s) : wpAny (model prog w) A (Builtin.Slice.slicePartIndex v) Q E s := by
  cases p with
  | none => exact slicePart_none h
  | int i t => exact slicePart_int h
theorem sliceApplied_gen {sl : Addr} {vl vu : Value} {lo hi : Option Int} {n : Nat} {Q : Int × Int × Nat → Shared → Prop} (hs : s.heap.IsSliceOf sl vl vu .none) (pl : IsPart vl lo) (pu : IsPart vu hi)
    (h : Q (((sIx n 0 lo : Nat) : Int), 1, sIx n n hi - sIx n 0 lo) s) : wpAny (model prog w) A (Builtin.Slice.sliceApplied (.ref sl) (pure (n : Int))) Q E s := by
  obtain ⟨os, hos, hcs, hds⟩ := id hs
  unfold Builtin.Slice.sliceApplied Builtin.Slice.sliceFields
  refine wpAny_bind (wpAny_bind (wpAny_field hos hds (x := vl) rfl (wpAny_bind (wpAny_field hos hds (x := vu) rfl (wpAny_bind (wpAny_field hos hds (x := .none) rfl (wpAny_pure ?_)))))))
  refine wpAny_bind (slicePart_none ?_)
  show wpAny _ _ (if ((1 : Int) == 0) = true then _ else _) _ _ s
  rw [if_neg (by decide)]
  refine wpAny_bind (slicePart_ pl (wpAny_bind (slicePart_ pu (wpAny_bind (wpAny_pure ?_)))))
  show wpAny _ _ (match Builtin.Slice.sliceAdjust lo hi 1 (n : Int) with | (lo, hi) => pure (lo, (1 : Int), Builtin.Slice.slicePlaces lo hi 1)) _ _ s
  rw [adjust_gen lo hi n]
  show wpAny _ _ (pure (((sIx n 0 lo : Nat) : Int), (1 : Int), Builtin.Slice.slicePlaces ((sIx n 0 lo : Nat) : Int) ((sIx n n hi : Nat) : Int) 1)) _ _ s
  rw [places_gen]
  exact wpAny_pure h
theorem pick_gen (xs : Array Value) (i k : Nat) : ((List.range k).filterMap fun (m : Nat) => xs[((i : Int) + (m : Int) * 1).toNat]?).toArray = ((xs.toList.drop i).take k).toArray := by
  have e : (fun (m : Nat) => xs[((i : Int) + (m : Int) * 1).toNat]?) = fun m => xs[i + m]? := by
    funext m
    have : ((i : Int) + (m : Int) * 1).toNat = i + m := by omega
    rw [this]
  rw [e]
  have := pick_run xs i k
  rw [List.filterMap_map] at this
  have e2 : ((fun x => xs[x]?) ∘ fun x => i + x) = fun m => xs[i + m]? := rfl
  rw [e2] at this
  rw [this]
theorem getItem_tuple_cut {t sl : Addr} {items : Array Value} {vl vu : Value} {lo hi : Option Int} {Q : Value → Shared → Prop} (ht : IsTup s.heap t items) (hs : s.heap.IsSliceOf sl vl vu .none) (pl : IsPart vl lo) (pu : IsPart vu hi)
    (hw : ¬ (sIx items.size 0 lo = 0 ∧ sIx items.size items.size hi = items.size))
    (h : Q (.ref s.heap.objs.size) { s with heap := s.heap.push { cls := .type "tuple", data := .seq ((items.toList.drop (sIx items.size 0 lo)).take (sIx items.size items.size hi - sIx items.size 0 lo)).toArray } })
    (hsz : items.size ≤ sizeLine) : wpAny (model prog w) A (getItem (.ref t) (.ref sl)) Q E s := by
  have htake : sizeOk (.seq ((items.toList.drop (sIx items.size 0 lo)).take (sIx items.size items.size hi - sIx items.size 0 lo)).toArray) := by
    show ((items.toList.drop (sIx items.size 0 lo)).take (sIx items.size items.size hi - sIx items.size 0 lo)).toArray.size ≤ sizeLine
    rw [List.size_toArray, List.length_take, List.length_drop, Array.length_toList]
    omega
  have hj : sIx items.size items.size hi ≤ items.size := sIx_le _ _ (Nat.le_refl _) hi
  obtain ⟨os, hos, hcs, hds⟩ := id hs
  have hTs : s.TypeIs (.ref sl) "slice" := ⟨os, hos, hcs⟩
  unfold getItem
  try with_reducible refine wpAny_holding ?_
  first | refine wpAny_bind (wpAny_pure ?_) | skip
  refine wpAny_bind (wpAny_sequenceKey ht.typeIs (by decide) ?_)
  refine wpAny_bind (wpAny_callSpecial?_slot (name := Str.ofString "__getitem__") ht.typeIs PyProof.Rows.slot_tuple_getitem
    (wpAny_call_entry PyProof.Rows.slot_tuple_getitem ht.typeIs entry_tuple_getitem ?_ (args_tuple_getitem _ _)))
  show wpAny _ _ (Builtin.Tuple.tupleItemsOf (.ref t) >>= _) _ _ s
  refine wpAny_bind (tupleItemsOf_ ht ?_)
  refine wpAny_bind (wpAny_typeOf hTs ?_)
  rw [if_pos (by decide)]
  refine wpAny_bind (sliceApplied_gen hs pl pu ?_)
  have hno : ¬ ((((sIx items.size 0 lo : Nat) : Int) == 0 && (1 : Int) == 1 && (sIx items.size items.size hi - sIx items.size 0 lo) == items.size) = true) := by
    intro q
    rw [Bool.and_eq_true, Bool.and_eq_true] at q
    have q1 : ((sIx items.size 0 lo : Nat) : Int) = 0 := eq_of_beq q.1.1
    have q2 : sIx items.size items.size hi - sIx items.size 0 lo = items.size := eq_of_beq q.2
    exact hw ⟨by omega, by omega⟩
  show wpAny _ _ (if (((sIx items.size 0 lo : Nat) : Int) == 0 && (1 : Int) == 1 && (sIx items.size items.size hi - sIx items.size 0 lo) == items.size) = true then _ else _) _ _ s
  rw [if_neg hno, pick_gen]
  first
    | exact wpAny_bind (m := Builtin.Tuple.tupleExact _) (wpAny_newObj_type (wpAny_pure ⟨_, rfl, wpAny_pure h⟩) htake)
    | exact wpAny_bind (m := Builtin.Tuple.tupleExact _) (wpAny_newObj_type (wpAny_bind (wpAny_pure (wpAny_pure ⟨_, rfl, wpAny_pure h⟩))) htake)
    | exact wpAny_bind (wpAny_bind (m := Builtin.Tuple.tupleExact _) (wpAny_newObj_type (wpAny_pure (wpAny_pure ⟨_, rfl, wpAny_pure h⟩)) htake))
    | exact wpAny_bind (wpAny_bind (m := Builtin.Tuple.tupleExact _) (wpAny_newObj_type (wpAny_pure ⟨_, rfl, wpAny_pure h⟩) htake))
end
end HT
namespace L2
open PySem PySem.Spec PyProof.Rows
abbrev TO := St → Hp → (Option Int → Hp → Prop) → Prop
/-- a slice's part (left out, or an int) -/
def PO (X : Cx) (e : Option Expr) (t : TO) : Prop :=
  ∀ (pins : List (Addr × Obj)) (s : Shared) (σ : St) (H : Hp) (Q : Option Int → Hp → Prop), Inv X pins σ H s → t σ H Q →
    wpAny (model X.prog X.w) X.A (evalPart e X.env) (fun u s' => ∃ o H', Inv X pins σ H' s' ∧ IsPart u o ∧ Q o H') X.xe s
def tNoPart : TO := fun _ H Q => Q none H
def tPart (t : TE) : TO := fun σ H Q => t σ H fun x H1 => ∃ i, x = .int i ∧ Q (some i) H1
section
variable {X : Cx} {e : Expr} {te : TE} {lo hi : Option Expr} {tl th : TO} {pos p2 : Pos}
theorem po_none : PO X none tNoPart := by
  intro pins s σ H Q I h
  rw [evalPart_none]
  exact wpAny_pure ⟨none, H, I, .none, h⟩
theorem po_some (h : PE X e te) : PO X (some e) (tPart te) := by
  intro pins s σ H Q I hw
  rw [evalPart_some]
  refine thn (h pins s σ H _ I hw) fun u s1 ⟨x, H1, I1, r1, q1⟩ => ?_
  obtain ⟨i, rfl, q⟩ := q1
  obtain ⟨t, rfl⟩ := r1
  exact ⟨some i, H1, I1, .int i t, q⟩
/-- what a slice of a value is, by values: the slice object stands at sl -/
def SlR (X : Cx) (r : V → Option Int → Option Int → Hp → VK → Prop) : Prop :=
  ∀ (pins : List (Addr × Obj)) (s : Shared) (σ : St) (H : Hp) (x : V) (v vl vu : Value) (lo hi : Option Int) (sl : Addr) (Q : VK), Inv X pins σ H s → RelV x v → s.heap.IsSliceOf sl vl vu .none → IsPart vl lo → IsPart vu hi → r x lo hi H Q →
    ∃ T id, typeLookup (.type T) "__getitem__" = pure (some (.builtin id)) ∧ s.TypeIs v T ∧ wpAny (model X.prog X.w) X.A (getItem v (.ref sl)) (EP X pins σ Q) X.xe s
theorem SlR.or {r r' : V → Option Int → Option Int → Hp → VK → Prop} (h : SlR X r) (h' : SlR X r') : SlR X (fun x lo hi H Q => r x lo hi H Q ∨ r' x lo hi H Q) := by
  intro pins s σ H x v vl vu lo hi sl Q I rx hs pl pu q
  rcases q with q | q
  · exact h pins s σ H x v vl vu lo hi sl Q I rx hs pl pu q
  · exact h' pins s σ H x v vl vu lo hi sl Q I rx hs pl pu q
def tSl (r : V → Option Int → Option Int → Hp → VK → Prop) (te : TE) (tl th : TO) : TE := fun σ H Q => te σ H fun x H1 => tl σ H1 fun l H2 => th σ H2 fun u H3 => r x l u H3 Q
/-- a[lo:hi], any a -/
theorem pe_slice {r : V → Option Int → Option Int → Hp → VK → Prop} (hr : SlR X r) (he : PE X e te) (hl : PO X lo tl) (hu : PO X hi th) : PE X (.Subscript e (.Slice lo hi none p2) pos) (tSl r te tl th) := by
  intro pins s σ H Q I h
  refine Subscript_ (thn (he pins s σ H _ I h) fun v s1 ⟨x, H1, I1, r1, q1⟩ => ?_)
  refine wpAny_Slice (thn (hl pins s1 σ H1 _ I1 q1) fun vl s2 ⟨l, H2, I2, pl, q2⟩ => thn (hu pins s2 σ H2 _ I2 q2) fun vu s3 ⟨u, H3, I3, pu, q3⟩ => ?_)
  rw [evalPart_none]
  refine wpAny_pure ?_
  have I4 : Inv X pins σ H3 { s3 with heap := s3.heap.push { cls := .type "slice", data := .fields #[vl, vu, .none] } } := I3.kept (t' := s3.toks) fun b ob q => Heap.get?_push_of_some _ q
  obtain ⟨T, id, hT, ht, hg⟩ := hr pins { s3 with heap := s3.heap.push { cls := .type "slice", data := .fields #[vl, vu, .none] } } σ H3 x v vl vu l u s3.heap.objs.size Q I4 r1 (Heap.IsSliceOf.new ..) pl pu q3
  show wpAny (model X.prog X.w) X.A (subscriptTail e (.Slice lo hi none p2) v (.ref s3.heap.objs.size)) (EP X pins σ Q) X.xe { s3 with heap := s3.heap.push { cls := .type "slice", data := .fields #[vl, vu, .none] } }
  exact tail_any (ops := [.ref s3.heap.objs.size, v]) ht hT hg (by with_unfolding_all rfl)
/-- the items of xs[lo:hi] -/
def cutV (xs : List V) (lo hi : Option Int) : List V := (xs.drop (HT.sIx xs.length 0 lo)).take (HT.sIx xs.length xs.length hi - HT.sIx xs.length 0 lo)
theorem cutV_length (xs : List V) (lo hi : Option Int) : (cutV xs lo hi).length ≤ xs.length := by
  unfold cutV
  rw [List.length_take, List.length_drop]
  omega
/-- t[lo:hi], not the whole of it (the whole would be t itself) -/
def rSlT (K : PySem.W.Frag) : V → Option Int → Option Int → Hp → VK → Prop := fun x lo hi H Q => ∃ a xs, x = .ref a ∧ SqT K H a xs ∧
  ¬ (HT.sIx xs.length 0 lo = 0 ∧ HT.sIx xs.length xs.length hi = xs.length) ∧ ∀ p, H p = none → Q (.ref p) (upd H p (.tup (cutV xs lo hi)))
theorem sl_tup : SlR X (rSlT X.K) := by
  intro pins s σ H x v vl vu lo hi sl Q I rx hs pl pu h
  obtain ⟨a, xs, rfl, hx, hw, q⟩ := h
  cases rx
  obtain ⟨its, r, ht, hz⟩ := I.tuple hx
  have hlen : its.toArray.size = xs.length := by rw [List.size_toArray]; exact r.length.symm
  refine ⟨"tuple", _, PyProof.Rows.slot_tuple_getitem.lookup, ht.typeIs, ?_⟩
  refine HT.getItem_tuple_cut ht hs pl pu (by rw [hlen]; exact hw) ?_ (by rw [hlen]; exact hz)
  rw [hlen]
  refine ⟨.ref s.heap.objs.size, _, I.laid (t' := s.toks) (o := .tup (cutV xs lo hi)) (fun b ob q => Heap.get?_push_of_some _ q) (Nat.le_refl _) ?_, rfl, q _ (I.hok.fresh (Nat.le_refl _))⟩
  exact ⟨Nat.le_trans (cutV_length xs lo hi) hz, _, (r.drop (HT.sIx xs.length 0 lo)).take (HT.sIx xs.length xs.length hi - HT.sIx xs.length 0 lo), IsTup.new _ _⟩
/-- t + u, t not empty: u empty gives t itself -/
def rCatT (K : PySem.W.Frag) : R2 := fun x y H Q => ∃ a b xs ys, x = .ref a ∧ y = .ref b ∧ SqT K H a xs ∧ SqT K H b ys ∧ xs ≠ [] ∧ xs.length + ys.length ≤ sizeLine ∧
  (ys = [] → Q (.ref a) H) ∧ (ys ≠ [] → ∀ p, H p = none → Q (.ref p) (upd H p (.tup (xs ++ ys))))
theorem Vals.nil_iff {xs : List V} {us : List Value} (r : Vals xs us) : us = [] ↔ xs = [] := by
  cases r with
  | nil => simp
  | cons _ _ => simp
theorem op_catT : OpR X (binaryOp .Add) (rCatT X.K) := by
  intro pins s σ H x y v u Q I rx ry h
  obtain ⟨a, b, xs, ys, rfl, rfl, ha, hb, hx, hz, q1, q2⟩ := h
  cases rx
  cases ry
  obtain ⟨its, r1, p1, _⟩ := I.tuple ha
  obtain ⟨its2, r2, p2, _⟩ := I.tuple hb
  refine HT.cat_tup p1 p2 (fun z => hx (r1.nil_iff.mp z)) (fun z => ⟨.ref a, H, I, rfl, q1 (r2.nil_iff.mp z)⟩) (fun z => ?_) (by rw [← r1.length, ← r2.length]; exact hz)
  refine ⟨.ref s.heap.objs.size, _, I.laid (t' := s.toks) (o := .tup (xs ++ ys)) (fun b ob q => Heap.get?_push_of_some _ q) (Nat.le_refl _) ?_, rfl, q2 (fun w => z (r2.nil_iff.mpr w)) _ (I.hok.fresh (Nat.le_refl _))⟩
  exact ⟨by rw [List.length_append]; exact hz, _, r1.append r2, IsTup.new _ _⟩
end
end L2
namespace L2
open PySem PySem.Spec PyProof.Rows
/-- the place that an index of any sign means -/
def ixN (n : Nat) (i : Int) : Option Nat := if 0 ≤ i then (if i < n then some i.toNat else none) else if -(n : Int) ≤ i then some (i + n).toNat else none
def atI {α : Type} (xs : List α) (i : Int) : Option α := (ixN xs.length i).bind fun j => xs[j]?
theorem ixN_seq {n : Nat} {i : Int} {j : Nat} (h : ixN n i = some j) : seqIndex? i n = some j ∧ j < n ∧ -(n : Int) ≤ i ∧ i < n := by
  unfold ixN at h
  by_cases h0 : 0 ≤ i
  · rw [if_pos h0] at h
    by_cases h1 : i < n
    · rw [if_pos h1] at h
      have e : i.toNat = j := Option.some.inj h
      exact ⟨by rw [seqIndex_of h0 h1, e], by omega, by omega, h1⟩
    · rw [if_neg h1] at h; cases h
  · rw [if_neg h0] at h
    by_cases h1 : -(n : Int) ≤ i
    · rw [if_pos h1] at h
      have e : (i + n).toNat = j := Option.some.inj h
      exact ⟨by rw [seqIndex_neg (by omega) h1, e], by omega, h1, by omega⟩
    · rw [if_neg h1] at h; cases h
theorem atI_get {α : Type} {xs : List α} {i : Int} {v : α} (h : atI xs i = some v) : ∃ j, seqIndex? i xs.length = some j ∧ xs[j]? = some v ∧ j < xs.length ∧ -(xs.length : Int) ≤ i ∧ i < xs.length := by
  unfold atI at h
  cases e : ixN xs.length i with
  | none => rw [e] at h; cases h
  | some j =>
    rw [e] at h
    obtain ⟨h1, h2, h3, h4⟩ := ixN_seq e
    exact ⟨j, h1, h, h2, h3, h4⟩
theorem atI_nat {α : Type} {xs : List α} {j : Nat} {v : α} (h : xs[j]? = some v) : atI xs (j : Int) = some v := by
  have hj : j < xs.length := (List.getElem?_eq_some_iff.mp h).1
  have e : ixN xs.length (j : Int) = some j := by
    unfold ixN
    rw [if_pos (by omega), if_pos (by omega)]; simp
  unfold atI; rw [e]; exact h
/-- what stands as an index of a plain subscript -/
def PlainIx (b : Expr) : Prop := ∀ o i, subscripted b false o i = operate [o, i] (getItem o i)
/-- a subscript by values -/
def IxR (X : Cx) (r : R2) : Prop :=
  ∀ (value slice : Expr) (pins : List (Addr × Obj)) (s : Shared) (σ : St) (H : Hp) (x y : V) (v u : Value) (Q : VK), Inv X pins σ H s → RelV x v → RelV y u → r x y H Q →
    subscripted slice false v u = operate [v, u] (getItem v u) → wpAny (model X.prog X.w) X.A (subscriptTail value slice v u) (EP X pins σ Q) X.xe s
/-- a call of a builtin's method by values: the receiver, the arguments -/
def MtR (X : Cx) (id : String) (r : V → List V → Hp → VK → Prop) : Prop :=
  ∀ (pins : List (Addr × Obj)) (s : Shared) (σ : St) (H : Hp) (x : V) (xs : List V) (v : Value) (us : List Value) (Q : VK), Inv X pins σ H s → RelV x v → Vals xs us → r x xs H Q →
    wpAny (model X.prog X.w) X.A (call (.builtin id) (v :: us)) (EP X pins σ Q) X.xe s
section
variable {X : Cx} {a b : Expr} {ta tb : TE} {pos : Pos}
theorem IxR.or {r r' : R2} (h : IxR X r) (h' : IxR X r') : IxR X (fun x y H Q => r x y H Q ∨ r' x y H Q) := by
  intro value slice pins s σ H x y v u Q I rx ry q hs
  rcases q with q | q
  · exact h value slice pins s σ H x y v u Q I rx ry q hs
  · exact h' value slice pins s σ H x y v u Q I rx ry q hs
theorem MtR.or {id : String} {r r' : V → List V → Hp → VK → Prop} (h : MtR X id r) (h' : MtR X id r') : MtR X id (fun x xs H Q => r x xs H Q ∨ r' x xs H Q) := by
  intro pins s σ H x xs v us Q I rx rs q
  rcases q with q | q
  · exact h pins s σ H x xs v us Q I rx rs q
  · exact h' pins s σ H x xs v us Q I rx rs q
/-- a[b] -/
theorem pe_ix {r : R2} (hr : IxR X r) (ha : PE X a ta) (hb : PE X b tb) (hs : PlainIx b) : PE X (.Subscript a b pos) (tOp r ta tb) := by
  intro pins s σ H Q I h
  exact Subscript_ (binT ha hb I h fun v u s2 x y H2 I2 rx ry q => hr a b pins s2 σ H2 x y v u Q I2 rx ry q (hs _ _))
def rIxL (K : PySem.W.Frag) : R2 := fun x y H Q => ∃ p xs i v, x = .ref p ∧ y = .int i ∧ SqL K H p xs ∧ atI xs i = some v ∧ Q v H
def rIxT (K : PySem.W.Frag) : R2 := fun x y H Q => ∃ p xs i v, x = .ref p ∧ y = .int i ∧ SqT K H p xs ∧ atI xs i = some v ∧ Q v H
def rIxS : R2 := fun x y H Q => ∃ z i c, x = .str z ∧ y = .int i ∧ z.length ≤ sizeLine ∧ atI z.cps.toList i = some c ∧ Q (.str ⟨#[c]⟩) H
theorem ix_list : IxR X (rIxL X.K) := by
  intro value slice pins s σ H x y v u Q I rx ry h hs
  obtain ⟨p, xs, i, z, rfl, rfl, hq, he, q⟩ := h
  cases rx
  obtain ⟨t, rfl⟩ := ry
  obtain ⟨its, r, pl, hz⟩ := I.list hq
  obtain ⟨j, h1, h2, h3, h4, h5⟩ := atI_get he
  obtain ⟨w, ew, rw'⟩ := r.get h2
  have hl := r.length
  have hn := line63
  have fin : EP X pins σ Q w s := ⟨z, H, I, rw', q⟩
  by_cases h0 : 0 ≤ i
  · have hj : i.toNat = j := by
      rw [seqIndex_of h0 h5] at h1
      exact Option.some.inj h1
    exact item_listR pl.isList h0 (by omega) (by rw [hj]; simpa using ew) fin hs
  · have hj : (i + (its.toArray.size : Int)).toNat = j := by
      rw [seqIndex_neg (by omega) h4] at h1
      rw [List.size_toArray, ← hl]
      exact Option.some.inj h1
    exact subscriptTail_builtinR (x := w) pl.isList.typeIs slot_list_getitem.lookup
      (wpAny_getItem_list_neg (Q := fun r s' => r = w ∧ EP X pins σ Q r s') pl.isList (by omega) (by rw [List.size_toArray] <;> omega) (by omega) (by rw [hj]; simpa using ew) ⟨rfl, fin⟩) hs
theorem ix_tup : IxR X (rIxT X.K) := by
  intro value slice pins s σ H x y v u Q I rx ry h hs
  obtain ⟨p, xs, i, z, rfl, rfl, hq, he, q⟩ := h
  cases rx
  obtain ⟨t, rfl⟩ := ry
  obtain ⟨its, r, pl, hz⟩ := I.tuple hq
  obtain ⟨j, h1, h2, h3, h4, h5⟩ := atI_get he
  obtain ⟨w, ew, rw'⟩ := r.get h2
  have hl := r.length
  have hn := line63
  have fin : EP X pins σ Q w s := ⟨z, H, I, rw', q⟩
  exact subscriptTail_builtinR (x := w) pl.typeIs slot_tuple_getitem.lookup
    (getItem_tuple (j := j) (Q := fun r s' => r = w ∧ EP X pins σ Q r s') pl (by omega) (by omega) (by rw [List.size_toArray, ← hl]; exact h1) (by simpa using ew) ⟨rfl, fin⟩) hs
theorem ix_str : IxR X rIxS := by
  intro value slice pins s σ H x y v u Q I rx ry h hs
  obtain ⟨z, i, c, rfl, rfl, hz, he, q⟩ := h
  obtain ⟨t, rfl⟩ := rx
  obtain ⟨t', rfl⟩ := ry
  obtain ⟨j, h1, h2, h3, h4, h5⟩ := atI_get he
  have hl : z.cps.toList.length = z.length := by simp [Str.length]
  rw [hl] at h1 h4 h5
  have hn := line63
  exact tail_any (typeIs_str s z t) slot_str_getitem.lookup (getItem_str (c := c) (by
    have e1 : decide (i < -(2 ^ 63 : Int)) = false := decide_eq_false (by omega)
    have e2 : decide (i ≥ 2 ^ 63) = false := decide_eq_false (by omega)
    rw [e1, e2, Bool.or_false]) (by rw [h1]; simpa using h2) ⟨.str ⟨#[c]⟩, H, I.tok _, ⟨_, rfl⟩, q⟩) hs
/-- list, tuple or str -/
def rIx (K : PySem.W.Frag) : R2 := fun x y H Q => rIxL K x y H Q ∨ rIxT K x y H Q ∨ rIxS x y H Q
theorem ix_seq : IxR X (rIx X.K) := ix_list.or (ix_tup.or ix_str)
/-- the list's object behind a store -/
theorem mapSeq_set (its : List Value) (n j : Nat) (u : Value) : Obj.mapSeq (·.setIfInBounds j u) { cls := .type "list", data := .seq its.toArray n } = { cls := .type "list", data := .seq (its.set j u).toArray n } := by
  simp [Obj.mapSeq]
theorem Inv.lst {pins : List (Addr × Obj)} {σ : St} {H : Hp} {s : Shared} {p : Addr} {xs : List V} (I : Inv X pins σ H s) (h : H p = some (.lst xs)) :
    ∃ (its : List Value) (n : Nat), Vals xs its ∧ s.heap.get? p = some { cls := .type "list", data := .seq its.toArray n } ∧ xs.length ≤ sizeLine := by
  obtain ⟨z, its, n, r, e⟩ := I.hok p _ h
  exact ⟨its, n, r, e, z⟩
/-- the list at p is written by an update of its object -/
theorem Inv.lstUpd {pins : List (Addr × Obj)} {σ : St} {H : Hp} {s : Shared} {p : Addr} {xs ys : List V} {its its' : List Value} {n n' : Nat} {f : Obj → Obj} (I : Inv X pins σ H s) (h : H p = some (.lst xs))
    (ho : s.heap.get? p = some { cls := .type "list", data := .seq its.toArray n }) (hf : f { cls := .type "list", data := .seq its.toArray n } = { cls := .type "list", data := .seq its'.toArray n' }) (r : Vals ys its') (hz : ys.length ≤ sizeLine) (t : Nat) :
    Inv X pins σ (upd H p (.lst ys)) { s with heap := s.heap.update p f, toks := t } := by
  have e : (s.heap.update p f).get? p = some { cls := .type "list", data := .seq its'.toArray n' } := by
    rw [Heap.get?_update_self f ho (by rw [hf] <;> rfl), hf]
  refine I.write (x := p) (e := p) (by rw [h]; trivial) (.inl rfl) (fun b u hb q => (Heap.get?_update_other _ _ (Ne.symm hb)).trans q) ⟨_, e⟩ ?_
  exact ⟨hz, its', n', r, e⟩
def rSetL : V → V → V → Hp → (Hp → Prop) → Prop := fun o i v H Q => ∃ p xs k j, o = .ref p ∧ i = .int k ∧ H p = some (.lst xs) ∧ ixN xs.length k = some j ∧ Q (upd H p (.lst (xs.set j v)))
theorem set_list : PSet X rSetL := by
  intro pins s σ H o i v ov iv u Q I ro ri rv h
  obtain ⟨p, xs, k, j, rfl, rfl, hp, hj, q⟩ := h
  cases ro
  obtain ⟨t, rfl⟩ := ri
  obtain ⟨its, n, r, ho, hz⟩ := I.lst hp
  obtain ⟨h1, h2, h3, h4⟩ := ixN_seq hj
  have hl := r.length
  have hn := line63
  have I' : Inv X pins σ (upd H p (.lst (xs.set j v))) { s with heap := s.heap.update p (Obj.mapSeq (·.setIfInBounds j u)) } :=
    I.lstUpd hp ho (mapSeq_set its n j u) (r.set rv j) (by rw [List.length_set]; exact hz) s.toks
  by_cases h0 : 0 ≤ k
  · have hk : k.toNat = j := by
      rw [seqIndex_of h0 h4] at h1
      exact Option.some.inj h1
    exact PySem.W.ki_setAt ho h0 (by omega) (by rw [List.size_toArray, ← hl]; exact h4) (by rw [hk]; exact ⟨_, I', q⟩)
  · have hk : (k + (its.toArray.size : Int)).toNat = j := by
      rw [seqIndex_neg (by omega) h3] at h1
      rw [List.size_toArray, ← hl]
      exact Option.some.inj h1
    exact PySem.W.ki_setBack ho (by omega) (by rw [List.size_toArray, ← hl]; exact h3) (by omega) (by rw [hk]; exact ⟨_, I', q⟩)
theorem slice_bounds (lo hi : Option Int) (n : Nat) : (sliceBounds lo hi none n).1 = ((HT.sIx n 0 lo : Nat) : Int) ∧ (sliceBounds lo hi none n).2.1 = ((HT.sIx n n hi : Nat) : Int) ∧ (sliceBounds lo hi none n).2.2 = 1 := by
  refine ⟨?_, ?_, rfl⟩
  · cases lo with
    | none => simp [sliceBounds, HT.sIx]
    | some i =>
      simp only [sliceBounds, HT.sIx, Option.getD_none, show (1 : Int) > 0 by decide, if_true]
      by_cases h : i < 0
      · simp only [h, if_true] <;> omega
      · simp only [h, if_false] <;> omega
  · cases hi with
    | none => simp [sliceBounds, HT.sIx]
    | some i =>
      simp only [sliceBounds, HT.sIx, Option.getD_none, show (1 : Int) > 0 by decide, if_true]
      by_cases h : i < 0
      · simp only [h, if_true] <;> omega
      · simp only [h, if_false] <;> omega
theorem slicePick_cut (its : List Value) (lo hi : Option Int) : slicePick its.toArray lo hi none = ((its.drop (HT.sIx its.length 0 lo)).take (HT.sIx its.length its.length hi - HT.sIx its.length 0 lo)).toArray := by
  obtain ⟨h1, h2, h3⟩ := slice_bounds lo hi its.toArray.size
  unfold slicePick
  rw [h1, h2, h3]
  simp only [sliceRange_one, pick_run, List.size_toArray] <;> rfl
/-- xs[lo:hi] of a list: a new list -/
def rSlL (K : PySem.W.Frag) : V → Option Int → Option Int → Hp → VK → Prop := fun x lo hi H Q => ∃ a xs, x = .ref a ∧ SqL K H a xs ∧ ∀ p, H p = none → Q (.ref p) (upd H p (.lst (cutV xs lo hi)))
theorem sl_list : SlR X (rSlL X.K) := by
  intro pins s σ H x v vl vu lo hi sl Q I rx hs pl pu h
  obtain ⟨a, xs, rfl, hx, q⟩ := h
  cases rx
  obtain ⟨its, r, ht, hz⟩ := I.list hx
  have hlen := r.length
  refine ⟨"list", _, slot_list_getitem.lookup, ht.isList.typeIs, ?_⟩
  refine wpAny_getItem_list_slice ht.isList hs pl pu .none (by simp) ?_ (by rw [List.size_toArray] <;> omega)
  rw [slicePick_cut, ← hlen]
  refine ⟨.ref s.heap.objs.size, _, I.laid (t' := s.toks) (o := .lst (cutV xs lo hi)) (fun b ob q => Heap.get?_push_of_some _ q) (Nat.le_refl _) ?_, rfl, q _ (I.hok.fresh (Nat.le_refl _))⟩
  exact ⟨Nat.le_trans (cutV_length xs lo hi) hz, _, 0, (r.drop (HT.sIx xs.length 0 lo)).take (HT.sIx xs.length xs.length hi - HT.sIx xs.length 0 lo), Heap.get?_push_size _ rfl⟩
def flatV : V → Bool
  | .non => true
  | .bl _ => true
  | .int _ => true
  | .str _ => true
  | _ => false
/-- == of flat values -/
def eqV : V → V → Bool
  | .non, .non => true
  | .bl a, .bl b => a == b
  | .bl a, .int b => (if a then 1 else 0) == b
  | .int a, .bl b => a == (if b then 1 else 0)
  | .int a, .int b => a == b
  | .str a, .str b => a == b
  | _, _ => false
theorem eqAt_V {A : Around} {s : Shared} {y x : V} {u v : Value} (ry : RelV y u) (rx : RelV x v) (fy : flatV y = true) (fx : flatV x = true) : SeqAt.EqAt A s u v (eqV y x) := by
  cases y with
  | non =>
    cases ry
    cases x with
    | non => cases rx; exact SeqAt.EqAt.same _
    | bl b => cases rx; exact SeqAt.EqAt.none_bool b
    | int b => obtain ⟨t, rfl⟩ := rx; exact SeqAt.EqAt.none_int b t
    | str b => obtain ⟨t, rfl⟩ := rx; exact SeqAt.EqAt.none_str b t
    | _ => exact absurd (show false = true from fx) Bool.false_ne_true
  | bl a =>
    cases ry
    cases x with
    | non => cases rx; exact SeqAt.EqAt.bool_none a
    | bl b => cases rx; exact SeqAt.EqAt.bool_bool a b
    | int b => obtain ⟨t, rfl⟩ := rx; exact SeqAt.EqAt.bool_int a b t
    | str b => obtain ⟨t, rfl⟩ := rx; exact SeqAt.EqAt.bool_str a b t
    | _ => exact absurd (show false = true from fx) Bool.false_ne_true
  | int a =>
    obtain ⟨t', rfl⟩ := ry
    cases x with
    | non => cases rx; exact SeqAt.EqAt.int_none a t'
    | bl b => cases rx; exact SeqAt.EqAt.int_bool a t' b
    | int b => obtain ⟨t, rfl⟩ := rx; exact SeqAt.EqAt.int_int a t' b t
    | str b => obtain ⟨t, rfl⟩ := rx; exact SeqAt.EqAt.int_str a t' b t
    | _ => exact absurd (show false = true from fx) Bool.false_ne_true
  | str a =>
    obtain ⟨t', rfl⟩ := ry
    cases x with
    | non => cases rx; exact SeqAt.EqAt.str_none a t'
    | bl b => cases rx; exact SeqAt.EqAt.str_bool a t' b
    | int b => obtain ⟨t, rfl⟩ := rx; exact SeqAt.EqAt.str_int a t' b t
    | str b => obtain ⟨t, rfl⟩ := rx; exact SeqAt.EqAt.str_str a t' b t
    | _ => exact absurd (show false = true from fx) Bool.false_ne_true
  | _ => exact absurd (show false = true from fy) Bool.false_ne_true
/-- the items' answers, read off the values (a value's own answer does not lean on its token) -/
def eqU (x : V) (u : Value) : Bool := match u with
  | .none => eqV .non x
  | .bool b => eqV (.bl b) x
  | .int i _ => eqV (.int i) x
  | .str z _ => eqV (.str z) x
  | _ => false
theorem eqU_of {x y : V} {u : Value} (r : RelV y u) (f : flatV y = true) : eqU x u = eqV y x := by
  cases y with
  | non => cases r; rfl
  | bl b => cases r; rfl
  | int i => obtain ⟨t, rfl⟩ := r; rfl
  | str z => obtain ⟨t, rfl⟩ := r; rfl
  | _ => exact absurd (show false = true from f) Bool.false_ne_true
theorem any_eqU {x : V} : ∀ {xs : List V} {us : List Value}, Vals xs us → xs.all flatV = true → us.any (eqU x) = xs.any fun y => eqV y x
  | _, _, .nil, _ => rfl
  | y :: xs, u :: us, .cons r t, f => by
    rw [List.all_cons, Bool.and_eq_true] at f
    rw [List.any_cons, List.any_cons, eqU_of r f.1, any_eqU t f.2]
theorem mem_eqAt {A : Around} {s : Shared} {x : V} {v : Value} (rx : RelV x v) (fx : flatV x = true) : ∀ {xs : List V} {us : List Value}, Vals xs us → xs.all flatV = true → ∀ u ∈ us, SeqAt.EqAt A s u v (eqU x u)
  | _, _, .nil, _ => fun u hu => by cases hu
  | y :: xs, u :: us, .cons r t, f => fun u' hu => by
    rw [List.all_cons, Bool.and_eq_true] at f
    rcases List.mem_cons.mp hu with rfl | hu
    · rw [eqU_of r f.1]; exact eqAt_V r rx f.1 fx
    · exact mem_eqAt rx fx t f.2 u' hu
def inV (x : V) (xs : List V) : Bool := xs.any fun y => eqV y x
/-- x in a list or tuple of flat items -/
def rIn (K : PySem.W.Frag) (neg : Bool) : R2 := fun x y H Q => ∃ p xs, y = .ref p ∧ (SqL K H p xs ∨ SqT K H p xs) ∧ flatV x = true ∧ xs.all flatV = true ∧ Q (.bl (if neg then !inV x xs else inV x xs)) H
theorem op_in_seq : OpR X (compareOp .In) (rIn X.K false) := by
  intro pins s σ H x y v u Q I rx ry h
  obtain ⟨p, xs, rfl, hq, fx, fs, q⟩ := h
  cases ry
  rcases hq with hq | hq
  · obtain ⟨its, r, pl, hz⟩ := I.list hq
    refine SeqAt.in_listAt (eqU x) pl.isList (fun w hw => mem_eqAt rx fx r fs w (by simpa using hw)) ⟨.bl _, H, I, rfl, ?_⟩
    rw [show its.toArray.any (eqU x) = its.any (eqU x) by simp, any_eqU r fs]
    exact q
  · obtain ⟨its, r, pl, hz⟩ := I.tuple hq
    refine SeqAt.in_tupleAt (eqU x) pl (fun w hw => mem_eqAt rx fx r fs w (by simpa using hw)) ⟨.bl _, H, I, rfl, ?_⟩
    rw [show its.toArray.any (eqU x) = its.any (eqU x) by simp, any_eqU r fs]
    exact q
theorem call_len_seq : CallR X (.builtin "len") (fun xs H Q => ∃ p ys, xs = [.ref p] ∧ (SqL X.K H p ys ∨ SqT X.K H p ys) ∧ Q (.int ys.length) H) := by
  intro pins s σ H xs us Q I r h
  obtain ⟨p, ys, rfl, hq, q⟩ := h
  obtain ⟨u, rfl, rx⟩ := vals1 r
  cases rx
  have hn := line63
  rcases hq with hq | hq
  · obtain ⟨its, r', pl, hz⟩ := I.list hq
    have hlen := r'.length
    exact Calls.call_len_list pl.isList (by simp only [List.size_toArray] <;> omega) ⟨.int ys.length, H, I.tok _, ⟨s.toks + 1, by rw [List.size_toArray, hlen]⟩, q⟩
  · obtain ⟨its, r', pl, hz⟩ := I.tuple hq
    have hlen := r'.length
    exact len_tuple pl (by simp only [List.size_toArray] <;> omega) ⟨.int ys.length, H, I.tok _, ⟨s.toks + 1, by rw [List.size_toArray, hlen]⟩, q⟩
theorem call_len_str : CallR X (.builtin "len") (fun xs H Q => ∃ z, xs = [.str z] ∧ z.length ≤ sizeLine ∧ Q (.int z.length) H) := by
  intro pins s σ H xs us Q I r h
  obtain ⟨z, rfl, hz, q⟩ := h
  obtain ⟨u, rfl, t, rfl⟩ := vals1 r
  have hn := line63
  exact len_str (by omega) ⟨.int z.length, H, I.tok _, ⟨_, rfl⟩, q⟩
theorem CallR.or {f : Value} {r r' : List V → Hp → VK → Prop} (h : CallR X f r) (h' : CallR X f r') : CallR X f (fun xs H Q => r xs H Q ∨ r' xs H Q) := by
  intro pins s σ H xs us Q I rs q
  rcases q with q | q
  · exact h pins s σ H xs us Q I rs q
  · exact h' pins s σ H xs us Q I rs q
theorem call_tuple_of : CallR X (.type "tuple") (fun xs H Q => ∃ p ys, xs = [.ref p] ∧ ((SqL X.K H p ys ∧ ∀ l, H l = none → Q (.ref l) (upd H l (.tup ys))) ∨ (SqT X.K H p ys ∧ Q (.ref p) H))) := by
  intro pins s σ H xs us Q I r h
  obtain ⟨p, ys, rfl, h⟩ := h
  obtain ⟨u, rfl, rx⟩ := vals1 r
  cases rx
  rcases h with ⟨hq, q⟩ | ⟨hq, q⟩
  · obtain ⟨its, r', pl, hz⟩ := I.list hq
    have hlen := r'.length
    refine call_tuple_list pl.isList (fun h' kp => ?_) (by simp only [List.size_toArray] <;> omega)
    have I1 : Inv X pins σ H { s with heap := h' } := I.kept (t' := s.toks) kp
    have I2 : Inv X pins σ (upd H h'.objs.size (.tup ys)) { s with heap := h'.push { cls := .type "tuple", data := .seq its.toArray } } :=
      I1.laid (t' := s.toks) (fun b o e => Heap.get?_push_of_some _ e) (Nat.le_refl _) (show ObjOk X.prog X.w _ _ _ (.tup ys) from ⟨hz, its, r', IsTup.new _ _⟩)
    exact ⟨.ref h'.objs.size, _, I2, rfl, q _ (I1.hok.fresh (Nat.le_refl _))⟩
  · obtain ⟨its, r', pl, hz⟩ := I.tuple hq
    exact call_tuple_same pl ⟨.ref p, H, I, rfl, q⟩
/-- the value is of that builtin type -/
def tyV (K : PySem.W.Frag) (T : String) (x : V) (H : Hp) : Prop := match x with
  | .str _ => T = "str"
  | .int _ => T = "int"
  | .ref p => (T = "list" ∧ ∃ xs, SqL K H p xs) ∨ (T = "tuple" ∧ ∃ o, K.lookup p = some o ∧ o.cls = .type "tuple" ∧ o.dict = none) ∨
      (T = "dict" ∧ ((∃ kvs, H p = some (.dK kvs)) ∨ ∃ kvs, H p = some (.dT kvs))) ∨ (T = "set" ∧ ∃ S n, H p = some (.set S n))
  | _ => False
theorem tyV_is {pins : List (Addr × Obj)} {σ : St} {H : Hp} {s : Shared} {T : String} {x : V} {v : Value} (I : Inv X pins σ H s) (r : RelV x v) (ty : tyV X.K T x H) :
    s.TypeIs v T ∧ ∀ a, v = .ref a → ∃ ob, s.heap.get? a = some ob ∧ ob.dict = none := by
  cases x with
  | str z =>
    obtain ⟨t, rfl⟩ := r
    cases (show T = "str" from ty)
    exact ⟨typeIs_str s z t, fun _ e => nomatch e⟩
  | int i =>
    obtain ⟨t, rfl⟩ := r
    cases (show T = "int" from ty)
    exact ⟨typeIs_int s i t, fun _ e => nomatch e⟩
  | ref p =>
    cases r
    rcases ty with ⟨rfl, xs, hq⟩ | ⟨rfl, o, hk, hc, hd⟩ | ⟨rfl, hk⟩ | ⟨rfl, S, n, hk⟩
    · obtain ⟨its, _, pl, _⟩ := I.list hq
      refine ⟨pl.isList.typeIs, fun a e => ?_⟩
      cases e
      obtain ⟨o, n, e, c, hd, _⟩ := pl
      exact ⟨o, e, hd⟩
    · refine ⟨⟨o, I.kIn p o hk, hc⟩, fun a e => ?_⟩
      cases e
      exact ⟨o, I.kIn _ o hk, hd⟩
    · have z : ∃ o, s.heap.get? p = some o ∧ o.ExactDict := by
        rcases hk with ⟨kvs, hk⟩ | ⟨kvs, hk⟩
        · obtain ⟨_, _, _, _, o, _, _, e, ex, _⟩ := I.hok p _ hk
          exact ⟨o, e, ex⟩
        · obtain ⟨_, _, _, _, o, _, _, e, ex, _⟩ := I.hok p _ hk
          exact ⟨o, e, ex⟩
      obtain ⟨o, e, ex⟩ := z
      refine ⟨⟨o, e, ex.1⟩, fun a e2 => ?_⟩
      cases e2
      exact ⟨o, e, ex.2.1⟩
    · obtain ⟨o, _, _, _, e, ex, _⟩ := I.hok p _ hk
      refine ⟨⟨o, e, ex.1⟩, fun a e2 => ?_⟩
      cases e2
      exact ⟨o, e, ex.2.1⟩
  | _ => exact False.elim ty
def tBM0 (K : PySem.W.Frag) (T : String) (r : V → List V → Hp → VK → Prop) (to : TE) : TE := fun σ H Q => to σ H fun x H1 => tyV K T x H1 ∧ r x [] H1 Q
def tBM (K : PySem.W.Frag) (T : String) (r : V → List V → Hp → VK → Prop) (to : TE) (t : TA) : TE := fun σ H Q => to σ H fun x H1 => tyV K T x H1 ∧ t σ H1 fun xs H2 => r x xs H2 Q
variable {o e : Expr} {es : List Expr} {to : TE} {t : TA} {name : Str} {apos cpos : Pos} {T id : String} {r : V → List V → Hp → VK → Prop}
theorem pe_bm0 (pa : PlainAttrs T) (slot : Slot T name id) (hty : typeOf (.builtin id) = pure (.type "method_descriptor")) (hm : MtR X id r) (ho : PE X o to)
    (hbase : attributeBase o name X.env (eval o X.env) = eval o X.env := by rfl) (hline : (apos.endLine == cpos.line) = true := by rfl) : PE X (.Call (.Attribute o name apos) [] [] cpos) (tBM0 X.K T r to) := by
  intro pins s σ H Q I h
  refine wpAny_Call_method0_late hbase hline (thn (ho pins s σ H _ I h) fun v s1 ⟨x, H1, I1, r1, ty, q1⟩ => ?_)
  obtain ⟨h1, h2⟩ := tyV_is I1 r1 ty
  exact ⟨T, id, pa, slot, hty, h1, h2, Calls.callWith_builtin rfl (PySem.evalArgs_none (hm pins s1 σ H1 x [] v [] Q I1 r1 .nil q1))⟩
theorem pe_bm (pa : PlainAttrs T) (slot : Slot T name id) (hty : typeOf (.builtin id) = pure (.type "method_descriptor")) (hm : MtR X id r) (ho : PE X o to) (ha : PA X (e :: es) t)
    (hbase : attributeBase o name X.env (eval o X.env) = eval o X.env := by rfl)
    (hfew : ((backTo cpos (starEach (e :: es) X.env)).all (fun x => !x.1) && (backToKw cpos (keywordEach [] X.env)).all (fun x => x.1.isSome)
      && decide ((e :: es).length + ([] : List Keyword).length + (if ([] : List Keyword).isEmpty then 0 else 1) < 30)) = true := by rfl)
    (hline : (apos.endLine == cpos.line) = true := by rfl) (hs : starEach (e :: es) X.env = (false, eval e X.env) :: starEach es X.env := by rfl) (hplain : (backTo cpos (starEach es X.env)).any (·.1) = false := by rfl) :
    PE X (.Call (.Attribute o name apos) (e :: es) [] cpos) (tBM X.K T r to t) := by
  intro pins s σ H Q I h
  refine wpAny_Call_method_late hbase hfew hline rfl (thn (ho pins s σ H _ I h) fun v s1 ⟨x, H1, I1, r1, ty, q1⟩ => ?_)
  obtain ⟨h1, h2⟩ := tyV_is I1 r1 ty
  refine ⟨T, id, pa, slot, hty, h1, h2, ?_⟩
  have hA := ha cpos pins s1 σ H1 _ I1 q1
  rw [hs] at hA ⊢
  refine Calls.callWith_builtin (by show (false || (backTo cpos (starEach es X.env)).any (·.1)) = false; rw [hplain] <;> rfl) (Calls.evalArgs_plain ?_)
  exact thn hA fun us s2 ⟨vs, H2, I2, r2, q2⟩ => hm pins s2 σ H2 x vs v us Q I2 r1 r2 q2
end
end L2
namespace L2
open PySem PySem.Spec PyProof.Rows
def MtM (X : Cx) (id : String) (r : V → List V → Hp → VK → Prop) : Prop :=
  ∀ (pins : List (Addr × Obj)) (s : Shared) (σ : St) (H : Hp) (x : V) (xs : List V) (v : Value) (us : List Value) (Q : VK), Inv X pins σ H s → RelV x v → Vals xs us → r x xs H Q →
    wpAny (model X.prog X.w) X.A (call (.builtin id) (v :: us)) (EP X pins σ Q) X.xe s
theorem Vals.one : ∀ {x : V} {us : List Value}, Vals [x] us → ∃ u, us = [u] ∧ RelV x u
  | _, _, .cons r .nil => ⟨_, rfl, r⟩
theorem Vals.zero : ∀ {us : List Value}, Vals [] us → us = []
  | _, .nil => rfl
theorem Vals.dropLast {xs : List V} {us : List Value} (h : Vals xs us) : Vals xs.dropLast us.dropLast := by
  induction h with
  | nil => exact .nil
  | cons r t ih =>
    cases t with
    | nil => exact .nil
    | cons q t' => exact .cons r ih
theorem erase_last {α : Type} (l : List α) : l.eraseIdx (l.length - 1) = l.dropLast := by
  induction l with
  | nil => rfl
  | cons a r ih =>
    cases r with
    | nil => rfl
    | cons b r =>
      have e : (a :: b :: r).length - 1 = ((b :: r).length - 1) + 1 := by
        have h1 : (a :: b :: r).length = r.length + 2 := rfl
        have h2 : (b :: r).length = r.length + 1 := rfl
        omega
      rw [e, List.eraseIdx_cons_succ, ih]
      all_goals rfl
section
variable {X : Cx} {pins : List (Addr × Obj)} {σ : St} {H : Hp} {s : Shared} {l b : Addr} {xs ys zs : List V}
theorem Inv.lset {its its' : List Value} {n : Nat} {f : Array Value → Array Value} {t' : Nat} (I : Inv X pins σ H s) (hH : H l = some (.lst xs))
    (e : s.heap.get? l = some { cls := .type "list", data := .seq its.toArray n }) (hf : f its.toArray = its'.toArray) (hv : Vals ys its') (hz : ys.length ≤ sizeLine) :
    Inv X pins σ (upd H l (.lst ys)) { s with heap := s.heap.update l (Obj.mapSeq f), toks := t' } := by
  have q := PySem.IsL.update e f
  rw [hf] at q
  refine I.write (x := l) (e := l) (by rw [hH]; exact trivial) (.inl rfl) (fun b' u hb hu => (Heap.get?_update_other s.heap (Obj.mapSeq f) (Ne.symm hb)).trans hu) ⟨_, q⟩ ?_
  exact ⟨hz, its', _, hv, q⟩
theorem Inv.lnew {its : List Value} {t' : Nat} (I : Inv X pins σ H s) (hv : Vals ys its) (hz : ys.length ≤ sizeLine) :
    Inv X pins σ (upd H s.heap.objs.size (.lst ys)) { s with heap := s.heap.push { cls := .type "list", data := .seq its.toArray }, toks := t' } :=
  I.laid (fun _ _ q => Heap.get?_push_of_some _ q) (Nat.le_refl _) ⟨hz, its, 0, hv, Heap.get?_push_size _ rfl⟩
theorem Inv.fresh (I : Inv X pins σ H s) : H s.heap.objs.size = none := I.hok.fresh (Nat.le_refl _)
theorem Inv.lstM (I : Inv X pins σ H s) (hH : H l = some (.lst xs)) : xs.length ≤ sizeLine ∧ ∃ (its : List Value) (n : Nat), Vals xs its ∧ xs.length = its.length ∧ s.heap.get? l = some { cls := .type "list", data := .seq its.toArray n } := by
  obtain ⟨z, its, n, r, e⟩ := I.hok l _ hH
  exact ⟨z, its, n, r, r.length, e⟩
theorem notLongL {n : Nat} (h : n ≤ sizeLine) : Builtin.List.listTooLong n = false := by
  unfold Builtin.List.listTooLong
  exact decide_eq_false (by omega)
end
section
variable {X : Cx}
def rAppend : V → List V → Hp → VK → Prop := fun x vs H Q => ∃ l xs y, x = .ref l ∧ vs = [y] ∧ H l = some (.lst xs) ∧ xs.length < sizeLine ∧ Q .non (upd H l (.lst (xs ++ [y])))
theorem mt_append : MtM X "list.append" rAppend := by
  intro pins s σ H x vs v us Q I rx rv h
  obtain ⟨l, xs, y, rfl, rfl, hH, hz, q⟩ := h
  cases rx
  obtain ⟨u, rfl, ru⟩ := rv.one
  obtain ⟨z, its, n, r, hl, e⟩ := I.lstM hH
  refine call_meets F.slot_list_append ⟨_, e, rfl⟩ F.entry_list_append (F.args_list_append_2 _ _) (PySem.list_append l its.toArray n u (by rw [List.size_toArray]; omega)) ⟨e, ?_⟩
  refine ⟨.non, _, I.lset (its' := its ++ [u]) hH e (by simp) (r.append (.cons ru .nil)) ?_, rfl, q⟩
  rw [List.length_append, List.length_singleton]
  omega
def rExtend : V → List V → Hp → VK → Prop := fun x vs H Q => ∃ l b xs zs, x = .ref l ∧ vs = [.ref b] ∧ H l = some (.lst xs) ∧ H b = some (.lst zs) ∧ xs.length + zs.length ≤ sizeLine ∧ Q .non (upd H l (.lst (xs ++ zs)))
theorem mt_extend : MtM X "list.extend" rExtend := by
  intro pins s σ H x vs v us Q I rx rv h
  obtain ⟨l, b, xs, zs, rfl, rfl, hH, hB, hz, q⟩ := h
  cases rx
  obtain ⟨u, rfl, ru⟩ := rv.one
  cases ru
  obtain ⟨z, its, n, r, hl, e⟩ := I.lstM hH
  obtain ⟨z2, its2, n2, r2, hl2, e2⟩ := I.lstM hB
  have hsz : its.toArray.size + its2.toArray.size ≤ sizeLine := by rw [List.size_toArray, List.size_toArray]; omega
  have hlong : ¬ (!its.toArray.isEmpty && Builtin.List.listTooLong (its.toArray.size + its2.toArray.size)) = true := by
    rw [notLongL hsz, Bool.and_false]
    exact Bool.false_ne_true
  refine call_meets F.slot_list_extend ⟨_, e, rfl⟩ F.entry_list_extend (F.args_list_extend_2 _ _)
    (AutoSeq1.list_extend_list_list_0 l its.toArray n b its2.toArray n2 hlong (by rw [List.size_toArray]; omega) (by omega)) ⟨e, e2, ?_⟩
  refine ⟨.non, _, I.lset (its' := its ++ its2) hH e (by simp) (r.append r2) ?_, rfl, q⟩
  rw [List.length_append]
  omega
def rPop : V → List V → Hp → VK → Prop := fun x vs H Q => ∃ l xs y, x = .ref l ∧ vs = [] ∧ H l = some (.lst xs) ∧ xs[xs.length - 1]? = some y ∧ Q y (upd H l (.lst xs.dropLast))
theorem mt_pop : MtM X "list.pop" rPop := by
  intro pins s σ H x vs v us Q I rx rv h
  obtain ⟨l, xs, y, rfl, rfl, hH, hy, q⟩ := h
  cases rx
  have hus := rv.zero
  subst hus
  obtain ⟨z, its, n, r, hl, e⟩ := I.lstM hH
  obtain ⟨u, hu, ru⟩ := r.get hy
  have hy' : its.toArray[its.toArray.size - 1]? = some u := by
    show its.toArray[its.length - 1]? = some u
    rw [← Array.getElem?_toList, ← hl]
    exact hu
  refine call_meets F.slot_list_pop ⟨_, e, rfl⟩ F.entry_list_pop (F.args_list_pop_1 _) (MeetsSeq.list_pop_last l its.toArray n u hy' (by rw [List.size_toArray]; omega)) ⟨e, ?_⟩
  refine ⟨y, _, I.lset (its' := its.dropLast) hH e ?_ r.dropLast ?_, ru, q⟩
  · show its.toArray.eraseIdxIfInBounds (its.toArray.size - 1) = its.dropLast.toArray
    rw [List.size_toArray, List.eraseIdxIfInBounds_toArray, erase_last]
  · rw [List.length_dropLast]
    omega
def rCat : R2 := fun x y H Q => ∃ l b xs zs, x = .ref l ∧ y = .ref b ∧ H l = some (.lst xs) ∧ H b = some (.lst zs) ∧ xs.length + zs.length ≤ sizeLine ∧ ∀ p, H p = none → Q (.ref p) (upd H p (.lst (xs ++ zs)))
theorem op_cat : OpR X (binaryOp .Add) rCat := by
  intro pins s σ H x y v u Q I rx ry h
  obtain ⟨l, b, xs, zs, rfl, rfl, hH, hB, hz, q⟩ := h
  cases rx
  cases ry
  obtain ⟨z, its, n, r, hl, e⟩ := I.lstM hH
  obtain ⟨z2, its2, n2, r2, hl2, e2⟩ := I.lstM hB
  refine PySem.P.add_list e e2 ?_ (by rw [List.size_toArray, List.size_toArray]; omega)
  have ea : its.toArray ++ its2.toArray = (its ++ its2).toArray := by simp
  rw [ea]
  exact ⟨.ref _, _, I.lnew (t' := s.toks) (r.append r2) (by rw [List.length_append]; omega), rfl, q _ I.fresh⟩
end
section
variable {prog : Program} {w : World} {A : Around} {E : Value → Shared → Prop} {s : Shared}
end
section
variable {X : Cx}
end
end L2
namespace Att
open PySem PySem.W PySem.Calls PyProof.Rows
theorem ints_of_wellAll {P : Params} {h : Heap} : ∀ (ns : List Int) (vs : List Value), WellAll P h vs (ns.map WData.int) → IntsAre vs ns := by
  intro ns
  induction ns with
  | nil =>
    intro vs w
    rw [List.map_nil] at w
    cases w
    exact .nil
  | cons n ns ih =>
    intro vs w
    rw [List.map_cons] at w
    cases w with
    | cons a b =>
      cases a
      exact .cons _ _ (ih _ b)
theorem script_of {l : OpenLaw} {n : Nat} (hn : l.most = some n) {P : Params} {h : Heap} {args : List WData} {vals : List Value}
    (hpre : l.row.toRowW.claim.pre args = true) (hwl : WellAll P h vals args) :
    ∃ a vs ns, vals = [Value.ref a] ∧ args = [WData.list (ns.map WData.int)] ∧ h.get? a = some { cls := .type "list", data := .seq vs.toArray } ∧ IntsAre vs ns ∧ ns.length ≤ n := by
  have hsh : WShape.hasAll [] args [.list .int] = true := (pre_splitW hpre).1
  have hc : l.pre.holds [] { args := args } = true := (pre_splitW hpre).2
  obtain ⟨d, r, rfl, h1, h2⟩ := hasAllW_cons hsh
  obtain rfl := hasAllW_nil h2
  obtain ⟨xs, rfl, h3⟩ := hasW_list h1
  obtain ⟨ns, rfl⟩ := items_int h3
  have hlen : ns.length ≤ n := by
    unfold OpenLaw.pre at hc
    have h4 : (WTm.not (.lt (.lit (.int (n : Int))) (.len (.arg 0)))).holds [] { args := [.list (ns.map .int)] } = true := by
      have h4 := (holds_andW hc).1
      rw [hn] at h4
      exact h4
    have h5 := condW_of h4 (w_not (w_lt w_lit (w_len_list (w_arg rfl))))
    rw [List.length_map] at h5
    refine Nat.le_of_not_lt fun q => ?_
    have q' : (n : Int) < ((ns.length : Nat) : Int) := by omega
    first
      | (rw [decide_eq_true q'] at h5; exact absurd h5 (by decide))
      | (simp at h5; omega)
  cases hwl with
  | cons w1 w2 =>
    cases w2
    cases w1 with
    | list ho hall => exact ⟨_, _, ns, rfl, rfl, ho, ints_of_wellAll ns _ hall, hlen⟩
theorem post_true (l : OpenLaw) (args : List WData) : l.row.toRowW.claim.post args (.bool true) args = true :=
  postW_of (r := l.row.toRowW) (X := (true == true))
    (show WShape.has [] (.bool true) .bool = true by first | rfl | decide | simp [WShape.has, WShape.arms, WShape.armsAll])
    (show (WTm.eq .res (.lit (.bool true))).value [] { args := args, res := some (.bool true), after := args } = some (.bool (true == true)) from w_eq_bool (w_res rfl) w_lit) rfl
/-- the same from a codeAny of the CALL (for a layer whose function contracts speak of calls) -/
theorem attach_call {l : OpenLaw} {n : Nat} {q : Program} {loose : List Str} {XP : (Str → Option Value) → Heap → Prop} {YP : World → Heap → Prop} {d : DefRec}
    (hn : l.most = some n) (hdf : d.params.defaults = [])
    (call : ∀ (w : World) (s₀ s₁ : Shared) (mg mb : Str → Option Value) (fa : Addr) (o : Obj) (pm cd doc : Value) (a : Addr) (vs : List Value) (ns : List Int),
      Ground q loose [] XP w s₀ mg mb s₁.heap → YP w s₁.heap →
      s₁.heap.get? fa = some o → o.data = .func (docDef d.name d.params d.body d.scope pm cd doc) → s₁.heap.CodeRec cd d.name → mg d.name = some (.ref fa) →
      s₁.heap.get? a = some { cls := .type "list", data := .seq vs.toArray } → IntsAre vs ns → ns.length ≤ n → s₁.gens = #[] →
      codeAny (model l.prog w) callerA (.call (.ref fa) ⟨[.ref a], []⟩) (fun r s' => r = .ok (.ret (.bool true)) ∧ OldK s₁.heap s'.heap ∧ s'.os = s₁.os ∧ AllBare s'.gens) s₁) :
    WalkO q loose XP YP l.row.toRowW d [] (fun f vs => PySem.call f vs) := by
  intro w s₀ s₁ mg mb G Y fa o pm cd doc dV kV ho hd hcd hD hmg hg args vals as hpre hlay hrd hwl hlo
  obtain rfl : dV = .none := Dflts.none hD hdf
  obtain rfl : kV = .none := Dflts.noKw hD
  obtain ⟨a, vs, ns, rfl, rfl, hobj, hints, hlen⟩ := script_of hn hpre hwl
  refine enter_call (codeAny_mono (call w s₀ s₁ mg mb fa o pm cd doc a vs ns G Y ho (fd_plain hd) hcd hmg hobj hints hlen hg) fun r s' hq => ?_)
  obtain ⟨rfl, h2, h3, h4⟩ := hq
  exact ⟨.inl ⟨.bool true, .bool true, [], rfl, fun _ => rfl, .bool true, post_true l _, fun _ => ⟨List.Pairwise.nil, fun _ hm => (nomatch hm)⟩⟩, h2, h3, h4⟩
section
variable {prog : Program} {w : World} {A : Around} {E : Value → Shared → Prop} {s : Shared} {K : Frag}
end
end Att
namespace L2
open PySem PySem.Spec PyProof.Rows
theorem vals_ints : ∀ {vs : List Value} {ns : List Int}, IntsAre vs ns → Vals (ns.map V.int) vs
  | _, _, .nil => .nil
  | _, _, .cons n t h => .cons ⟨t, rfl⟩ (vals_ints h)
end L2
namespace L2
open PySem PySem.Spec PyProof.Rows
end L2
namespace L2
open PySem PySem.Spec PyProof.Rows
def defArgs (s : Stmt) : Arguments := match s with
  | .FunctionDef _ a _ _ _ _ _ _ _ _ => a
  | _ => { posonlyargs := [], args := [], vararg := none, kwonlyargs := [], kw_defaults := [], kwarg := none, defaults := [] }
def defBody (s : Stmt) : List Stmt := match s with
  | .FunctionDef _ _ b _ _ _ _ _ _ _ => b
  | _ => []
def defScope (s : Stmt) : Scope := match s with
  | .FunctionDef _ _ _ _ _ _ sc _ _ _ => sc
  | _ => { kind := .function, names := [], isGenerator := false, isCoroutine := false }
abbrev CX0 : CXT := fun _ _ _ _ _ _ => False
abbrev E0 : XK := fun _ _ _ => False
theorem pass0 {X : Cx} : Passes CX0 X E0 := fun _ _ _ _ _ _ _ h => h.elim
structure Fun (K : PySem.W.Frag) (x qual : Str) (st : Stmt) (f : Addr) (fd : FuncData) : Prop where
  ex : ∃ (oc : Value) (od : Option Addr) (kV doc pm : Value) (an : Option Addr) (cdv ct : Value) (osl : Array (Option Value)),
    fd = PySem.W.fnOf x qual (defArgs st) (defBody st) (defScope st) .none kV doc pm an cdv ct ∧ K.lookup f = some ⟨oc, od, .func fd, osl⟩ ∧ PySem.W.codeIn K cdv qual = true
  kp : PySem.W.keepIn K (.ref f) = true
section
variable {P : Program} {w : World} {K : PySem.W.Frag} {mg : Str → Option Value} {base : Heap}
/-- THE RULE for a def: its body as a term of rules, and the reading of that term -/
theorem Fun.ok {x qual : Str} {st : Stmt} {f : Addr} {fd : FuncData} {N ps : List Str} {k : Nat} {sp : Sp} (F : Fun K x qual st f fd) (S : FnScope N ps (defScope st)) (len : ∀ vs H Q E, sp vs H Q E → vs.length = ps.length)
    (hbody : ∀ (cdv : Value) (A : Around) (outer : List Env) (s : Shared) (H : Hp) (vs : List V) (Q : VK) (E : XK), Room k (A.deeper (envOfC qual (defScope st) s.heap.objs.size f cdv)) → sp vs H Q E →
      ∃ t, PSs (cxOf CX0 P w K mg base N qual (defScope st) f cdv A outer s H E).nox (defBody st) t ∧ t { nx := fun _ H' => Q .non H', rt := Q } (start N vs) H) : FnOk P w K mg base CX0 (k + 1) f fd ps sp := by
  obtain ⟨oc, od, kV, doc, pm, an, cdv, ct, osl, rfl, lk, hcd⟩ := F.ex
  refine fn_of lk hcd S len fun A outer s H vs Q E hr hsp => ?_
  obtain ⟨t, h, q⟩ := hbody cdv A outer s H vs Q E hr hsp
  exact ⟨t, h.nox, q⟩
/-- how its arguments bind (no defaults): h is «fun _ _ _ _ _ _ us hl => match us, hl with | [_, _], _ => rfl», one _ a parameter -/
theorem Fun.binds {x qual : Str} {st : Stmt} {f : Addr} {fd : FuncData} {ps : List Str} (F : Fun K x qual st f fd)
    (h : ∀ (kV doc pm : Value) (an : Option Addr) (cdv ct : Value) (us : List Value), us.length = ps.length → bindArgs (PySem.W.fnOf x qual (defArgs st) (defBody st) (defScope st) .none kV doc pm an cdv ct) ⟨us, []⟩ = pure (ps.zip us)) : Binds K fd ps [] := by
  obtain ⟨oc, od, kV, doc, pm, an, cdv, ct, osl, rfl, lk, hcd⟩ := F.ex
  exact .all (h kV doc pm an cdv ct)
theorem fun_mk {x qual : Str} {st : Stmt} {f : Addr} {oc : Value} {od an : Option Addr} {osl : Array (Option Value)} {kV doc pm cdv ct : Value} (l : K.lookup f = some ⟨oc, od, .func (PySem.W.fnOf x qual (defArgs st) (defBody st) (defScope st) .none kV doc pm an cdv ct), osl⟩)
    (c : PySem.W.codeIn K cdv qual = true) (k : PySem.W.keepIn K (.ref f) = true) : Fun K x qual st f (PySem.W.fnOf x qual (defArgs st) (defBody st) (defScope st) .none kV doc pm an cdv ct) := ⟨⟨oc, od, kV, doc, pm, an, cdv, ct, osl, rfl, l, c⟩, k⟩
end
section
variable {X : Cx}
end
/-- all that was tracked is as it was -/
def Same (H H' : Hp) : Prop := ∀ b o, H b = some o → H' b = some o
theorem Same.refl (H : Hp) : Same H H := fun _ _ h => h
end L2
namespace L2
open PySem PySem.Spec PyProof.Rows
def closL (cells : List (Str × Addr)) : List (Str × NameKind) → List (Str × Addr) → List (Str × Addr)
  | [], acc => acc
  | (n, k) :: r, acc => closL cells r (if k = .free then (n, (cells.lookup n).getD 0) :: acc else acc)
theorem forIn_fold {α β : Type} {f : α → β → Sem (ForInStep β)} (g : β → α → β) : ∀ (l : List α) (c : β), (∀ x ∈ l, ∀ c, f x c = pure (.yield (g c x))) → forIn l c f = pure (l.foldl g c)
  | [], _, _ => rfl
  | x :: l, c, h => by
    rw [List.forIn_cons, h x List.mem_cons_self, pure_bind]
    exact forIn_fold g l _ fun y hy => h y (List.mem_cons_of_mem _ hy)
theorem closL_fold (cells : List (Str × Addr)) : ∀ (names : List (Str × NameKind)) (acc : List (Str × Addr)),
    names.foldl (fun c y => if y.2 = .free then (y.1, (cells.lookup y.1).getD 0) :: c else c) acc = closL cells names acc
  | [], _ => rfl
  | (n, k) :: r, acc => by
    rw [List.foldl_cons, closL]
    exact closL_fold cells r _
theorem clos_ok {scope : Scope} {env : Env} (h : ∀ y ∈ scope.names, y.2 = .free → ∃ c, env.cells.lookup y.1 = some c) : closureFor scope env = pure (closL env.cells scope.names []) := by
  rw [← closL_fold]
  simp only [closureFor]
  rw [forIn_fold (fun c y => if y.2 = .free then (y.1, (env.cells.lookup y.1).getD 0) :: c else c) scope.names [] fun x hx c => ?_]
  · rfl
  · obtain ⟨n, k⟩ := x
    by_cases hk : k = .free
    · subst hk
      obtain ⟨a, e⟩ := h _ hx rfl
      have e' : env.cells.lookup n = some a := e
      simp [cellOf, e']
    · have hb : (k == NameKind.free) = false := by simpa using hk
      simp [hb, hk]
theorem closL_in {cells : List (Str × Addr)} : ∀ (names : List (Str × NameKind)) (acc : List (Str × Addr)), (∀ y ∈ names, y.2 = .free → ∃ c, cells.lookup y.1 = some c) → (∀ x c, acc.lookup x = some c → cells.lookup x = some c) →
    ∀ x c, (closL cells names acc).lookup x = some c → cells.lookup x = some c
  | [], _, _, ha => ha
  | (n, k) :: r, acc, h, ha => by
    rw [closL]
    refine closL_in r _ (fun y hy => h y (List.mem_cons_of_mem _ hy)) fun x c e => ?_
    by_cases hk : k = .free
    · rw [if_pos hk] at e
      obtain ⟨a, ea⟩ := h (n, k) List.mem_cons_self hk
      have ea' : cells.lookup n = some a := ea
      rw [List.lookup_cons] at e
      cases hx : x == n with
      | true =>
        rw [hx] at e
        have e2 : some ((cells.lookup n).getD 0) = some c := e
        rw [ea'] at e2
        have e3 : a = c := Option.some.inj e2
        rw [eq_of_beq hx, ea', e3]
      | false =>
        rw [hx] at e
        exact ha x c e
    · rw [if_neg hk] at e
      exact ha x c e
theorem closL_acc {cells : List (Str × Addr)} {x : Str} : ∀ (names : List (Str × NameKind)) (acc : List (Str × Addr)), (acc.lookup x).isSome = true → ((closL cells names acc).lookup x).isSome = true
  | [], _, h => h
  | (n, k) :: r, acc, h => by
    rw [closL]
    refine closL_acc r _ ?_
    by_cases hk : k = .free
    · rw [if_pos hk, List.lookup_cons]
      cases hx : x == n with
      | true => rfl
      | false => exact h
    · rw [if_neg hk]; exact h
theorem closL_has {cells : List (Str × Addr)} {x : Str} : ∀ (names : List (Str × NameKind)) (acc : List (Str × Addr)), (x, NameKind.free) ∈ names → ((closL cells names acc).lookup x).isSome = true
  | [], _, h => nomatch h
  | (n, k) :: r, acc, h => by
    rw [closL]
    rcases List.mem_cons.mp h with e | h
    · cases e
      refine closL_acc r _ ?_
      rw [if_pos rfl, List.lookup_cons, beq_self_eq_true]; rfl
    · exact closL_has r _ h
theorem lookup_map {g : Str → NameKind → NameKind} {x : Str} : ∀ names : List (Str × NameKind), (names.map fun y => (y.1, g y.1 y.2)).lookup x = (names.lookup x).map (g x)
  | [] => rfl
  | (n, k) :: r => by
    rw [List.map_cons, List.lookup_cons, List.lookup_cons]
    cases hx : x == n with
    | true =>
      have e := eq_of_beq hx
      subst e; rfl
    | false => exact lookup_map r
theorem relabel_names (scope : Scope) (env : Env) : (relabel scope env).names = scope.names.map fun y => (y.1, if (y.2 == .free && env.scope.kind == .function && env.kindOf y.1 == some .cell) = true then NameKind.cell else y.2) := by
  unfold relabel
  refine List.map_congr_left fun y _ => ?_
  obtain ⟨n, k⟩ := y
  show (if (k == .free && env.scope.kind == .function && env.kindOf n == some .cell) = true then (n, NameKind.cell) else (n, k)) = _
  split <;> simp_all
theorem relabel_look (scope : Scope) (env : Env) (x : Str) : (relabel scope env).names.lookup x = (scope.names.lookup x).map fun k => if (k == .free && env.scope.kind == .function && env.kindOf x == some .cell) = true then NameKind.cell else k := by
  rw [relabel_names]
  exact lookup_map (g := fun n k => if (k == .free && env.scope.kind == .function && env.kindOf n == some .cell) = true then NameKind.cell else k) scope.names
def cxComp (X : Cx) (scope : Scope) (N' : List Str) (C : Addr) (ex : List Addr) (s : Shared) (H : Hp) : Cx :=
  { X with N := N', s₀ := s, H₀ := H, env := compEnvC scope (closL X.env.cells scope.names []) C X.env, outer := X.stack, stack := X.stack, ex := ex, fn := fun _ => false, pn := [], xe := fun _ _ => False }
/-- the names' values at the block's start: nt targets, then the captured ones (their slots around) -/
def compSt (nt : Nat) (cap : List Nat) (σ : St) : St := List.replicate nt none ++ cap.map fun i => (σ[i]?).join
structure CompOk (X : Cx) (scope : Scope) (N' : List Str) (nt : Nat) (cap : List Nat) : Prop where
  kind : scope.kind = .function
  nocell : ∀ y ∈ scope.names, y.2 ≠ .cell
  locs : ∀ y ∈ scope.names, y.2 = .local → scope.names.lookup y.1 = some .local
  frees : ∀ y ∈ scope.names, y.2 = .free → X.env.scope.names.lookup y.1 = some .cell ∨ X.env.scope.names.lookup y.1 = some .free
  len : N'.length = nt + cap.length
  caps : ∀ (j i : Nat) (x : Str), cap[j]? = some i → N'[nt + j]? = some x → X.N[i]? = some x ∧ scope.names.lookup x = some .free
section
variable {X : Cx} {scope : Scope} {N' : List Str} {nt : Nat} {cap : List Nat} {pins : List (Addr × Obj)} {σ : St} {H : Hp} {s : Shared}
theorem CompOk.has (c : CompOk X scope N' nt cap) (ok : X.Ok) : ∀ y ∈ scope.names, y.2 = .free → ∃ a, X.env.cells.lookup y.1 = some a := fun y hy hk => ok.has y.1 (c.frees y hy hk)
theorem CompOk.cells (c : CompOk X scope N' nt cap) (ok : X.Ok) {x : Str} {a : Addr} (e : (closL X.env.cells scope.names []).lookup x = some a) : X.env.cells.lookup x = some a :=
  closL_in scope.names [] (c.has ok) (fun _ _ z => by simp at z) x a e
theorem CompOk.free_of (c : CompOk X scope N' nt cap) {x : Str} (h : (relabel scope X.env).names.lookup x = some .cell ∨ (relabel scope X.env).names.lookup x = some .free) : (x, NameKind.free) ∈ scope.names := by
  rw [relabel_look] at h
  cases q : scope.names.lookup x with
  | none => rw [q] at h; simp at h
  | some k =>
    have hm := PySem.mem_of_lookup q
    have nc : k ≠ .cell := c.nocell _ hm
    rw [q] at h
    by_cases hk : k = .free
    · subst hk; exact hm
    · have hb : (k == NameKind.free) = false := by simpa using hk
      simp only [Option.map_some, hb, Bool.false_and, Bool.false_eq_true, if_false, Option.some.injEq] at h
      rcases h with h | h
      · exact absurd h nc
      · exact absurd h hk
/-- the block's start: the frame C was just made -/
theorem Inv.comp (I : Inv X pins σ H s) (c : CompOk X scope N' nt cap) {fp : List Addr} (hf : ∀ b ∈ fp, FpOk X pins H b) (hfs : ∀ b ∈ fp, b < s.heap.objs.size) {h' : Heap} {m : Str → Option Value} {t' : Nat}
    (hk : ∀ b o, s.heap.get? b = some o → h'.get? b = some o) (hn : h'.Ns s.heap.objs.size m) :
    Inv (cxComp X scope N' s.heap.objs.size fp s H) [] (compSt nt cap σ) H { s with heap := h', toks := t' } := by
  have cl := fun {x : Str} {a : Addr} (e : (closL X.env.cells scope.names []).lookup x = some a) => c.cells I.ok e
  have cellLt : ∀ x a, X.env.cells.lookup x = some a → a < s.heap.objs.size := fun x a e => by
    obtain ⟨v, q⟩ := I.cell x a e
    exact q.lt
  refine ⟨⟨I.ok.mod, c.kind, I.ok.glob, I.ok.blt, Nat.le_refl _, fun x y a e1 e2 => I.ok.inj x y a (cl e1) (cl e2), fun x hx => ?_, fun x a hx => absurd hx Bool.false_ne_true, I.ok.hd, I.ok.frames, .inl rfl, fun b hb => ⟨?_, fun x a e => ?_⟩,
      fun b o e => I.bs b o e, Nat.le_trans I.ok.bsz I.sz, fun b o e hb => ?_, fun b hb hbf => ?_, I.stack, fun b hb => I.stkFree b hb⟩,
    rfl, I.bare, Un.kept hk, ⟨m, hn, fun i x v e1 e2 e3 => ?_⟩, fun x a e => ?_, I.hok.fresh (Nat.le_refl _), fun x a e => I.freeC x a (cl e), fun p hp => absurd (show p ∈ ([] : List (Addr × Obj)) from hp) (by simp), I.hok.kept hk, ?_⟩
  · exact Option.isSome_iff_exists.mp (closL_has scope.names [] (c.free_of hx))
  · exact Nat.ne_of_lt (hfs b hb)
  · exact (hf b hb).2.2.2.2.1 x a (cl e)
  · obtain ⟨f0, f1, f2, f3, _⟩ := hf b hb
    rcases f3 with z | z
    · exact I.ok.noex b o e z
    · exact absurd (Nat.lt_of_lt_of_le (Heap.lt_size e) (Nat.le_trans I.ok.bsz z)) (Nat.lt_irrefl _)
  · obtain ⟨f0, f1, f2, _⟩ := hf b hb
    rcases List.mem_cons.mp (I.stkSub b hbf) with z | z
    · exact f1 z
    · exact f2 z
  · -- a captured name
    have e1' : N'[i]? = some x := e1
    have hi : nt ≤ i := by
      refine Nat.le_of_not_lt fun q => ?_
      unfold compSt at e2
      rw [List.getElem?_append_left (by simpa using q), List.getElem?_replicate, if_pos q] at e2
      cases e2
    obtain ⟨j, rfl⟩ := Nat.exists_eq_add_of_le hi
    unfold compSt at e2
    rw [List.getElem?_append_right (by simp), List.length_replicate, Nat.add_sub_cancel_left, List.getElem?_map] at e2
    cases q : cap[j]? with
    | none => rw [q] at e2; cases e2
    | some k =>
      rw [q] at e2
      have e2' : (σ[k]?).join = some v := Option.some.inj e2
      have e4 : σ[k]? = some (some v) := by
        cases z : σ[k]? with
        | none => rw [z] at e2'; cases e2'
        | some w' => rw [z] at e2'; exact congrArg some e2'
      obtain ⟨n1, n2⟩ := c.caps j k x q e1'
      have hmem := PySem.mem_of_lookup n2
      have hkind := c.frees _ hmem rfl
      obtain ⟨m0, _, hl⟩ := I.loc
      obtain ⟨u, r, lk⟩ := hl k x v n1 e4 (.inr hkind)
      refine ⟨u, r, .inr ⟨?_, ?_⟩⟩
      · show (relabel scope X.env).names.lookup x = some .cell ∨ (relabel scope X.env).names.lookup x = some .free
        rw [relabel_look, n2]
        by_cases z : ((NameKind.free == .free && X.env.scope.kind == .function && X.env.kindOf x == some .cell) = true)
        · exact .inl (by rw [Option.map_some, if_pos z])
        · exact .inr (by rw [Option.map_some, if_neg z])
      · rcases lk with ⟨k1, _⟩ | ⟨_, a, e, z⟩
        · have k1' : X.env.scope.names.lookup x = some .local := k1
          rcases hkind with y | y <;> (rw [k1'] at y; cases y)
        · obtain ⟨a', ea⟩ := Option.isSome_iff_exists.mp (closL_has (cells := X.env.cells) scope.names [] hmem)
          have e' := cl ea
          rw [e] at e'; cases e'
          obtain ⟨o, ho, hd⟩ := z
          exact ⟨a, ea, o, hk _ _ ho, hd⟩
  · obtain ⟨v, o, ho, hd⟩ := I.cell x a (cl e)
    exact ⟨v, o, hk _ _ ho, hd⟩
  · show (compSt nt cap σ).length = N'.length
    unfold compSt
    rw [List.length_append, List.length_replicate, List.length_map, c.len]
/-- behind the block: the frame C is let go -/
theorem Inv.uncomp {C : Addr} {fp : List Addr} {σ' : St} {H' : Hp} {s' : Shared} (I : Inv X pins σ H s) (hC : C = s.heap.objs.size) (hf : ∀ b ∈ fp, FpOk X pins H b) {N' : List Str} (J : Inv (cxComp X scope N' C fp s H) [] σ' H' s') :
    ∃ m, s'.heap.Ns C m ∧ ∀ h', Heap.SameBut C s'.heap h' → Inv X pins σ H' { s' with heap := h' } := by
  subst hC
  obtain ⟨m, hn, _⟩ := J.loc
  refine ⟨m, hn, fun h' hs => ?_⟩
  have ne : ∀ b o, s.heap.get? b = some o → b ≠ s.heap.objs.size := fun b o e => Nat.ne_of_lt (Heap.lt_size e)
  have B := J.base
  refine I.call' (ch := fp) J.os ⟨fun b o e n hb hx => ?_, fun b o e n hb hx => ?_, B.free, fun b o e hx => ?_, B.tups, B.frzs, B.tbls⟩ (fun b u e => ?_) J.bare fun b hb => ?_
  · exact (hs.2 b (ne b o e)).trans (B.keep b o e n hb hx)
  · obtain ⟨sl, q⟩ := B.slot b o e n hb hx
    exact ⟨sl, (hs.2 b (ne b o e)).trans q⟩
  · obtain ⟨o', q⟩ := B.there b o e hx
    exact ⟨o', (hs.2 b (ne b o e)).trans q⟩
  · have hCn : H' s.heap.objs.size = none := J.free
    refine (J.hok b u e).stay (fun d w' hd q => (hs.2 d ?_).trans q) (fun _ q => q) fun _ _ q => q
    intro z
    subst z
    rcases hd with z | z
    · rw [← z, hCn] at e; cases e
    · rw [hCn] at z; cases z
  · obtain ⟨f0, f1, f2, f3, f4, f5⟩ := hf b hb
    exact ⟨f3, f1, f4, f5⟩
end
end L2
namespace L2
open PySem PySem.Spec PyProof.Rows
/-- W: by the turn, a measure, the items so far, the block's names, the heap -/
def tComp (wi : TI) (g : TG) (te : TE) (nt : Nat) (cap : List Nat) : TE := fun σ H Q => wi σ H fun J H1 => ∀ acc, H1 acc = none →
  ∃ W : Nat → Nat → List V → St → Hp → Prop, (∃ m, W 0 m [] (compSt nt cap σ) (upd H1 acc (.lst []))) ∧ ∀ i m ys σ' H', W i m ys σ' H' →
    (J.stop i H' ∧ Q (.ref acc) H') ∨ (J.go i H' ∧ ∀ x H2, J.yld i H' x H2 → g x σ' H2 fun σ3 H3 => te σ3 H3 fun y H4 =>
      H4 acc = some (.lst ys) ∧ ys.length < sizeLine ∧ ∃ m', m' < m ∧ W (i + 1) m' (ys ++ [y]) σ3 (upd H4 acc (.lst (ys ++ [y]))))
def tCompIf (wi : TI) (g : TG) (tc : TT) (te : TE) (nt : Nat) (cap : List Nat) : TE := fun σ H Q => wi σ H fun J H1 => ∀ acc, H1 acc = none →
  ∃ W : Nat → Nat → List V → St → Hp → Prop, (∃ m, W 0 m [] (compSt nt cap σ) (upd H1 acc (.lst []))) ∧ ∀ i m ys σ' H', W i m ys σ' H' →
    (J.stop i H' ∧ Q (.ref acc) H') ∨ (J.go i H' ∧ ∀ x H2, J.yld i H' x H2 → g x σ' H2 fun σ3 H3 => tc σ3 H3 fun b H5 => if b = true then te σ3 H5 fun y H4 =>
      H4 acc = some (.lst ys) ∧ ys.length < sizeLine ∧ ∃ m', m' < m ∧ W (i + 1) m' (ys ++ [y]) σ3 (upd H4 acc (.lst (ys ++ [y])))
      else ∃ m', m' < m ∧ W (i + 1) m' ys σ3 H5)
theorem compTurn_one (elt target iter c : Expr) (scope : Scope) (pos : Pos) (it acc : Value) (env : Env) :
    compTurn (.ListComp elt [⟨target, iter, [c], 0⟩] scope pos) 0 it acc env = (standAt iter.pos >>= fun _ => pyNext it >>= fun r => match r with
      | none => pure (.done .next)
      | some v => letOwnedTupleGo target it v >>= fun _ => assign target env v >>= fun _ => (forIn [c] true fun c r => if r = true then do let ok ← isTrue c env (eval c env); pure (ForInStep.yield ok) else pure (ForInStep.yield r)) >>= fun ok =>
        if ok = true then (eval elt env >>= fun x => call (.builtin "list.append") [acc, x] >>= fun _ => pure ()) >>= fun _ => again (.compLoop (.ListComp elt [⟨target, iter, [c], 0⟩] scope pos) 0 it acc env)
        else again (.compLoop (.ListComp elt [⟨target, iter, [c], 0⟩] scope pos) 0 it acc env)) := by
  rfl
theorem forIn_one (c : Expr) (env : Env) : (forIn [c] true fun c r => if r = true then do let ok ← isTrue c env (eval c env); pure (ForInStep.yield ok) else pure (ForInStep.yield r)) = isTrue c env (eval c env) := by
  rw [List.forIn_cons, if_pos rfl]
  simp only [bind_assoc, pure_bind, List.forIn_nil, bind_pure]
theorem compTurn_ifs (elt target iter c : Expr) (scope : Scope) (pos : Pos) (it acc : Value) (env : Env) :
    compTurn (.ListComp elt [⟨target, iter, [c], 0⟩] scope pos) 0 it acc env = (standAt iter.pos >>= fun _ => pyNext it >>= fun r => match r with
      | none => pure (.done .next)
      | some v => letOwnedTupleGo target it v >>= fun _ => assign target env v >>= fun _ => isTrue c env (eval c env) >>= fun ok =>
        if ok = true then (eval elt env >>= fun x => call (.builtin "list.append") [acc, x] >>= fun _ => pure ()) >>= fun _ => again (.compLoop (.ListComp elt [⟨target, iter, [c], 0⟩] scope pos) 0 it acc env)
        else again (.compLoop (.ListComp elt [⟨target, iter, [c], 0⟩] scope pos) 0 it acc env)) := by
  rw [compTurn_one, forIn_one]
section
variable {X : Cx} {scope : Scope} {N' : List Str} {nt : Nat} {cap : List Nat} {elt iter tg : Expr} {pos : Pos} {wi : TI} {g : TG} {te : TE}
theorem pe_comp (hc : X.calm = true) (c : CompOk X scope N' nt cap) (hi : PI X tg iter wi) (hg : ∀ C ex s H, PG (cxComp X scope N' C ex s H) tg g) (he : ∀ C ex s H, PE (cxComp X scope N' C ex s H) elt te)
    (hs : ∀ x, foldedSetIterable iter X.env x = pure x := by intro _; rfl) : PE X (.ListComp elt [⟨tg, iter, [], 0⟩] scope pos) (tComp wi g te nt cap) := by
  intro pins s σ H Q I h
  rw [eval_ListComp]
  refine wpAny_comprehension_free (use := none) rfl hs (clos_ok (c.has I.ok)) c.kind c.locs (thn (hi pins s σ H _ I h) fun v s1 h1 => thn h1 fun itv s2 h2 => ?_)
  obtain ⟨it, fp, tn, J, H2, rfl, I2, T, st2, f2, R⟩ := h2
  have hD : H2 s2.heap.objs.size = none := I2.hok.fresh (Nat.le_refl _)
  obtain ⟨W, ⟨m0, w0⟩, turn⟩ := R _ hD
  have I3 : Inv X pins σ (upd H2 s2.heap.objs.size (.lst [])) { s2 with heap := s2.heap.push { cls := .type "list", dict := none, data := .seq ([] : List Value).toArray } } :=
    I2.laid (t' := s2.toks) (fun b u e => Heap.get?_push_of_some _ e) (Nat.le_refl _) ⟨Nat.zero_le _, [], 0, .nil, Heap.get?_push_size _ rfl⟩
  have fpLt : ∀ b ∈ fp, b < s2.heap.objs.size := fun b hb => by
    obtain ⟨o, e, _⟩ := T.obj _ _ st2 b hb
    exact Heap.lt_size e
  have f3 : ∀ b ∈ fp, FpOk X pins (upd H2 s2.heap.objs.size (.lst [])) b := fun b hb => ⟨by rw [upd_ne (Nat.ne_of_lt (fpLt b hb))]; exact (f2 b hb).1, (f2 b hb).2⟩
  have st3 : tn 0 (s2.heap.push { cls := .type "list", dict := none, data := .seq ([] : List Value).toArray }) := T.keep _ _ _ st2 fun b _ o e => Heap.get?_push_of_some _ e
  generalize hh3 : s2.heap.push { cls := .type "list", dict := none, data := .seq ([] : List Value).toArray } = h3 at I3 st3
  have sz3 : s2.heap.objs.size < h3.objs.size := by rw [← hh3, Heap.size_push]; exact Nat.lt_succ_self _
  generalize hDD : s2.heap.objs.size = D at I3 f3 hD w0 turn sz3 fpLt
  refine wpAny_newObj_type ?_
  rw [hDD, hh3]
  refine wpAny_newFunctionEnv c.nocell (by intro y hy; simp at hy) (fun h4 hns4 hsb4 => ?_) c.kind
  dsimp only at hns4 hsb4 ⊢
  have keep4 : ∀ b o, h3.get? b = some o → h4.get? b = some o := fun b o e => (hsb4.2 b (Nat.ne_of_lt (Heap.lt_size e))).trans (Heap.get?_push_of_some _ e)
  have I4 := I3.comp (t' := s2.toks + ([] : List (Str × Value)).length) c f3 (fun b hb => Nat.lt_trans (fpLt b hb) sz3) keep4 hns4
  have st4 : tn 0 h4 := T.keep _ _ _ st3 fun b _ o e => keep4 b o e
  dsimp only at I4
  -- what is asked of the end
  have fin : ∀ {σ' : St} {H' : Hp} {s' : Shared}, Inv (cxComp X scope N' h3.objs.size fp { s2 with heap := h3 } (upd H2 D (.lst []))) [] σ' H' s' → Q (.ref D) H' →
      compPost (model X.prog X.w) X.A X.xe none (EP X pins σ Q) (.ref D) h3.objs.size (.ok .next) s' := fun {σ' H' s'} J' q => by
    obtain ⟨m, hn, hh⟩ := I3.uncomp rfl f3 J'
    exact ⟨m, hn, fun h' hs' => ⟨.ref D, H', hh h' hs', rfl, q⟩⟩
  have stat : ∀ {H' : Hp}, (∀ b ∈ fp, H' b = none) → ∀ b ∈ fp, FpOk (cxComp X scope N' h3.objs.size fp { s2 with heap := h3 } (upd H2 D (.lst []))) [] H' b := fun {H'} hn b hb => by
    refine ⟨hn b hb, Nat.ne_of_lt (Nat.lt_trans (fpLt b hb) sz3), fun z => ?_, .inl hb, fun x a e => (f3 b hb).2.2.2.2.1 x a (c.cells I.ok e), fun p hp => absurd (show p ∈ ([] : List (Addr × Obj)) from hp) (by simp)⟩
    rcases List.mem_cons.mp (I.stkSub b z) with y | y
    · exact (f3 b hb).2.1 y
    · exact (f3 b hb).2.2.1 y
  have loop : codeAny (model X.prog X.w) X.A (.compLoop (.ListComp elt [⟨tg, iter, [], 0⟩] scope pos) 0 (.ref it) (.ref D) (compEnvC scope (closL X.env.cells scope.names []) h3.objs.size X.env))
      (compPost (model X.prog X.w) X.A X.xe none (EP X pins σ Q) (.ref D) h3.objs.size) { s2 with heap := h4, toks := s2.toks + ([] : List (Str × Value)).length } := by
    refine codeAny_loop rfl (fun n s' => ∃ i ys σ' H', Inv (cxComp X scope N' h3.objs.size fp { s2 with heap := h3 } (upd H2 D (.lst []))) [] σ' H' s' ∧ tn i s'.heap ∧ (∀ b ∈ fp, H' b = none) ∧ W i n ys σ' H') (fun n s5 hI => ?_) m0 ⟨0, [], _, _, I4, st4, fun b hb => (f3 b hb).1, w0⟩
    obtain ⟨i, ys, σ5, H5, I5, st5, fr5, w5⟩ := hI
    show wpAny _ X.A ((compTurn (.ListComp elt [⟨tg, iter, [], 0⟩] scope pos) 0 (.ref it) (.ref D) (compEnvC scope (closL X.env.cells scope.names []) h3.objs.size X.env)).onRaise (fun x => do noteFrame x (compEnvC scope (closL X.env.cells scope.names []) h3.objs.size X.env); theTreesLotGoes x)) _ _ s5
    refine wpAny_noted ?_
    rw [compTurn_list1]
    rcases turn i n ys σ5 H5 w5 with ⟨stop, qn⟩ | ⟨go, step⟩
    · refine wpAny_bind (wpAny_standAt (wpAny_bind (wpAny_mono (T.done (cxComp X scope N' h3.objs.size fp { s2 with heap := h3 } (upd H2 D (.lst []))) rfl rfl rfl hc i [] s5 σ5 H5 (fun _ _ => False) I5 (stat fr5) st5 stop) (fun r s6 ⟨hr, I6⟩ => ?_) fun _ _ z => z.elim)))
      subst hr
      exact wpAny_pure (fin I6 qn)
    · refine wpAny_bind (wpAny_standAt (wpAny_bind (wpAny_mono (T.item (cxComp X scope N' h3.objs.size fp { s2 with heap := h3 } (upd H2 D (.lst []))) rfl rfl rfl hc i [] s5 σ5 H5 (fun _ _ => False) I5 (stat fr5) st5 go) (fun r s6 ⟨u, hr, h6⟩ => ?_) fun _ _ z => z.elim)))
      subst hr
      refine wpAny_bind (wpAny_mono h6 (fun _ s7 ⟨x, H7, I7, r7, y7, st7, fr7⟩ => ?_) fun _ _ z => z.elim)
      have I7' := I7.pinned (stat fr7) (T.obj _ _ st7)
      refine wpAny_bind (wpAny_mono (hg _ _ _ _ _ s7 σ5 H7 x u _ I7' r7 (step x H7 y7)) (fun _ s8 ⟨σ8, H8, I8, q8⟩ => ?_) fun _ _ z => z.elim)
      refine wpAny_bind (wpAny_bind (wpAny_mono (he _ _ _ _ _ s8 σ8 H8 _ I8 q8) (fun yv s9 ⟨y, H9, I9, r9, e9, z9, m', hm', w9⟩ => ?_) fun _ _ z => z.elim))
      refine wpAny_bind (wpAny_mono (mt_append (X := cxComp X scope N' h3.objs.size fp { s2 with heap := h3 } (upd H2 D (.lst []))) _ s9 σ8 H9 (.ref D) [y] (.ref D) [yv] (fun v H10 => v = .non ∧ H10 = upd H9 D (.lst (ys ++ [y]))) I9 rfl (.cons r9 .nil) ⟨D, ys, y, rfl, rfl, e9, z9, rfl, rfl⟩)
        (fun _ s10 ⟨v10, H10, I10, _, _, e10⟩ => ?_) fun _ _ z => z.elim)
      subst e10
      refine wpAny_pure (wpAny_pure ⟨rfl, m', hm', i + 1, ys ++ [y], σ8, _, I10.unpinned, ?_, fun b hb => ?_, w9⟩)
      · exact T.keep _ _ _ st7 fun b hb o e => (I10.pin (b, o) (List.mem_append_right _ (List.mem_append_right _ (mem_pinsAt hb e)))).1
      · obtain ⟨o, e, d⟩ := T.obj _ _ st7 b hb
        exact (I10.pin (b, o) (List.mem_append_right _ (List.mem_append_right _ (mem_pinsAt hb e)))).2.1
  exact codeAny_compStart_list loop (T.self _ 0 _ _ _ st4 loop)
end
end L2
namespace L2
open PySem PySem.Spec PyProof.Rows
structure Got (P : Program) (w : World) (K : PySem.W.Frag) (mg : Str → Option Value) (base : Heap) (k : Nat) (x : Str) (ps : List Str) (sp : Sp) : Prop where
  ex : ∃ (f : Addr) (fd : FuncData), FnOk P w K mg base CX0 k f fd ps sp ∧ mg x = some (.ref f) ∧ PySem.W.keepIn K (.ref f) = true ∧ Binds K fd ps []
section
variable {X : Cx} {k j : Nat} {x : Str} {ps : List Str} {sp : Sp} {p pos : Pos} {e : Expr} {es : List Expr} {t : TA}
theorem pe_cg (G : Got X.prog X.w X.K X.mg X.base k x ps sp) (hr : Room j X.A) (hk : k ≤ j) (hg : Gl X x) (ha : PA X (e :: es) t) (hdb : (x == ("__debug__" : Str)) = false := by decide)
    (he : starEach (e :: es) X.env = (false, eval e X.env) :: starEach es X.env := by rfl) (hpl : (backTo pos (starEach es X.env)).any (·.1) = false := by rfl) :
    PE X (.Call (.Name x p) (e :: es) [] pos) (tCall sp [] E0 t) := by
  obtain ⟨f, fd, F, hm, kp, b⟩ := G.ex
  exact pe_call F (hr.mono hk) hg hm kp b .nil pass0 ha hdb he hpl
end
section
variable {X : Cx}
theorem op_fdivL : OpR X (binaryOp .FloorDiv) (rI (fun _ j => 0 < j ∧ j < 2 ^ 64) fun i j => .int (i / j)) := opI fun i j t u s E Q hc q => by
  have h0 : j ≠ 0 := by omega
  have h1 : j.natAbs.log2 < 9000 := by
    have e1 : j.natAbs < 2 ^ 64 := by omega
    exact Nat.lt_trans ((Nat.log2_lt (by omega)).mpr e1) (by decide)
  have e : i.fdiv j = i / j := Int.fdiv_eq_ediv_of_nonneg i (by omega)
  exact floordiv_int h0 (by rw [e]; exact q) (.inl (PyProof.noPylong_of_log2 h1))
theorem ext_tup (l b : Addr) (items items2 : Array Value) (n n2 : Nat) (dd2 : Option Addr) (sl2 : Array (Option Value)) (h0 : ¬(!items.isEmpty && Builtin.List.listTooLong (items.size + items2.size)) = true) (h1 : items.size ≤ sizeLine) (h2 : items.size + items2.size ≤ sizeLine + 1) :
    Meets (Builtin.«list.extend» ⟨[.ref l, .ref b], []⟩) (fun _ R s => s.heap.get? l = some { cls := .type "list", dict := none, data := .seq items n, slots := #[] } ∧
      s.heap.get? b = some { cls := .type "tuple", dict := dd2, data := .seq items2 n2, slots := sl2 } ∧ R (.ok (.ret Value.none)) { s with heap := s.heap.update l (Obj.mapSeq fun x => x ++ items2), toks := s.toks }) :=
  .of_wp fun prog w A R s h => by
    obtain ⟨hp, g, d, tk, os⟩ := s
    obtain ⟨hl, hb, h⟩ := h
    have f1 := AutoSeq1.idx_int
    have f2 := AutoSeq1.sub_tuple_tuple
    have f3 := AutoSeq1.sub_list_list
    have f4 := AutoSeq1.sub_tuple_list
    have f5 := AutoSeq1.sub_list_tuple
    have hz' : (items ++ items2).size ≤ sizeLine + 1 := by rw [Array.size_append]; exact h2
    wp_walk using (wpAny_updateSeq hl rfl (hz := h1) (_hz' := hz')), wpAny_loadPart' hl, wpAny_loadPart' hb
    exact ⟨_, rfl, h⟩
def rExtT (K : PySem.W.Frag) : V → List V → Hp → VK → Prop := fun x vs H Q => ∃ l b xs zs, x = .ref l ∧ vs = [.ref b] ∧ H l = some (.lst xs) ∧ SqT K H b zs ∧ xs.length + zs.length ≤ sizeLine ∧ Q .non (upd H l (.lst (xs ++ zs)))
theorem mt_extT : MtM X "list.extend" (rExtT X.K) := by
  intro pins s σ H x vs v us Q I rx rv h
  obtain ⟨l, b, xs, zs, rfl, rfl, hH, hB, hz, q⟩ := h
  cases rx
  obtain ⟨u, rfl, ru⟩ := rv.one
  cases ru
  obtain ⟨z, its, n, r, hl, e⟩ := I.lstM hH
  obtain ⟨its2, r2, ⟨⟨c2, dd2, da2, sl2⟩, e2, hc2, n2, hd2⟩, hz2⟩ := I.tuple hB
  simp only at hc2 hd2
  subst hc2 hd2
  have hl2 := r2.length
  have hsz : its.toArray.size + its2.toArray.size ≤ sizeLine := by rw [List.size_toArray, List.size_toArray]; omega
  have hlong : ¬ (!its.toArray.isEmpty && Builtin.List.listTooLong (its.toArray.size + its2.toArray.size)) = true := by
    rw [notLongL hsz, Bool.and_false]
    exact Bool.false_ne_true
  refine call_meets F.slot_list_extend ⟨_, e, rfl⟩ F.entry_list_extend (F.args_list_extend_2 _ _) (ext_tup l b its.toArray its2.toArray n n2 dd2 sl2 hlong (by rw [List.size_toArray]; omega) (by omega)) ⟨e, e2, ?_⟩
  refine ⟨.non, _, I.lset (its' := its ++ its2) hH e (by simp) (r.append r2) ?_, rfl, q⟩
  rw [List.length_append]
  omega
end
end L2
namespace L2
open PySem PySem.Spec PyProof.Rows
section
variable {X : Cx} {scope : Scope} {N' : List Str} {nt : Nat} {cap : List Nat} {elt iter tg : Expr} {pos : Pos} {wi : TI} {g : TG} {te : TE}
theorem pe_compIf {ct : Expr} {tc : TT} (hc : X.calm = true) (c : CompOk X scope N' nt cap) (hi : PI X tg iter wi) (hg : ∀ C ex s H, PG (cxComp X scope N' C ex s H) tg g) (ht : ∀ C ex s H, PT (cxComp X scope N' C ex s H) ct tc) (he : ∀ C ex s H, PE (cxComp X scope N' C ex s H) elt te)
    (hs : ∀ x, foldedSetIterable iter X.env x = pure x := by intro _; rfl) : PE X (.ListComp elt [⟨tg, iter, [ct], 0⟩] scope pos) (tCompIf wi g tc te nt cap) := by
  intro pins s σ H Q I h
  rw [eval_ListComp]
  refine wpAny_comprehension_free (use := none) rfl hs (clos_ok (c.has I.ok)) c.kind c.locs (thn (hi pins s σ H _ I h) fun v s1 h1 => thn h1 fun itv s2 h2 => ?_)
  obtain ⟨it, fp, tn, J, H2, rfl, I2, T, st2, f2, R⟩ := h2
  have hD : H2 s2.heap.objs.size = none := I2.hok.fresh (Nat.le_refl _)
  obtain ⟨W, ⟨m0, w0⟩, turn⟩ := R _ hD
  have I3 : Inv X pins σ (upd H2 s2.heap.objs.size (.lst [])) { s2 with heap := s2.heap.push { cls := .type "list", dict := none, data := .seq ([] : List Value).toArray } } :=
    I2.laid (t' := s2.toks) (fun b u e => Heap.get?_push_of_some _ e) (Nat.le_refl _) ⟨Nat.zero_le _, [], 0, .nil, Heap.get?_push_size _ rfl⟩
  have fpLt : ∀ b ∈ fp, b < s2.heap.objs.size := fun b hb => by
    obtain ⟨o, e, _⟩ := T.obj _ _ st2 b hb
    exact Heap.lt_size e
  have f3 : ∀ b ∈ fp, FpOk X pins (upd H2 s2.heap.objs.size (.lst [])) b := fun b hb => ⟨by rw [upd_ne (Nat.ne_of_lt (fpLt b hb))]; exact (f2 b hb).1, (f2 b hb).2⟩
  have st3 : tn 0 (s2.heap.push { cls := .type "list", dict := none, data := .seq ([] : List Value).toArray }) := T.keep _ _ _ st2 fun b _ o e => Heap.get?_push_of_some _ e
  generalize hh3 : s2.heap.push { cls := .type "list", dict := none, data := .seq ([] : List Value).toArray } = h3 at I3 st3
  have sz3 : s2.heap.objs.size < h3.objs.size := by rw [← hh3, Heap.size_push]; exact Nat.lt_succ_self _
  generalize hDD : s2.heap.objs.size = D at I3 f3 hD w0 turn sz3 fpLt
  refine wpAny_newObj_type ?_
  rw [hDD, hh3]
  refine wpAny_newFunctionEnv c.nocell (by intro y hy; simp at hy) (fun h4 hns4 hsb4 => ?_) c.kind
  dsimp only at hns4 hsb4 ⊢
  have keep4 : ∀ b o, h3.get? b = some o → h4.get? b = some o := fun b o e => (hsb4.2 b (Nat.ne_of_lt (Heap.lt_size e))).trans (Heap.get?_push_of_some _ e)
  have I4 := I3.comp (t' := s2.toks + ([] : List (Str × Value)).length) c f3 (fun b hb => Nat.lt_trans (fpLt b hb) sz3) keep4 hns4
  have st4 : tn 0 h4 := T.keep _ _ _ st3 fun b _ o e => keep4 b o e
  dsimp only at I4
  -- what is asked of the end
  have fin : ∀ {σ' : St} {H' : Hp} {s' : Shared}, Inv (cxComp X scope N' h3.objs.size fp { s2 with heap := h3 } (upd H2 D (.lst []))) [] σ' H' s' → Q (.ref D) H' →
      compPost (model X.prog X.w) X.A X.xe none (EP X pins σ Q) (.ref D) h3.objs.size (.ok .next) s' := fun {σ' H' s'} J' q => by
    obtain ⟨m, hn, hh⟩ := I3.uncomp rfl f3 J'
    exact ⟨m, hn, fun h' hs' => ⟨.ref D, H', hh h' hs', rfl, q⟩⟩
  have stat : ∀ {H' : Hp}, (∀ b ∈ fp, H' b = none) → ∀ b ∈ fp, FpOk (cxComp X scope N' h3.objs.size fp { s2 with heap := h3 } (upd H2 D (.lst []))) [] H' b := fun {H'} hn b hb => by
    refine ⟨hn b hb, Nat.ne_of_lt (Nat.lt_trans (fpLt b hb) sz3), fun z => ?_, .inl hb, fun x a e => (f3 b hb).2.2.2.2.1 x a (c.cells I.ok e), fun p hp => absurd (show p ∈ ([] : List (Addr × Obj)) from hp) (by simp)⟩
    rcases List.mem_cons.mp (I.stkSub b z) with y | y
    · exact (f3 b hb).2.1 y
    · exact (f3 b hb).2.2.1 y
  have loop : codeAny (model X.prog X.w) X.A (.compLoop (.ListComp elt [⟨tg, iter, [ct], 0⟩] scope pos) 0 (.ref it) (.ref D) (compEnvC scope (closL X.env.cells scope.names []) h3.objs.size X.env))
      (compPost (model X.prog X.w) X.A X.xe none (EP X pins σ Q) (.ref D) h3.objs.size) { s2 with heap := h4, toks := s2.toks + ([] : List (Str × Value)).length } := by
    refine codeAny_loop rfl (fun n s' => ∃ i ys σ' H', Inv (cxComp X scope N' h3.objs.size fp { s2 with heap := h3 } (upd H2 D (.lst []))) [] σ' H' s' ∧ tn i s'.heap ∧ (∀ b ∈ fp, H' b = none) ∧ W i n ys σ' H') (fun n s5 hI => ?_) m0 ⟨0, [], _, _, I4, st4, fun b hb => (f3 b hb).1, w0⟩
    obtain ⟨i, ys, σ5, H5, I5, st5, fr5, w5⟩ := hI
    show wpAny _ X.A ((compTurn (.ListComp elt [⟨tg, iter, [ct], 0⟩] scope pos) 0 (.ref it) (.ref D) (compEnvC scope (closL X.env.cells scope.names []) h3.objs.size X.env)).onRaise (fun x => do noteFrame x (compEnvC scope (closL X.env.cells scope.names []) h3.objs.size X.env); theTreesLotGoes x)) _ _ s5
    refine wpAny_noted ?_
    rw [compTurn_ifs]
    rcases turn i n ys σ5 H5 w5 with ⟨stop, qn⟩ | ⟨go, step⟩
    · refine wpAny_bind (wpAny_standAt (wpAny_bind (wpAny_mono (T.done (cxComp X scope N' h3.objs.size fp { s2 with heap := h3 } (upd H2 D (.lst []))) rfl rfl rfl hc i [] s5 σ5 H5 (fun _ _ => False) I5 (stat fr5) st5 stop) (fun r s6 ⟨hr, I6⟩ => ?_) fun _ _ z => z.elim)))
      subst hr
      exact wpAny_pure (fin I6 qn)
    · refine wpAny_bind (wpAny_standAt (wpAny_bind (wpAny_mono (T.item (cxComp X scope N' h3.objs.size fp { s2 with heap := h3 } (upd H2 D (.lst []))) rfl rfl rfl hc i [] s5 σ5 H5 (fun _ _ => False) I5 (stat fr5) st5 go) (fun r s6 ⟨u, hr, h6⟩ => ?_) fun _ _ z => z.elim)))
      subst hr
      refine wpAny_bind (wpAny_mono h6 (fun _ s7 ⟨x, H7, I7, r7, y7, st7, fr7⟩ => ?_) fun _ _ z => z.elim)
      have I7' := I7.pinned (stat fr7) (T.obj _ _ st7)
      refine wpAny_bind (wpAny_mono (hg _ _ _ _ _ s7 σ5 H7 x u _ I7' r7 (step x H7 y7)) (fun _ s8 ⟨σ8, H8, I8, q8⟩ => ?_) fun _ _ z => z.elim)
      refine wpAny_bind (wpAny_mono (ht _ _ _ _ _ s8 σ8 H8 _ I8 q8) (fun bb s9 ⟨H9, I9, q9⟩ => ?_) fun _ _ z => z.elim)
      cases bb with
      | true =>
        rw [if_pos rfl]
        rw [if_pos rfl] at q9
        refine wpAny_bind (wpAny_bind (wpAny_mono (he _ _ _ _ _ s9 σ8 H9 _ I9 q9) (fun yv sA ⟨y, HA, IA, rA, eA, zA, m', hm', wA⟩ => ?_) fun _ _ z => z.elim))
        refine wpAny_bind (wpAny_mono (mt_append (X := cxComp X scope N' h3.objs.size fp { s2 with heap := h3 } (upd H2 D (.lst []))) _ sA σ8 HA (.ref D) [y] (.ref D) [yv] (fun v H10 => v = .non ∧ H10 = upd HA D (.lst (ys ++ [y]))) IA rfl (.cons rA .nil) ⟨D, ys, y, rfl, rfl, eA, zA, rfl, rfl⟩)
          (fun _ s10 ⟨v10, H10, I10, _, _, e10⟩ => ?_) fun _ _ z => z.elim)
        subst e10
        refine wpAny_pure (wpAny_pure ⟨rfl, m', hm', i + 1, ys ++ [y], σ8, _, I10.unpinned, ?_, fun b hb => ?_, wA⟩)
        · exact T.keep _ _ _ st7 fun b hb o e => (I10.pin (b, o) (List.mem_append_right _ (List.mem_append_right _ (mem_pinsAt hb e)))).1
        · obtain ⟨o, e, d⟩ := T.obj _ _ st7 b hb
          exact (I10.pin (b, o) (List.mem_append_right _ (List.mem_append_right _ (mem_pinsAt hb e)))).2.1
      | false =>
        rw [if_neg Bool.false_ne_true]
        rw [if_neg Bool.false_ne_true] at q9
        obtain ⟨m', hm', w9⟩ := q9
        refine wpAny_pure ⟨rfl, m', hm', i + 1, ys, σ8, _, I9.unpinned, ?_, fun b hb => ?_, w9⟩
        · exact T.keep _ _ _ st7 fun b hb o e => (I9.pin (b, o) (List.mem_append_right _ (List.mem_append_right _ (mem_pinsAt hb e)))).1
        · obtain ⟨o, e, d⟩ := T.obj _ _ st7 b hb
          exact (I9.pin (b, o) (List.mem_append_right _ (List.mem_append_right _ (mem_pinsAt hb e)))).2.1
  exact codeAny_compStart_list loop (T.self _ 0 _ _ _ st4 loop)
end
end L2
namespace L2
open PySem PySem.Spec PyProof.Rows
def unstar : Expr → Bool
  | .Starred .. => false
  | _ => true
theorem starEach_one {e : Expr} {es : List Expr} {env : Env} (h : unstar e = true) : starEach (e :: es) env = (false, eval e env) :: starEach es env := by
  cases e <;> first | rfl | cases h
end L2
namespace L2
open PySem PySem.Spec PyProof.Rows
section
variable {κ : Type} [DecidableEq κ]
def valV (kvs : List (κ × V)) (k : κ) : Option V := (kvs.find? fun kv => decide (kv.1 = k)).map (·.2)
/-- in its place, or at the end -/
def putK (kvs : List (κ × V)) (k : κ) (v : V) : List (κ × V) :=
  if (kvs.any fun kv => decide (kv.1 = k)) = true then kvs.map (fun kv => if kv.1 = k then (kv.1, v) else kv) else kvs ++ [(k, v)]
theorem valV_pos {p : κ × V} {r : List (κ × V)} {k : κ} (e : p.1 = k) : valV (p :: r) k = some p.2 := by simp [valV, List.find?_cons, e]
theorem valV_neg {p : κ × V} {r : List (κ × V)} {k : κ} (e : ¬ p.1 = k) : valV (p :: r) k = valV r k := by simp [valV, List.find?_cons, e]
theorem valV_any (k : κ) : ∀ kvs : List (κ × V), (kvs.any fun kv => decide (kv.1 = k)) = (valV kvs k).isSome
  | [] => rfl
  | p :: r => by
    rw [List.any_cons]
    by_cases e : p.1 = k
    · simp only [valV_pos e, decide_eq_true e, Bool.true_or, Option.isSome_some]
    · rw [valV_neg e, decide_eq_false e, Bool.false_or]; exact valV_any k r
theorem length_putK (kvs : List (κ × V)) (k : κ) (v : V) : (putK kvs k v).length ≤ kvs.length + 1 := by
  unfold putK
  split
  · rw [List.length_map]; omega
  · rw [List.length_append, List.length_cons, List.length_nil]; omega
theorem RelO.isSome_eq {o : Option V} {u : Option Value} (r : RelO o u) : o.isSome = u.isSome := by
  cases o with
  | none => cases u with
    | none => rfl
    | some _ => exact (show False from r).elim
  | some _ => cases u with
    | none => exact (show False from r).elim
    | some _ => rfl
/-- raw tables of the same keys -/
theorem KV.val {kvs : List (κ × V)} {vs : List (κ × Value)} (r : KV kvs vs) (k : κ) : RelO (valV kvs k) (valueAt vs k) := by
  unfold KV at r
  induction r with
  | nil => exact True.intro
  | @cons p q ps qs h t ih =>
    obtain ⟨h1, h2⟩ := h
    by_cases e : p.1 = k
    · have e' : q.1 = k := h1.symm.trans e
      have b : valueAt (q :: qs) k = some q.2 := by simp [valueAt, List.find?_cons, e']
      rw [valV_pos e, b]; exact h2
    · have e' : ¬ q.1 = k := fun z => e (h1.trans z)
      have b : valueAt (q :: qs) k = valueAt qs k := by simp [valueAt, List.find?_cons, e']
      rw [valV_neg e, b]; exact ih
theorem KV.any {kvs : List (κ × V)} {vs : List (κ × Value)} (r : KV kvs vs) (k : κ) : (kvs.any fun kv => decide (kv.1 = k)) = vs.any fun kv => decide (kv.1 = k) := by
  unfold KV at r
  induction r with
  | nil => rfl
  | cons h t ih => rw [List.any_cons, List.any_cons, ih, h.1]
theorem KV.repl {kvs : List (κ × V)} {vs : List (κ × Value)} (r : KV kvs vs) (k : κ) {y : V} {u : Value} (ry : RelV y u) :
    KV (kvs.map fun kv => if kv.1 = k then (kv.1, y) else kv) (vs.map fun kv => if kv.1 = k then (kv.1, u) else kv) := by
  unfold KV at r ⊢
  induction r with
  | nil => exact .nil
  | @cons p q ps qs h t ih =>
    rw [List.map_cons, List.map_cons]
    refine .cons ?_ ih
    obtain ⟨h1, h2⟩ := h
    by_cases e : p.1 = k
    · rw [if_pos e, if_pos (h1.symm.trans e)]; exact ⟨h1, ry⟩
    · rw [if_neg e, if_neg (fun z => e (h1.trans z))]; exact ⟨h1, h2⟩
theorem KV.put {kvs : List (κ × V)} {vs : List (κ × Value)} (r : KV kvs vs) (k : κ) {y : V} {u : Value} (ry : RelV y u) : KV (putK kvs k y) (stored vs k u) := by
  unfold putK stored
  rw [r.any k]
  by_cases e : (vs.any fun kv => decide (kv.1 = k)) = true
  · rw [if_pos e, if_pos e]; exact r.repl k ry
  · rw [if_neg e, if_neg e]; exact Paired.snoc r ⟨rfl, ry⟩
theorem KV.length {kvs : List (κ × V)} {vs : List (κ × Value)} (r : KV kvs vs) : kvs.length = vs.length := Paired.length r
end
theorem kV_is {P : Program} {w : World} {k : Key} {u : Value} (r : RelV (kV k) u) : (mixKind P w).is k u = true := by
  cases k with
  | inl i => obtain ⟨t, e⟩ := (show ∃ t, u = Value.int i t from r); subst e; exact mixKind_int P w i t
  | inr x => obtain ⟨t, e⟩ := (show ∃ t, u = Value.str x t from r); subst e; exact mixKind_str P w x t
theorem items_are {P : Program} {w : World} : ∀ {ks : List Key} {us : List Value}, Vals (ks.map kV) us → ItemsAre (mixKind P w) ks us
  | [], _, r => by rw [List.map_nil] at r; cases r; exact .nil
  | k :: ks, _, r => by
    rw [List.map_cons] at r
    cases r with
    | cons h t => exact .cons (kV_is h) (items_are t)
/-- raw entries of a dict with tuple keys -/
abbrev KT (H : Hp) : List (List Key × V) → List (List Key × Addr × Value) → Prop := Paired fun p q => p.1 = q.1 ∧ H q.2.1 = some (.tup (p.1.map kV)) ∧ RelV p.2 q.2.2
theorem KT.val {H : Hp} {kvs : List (List Key × V)} {xs : List (List Key × Addr × Value)} (r : KT H kvs xs) (k : List Key) : RelO (valV kvs k) ((atKey xs k).map (·.2)) := by
  induction r with
  | nil => exact True.intro
  | @cons p q ps qs h t ih =>
    obtain ⟨h1, _, h2⟩ := h
    by_cases e : p.1 = k
    · have e' : q.1 = k := h1.symm.trans e
      have b : atKey (q :: qs) k = some q.2 := by simp [atKey, List.find?_cons, e']
      rw [valV_pos e, b]; exact h2
    · have e' : ¬ q.1 = k := fun z => e (h1.trans z)
      have b : atKey (q :: qs) k = atKey qs k := by simp [atKey, List.find?_cons, e']
      rw [valV_neg e, b]; exact ih
theorem KT.repl {H : Hp} {kvs : List (List Key × V)} {xs : List (List Key × Addr × Value)} (r : KT H kvs xs) (k : List Key) {y : V} {u : Value} (ry : RelV y u) :
    KT H (kvs.map fun kv => if kv.1 = k then (kv.1, y) else kv) (xs.map (putAt k u)) := by
  induction r with
  | nil => exact .nil
  | @cons p q ps qs h t ih =>
    rw [List.map_cons, List.map_cons]
    refine .cons ?_ ih
    obtain ⟨h1, h2, h3⟩ := h
    unfold putAt
    by_cases e : p.1 = k
    · rw [if_pos e, if_pos (h1.symm.trans e)]; exact ⟨h1, h2, ry⟩
    · rw [if_neg e, if_neg (fun z => e (h1.trans z))]; exact ⟨h1, h2, h3⟩
theorem KT.put {H : Hp} {kvs : List (List Key × V)} {xs : List (List Key × Addr × Value)} (r : KT H kvs xs) (k : List Key) {b : Addr} {y : V} {u : Value} (hb : H b = some (.tup (k.map kV))) (ry : RelV y u) :
    KT H (putK kvs k y) (storedH xs k b u) := by
  have e : (kvs.any fun kv => decide (kv.1 = k)) = (atKey xs k).isSome := by
    rw [valV_any, (r.val k).isSome_eq, Option.isSome_map]
  unfold putK storedH
  rw [e]
  by_cases q : (atKey xs k).isSome = true
  · rw [if_pos q, if_pos q]; exact r.repl k ry
  · rw [if_neg q, if_neg q]; exact Paired.snoc r ⟨rfl, hb, ry⟩
theorem KT.keeps {H H' : Hp} {kvs : List (List Key × V)} {xs : List (List Key × Addr × Value)} (r : KT H kvs xs) (ht : ∀ b ys, H b = some (.tup ys) → H' b = some (.tup ys)) : KT H' kvs xs :=
  Paired.mapP r fun _ _ z => ⟨z.1, ht _ _ z.2.1, z.2.2⟩
section
variable {P : Program} {w : World} {H : Hp} {h : Heap} {a : Addr}
theorem rd_of {u : HO} (ok : HOk P w H h) (e : Rd H a u) : ObjOk P w H h a u := e.ok ok
theorem dk_rd {kvs : List (Key × V)} (ok : HOk P w H h) (e : Rd H a (.dK kvs)) : kvs.length ≤ sizeLine ∧ (a == sysModules) = false ∧ ∃ vs, KV kvs vs ∧ h.DictOf (mixKind P w) a vs :=
  show ObjOk P w H h a (.dK kvs) from rd_of ok e
theorem dk_of {kvs : List (Key × V)} (ok : HOk P w H h) (e : H a = some (.dK kvs)) : kvs.length ≤ sizeLine ∧ (a == sysModules) = false ∧ ∃ vs, KV kvs vs ∧ h.DictOf (mixKind P w) a vs := dk_rd ok (.inl e)
/-- a tracked tuple of ints and texts is a key -/
theorem key_of {ks : List Key} (ok : HOk P w H h) (e : H a = some (.tup (ks.map kV))) : (tupleKind (mixKind P w)).is h ks a := by
  obtain ⟨_, its, r, o, h1, h2, n, h3⟩ := (show ObjOk P w H h a (.tup (ks.map kV)) from ok a _ e)
  exact ⟨o, its.toArray, n, h1, h2, h3, by simpa using items_are r⟩
theorem dt_rd {kvs : List (List Key × V)} (ok : HOk P w H h) (e : Rd H a (.dT kvs)) : kvs.length ≤ sizeLine ∧ (a == sysModules) = false ∧
    ∃ xs, KT H kvs xs ∧ h.DictOfH (tupleKind (mixKind P w)) a xs := by
  obtain ⟨z, y, xs, r, o, es, ep, h1, h2, h3, h4, h5⟩ := (show ObjOk P w H h a (.dT kvs) from rd_of ok e)
  refine ⟨z, y, xs, r, o, es, ep, h1, h2, h3, h4, fun x hx => ?_, h5⟩
  have all : ∀ {l : List (List Key × V)} {m : List (List Key × Addr × Value)}, KT H l m → ∀ x ∈ m, (tupleKind (mixKind P w)).is h x.1 x.2.1 := by
    intro l m q
    induction q with
    | nil => intro x hx; exact nomatch hx
    | @cons p q ps qs hq t ih =>
      intro x hx
      rcases List.mem_cons.mp hx with e | hx
      · subst e
        exact key_of ok (by rw [← hq.1]; exact hq.2.1)
      · exact ih x hx
  exact all r x hx
theorem dt_of {kvs : List (List Key × V)} (ok : HOk P w H h) (e : H a = some (.dT kvs)) : kvs.length ≤ sizeLine ∧ (a == sysModules) = false ∧
    ∃ xs, KT H kvs xs ∧ h.DictOfH (tupleKind (mixKind P w)) a xs := dt_rd ok (.inl e)
end
/-- what the dict at a holds at the key y -/
def DGet (H : Hp) (a : Addr) (y : V) (r : Option V) : Prop :=
  (∃ kvs k, Rd H a (.dK kvs) ∧ y = kV k ∧ r = valV kvs k) ∨ ∃ kvs k b, Rd H a (.dT kvs) ∧ y = .ref b ∧ H b = some (.tup (k.map kV)) ∧ r = valV kvs k
/-- the heap behind a[y] = v -/
def DPut (H : Hp) (a : Addr) (y v : V) (H' : Hp) : Prop :=
  (∃ kvs k, H a = some (.dK kvs) ∧ y = kV k ∧ kvs.length < sizeLine ∧ H' = upd H a (.dK (putK kvs k v))) ∨
  ∃ kvs k b, H a = some (.dT kvs) ∧ y = .ref b ∧ H b = some (.tup (k.map kV)) ∧ kvs.length < sizeLine ∧ H' = upd H a (.dT (putK kvs k v))
theorem DGet.k {H : Hp} {a : Addr} {kvs : List (Key × V)} {k : Key} (e : H a = some (.dK kvs)) : DGet H a (kV k) (valV kvs k) := .inl ⟨kvs, k, .inl e, rfl, rfl⟩
theorem DPut.k {H : Hp} {a : Addr} {kvs : List (Key × V)} {k : Key} {v : V} (e : H a = some (.dK kvs)) (hl : kvs.length < sizeLine) : DPut H a (kV k) v (upd H a (.dK (putK kvs k v))) := .inl ⟨kvs, k, e, rfl, hl, rfl⟩
section
variable {X : Cx} {pins : List (Addr × Obj)} {σ : St} {H : Hp} {s : Shared} {a : Addr} {y v : V} {u r : Value} {o : Option V} {A : Around} {E : Value → Shared → Prop}
theorem Inv.big (I : Inv X pins σ H s) : sysModules < s.heap.objs.size := by
  have h : mainGlobals < s.heap.objs.size := (I.mod.glob.keeps I.bk).lt
  exact Nat.lt_trans (by decide) h
/-- d[y], there -/
theorem d_getItem {Q : Value → Shared → Prop} (hu : A.units + 1 < cLine) (I : Inv X pins σ H s) (g : DGet H a y (some v)) (ry : RelV y u) (h : ∀ w' s', Inv X pins σ H s' → RelV v w' → Q w' s') :
    wpAny (model X.prog X.w) A (getItem (.ref a) u) Q E s := by
  rcases g with ⟨kvs, k, e, ey, l⟩ | ⟨kvs, k, b, e, ey, eb, l⟩
  · subst ey
    obtain ⟨z, hd, vs, rel, dd⟩ := dk_rd I.hok e
    obtain ⟨w', hw, rw'⟩ := RelO.some_of (v := v) (o := valueAt vs k) (by rw [l]; exact rel.val k)
    exact wpAny_getItem_of (kV_is ry) dd.mapOf hw (h w' _ (I.tok _) rw')
  · subst ey
    cases (show u = Value.ref b from ry)
    obtain ⟨z, hd, xs, rel, dd⟩ := dt_rd I.hok e
    obtain ⟨w', hw, rw'⟩ := RelO.some_of (v := v) (o := (atKey xs k).map (·.2)) (by rw [l]; exact rel.val k)
    obtain ⟨p, hp, hp2⟩ := Option.map_eq_some_iff.mp hw
    refine wpAny_getItem_heap (tupleKind_room_in1 hu) (key_of I.hok eb) dd hp ?_
    rw [hp2]
    exact h w' _ (I.tok _) rw'
/-- a dict's object is replaced -/
theorem d_write {h' : Heap} {t' : Nat} {ob : HO} (I : Inv X pins σ H s) (mu : Mut (H a)) (hs : Heap.SameBut a s.heap h') (he : ∃ q, h'.get? a = some q) (new : ObjOk X.prog X.w (upd H a ob) h' a ob) :
    Inv X pins σ (upd H a ob) { s with heap := h', toks := t' } :=
  I.write (x := a) (e := a) mu (.inl rfl) (fun b q hb z => (hs.2 b hb).trans z) he new
theorem dk_new {P : Program} {w : World} {H' : Hp} {h' : Heap} {kvs : List (Key × V)} {vs : List (Key × Value)} (z : kvs.length ≤ sizeLine) (hd : (a == sysModules) = false) (rel : KV kvs vs) (dd : h'.DictOf (mixKind P w) a vs) :
    ObjOk P w H' h' a (.dK kvs) := ⟨z, hd, vs, rel, dd⟩
/-- d[y] = v -/
theorem d_setItem {H' : Hp} {Q : Unit → Shared → Prop} (hu : A.units + 1 < cLine) (I : Inv X pins σ H s) (g : DPut H a y v H') (ry : RelV y u) (rv : RelV v r) (h : ∀ s', Inv X pins σ H' s' → Q () s') :
    wpAny (model X.prog X.w) A (setItem (.ref a) u r) Q E s := by
  rcases g with ⟨kvs, k, e, ey, l, eH⟩ | ⟨kvs, k, b, e, ey, eb, l, eH⟩
  · subst ey eH
    obtain ⟨z, hd, vs, rel, dd⟩ := dk_of I.hok e
    have hz : vs.length ≤ sizeLine := by rw [← rel.length]; exact z
    have hl : (putK kvs k v).length ≤ sizeLine := by have := length_putK kvs k v; omega
    refine wpAny_setItem_pairs (hsz := hz) (kV_is ry) dd fun h' dd' hs => h _ ?_
    have he : ∃ q, h'.get? a = some q := let ⟨q, _, _, hq, _⟩ := dd'; ⟨q, hq⟩
    exact d_write I (by rw [e]; exact True.intro) hs he (dk_new hl hd (rel.put k rv) dd')
  · subst ey eH
    cases (show u = Value.ref b from ry)
    obtain ⟨z, hd, xs, rel, dd⟩ := dt_of I.hok e
    have hz : xs.length ≤ sizeLine := by rw [← Paired.length rel]; exact z
    have hl : (putK kvs k v).length ≤ sizeLine := by have := length_putK kvs k v; omega
    refine wpAny_setItem_heap (hsz := hz) (tupleKind_room_in1 hu) (key_of I.hok eb) dd fun h' dd' hs => h _ ?_
    obtain ⟨q, es, ep, hq, h2, h3, h4, _, h5⟩ := dd'
    refine d_write I (by rw [e]; exact True.intro) hs ⟨q, hq⟩ ⟨hl, hd, _, (rel.put k eb rv).keeps fun c ys ec => ?_, q, es, ep, hq, h2, h3, h4, h5⟩
    rw [upd_ne (ne_of ec e (fun z => nomatch z))]
    exact ec
end
section
variable {X : Cx} {pins : List (Addr × Obj)} {σ : St} {H : Hp} {s : Shared} {a : Addr} {kvs : List (Key × V)} {k : Key} {u : Value} {A : Around} {E : Value → Shared → Prop}
end
/-- the element of a subscription, not a slice -/
def NoSl (i : Expr) : Prop := ∀ ov iv, subscripted i false ov iv = operate [ov, iv] (getItem ov iv)
theorem subD_of {prog : Program} {w : World} {A : Around} {E : Value → Shared → Prop} {s : Shared} {env : Env} {value slice : Expr} {pos : Pos} {T id : String} {Q : Value → Shared → Prop}
    (hl : typeLookup (.type T) "__getitem__" = pure (some (.builtin id))) (hs : NoSl slice)
    (h : wpAny (model prog w) A (eval value env) (fun o s₁ => wpAny (model prog w) A (eval slice env) (fun i s₂ => s₂.TypeIs o T ∧ wpAny (model prog w) A (getItem o i) Q E s₂) E s₁) E s) :
    wpAny (model prog w) A (eval (.Subscript value slice pos) env) Q E s := by
  refine Subscript_ (wpAny_mono h (fun o s₁ h₁ => wpAny_mono h₁ (fun i s₂ h₂ => ?_) fun _ _ x => x) fun _ _ x => x)
  obtain ⟨hT, h₂⟩ := h₂
  unfold subscriptTail
  refine wpAny_bind ?_
  rw [getitemInPython_of_ne hT.not_modules]
  refine wpAny_bind (wpAny_specialOf hT hl ?_)
  have fin : wpAny (model prog w) A (subscripted slice false o i) (fun r s₃ => wpAny (model prog w) A (letTemporaryGo value o r >>= fun _ => pure r) Q E s₃) E s₂ := by
    rw [hs o i]
    exact wpAny_operating (wpAny_mono h₂ (fun r s₃ h₃ => wpAny_bind (wpAny_letTemporaryGo (wpAny_pure h₃))) fun _ _ x => x)
  first
    | exact wpAny_pure (wpAny_bind fin)
    | exact wpAny_bind (wpAny_pure (wpAny_bind fin))
    | exact wpAny_bind fin
theorem dict_typeIs {X : Cx} {pins : List (Addr × Obj)} {σ : St} {H : Hp} {s : Shared} {a : Addr} {y : V} {o : Option V} (I : Inv X pins σ H s) (g : DGet H a y o) : s.TypeIs (.ref a) "dict" := by
  rcases g with ⟨kvs, k, e, _, _⟩ | ⟨kvs, k, b, e, _, _, _⟩
  · obtain ⟨_, _, vs, _, dd⟩ := dk_rd I.hok e
    exact dd.typeIs
  · obtain ⟨_, _, xs, _, dd⟩ := dt_rd I.hok e
    exact dd.typeIs
/-- d[y] -/
def tDGet (td ty : TE) : TE := fun σ H Q => td σ H fun x H1 => ty σ H1 fun y H2 => ∃ a v, x = .ref a ∧ DGet H2 a y (some v) ∧ Q v H2
/-- d[y] = v -/
def sDPut (td ty tv : TE) : TS := fun D σ H => tv σ H fun v H1 => td σ H1 fun x H2 => ty σ H2 fun y H3 => ∃ a H4, x = .ref a ∧ DPut H3 a y v H4 ∧ D.nx σ H4
section
variable {X : Cx} {o i e value : Expr} {pos pos' tpos : Pos} {td ty tv : TE}
theorem pe_dget (hu : X.A.units + 1 < cLine) (ho : PE X o td) (hi : PE X i ty) (hs : NoSl i) : PE X (.Subscript o i pos) (tDGet td ty) := by
  intro pins s σ H Q I h
  refine subD_of PySem.F.slot_dict_getitem.lookup hs (thn (ho pins s σ H _ I h) fun u s1 ⟨x, H1, I1, rx, q1⟩ => thn (hi pins s1 σ H1 _ I1 q1) fun iv s2 ⟨y, H2, I2, ry, a, v, ex, g, q2⟩ => ?_)
  subst ex
  obtain rfl : u = Value.ref a := rx
  exact ⟨dict_typeIs I2 g, d_getItem hu I2 g ry fun w' s3 I3 rw' => ⟨v, H2, I3, rw', q2⟩⟩
theorem ps_dput (hu : X.A.units + 1 < cLine) (ho : PE X o td) (hi : PE X i ty) (hv : PE X value tv) (hs : swapsWith value (some (.Subscript o i pos')) pos.line X.env = pure false) :
    PS X (.Assign [.Subscript o i pos'] value pos) (sDPut td ty tv) := by
  intro pins s σ H D I h
  refine wpAny_Assign_Subscript (thn (hv pins s σ H _ I h) fun r s1 ⟨v, H1, I1, rv, q1⟩ => thn (ho pins s1 σ H1 _ I1 q1) fun u s2 ⟨x, H2, I2, rx, q2⟩ => thn (hi pins s2 σ H2 _ I2 q2) fun iv s3 ⟨y, H3, I3, ry, a, H4, ex, g, q3⟩ => ?_) hs
  subst ex
  obtain rfl : u = Value.ref a := rx
  exact d_setItem hu I3 g ry rv fun s4 I4 => ⟨σ, H4, I4, q3⟩
end
theorem dk_empty {P : Program} {w : World} {H : Hp} (h : Heap) (hb : sysModules < h.objs.size) : ObjOk P w H (h.push { cls := .type "dict", data := .dict #[] }) h.objs.size (.dK []) :=
  ⟨Nat.zero_le _, beq_eq_false_iff_ne.mpr (Ne.symm (Nat.ne_of_lt hb)), [], .nil, Heap.DictOf.new h⟩
section
variable {X : Cx} {pos : Pos}
end
/-- the pairs of a display, from the left -/
def tPairs : List (TE × TE) → St → Hp → (List (V × V) → Hp → Prop) → Prop
  | [], _, H, Q => Q [] H
  | (tk, tv) :: r, σ, H, Q => tk σ H fun x H1 => tv σ H1 fun y H2 => tPairs r σ H2 fun ps H3 => Q ((x, y) :: ps) H3
abbrev VV : List (V × V) → List (Value × Value) → Prop := Paired fun p q => RelV p.1 q.1 ∧ RelV p.2 q.2
def PPs (X : Cx) (pos : Pos) (keys : List (Option Expr)) (values : List Expr) (trs : List (TE × TE)) : Prop :=
  ∀ (pins : List (Addr × Obj)) (s : Shared) (σ : St) (H : Hp) (Q : List (V × V) → Hp → Prop), Inv X pins σ H s → tPairs trs σ H Q →
    wpAny (model X.prog X.w) X.A (evalPairs (pairTrees keys values X.env pos)) (fun vs s' => ∃ ps H', Inv X pins σ H' s' ∧ VV ps vs ∧ Q ps H') X.xe s
theorem pps_nil {X : Cx} {pos : Pos} : PPs X pos [] [] [] := fun pins s σ H Q I h => pairTrees_nil_walk ⟨[], H, I, .nil, h⟩
theorem pps_cons {X : Cx} {pos : Pos} {k v : Expr} {ks : List (Option Expr)} {vs : List Expr} {tk tv : TE} {trs : List (TE × TE)} (hk : PE X k tk) (hv : PE X v tv) (hr : PPs X pos ks vs trs) :
    PPs X pos (some k :: ks) (v :: vs) ((tk, tv) :: trs) := fun pins s σ H Q I h =>
  pairTrees_cons_walk (thn (hk pins s σ H _ I h) fun u s1 ⟨x, H1, I1, rx, q1⟩ => thn (hv pins s1 σ H1 _ I1 q1) fun w2 s2 ⟨y, H2, I2, ry, q2⟩ =>
    thn (hr pins s2 σ H2 _ I2 q2) fun ws s3 ⟨ps, H3, I3, rel, q3⟩ => ⟨(x, y) :: ps, H3, I3, .cons ⟨rx, ry⟩ rel, q3⟩)
def mergeK (kvs more : List (Key × V)) : List (Key × V) := more.foldl (fun acc kv => putK acc kv.1 kv.2) kvs
theorem KV.merge : ∀ {more : List (Key × V)} {rs : List (Key × Value)} {kvs : List (Key × V)} {vs : List (Key × Value)}, KV more rs → KV kvs vs → KV (mergeK kvs more) (merged vs rs) := by
  intro more rs kvs vs r
  unfold KV at r
  induction r generalizing kvs vs with
  | nil => intro q; exact q
  | @cons p q ps qs h t ih =>
    intro r0
    have e : KV (putK kvs p.1 p.2) (stored vs q.1 q.2) := by
      have := r0.put p.1 h.2
      rw [← h.1]; exact this
    exact ih e
theorem length_mergeK : ∀ (more kvs : List (Key × V)), (mergeK kvs more).length ≤ kvs.length + more.length
  | [], kvs => by show kvs.length ≤ kvs.length + 0; omega
  | p :: r, kvs => by
    have h1 := length_mergeK r (putK kvs p.1 p.2)
    have h2 := length_putK kvs p.1 p.2
    show (mergeK (putK kvs p.1 p.2) r).length ≤ _
    rw [List.length_cons]; omega
theorem carries_of {P : Program} {w : World} : ∀ {kvs : List (Key × V)} {ws : List (Value × Value)}, VV (kvs.map fun kv => (kV kv.1, kv.2)) ws → ∃ rs, Carries (mixKind P w) ws rs ∧ KV kvs rs
  | [], _, r => by rw [List.map_nil] at r; cases r; exact ⟨[], True.intro, .nil⟩
  | p :: kvs, _, r => by
    rw [List.map_cons] at r
    cases r with
    | @cons a b as bs h t =>
      obtain ⟨rs, c, q⟩ := carries_of (P := P) (w := w) t
      obtain ⟨b1, b2⟩ := b
      exact ⟨(p.1, b2) :: rs, ⟨kV_is h.1, rfl, c⟩, .cons ⟨rfl, h.2⟩ q⟩
/-- {k: v, ..} with keys ints and texts; the new dict stands empty while the pairs are made -/
def tDisp (trs : List (TE × TE)) : TE := fun σ H Q => ∀ p, H p = none → tPairs trs σ (upd H p (.dK [])) fun ps H2 => H2 p = some (.dK []) ∧ ∃ kvs : List (Key × V), ps = kvs.map (fun kv => (kV kv.1, kv.2)) ∧ kvs.length ≤ 15 ∧ Q (.ref p) (upd H2 p (.dK (mergeK [] kvs)))
theorem pe_disp {X : Cx} {pos : Pos} {keys : List (Option Expr)} {values : List Expr} {trs : List (TE × TE)} (h : PPs X pos keys values trs) (hall : keys.all (·.isSome) = true) (hl : keys.length = values.length) (h0 : keys ≠ [])
    (h15 : keys.length ≤ 15) : PE X (.Dict keys values pos) (tDisp trs) := by
  intro pins s σ H Q I q
  have hn := I.hok.fresh (Nat.le_refl s.heap.objs.size)
  have I1 := I.laid (a := s.heap.objs.size) (o := .dK []) (h' := s.heap.push { cls := .type "dict", data := .dict #[] }) (t' := s.toks) (fun _ _ q => Heap.get?_push_of_some _ q) (Nat.le_refl _) (dk_empty s.heap I.big)
  refine wpAny_Dict_walk (knd := mixKind X.prog X.w) hall hl h0 h15 (thn (h pins _ σ _ _ I1 (q _ hn)) fun ws s2 ⟨ps, H2, I2, rel, e, kvs, ep, lk, q2⟩ => ?_)
  subst ep
  obtain ⟨rs, c, rk⟩ := carries_of (P := X.prog) (w := X.w) rel
  obtain ⟨z, hd, vs0, r0, dd⟩ := dk_of I2.hok e
  cases r0
  refine ⟨rs, c, dd, fun h' dd' hs => ⟨.ref s.heap.objs.size, _, ?_, rfl, q2⟩⟩
  have hz : (mergeK [] kvs).length ≤ sizeLine := by
    have h1 := length_mergeK kvs []
    rw [List.length_nil] at h1
    rw [sizeLine_eq]; omega
  have he : ∃ q, h'.get? s.heap.objs.size = some q := let ⟨q, _, _, hq, _⟩ := dd'; ⟨q, hq⟩
  exact d_write I2 (by rw [e]; exact True.intro) hs he (dk_new hz hd (rk.merge .nil) dd')
section
variable {X : Cx} {pins : List (Addr × Obj)} {σ : St} {H : Hp} {s : Shared} {a : Addr} {y d : V} {u r : Value} {o : Option V} {A : Around} {E : Value → Shared → Prop}
end
section
variable {X : Cx} {o e f : Expr} {apos cpos : Pos} {td ty tx : TE}
end
section
variable {X : Cx} {pins : List (Addr × Obj)} {σ : St} {H : Hp} {s : Shared} {a : Addr} {kvs : List (Key × V)} {A : Around} {E : Value → Shared → Prop}
end
section
variable {X : Cx} {pins : List (Addr × Obj)} {σ : St} {H : Hp} {s : Shared} {a : Addr} {y : V} {u : Value} {A : Around} {E : Value → Shared → Prop}
end
end L2
namespace L2
open PySem PySem.Spec PyProof.Rows
section
variable {κ : Type} [DecidableEq κ]
end
end L2
namespace L2
open PySem PySem.Spec PyProof.Rows
section
variable {prog : Program} {w : World} {A : Around} {E : Value → Shared → Prop} {s : Shared}
theorem getItem_tuple_same {t sl : Addr} {items : Array Value} {vl vu : Value} {lo hi : Option Int} {Q : Value → Shared → Prop} (ht : IsTup s.heap t items) (hs : s.heap.IsSliceOf sl vl vu .none) (pl : IsPart vl lo) (pu : IsPart vu hi)
    (hw : HT.sIx items.size 0 lo = 0 ∧ HT.sIx items.size items.size hi = items.size) (h : Q (.ref t) s) : wpAny (model prog w) A (getItem (.ref t) (.ref sl)) Q E s := by
  obtain ⟨os, hos, hcs, hds⟩ := id hs
  have hTs : s.TypeIs (.ref sl) "slice" := ⟨os, hos, hcs⟩
  unfold getItem
  try with_reducible refine wpAny_holding ?_
  first | refine wpAny_bind (wpAny_pure ?_) | skip
  refine wpAny_bind (wpAny_sequenceKey ht.typeIs (by decide) ?_)
  refine wpAny_bind (wpAny_callSpecial?_slot (name := Str.ofString "__getitem__") ht.typeIs PyProof.Rows.slot_tuple_getitem (wpAny_call_entry PyProof.Rows.slot_tuple_getitem ht.typeIs entry_tuple_getitem ?_ (args_tuple_getitem _ _)))
  show wpAny _ _ (Builtin.Tuple.tupleItemsOf (.ref t) >>= _) _ _ s
  refine wpAny_bind (tupleItemsOf_ ht ?_)
  refine wpAny_bind (wpAny_typeOf hTs ?_)
  rw [if_pos (by decide)]
  refine wpAny_bind (HT.sliceApplied_gen hs pl pu ?_)
  have hyes : (((HT.sIx items.size 0 lo : Nat) : Int) == 0 && (1 : Int) == 1 && (HT.sIx items.size items.size hi - HT.sIx items.size 0 lo) == items.size) = true := by
    rw [hw.1, hw.2]; simp
  show wpAny _ _ (if (((HT.sIx items.size 0 lo : Nat) : Int) == 0 && (1 : Int) == 1 && (HT.sIx items.size items.size hi - HT.sIx items.size 0 lo) == items.size) = true then _ else _) _ _ s
  rw [if_pos hyes]
  have ex : ∀ {Q' : Bool → Shared → Prop}, Q' true s → wpAny (model prog w) A.in1 (Builtin.Tuple.tupleIsExact (.ref t)) Q' E s := fun {Q'} q => by
    unfold Builtin.Tuple.tupleIsExact
    refine wpAny_bind (wpAny_typeOf ht.typeIs (wpAny_pure ?_))
    have e : (Value.type "tuple" == Value.type "tuple") = true := beq_self_eq_true _
    rw [e]; exact q
  first
    | exact wpAny_bind (ex (wpAny_bind (wpAny_rule (wpAny_pure ⟨_, rfl, wpAny_pure h⟩))))
    | (unfold Builtin.Tuple.tupleIsExact
       refine wpAny_bind (wpAny_bind (wpAny_typeOf ht.typeIs (wpAny_pure ?_)))
       have e : (Value.type "tuple" == Value.type "tuple") = true := beq_self_eq_true _
       rw [e, if_pos rfl]
       first
         | exact wpAny_bind (wpAny_rule (wpAny_pure ⟨_, rfl, wpAny_pure h⟩))
         | exact wpAny_bind (wpAny_rule (wpAny_bind (wpAny_pure (wpAny_pure ⟨_, rfl, wpAny_pure h⟩))))
         | exact wpAny_bind (wpAny_rule (wpAny_bind (wpAny_bind (wpAny_pure (wpAny_pure ⟨_, rfl, wpAny_pure h⟩))))))
end
section
variable {X : Cx}
/-- t[lo:hi]; the whole is t itself -/
def rSlTW (K : PySem.W.Frag) : V → Option Int → Option Int → Hp → VK → Prop := fun x lo hi H Q => ∃ a xs, x = .ref a ∧ SqT K H a xs ∧
  ((HT.sIx xs.length 0 lo = 0 ∧ HT.sIx xs.length xs.length hi = xs.length) → Q (.ref a) H) ∧ (¬ (HT.sIx xs.length 0 lo = 0 ∧ HT.sIx xs.length xs.length hi = xs.length) → ∀ p, H p = none → Q (.ref p) (upd H p (.tup (cutV xs lo hi))))
theorem sl_tupW : SlR X (rSlTW X.K) := by
  intro pins s σ H x v vl vu lo hi sl Q I rx hs pl pu h
  obtain ⟨a, xs, rfl, hx, q1, q2⟩ := h
  by_cases hw : HT.sIx xs.length 0 lo = 0 ∧ HT.sIx xs.length xs.length hi = xs.length
  · cases rx
    obtain ⟨its, r, ht, hz⟩ := I.tuple hx
    have hlen : its.toArray.size = xs.length := by rw [List.size_toArray]; exact r.length.symm
    refine ⟨"tuple", _, PyProof.Rows.slot_tuple_getitem.lookup, ht.typeIs, ?_⟩
    exact getItem_tuple_same ht hs pl pu (by rw [hlen]; exact hw) ⟨.ref a, H, I, rfl, q1 hw⟩
  · exact sl_tup pins s σ H _ v vl vu lo hi sl Q I rx hs pl pu ⟨a, xs, rfl, hx, hw, q2 hw⟩
/-- t + u of any two -/
def rCatW (K : PySem.W.Frag) : R2 := fun x y H Q => ∃ a b xs ys, x = .ref a ∧ y = .ref b ∧ SqT K H a xs ∧ SqT K H b ys ∧ xs.length + ys.length ≤ sizeLine ∧
  (xs = [] → Q (.ref b) H) ∧ (xs ≠ [] → ys = [] → Q (.ref a) H) ∧ (xs ≠ [] → ys ≠ [] → ∀ p, H p = none → Q (.ref p) (upd H p (.tup (xs ++ ys))))
theorem op_catW : OpR X (binaryOp .Add) (rCatW X.K) := by
  intro pins s σ H x y v u Q I rx ry h
  obtain ⟨a, b, xs, ys, rfl, rfl, ha, hb, hz, q0, q1, q2⟩ := h
  by_cases hx : xs = []
  · cases rx; cases ry
    obtain ⟨its, r, ht, _⟩ := I.tuple ha
    obtain ⟨its2, r2, ht2, _⟩ := I.tuple hb
    subst hx
    cases r
    obtain ⟨⟨cls, dd, data, sl⟩, ho, hc, n, hd⟩ := id ht
    obtain ⟨⟨cls2, dd2, data2, sl2⟩, ho2, hc2, n2, hd2⟩ := id ht2
    simp only at hc hd hc2 hd2
    subst hc hd hc2 hd2
    refine concat_meets ⟨_, ho, rfl⟩ ⟨_, ho2, rfl⟩ noFill_tuple_add seq_tuple_add PySem.F.slot_tuple_add PySem.F.entry_tuple_add (PySem.F.args_tuple_add_2 _ _) (tuple_addW0 a b _ its2.toArray n n2 dd dd2 sl sl2 (by simp)) ⟨ho, ho2, ?_⟩
    exact ⟨.ref b, H, I, rfl, q0 rfl⟩
  · exact op_catT pins s σ H _ _ v u Q I rx ry ⟨a, b, xs, ys, rfl, rfl, ha, hb, hx, hz, q1 hx, q2 hx⟩
end
end L2
namespace L2
open PySem PySem.Spec PyProof.Rows
section
variable {X : Cx}
/-- t[lo:hi], whichever tuple bears it -/
def rSlTU (K : PySem.W.Frag) : V → Option Int → Option Int → Hp → VK → Prop := fun x lo hi H Q => ∃ a xs, x = .ref a ∧ SqT K H a xs ∧ ∀ t H2, Same H H2 → SqT K H2 t (cutV xs lo hi) → Q (.ref t) H2
theorem cutV_all {xs : List V} {lo hi : Option Int} (h : HT.sIx xs.length 0 lo = 0 ∧ HT.sIx xs.length xs.length hi = xs.length) : cutV xs lo hi = xs := by
  unfold cutV
  rw [h.1, h.2, List.drop_zero, Nat.sub_zero, List.take_length]
theorem sl_tupU : SlR X (rSlTU X.K) := by
  intro pins s σ H x v vl vu lo hi sl Q I rx hs pl pu h
  obtain ⟨a, xs, rfl, hx, q⟩ := h
  refine sl_tupW pins s σ H _ v vl vu lo hi sl Q I rx hs pl pu ⟨a, xs, rfl, hx, fun w => q a H (Same.refl _) (by rw [cutV_all w]; exact hx), fun _ p hp => q p _ (fun b u e => by rw [upd_ne (ne_of_none e hp)]; exact e) (SqT.of upd_same)⟩
end
end L2
namespace L2
open PySem PySem.Spec PyProof.Rows
structure JE (X : Cx) (e : Expr) (t : TE) : Prop where
  run : PE X e t
structure JT (X : Cx) (e : Expr) (t : TT) : Prop where
  run : PT X e t
structure JW (X : Cx) (e : Expr) (t : TT) : Prop where
  run : PW X e t
structure JA (X : Cx) (es : List Expr) (t : TA) : Prop where
  run : PA X es t
structure JS (X : Cx) (st : Stmt) (t : TS) : Prop where
  run : PS X st t
structure JB (X : Cx) (st : List Stmt) (t : TS) : Prop where
  run : PSs X st t
structure JG (X : Cx) (e : Expr) (t : TG) : Prop where
  run : PG X e t
structure JGs (X : Cx) (es : List Expr) (t : TGs) : Prop where
  run : PGs X es t
structure JI (X : Cx) (tg iter : Expr) (wi : TI) : Prop where
  run : PI X tg iter wi
structure JO (X : Cx) (e : Option Expr) (t : TO) : Prop where
  run : PO X e t
/-- operations by values -/
structure JOp (X : Cx) (f : Value → Value → Sem Value) (r : R2) : Prop where
  run : OpR X f r
structure JUn (X : Cx) (f : Value → Sem Value) (r : V → Hp → VK → Prop) : Prop where
  run : UnR X f r
structure JCall (X : Cx) (f : Value) (r : List V → Hp → VK → Prop) : Prop where
  run : CallR X f r
structure JIx (X : Cx) (r : R2) : Prop where
  run : IxR X r
structure JSl (X : Cx) (r : V → Option Int → Option Int → Hp → VK → Prop) : Prop where
  run : SlR X r
structure JMt (X : Cx) (id : String) (r : V → List V → Hp → VK → Prop) : Prop where
  run : MtR X id r
structure JSet (X : Cx) (t : TSet) : Prop where
  run : PSet X t
section
variable {X : Cx} {a b c e o i : Expr} {es : List Expr} {ta tb te to ti : TE} {t tr : TA} {pos p apos cpos : Pos}
theorem je_int {n : Int} {j} : JE X (.Constant (.int n) j pos) (tC (.int n)) := ⟨pe_int⟩
theorem je_bl {n : Bool} {j} : JE X (.Constant (.bool n) j pos) (tC (.bl n)) := ⟨pe_bl⟩
theorem je_non {j} : JE X (.Constant .none j pos) (tC .non) := ⟨pe_non⟩
theorem je_str {x : Str} {j} : JE X (.Constant (.str x) j pos) (tC (.str x)) := ⟨pe_str⟩
theorem jv (k : Nat) {x : Str} (hN : X.N[k]? = some x := by rfl) (hv : Vis X.env.scope x := by first | exact Or.inl rfl | exact Or.inr (Or.inl rfl) | exact Or.inr (Or.inr rfl)) (hd : (x == ("__debug__" : Str)) = false := by decide)
    (hcd : (x == ("__classdict__" : Str)) = false := by decide) : JE X (.Name x pos) (tVar k) := ⟨pe_var hN hv hd hcd⟩
theorem ja_nil : JA X [] tNil := ⟨pa_nil⟩
theorem ja_cons (ha : JE X e te) (hr : JA X es t) (hs : unstar e = true := by rfl) : JA X (e :: es) (tCons te t) := ⟨pa_cons ha.run hr.run (starEach_one hs)⟩
theorem je_tup {x1} (h : JA X es t) : JE X (.Tuple es x1 pos) (tTup t) := ⟨pe_tup h.run⟩
theorem je_lst (h : JA X es t) : JE X (.List es pos) (tLst t) := ⟨pe_lst h.run⟩
theorem je_op {op : Operator} {r : R2} (ho : JOp X (binaryOp op) r) (ha : JE X a ta) (hb : JE X b tb) : JE X (.BinOp a op b pos) (tOp r ta tb) := ⟨pe_op ho.run ha.run hb.run⟩
theorem je_un {op : UnaryOp} {r : V → Hp → VK → Prop} (ho : JUn X (unaryOp op) r) (ha : JE X a ta) : JE X (.UnaryOp op a pos) (tUn r ta) := ⟨pe_un ho.run ha.run⟩
theorem je_cmpR {op : CmpOp} {r : R2} (ho : JOp X (compareOp op) r) (ha : JE X a ta) (hb : JE X b tb) (hm : behindInMarks op b = false) : JE X (.Compare a [op] [b] pos) (tOp r ta tb) := ⟨pe_cmpR ho.run ha.run hb.run hm⟩
theorem je_one {op} (h : JE X a ta) : JE X (.BoolOp op [a] pos) ta := ⟨pe_one h.run⟩
theorem je_and {rest : List Expr} (ha : JE X a ta) (hb : JE X (.BoolOp .And (b :: rest) pos) tb) : JE X (.BoolOp .And (a :: b :: rest) pos) (tAndV ta tb) := ⟨pe_and ha.run hb.run⟩
theorem je_ifExp {tc : TT} (hc : JT X c tc) (ha : JE X a ta) (hb : JE X b tb) : JE X (.IfExp c a b pos) (tIf tc ta tb) := ⟨pe_ifExp hc.run ha.run hb.run⟩
theorem jo_none : JO X none tNoPart := ⟨po_none⟩
theorem jo_some (h : JE X e te) : JO X (some e) (tPart te) := ⟨po_some h.run⟩
theorem je_slice {r : V → Option Int → Option Int → Hp → VK → Prop} {lo hi : Option Expr} {tl th : TO} {p2 : Pos} (hr : JSl X r) (he : JE X e te) (hl : JO X lo tl) (hu : JO X hi th) : JE X (.Subscript e (.Slice lo hi none p2) pos) (tSl r te tl th) := ⟨pe_slice hr.run he.run hl.run hu.run⟩
theorem je_ix {r : R2} (hr : JIx X r) (ha : JE X a ta) (hb : JE X b tb) (hs : PlainIx b) : JE X (.Subscript a b pos) (tOp r ta tb) := ⟨pe_ix hr.run ha.run hb.run hs⟩
theorem backTo_plain {es : List Expr} {env : Env} (h : es.all unstar = true) : (backTo pos (starEach es env)).any (·.1) = false := by
  induction es with
  | nil => rfl
  | cons x r ih =>
    rw [List.all_cons, Bool.and_eq_true] at h
    rw [starEach_one h.1]
    exact ih h.2
theorem je_cg {k j : Nat} {x : Str} {ps : List Str} {sp : Sp} (G : Got X.prog X.w X.K X.mg X.base k x ps sp) (hr : Room j X.A) (hk : k ≤ j) (hg : Gl X x) (ha : JA X (e :: es) t) (hdb : (x == ("__debug__" : Str)) = false := by decide)
    (hs : (e :: es).all unstar = true := by rfl) : JE X (.Call (.Name x p) (e :: es) [] pos) (tCall sp [] E0 t) := by
  have h := hs
  rw [List.all_cons, Bool.and_eq_true] at h
  exact ⟨pe_cg G hr hk hg ha.run hdb (starEach_one h.1) (backTo_plain h.2)⟩
theorem je_callB {x : Str} {id : String} {r : List V → Hp → VK → Prop} (hc : JCall X (.builtin id) r) (hg : Gl X x) (hm : X.mg x = none) (hv : bootBuiltins x = some (.builtin id)) (ha : JA X (e :: es) t) (hn : x ≠ "__name__" := by decide) (hdb : (x == ("__debug__" : Str)) = false := by decide)
    (hs : (e :: es).all unstar = true := by rfl) : JE X (.Call (.Name x p) (e :: es) [] pos) (tCB r t) := by
  have h := hs
  rw [List.all_cons, Bool.and_eq_true] at h
  exact ⟨pe_callB hc.run hg hm hv ha.run hn hdb (starEach_one h.1) (backTo_plain h.2)⟩
theorem je_callTy {x : Str} {T : String} {r : List V → Hp → VK → Prop} (hc : JCall X (.type T) r) (hg : Gl X x) (hm : X.mg x = none) (hv : bootBuiltins x = some (.type T)) (ha : JA X (e :: es) t) (hn : x ≠ "__name__" := by decide) (hdb : (x == ("__debug__" : Str)) = false := by decide)
    (hs : (e :: es).all unstar = true := by rfl) : JE X (.Call (.Name x p) (e :: es) [] pos) (tCB r t) := by
  have h := hs
  rw [List.all_cons, Bool.and_eq_true] at h
  exact ⟨pe_callTy hc.run hg hm hv ha.run hn hdb (starEach_one h.1) (backTo_plain h.2)⟩
/-- o.m(e), o.m() of a built-in -/
theorem je_bm {name : Str} {T id : String} {r : V → List V → Hp → VK → Prop} (pa : PlainAttrs T) (slot : Slot T name id) (hty : typeOf (.builtin id) = pure (.type "method_descriptor")) (hm : JMt X id r) (ho : JE X o to) (ha : JA X [e] t)
    (hbase : attributeBase o name X.env (eval o X.env) = eval o X.env := by rfl) (hline : (apos.endLine == cpos.line) = true := by rfl) (hs : unstar e = true := by rfl) : JE X (.Call (.Attribute o name apos) [e] [] cpos) (tBM X.K T r to t) :=
  ⟨pe_bm pa slot hty hm.run ho.run ha.run hbase (by rw [starEach_one hs]; rfl) hline (starEach_one hs) rfl⟩
theorem je_bm0 {name : Str} {T id : String} {r : V → List V → Hp → VK → Prop} (pa : PlainAttrs T) (slot : Slot T name id) (hty : typeOf (.builtin id) = pure (.type "method_descriptor")) (hm : JMt X id r) (ho : JE X o to)
    (hbase : attributeBase o name X.env (eval o X.env) = eval o X.env := by rfl) (hline : (apos.endLine == cpos.line) = true := by rfl) : JE X (.Call (.Attribute o name apos) [] [] cpos) (tBM0 X.K T r to) := ⟨pe_bm0 pa slot hty hm.run ho.run hbase hline⟩
theorem jt_cmpR {op : CmpOp} {r : R2} (ho : JOp X (compareOp op) r) (ha : JE X a ta) (hb : JE X b tb) (hm : behindInMarks op b = false) : JT X (.Compare a [op] [b] pos) (tTest (tOp r ta tb)) := ⟨pt_cmpR ho.run ha.run hb.run hm⟩
theorem jt_not {tc : TT} (ha : JT X a tc) : JT X (.UnaryOp .Not a pos) (tNot tc) := ⟨pt_not ha.run⟩
theorem jt_truth (ha : JE X a ta) (he : ∀ whole, isTrue a X.env whole = (do let v ← whole; standAt a.pos; holding [v] (truthy v))) : JT X a (fun σ H Q => ta σ H fun x H' => ∃ k, TruV X.K x H' k ∧ Q k H') := ⟨pt_truth ha.run he⟩
theorem jw_and1 {tA : TT} (ha : JT X a tA) : JW X (.BoolOp .And [a] pos) tA := ⟨pw_and1 ha.run⟩
theorem jw_or1 {tA : TT} (ha : JT X a tA) : JW X (.BoolOp .Or [a] pos) tA := ⟨pw_or1 ha.run⟩
theorem jw_and {tA tB' : TT} {rest : List Expr} (ha : JT X a tA) (hb : JW X (.BoolOp .And (b :: rest) pos) tB') : JW X (.BoolOp .And (a :: b :: rest) pos) (tAnd tA tB') := ⟨pw_and ha.run hb.run⟩
theorem jw_or {tA tB' : TT} {rest : List Expr} (ha : JT X a tA) (hb : JW X (.BoolOp .Or (b :: rest) pos) tB') : JW X (.BoolOp .Or (a :: b :: rest) pos) (tOr tA tB') := ⟨pw_or ha.run hb.run⟩
theorem JW.pt {tA : TT} (h : JW X e tA) : JT X e tA := ⟨PW.pt h.run⟩
theorem jg_name {k : Nat} {x : Str} (hN : X.N.Nodup) (hi : X.N[k]? = some x) (hx : Loc X.env.scope x) (hf : X.fn x = true ∨ X.env.scope.names.lookup x = some .local := by first | exact .inl rfl | exact .inr rfl | assumption) : JG X (.Name x pos) (gName k) := ⟨pg_name hN hi hx hf⟩
theorem jgs_nil : JGs X [] gNil := ⟨pgs_nil⟩
theorem jgs_cons {tg : TG} {u : TGs} (h1 : JG X e tg) (h2 : JGs X es u) (hs : (assignEach (e :: es) X.env).map (·.2) = assign e X.env :: (assignEach es X.env).map (·.2) := by rfl) : JGs X (e :: es) (gCons tg u) := ⟨pgs_cons h1.run h2.run hs⟩
theorem jg_tup {k n : Nat} {tg : TGs} (hc : X.calm = true) (h : JGs X es tg) (hn : (assignEach es X.env).length = n := by rfl) (hst : (assignEach es X.env).findIdx? (·.1) = none := by rfl) : JG X (.Tuple es k pos) (gTup X.K n tg) := ⟨pg_tup hc h.run hn hst⟩
theorem jg_sub {tset : TSet} (ho : JE X o to) (hi : JE X i ti) (hs : JSet X tset) (ha : ∀ v, assign (.Subscript o i pos) X.env v = (do
      let ov ← holding [v] (eval o X.env)
      let iv ← holding [v, ov] (eval i X.env)
      standAt pos
      holding [v, ov, iv] (setItem ov iv v)
      release [v, ov, iv] []) := by intro _; rfl) : JG X (.Subscript o i pos) (gSub to ti tset) := ⟨pg_sub ho.run hi.run hs.run ha⟩
theorem ji_range1 {tg : Expr} (hg : Gl X "range") (hm : X.mg "range" = none) (ha : JA X [a] t) (hs : unstar a = true := by rfl) : JI X tg (.Call (.Name "range" p) [a] [] pos) (iRng1 t) := ⟨pi_range1 hg hm ha.run (starEach_one hs)⟩
theorem jb_nil : JB X [] tNext := ⟨pss_nil⟩
theorem jb_cons {st : Stmt} {rest : List Stmt} {ts us : TS} (h1 : JS X st ts) (h2 : JB X rest us) : JB X (st :: rest) (tSeq ts us) := ⟨pss_cons h1.run h2.run⟩
theorem jb_one {st : Stmt} {ts : TS} (h1 : JS X st ts) : JB X [st] ts := ⟨pss_one h1.run⟩
theorem js_expr (he : JE X e te) (hs : swapsWith e none pos.line X.env = pure false := by rfl) : JS X (.Expr e pos) (tDrop te) := ⟨ps_expr he.run hs⟩
theorem js_ret (he : JE X e te) : JS X (.Return (some e) pos) (tRet te) := ⟨ps_ret he.run⟩
theorem js_if {ss us : List Stmt} {tc : TT} {ts tu : TS} (hc : JT X c tc) (ha : JB X ss ts) (hb : JB X us tu) : JS X (.If c ss us pos) (tIfS tc ts tu) := ⟨ps_if hc.run ha.run hb.run⟩
theorem js_set {k : Nat} {x : Str} {pos' : Pos} (hN : X.N.Nodup) (hi : X.N[k]? = some x) (hx : Loc X.env.scope x) (he : JE X e te) (hs : swapsWith e (some (.Name x pos')) pos.line X.env = pure false := by rfl) (hf : X.fn x = true ∨ X.env.scope.names.lookup x = some .local := by first | exact .inl rfl | exact .inr rfl | assumption) :
    JS X (.Assign [.Name x pos'] e pos) (tAsg te (gName k)) := ⟨ps_set hN hi hx he.run hs hf⟩
theorem js_asg {tg : Expr} {g : TG} (he : JE X e te) (hg : JG X tg g) (hs : swapsWithSole [tg] e pos.line X.env = pure false := by rfl) (hw : swappedStores [tg] e X.env = pure none := by rfl) (h1 : (assignEach [tg] X.env).map (·.2) = [assign tg X.env] := by rfl) : JS X (.Assign [tg] e pos) (tAsg te g) := ⟨ps_asg he.run hg.run hs hw h1⟩
theorem js_while {body : List Stmt} {tc : TT} {tb' : TS} (hp : PassesOwn (model X.prog X.w) X.A X.env X.xe) (hc : JT X c tc) (hb : JB X body tb') : JS X (.While c body [] pos) (tWhile tc tb') := ⟨ps_while hp hc.run hb.run⟩
theorem js_for {tg iter : Expr} {body : List Stmt} {wi : TI} {g : TG} {tb' : TS} (hp : PassesOwn (model X.prog X.w) X.A X.env X.xe) (hc : X.calm = true) (hi : JI X tg iter wi) (hg : JG X tg g) (hb : JB X body tb') (hs : ∀ x, foldedSetIterable iter X.env x = pure x := by intro _; rfl) :
    JS X (.For tg iter body [] pos) (tFor wi g tb') := ⟨ps_for hp hc hi.run hg.run hb.run hs⟩
theorem je_comp {scope : Scope} {N' : List Str} {nt : Nat} {cap : List Nat} {elt iter tg : Expr} {wi : TI} {g : TG} (hc : X.calm = true) (ok : CompOk X scope N' nt cap) (hi : JI X tg iter wi) (hg : ∀ C ex s H, JG (cxComp X scope N' C ex s H) tg g) (he : ∀ C ex s H, JE (cxComp X scope N' C ex s H) elt te)
    (hs : ∀ x, foldedSetIterable iter X.env x = pure x := by intro _; rfl) : JE X (.ListComp elt [⟨tg, iter, [], 0⟩] scope pos) (tComp wi g te nt cap) := ⟨pe_comp hc ok hi.run (fun C ex s H => (hg C ex s H).run) (fun C ex s H => (he C ex s H).run) hs⟩
theorem je_compIf {ct : Expr} {tc : TT} {scope : Scope} {N' : List Str} {nt : Nat} {cap : List Nat} {elt iter tg : Expr} {wi : TI} {g : TG} (hc : X.calm = true) (ok : CompOk X scope N' nt cap) (hi : JI X tg iter wi) (hg : ∀ C ex s H, JG (cxComp X scope N' C ex s H) tg g)
    (ht : ∀ C ex s H, JT (cxComp X scope N' C ex s H) ct tc) (he : ∀ C ex s H, JE (cxComp X scope N' C ex s H) elt te) (hs : ∀ x, foldedSetIterable iter X.env x = pure x := by intro _; rfl) : JE X (.ListComp elt [⟨tg, iter, [ct], 0⟩] scope pos) (tCompIf wi g tc te nt cap) :=
  ⟨pe_compIf hc ok hi.run (fun C ex s H => (hg C ex s H).run) (fun C ex s H => (ht C ex s H).run) (fun C ex s H => (he C ex s H).run) hs⟩
end
/-- THE RULE for a def, sealed -/
theorem Fun.okJ {P : Program} {w : World} {K : PySem.W.Frag} {mg : Str → Option Value} {base : Heap} {x qual : Str} {st : Stmt} {f : Addr} {fd : FuncData} {N ps : List Str} {k : Nat} {sp : Sp} (F : Fun K x qual st f fd) (S : FnScope N ps (defScope st)) (len : ∀ vs H Q E, sp vs H Q E → vs.length = ps.length)
    (hbody : ∀ (cdv : Value) (A : Around) (outer : List Env) (s : Shared) (H : Hp) (vs : List V) (Q : VK) (E : XK), Room k (A.deeper (envOfC qual (defScope st) s.heap.objs.size f cdv)) → sp vs H Q E →
      ∃ t, JB (cxOf CX0 P w K mg base N qual (defScope st) f cdv A outer s H E).nox (defBody st) t ∧ t { nx := fun _ H' => Q .non H', rt := Q } (start N vs) H) : FnOk P w K mg base CX0 (k + 1) f fd ps sp :=
  F.ok S len fun cdv A outer s H vs Q E hr h => let ⟨t, j, q⟩ := hbody cdv A outer s H vs Q E hr h; ⟨t, j.run, q⟩
end L2
namespace L2
open PySem PySem.Spec PyProof.Rows
section
variable {X : Cx} {scope : Scope} {N' : List Str} {nt : Nat} {cap : List Nat} {elt iter tg : Expr} {pos : Pos} {wi : TI} {g : TG} {te : TE}
theorem ps_setComp {y : Str} {py spos : Pos} {k : Nat} (hc : X.calm = true) (hN : X.N.Nodup) (hk : X.N[k]? = some y) (hy : Loc X.env.scope y) (c : CompOk X scope N' nt cap) (hi : PI X tg iter wi) (hg : ∀ C ex s H, PG (cxComp X scope N' C ex s H) tg g) (he : ∀ C ex s H, PE (cxComp X scope N' C ex s H) elt te)
    (hs : ∀ x, foldedSetIterable iter X.env x = pure x := by intro _; rfl) (hsw : swapsWith (.ListComp elt [⟨tg, iter, [], 0⟩] scope pos) (some (.Name y py)) spos.line X.env = pure true := by rfl) (hf : X.fn y = true ∨ X.env.scope.names.lookup y = some .local := by first | exact .inl rfl | exact .inr rfl | assumption) :
    PS X (.Assign [.Name y py] (.ListComp elt [⟨tg, iter, [], 0⟩] scope pos) spos) (tAsg (tComp wi g te nt cap) (gName k)) := by
  intro pins s σ H D0 I h
  rw [exec_Assign_Name_used _ _ _ _ hsw]
  refine wpAny_bind (wpAny_standAt (wpAny_bind ?_))
  show wpAny _ X.A (do let _ ← comprehension (.ListComp elt [⟨tg, iter, [], 0⟩] scope pos) scope X.env _ (newList []) false (eval iter X.env) (some (assign (.Name y py) X.env))) _ _ s
  refine wpAny_bind (wpAny_mono (wpAny_comprehension_free (use := some (assign (.Name y py) X.env)) (Q := fun _ s' => SP X pins D0 .next s') rfl hs (clos_ok (c.has I.ok)) c.kind c.locs (thn (hi pins s σ H _ I h) fun v s1 h1 => thn h1 fun itv s2 h2 => ?_)) (fun _ s' hq => wpAny_pure (wpAny_pure hq)) fun _ _ e => e)
  obtain ⟨it, fp, tn, J, H2, rfl, I2, T, st2, f2, R⟩ := h2
  have hD : H2 s2.heap.objs.size = none := I2.hok.fresh (Nat.le_refl _)
  obtain ⟨W, ⟨m0, w0⟩, turn⟩ := R _ hD
  have I3 : Inv X pins σ (upd H2 s2.heap.objs.size (.lst [])) { s2 with heap := s2.heap.push { cls := .type "list", dict := none, data := .seq ([] : List Value).toArray } } :=
    I2.laid (t' := s2.toks) (fun b u e => Heap.get?_push_of_some _ e) (Nat.le_refl _) ⟨Nat.zero_le _, [], 0, .nil, Heap.get?_push_size _ rfl⟩
  have fpLt : ∀ b ∈ fp, b < s2.heap.objs.size := fun b hb => by
    obtain ⟨o, e, _⟩ := T.obj _ _ st2 b hb
    exact Heap.lt_size e
  have f3 : ∀ b ∈ fp, FpOk X pins (upd H2 s2.heap.objs.size (.lst [])) b := fun b hb => ⟨by rw [upd_ne (Nat.ne_of_lt (fpLt b hb))]; exact (f2 b hb).1, (f2 b hb).2⟩
  have st3 : tn 0 (s2.heap.push { cls := .type "list", dict := none, data := .seq ([] : List Value).toArray }) := T.keep _ _ _ st2 fun b _ o e => Heap.get?_push_of_some _ e
  generalize hh3 : s2.heap.push { cls := .type "list", dict := none, data := .seq ([] : List Value).toArray } = h3 at I3 st3
  have sz3 : s2.heap.objs.size < h3.objs.size := by rw [← hh3, Heap.size_push]; exact Nat.lt_succ_self _
  generalize hDD : s2.heap.objs.size = D at I3 f3 hD w0 turn sz3 fpLt
  refine wpAny_newObj_type ?_
  rw [hDD, hh3]
  refine wpAny_newFunctionEnv c.nocell (by intro y hy; simp at hy) (fun h4 hns4 hsb4 => ?_) c.kind
  dsimp only at hns4 hsb4 ⊢
  have keep4 : ∀ b o, h3.get? b = some o → h4.get? b = some o := fun b o e => (hsb4.2 b (Nat.ne_of_lt (Heap.lt_size e))).trans (Heap.get?_push_of_some _ e)
  have I4 := I3.comp (t' := s2.toks + ([] : List (Str × Value)).length) c f3 (fun b hb => Nat.lt_trans (fpLt b hb) sz3) keep4 hns4
  have st4 : tn 0 h4 := T.keep _ _ _ st3 fun b _ o e => keep4 b o e
  dsimp only at I4
  -- what is asked of the end
  have fin : ∀ {σ' : St} {H' : Hp} {s' : Shared}, Inv (cxComp X scope N' h3.objs.size fp { s2 with heap := h3 } (upd H2 D (.lst []))) [] σ' H' s' → D0.nx (σ.set k (some (.ref D))) H' →
      compPost (model X.prog X.w) X.A X.xe (some (assign (.Name y py) X.env)) (fun _ s' => SP X pins D0 .next s') (.ref D) h3.objs.size (.ok .next) s' := fun {σ' H' s'} J' q => by
    obtain ⟨m, hn, hh⟩ := I3.uncomp rfl f3 J'
    have IX : Inv X pins σ H' s' := hh s'.heap (Heap.SameBut.refl ..)
    have hCL : h3.objs.size ≠ X.env.locals := Nat.ne_of_gt I3.lt
    have hCc : ∀ x a, X.env.cells.lookup x = some a → a ≠ h3.objs.size := fun x a e => by
      obtain ⟨v, z⟩ := I3.cell x a e
      exact Nat.ne_of_lt z.lt
    show wpAny _ X.A (assign (.Name y py) X.env (.ref D)) _ _ s'
    refine wpAny_assign_Name (store_ok2 IX hN hk hy (v := .ref D) rfl (fun s'' I'' hch => ?_) hf)
    obtain ⟨a, sb, ha⟩ := hch
    have hCa : h3.objs.size ≠ a := by
      rcases ha with z | z
      · rw [z]; exact hCL
      · exact (hCc _ _ z).symm
    refine ⟨m, hn.sameBut sb hCa, fun h' hs' => ⟨_, H', ?_, q⟩⟩
    exact I''.turned (t' := s''.toks) (fun b o hb e => (hs'.2 b hb).trans e) J'.free hCL (.inr I3.sz) hCc fun p hp z => by
      have e := (I3.pin p hp).1
      rw [z] at e
      exact absurd (Heap.lt_size e) (Nat.lt_irrefl _)
  have stat : ∀ {H' : Hp}, (∀ b ∈ fp, H' b = none) → ∀ b ∈ fp, FpOk (cxComp X scope N' h3.objs.size fp { s2 with heap := h3 } (upd H2 D (.lst []))) [] H' b := fun {H'} hn b hb => by
    refine ⟨hn b hb, Nat.ne_of_lt (Nat.lt_trans (fpLt b hb) sz3), fun z => ?_, .inl hb, fun x a e => (f3 b hb).2.2.2.2.1 x a (c.cells I.ok e), fun p hp => absurd (show p ∈ ([] : List (Addr × Obj)) from hp) (by simp)⟩
    rcases List.mem_cons.mp (I.stkSub b z) with y | y
    · exact (f3 b hb).2.1 y
    · exact (f3 b hb).2.2.1 y
  have loop : codeAny (model X.prog X.w) X.A (.compLoop (.ListComp elt [⟨tg, iter, [], 0⟩] scope pos) 0 (.ref it) (.ref D) (compEnvC scope (closL X.env.cells scope.names []) h3.objs.size X.env))
      (compPost (model X.prog X.w) X.A X.xe (some (assign (.Name y py) X.env)) (fun _ s' => SP X pins D0 .next s') (.ref D) h3.objs.size) { s2 with heap := h4, toks := s2.toks + ([] : List (Str × Value)).length } := by
    refine codeAny_loop rfl (fun n s' => ∃ i ys σ' H', Inv (cxComp X scope N' h3.objs.size fp { s2 with heap := h3 } (upd H2 D (.lst []))) [] σ' H' s' ∧ tn i s'.heap ∧ (∀ b ∈ fp, H' b = none) ∧ W i n ys σ' H') (fun n s5 hI => ?_) m0 ⟨0, [], _, _, I4, st4, fun b hb => (f3 b hb).1, w0⟩
    obtain ⟨i, ys, σ5, H5, I5, st5, fr5, w5⟩ := hI
    show wpAny _ X.A ((compTurn (.ListComp elt [⟨tg, iter, [], 0⟩] scope pos) 0 (.ref it) (.ref D) (compEnvC scope (closL X.env.cells scope.names []) h3.objs.size X.env)).onRaise (fun x => do noteFrame x (compEnvC scope (closL X.env.cells scope.names []) h3.objs.size X.env); theTreesLotGoes x)) _ _ s5
    refine wpAny_noted ?_
    rw [compTurn_list1]
    rcases turn i n ys σ5 H5 w5 with ⟨stop, qn⟩ | ⟨go, step⟩
    · refine wpAny_bind (wpAny_standAt (wpAny_bind (wpAny_mono (T.done (cxComp X scope N' h3.objs.size fp { s2 with heap := h3 } (upd H2 D (.lst []))) rfl rfl rfl hc i [] s5 σ5 H5 (fun _ _ => False) I5 (stat fr5) st5 stop) (fun r s6 ⟨hr, I6⟩ => ?_) fun _ _ z => z.elim)))
      subst hr
      exact wpAny_pure (fin I6 qn)
    · refine wpAny_bind (wpAny_standAt (wpAny_bind (wpAny_mono (T.item (cxComp X scope N' h3.objs.size fp { s2 with heap := h3 } (upd H2 D (.lst []))) rfl rfl rfl hc i [] s5 σ5 H5 (fun _ _ => False) I5 (stat fr5) st5 go) (fun r s6 ⟨u, hr, h6⟩ => ?_) fun _ _ z => z.elim)))
      subst hr
      refine wpAny_bind (wpAny_mono h6 (fun _ s7 ⟨x, H7, I7, r7, y7, st7, fr7⟩ => ?_) fun _ _ z => z.elim)
      have I7' := I7.pinned (stat fr7) (T.obj _ _ st7)
      refine wpAny_bind (wpAny_mono (hg _ _ _ _ _ s7 σ5 H7 x u _ I7' r7 (step x H7 y7)) (fun _ s8 ⟨σ8, H8, I8, q8⟩ => ?_) fun _ _ z => z.elim)
      refine wpAny_bind (wpAny_bind (wpAny_mono (he _ _ _ _ _ s8 σ8 H8 _ I8 q8) (fun yv s9 ⟨y, H9, I9, r9, e9, z9, m', hm', w9⟩ => ?_) fun _ _ z => z.elim))
      refine wpAny_bind (wpAny_mono (mt_append (X := cxComp X scope N' h3.objs.size fp { s2 with heap := h3 } (upd H2 D (.lst []))) _ s9 σ8 H9 (.ref D) [y] (.ref D) [yv] (fun v H10 => v = .non ∧ H10 = upd H9 D (.lst (ys ++ [y]))) I9 rfl (.cons r9 .nil) ⟨D, ys, y, rfl, rfl, e9, z9, rfl, rfl⟩)
        (fun _ s10 ⟨v10, H10, I10, _, _, e10⟩ => ?_) fun _ _ z => z.elim)
      subst e10
      refine wpAny_pure (wpAny_pure ⟨rfl, m', hm', i + 1, ys ++ [y], σ8, _, I10.unpinned, ?_, fun b hb => ?_, w9⟩)
      · exact T.keep _ _ _ st7 fun b hb o e => (I10.pin (b, o) (List.mem_append_right _ (List.mem_append_right _ (mem_pinsAt hb e)))).1
      · obtain ⟨o, e, d⟩ := T.obj _ _ st7 b hb
        exact (I10.pin (b, o) (List.mem_append_right _ (List.mem_append_right _ (mem_pinsAt hb e)))).2.1
  exact codeAny_compStart_list loop (T.self _ 0 _ _ _ st4 loop)
end
end L2
namespace L2
open PySem PySem.Spec PyProof.Rows
section
variable {X : Cx} {tg : Expr}
end
end L2
namespace L2
open PySem PySem.Spec PyProof.Rows Builtin
section
variable {X : Cx}
end
end L2
namespace L2
open PySem PySem.Spec PyProof.Rows
section
variable {X : Cx} {a b c e : Expr} {t : TA} {te : TE} {pos p : Pos}
theorem ji_range2 {tg : Expr} (hg : Gl X "range") (hm : X.mg "range" = none) (ha : JA X [a, b] t) (h1 : unstar a = true := by rfl) (h2 : unstar b = true := by rfl) : JI X tg (.Call (.Name "range" p) [a, b] [] pos) (iRng2 t) :=
  ⟨pi_range2 hg hm ha.run (by rw [starEach_one h1, starEach_one h2]; rfl) (by rw [starEach_one h2]; rfl)⟩
variable {scope : Scope} {N' : List Str} {nt : Nat} {cap : List Nat} {elt iter tg : Expr} {wi : TI} {g : TG}
theorem js_setComp {y : Str} {py spos : Pos} {k : Nat} (hc : X.calm = true) (hN : X.N.Nodup) (hk : X.N[k]? = some y) (hy : Loc X.env.scope y) (ok : CompOk X scope N' nt cap) (hi : JI X tg iter wi) (hg : ∀ C ex s H, JG (cxComp X scope N' C ex s H) tg g) (he : ∀ C ex s H, JE (cxComp X scope N' C ex s H) elt te)
    (hs : ∀ x, foldedSetIterable iter X.env x = pure x := by intro _; rfl) (hsw : swapsWith (.ListComp elt [⟨tg, iter, [], 0⟩] scope pos) (some (.Name y py)) spos.line X.env = pure true := by rfl) (hf : X.fn y = true ∨ X.env.scope.names.lookup y = some .local := by first | exact .inl rfl | exact .inr rfl | assumption) :
    JS X (.Assign [.Name y py] (.ListComp elt [⟨tg, iter, [], 0⟩] scope pos) spos) (tAsg (tComp wi g te nt cap) (gName k)) := ⟨ps_setComp hc hN hk hy ok hi.run (fun C ex s H => (hg C ex s H).run) (fun C ex s H => (he C ex s H).run) hs hsw hf⟩
end
end L2
namespace L2
open PySem PySem.Spec PyProof.Rows
section
variable {X : Cx} {k j : Nat} {f : Addr} {x : Str} {sp : Sp} {p pos : Pos} {e : Expr} {es : List Expr} {t : TA}
end
end L2
namespace KRv
open PySem PyProof.Rows
section
variable {prog : Program} {w : World} {A : Around} {E : Value → Shared → Prop} {s : Shared} {it t : Addr}
/-- a stop is raised: nothing that was there goes -/
theorem stops {α : Type} {Q : α → Shared → Prop} (hh : A.handled = none) (h : ∀ h' e, (∀ b o, s.heap.get? b = some o → h'.get? b = some o) → Shared.TypeIs { s with heap := h' } (.ref e) "StopIteration" → E (.ref e) { s with heap := h' }) : wpAny (model prog w) A (Builtin.SmallTypes.stopIteration : Sem α) Q E s := by
  unfold Builtin.SmallTypes.stopIteration
  refine wpAny_bind ?_
  unfold newExc newTuple
  refine wpAny_bind (wpAny_newObj_type ?_ (by size_fits))
  rw [show firstArgMember (.type "StopIteration") [] = pure Value.none from by unfold firstArgMember; rfl, pure_bind]
  refine wpAny_newObj_type ?_ (by size_fits)
  unfold raiseNew
  refine wpAny_bind (wpAny_handled ?_)
  rw [hh]
  exact wpAny_throw (h _ _ (fun b o e => Heap.get?_push_of_some _ (Heap.get?_push_of_some _ e)) ⟨_, Heap.get?_push_size _ rfl, rfl⟩)
end
section
variable {prog : Program} {w : World} {A : Around} {E : Value → Shared → Prop} {s : Shared} {R : Result → Shared → Prop} {I S : Addr} {fp wr : List Addr} {n : Nat} {P : Nat → Value → Prop} {St : Nat → Shared → Prop}
abbrev listAt (acc : Array Value) (c : Nat) : Obj := { cls := .type "list", dict := none, data := .seq acc c, slots := #[] }
end
theorem moved_eq {wr : List Addr} {s s' : Shared} (hm : Moved wr (fun a b => b = a) s s') : s' = { s with heap := s'.heap, toks := s'.toks } := by
  obtain ⟨h', g', d', tk', os'⟩ := s'
  cases (show g' = s.gens from hm.gens)
  cases (show d' = s.drawn from hm.drawn)
  cases (show os' = s.os from hm.os)
  rfl
end KRv
namespace L2
open PySem PySem.Spec PyProof.Rows
section
variable {X : Cx} {e : Expr} {te : TE} {p p2 pos pos2 : Pos}
end
section
variable {X : Cx} {e : Expr} {te : TE} {p p2 pos pos2 : Pos}
end
end L2
namespace KZp
open PySem PyProof.Rows
section
variable {prog : Program} {w : World} {A : Around} {E : Value → Shared → Prop} {s : Shared}
variable {z TI TO i1 i2 l1 l2 : Addr} {i : Nat} {xs ys : Array Value}
end
end KZp
namespace L2
open PySem PySem.Spec PyProof.Rows
section
variable {X : Cx}
end
end L2
namespace L2
open PySem PySem.Spec PyProof.Rows
/-- known to the object: it never changes while it is so -/
def fzn (o : Obj) : HO := .frz o (.ext fun _ => True)
/-- tracked no more; put back -/
def less (H : Hp) (as : List Addr) : Hp := fun b => if b ∈ as then none else H b
def more (H : Hp) (as : List Addr) (H0 : Hp) : Hp := fun b => if b ∈ as then H0 b else H b
theorem less_in {H : Hp} {as : List Addr} {b : Addr} (h : b ∈ as) : less H as b = none := by unfold less; rw [if_pos h]
theorem less_out {H : Hp} {as : List Addr} {b : Addr} (h : b ∉ as) : less H as b = H b := by unfold less; rw [if_neg h]
theorem more_in {H H0 : Hp} {as : List Addr} {b : Addr} (h : b ∈ as) : more H as H0 b = H0 b := by unfold more; rw [if_pos h]
theorem more_out {H H0 : Hp} {as : List Addr} {b : Addr} (h : b ∉ as) : more H as H0 b = H b := by unfold more; rw [if_neg h]
theorem less_none {H : Hp} {as : List Addr} {b : Addr} (h : H b = none) : less H as b = none := by unfold less; split <;> first | rfl | exact h
section
variable {P : Program} {w : World} {H H' : Hp} {h h' : Heap} {as : List Addr}
/-- frozen things, as a list -/
def Frz (H : Hp) (as : List Addr) : Prop := ∀ a ∈ as, ∃ o, H a = some (fzn o)
theorem fzn_get {a : Addr} {o : Obj} (ok : HOk P w H h) (e : H a = some (fzn o)) : h.get? a = some o := (ok a _ e).1
theorem fzn_ok {a : Addr} {o : Obj} (e : h.get? a = some o) : ObjOk P w H h a (fzn o) := ⟨e, trivial, ⟨o, e⟩, fun _ _ _ _ => trivial⟩
theorem HOk.less (ok : HOk P w H h) (fz : Frz H as) : HOk P w (less H as) h := fun b u e => by
  have hb : b ∉ as := fun z => by rw [less_in z] at e; cases e
  rw [less_out hb] at e
  refine (ok b u e).stay (fun c v _ q => q) (fun c q => ?_) fun c xs q => ?_
  · rw [less_out fun z => ?_]; exact q
    obtain ⟨o, z⟩ := fz c z; rw [q] at z; cases z
  · rw [less_out fun z => ?_]; exact q
    obtain ⟨o, z⟩ := fz c z; rw [q] at z; cases z
/-- behind what ran without them: they are as they were -/
theorem HOk.more {H0 : Hp} (ok : HOk P w H' h') (no : ∀ a ∈ as, H' a = none) (fz : ∀ a ∈ as, ∃ o, H0 a = some (fzn o) ∧ h'.get? a = some o) : HOk P w (more H' as H0) h' := fun b u e => by
  by_cases hb : b ∈ as
  · obtain ⟨o, e1, e2⟩ := fz b hb
    rw [more_in hb, e1] at e
    cases e
    exact fzn_ok e2
  · rw [more_out hb] at e
    refine (ok b u e).stay (fun c v _ q => q) (fun c q => ?_) fun c xs q => ?_
    · rw [more_out fun z => ?_]; exact q
      rw [no c z] at q; cases q
    · rw [more_out fun z => ?_]; exact q
      rw [no c z] at q; cases q
/-- what the run left, with the frozen things put back -/
theorem Un.more {fs : List Addr} (u : Un fs [] (less H as) H' h h') (ok : HOk P w H h) (fz : Frz H as) (nf : ∀ a ∈ as, a ∉ fs) : Un fs [] H (more H' as H) h h' where
  keep := fun b o e n hb hx => by
    exact u.keep b o e (less_none n) hb hx
  slot := fun b o e n hb hx => u.slot b o e (less_none n) hb hx
  free := fun b o e n hx => by
    have hb : b ∉ as := fun z => by obtain ⟨o', z⟩ := fz b z; rw [n] at z; cases z
    rw [more_out hb]; exact u.free b o e (less_none n) hx
  there := fun b o e hx => u.there b o e hx
  tups := fun b xs e => by
    have hb : b ∉ as := fun z => by obtain ⟨o', z⟩ := fz b z; rw [e] at z; cases z
    rw [more_out hb]; exact u.tups b xs (by rw [less_out hb]; exact e)
  frzs := fun b o v e => by
    by_cases hb : b ∈ as
    · rw [more_in hb]; exact e
    · rw [more_out hb]; exact u.frzs b o v (by rw [less_out hb]; exact e)
  tbls := fun b ps e => by
    have hb : b ∉ as := fun z => by obtain ⟨o', z⟩ := fz b z; rw [e] at z; cases z
    rw [more_out hb]; exact u.tbls b ps (by rw [less_out hb]; exact e)
end
/-- the scope of a def within a def: parameters local, no cells of its own, the captured names free -/
structure CloScope (N ps fr : List Str) (sc : Scope) : Prop where
  kind : sc.kind = .function
  co : sc.isCoroutine = false
  gen : sc.isGenerator = false
  nd : N.Nodup
  pre : N.take ps.length = ps
  suf : N.drop (N.length - fr.length) = fr
  len : ps.length + fr.length ≤ N.length
  par : ∀ x ∈ ps, sc.names.lookup x = some .local
  nocell : ∀ y ∈ sc.names, y.2 ≠ .cell
  free : ∀ y ∈ sc.names, y.2 = .free → y.1 ∈ fr
  fvis : ∀ x ∈ fr, sc.names.lookup x = some .free
/-- the closure as it stands in the heap: the def's object, its code, the cells of the captured names -/
structure CloAt (H : Hp) (f : Addr) (name qual : Str) (st : Stmt) (cl : List (Str × Addr)) (fvs : List V) : Prop where
  fn : ∃ (oc : Value) (od : Option Addr) (doc pm cdv ct : Value) (sl : Array (Option Value)), H f = some (fzn ⟨oc, od, .func (PySem.W.fnX name qual (defArgs st) (defBody st) (defScope st) cl .none .none doc pm none cdv ct), sl⟩) ∧
    ∃ c o vs t, cdv = .ref c ∧ H c = some (fzn o) ∧ o.data = .fields vs ∧ vs[1]? = some (.str qual t)
  cells : ∀ (i : Nat) (x : Str) (c : Addr), cl[i]? = some (x, c) → ∃ v u o, fvs[i]? = some v ∧ RelV v u ∧ H c = some (fzn o) ∧ o.data = .cell (some u)
  len : cl.length = fvs.length
  nda : (cl.map (·.2)).Nodup
structure CloOk (P : Program) (w : World) (K : PySem.W.Frag) (mg : Str → Option Value) (base : Heap) (k : Nat) (name qual : Str) (st : Stmt) (fr : List Str) (fvs : List V) (ps : List Str) (sp : Sp) : Prop where
  len : ∀ vs H Q E, sp vs H Q E → vs.length = ps.length
  run : ∀ (A : Around) (outer : List Env) (s : Shared) (H : Hp) (f : Addr) (cl : List (Str × Addr)) (us : List Value) (vs : List V) (Q : VK) (E : XK), Room k A → Env0 P w K mg base A outer s H → CloAt H f name qual st cl fvs → cl.map (·.1) = fr → Vals vs us → sp vs H Q E →
    codeAny (model P w) A (.call (.ref f) ⟨us, []⟩) (CR CX0 outer P w H s Q E) s
def cxClo (P : Program) (w : World) (K : PySem.W.Frag) (mg : Str → Option Value) (base : Heap) (N : List Str) (qual : Str) (scope : Scope) (f : Addr) (cd : Value) (cl : List (Str × Addr)) (A : Around) (outer : List Env) (s : Shared) (H : Hp) : Cx where
  prog := P
  w := w
  K := K
  mg := mg
  base := base
  A := A.deeper (PySem.W.envX qual scope s.heap.objs.size f cd cl)
  N := N
  s₀ := s
  H₀ := H
  env := PySem.W.envX qual scope s.heap.objs.size f cd cl
  outer := outer
  stack := PySem.W.envX qual scope s.heap.objs.size f cd cl :: outer
  ex := []
  calm := true
  fn := fun _ => false
  pn := []
  xe := fun _ _ => False
def startC (N : List Str) (vs fvs : List V) : St := vs.map some ++ List.replicate (N.length - vs.length - fvs.length) none ++ fvs.map some
theorem lookup_zip_rev {l : List (Str × Value)} (nd : (l.map (·.1)).Nodup) {x : Str} {u : Value} (h : (x, u) ∈ l) : l.reverse.lookup x = some u := by
  have nd' : (l.reverse.map (·.1)).Nodup := by rw [List.map_reverse]; exact List.pairwise_reverse.mpr (List.Pairwise.imp (fun h => Ne.symm h) nd)
  have h' : (x, u) ∈ l.reverse := List.mem_reverse.mpr h
  generalize l.reverse = m at nd' h'
  induction m with
  | nil => cases h'
  | cons y r ih =>
    rw [List.map_cons, List.nodup_cons] at nd'
    rcases List.mem_cons.mp h' with e | e
    · subst e; simp
    · have ne : x ≠ y.1 := fun z => nd'.1 (by rw [← z]; exact List.mem_map_of_mem e)
      rw [List.lookup_cons, beq_false_of_ne ne]
      exact ih nd'.2 e
section
variable {P : Program} {w : World} {K : PySem.W.Frag} {mg : Str → Option Value} {base : Heap} {k : Nat} {name qual : Str} {st : Stmt} {fr : List Str} {fvs : List V} {N ps : List Str} {sp : Sp}
theorem CloAt.frz {H : Hp} {f : Addr} {cl : List (Str × Addr)} (C : CloAt H f name qual st cl fvs) : Frz H (cl.map (·.2)) := fun a ha => by
  obtain ⟨⟨x, c⟩, hm, rfl⟩ := List.mem_map.mp ha
  obtain ⟨i, hi, e⟩ := List.getElem_of_mem hm
  obtain ⟨_, _, o, _, _, z, _⟩ := C.cells i x c (by rw [List.getElem?_eq_getElem hi, e])
  exact ⟨o, z⟩
theorem addr_inj : ∀ {l : List (Str × Addr)} {x y : Str} {c : Addr}, (l.map (·.2)).Nodup → (x, c) ∈ l → (y, c) ∈ l → x = y
  | q :: l, x, y, c, nd, h1, h2 => by
    rw [List.map_cons, List.nodup_cons] at nd
    rcases List.mem_cons.mp h1 with e1 | e1 <;> rcases List.mem_cons.mp h2 with e2 | e2
    · rw [← e1] at e2; cases e2; rfl
    · exact absurd (List.mem_map_of_mem (f := (·.2)) e2) (by rw [← e1] at nd; exact nd.1)
    · exact absurd (List.mem_map_of_mem (f := (·.2)) e1) (by rw [← e2] at nd; exact nd.1)
    · exact addr_inj nd.2 e1 e2
theorem inv_clo {f : Addr} {cd : Value} {cl : List (Str × Addr)} {A : Around} {outer : List Env} {s : Shared} {H : Hp} {us : List Value} {vs : List V} {h₁ : Heap} {tk : Nat} (S : CloScope N ps fr (defScope st)) (hd : A.handled = none) (e0 : Env0 P w K mg base A outer s H) (C : CloAt H f name qual st cl fvs)
    (hcl : cl.map (·.1) = fr) (hl : vs.length = ps.length) (r : Vals vs us) (hns : h₁.Ns s.heap.objs.size (fun x => (ps.zip us).reverse.lookup x)) (hk : ∀ b o, s.heap.get? b = some o → h₁.get? b = some o) :
    Inv (cxClo P w K mg base N qual (defScope st) f cd cl A outer s (less H (cl.map (·.2)))) [] (startC N vs fvs) (less H (cl.map (·.2))) { s with heap := h₁, toks := tk } := by
  have noA : ∀ b : Addr, b ∉ ([] : List Addr) := fun b => by simp
  have frl : fr.length = fvs.length := by rw [← hcl, List.length_map]; exact C.len
  have ndN : (cl.map (·.1)).Nodup := by rw [hcl, ← S.suf]; exact S.nd.sublist (List.drop_sublist _ _)
  have lk : ∀ {x : Str} {c : Addr}, (x, c) ∈ cl → cl.lookup x = some c := fun hm => lookup_of_mem_nodup ndN hm
  have mem : ∀ {x : Str} {c : Addr}, cl.lookup x = some c → (x, c) ∈ cl := fun h => PySem.mem_of_lookup h
  have cellAt : ∀ {x : Str} {c : Addr}, (x, c) ∈ cl → ∃ i v u o, cl[i]? = some (x, c) ∧ fvs[i]? = some v ∧ RelV v u ∧ H c = some (fzn o) ∧ o.data = .cell (some u) := fun {x c} hm => by
    obtain ⟨i, hi, e⟩ := List.getElem_of_mem hm
    have e' : cl[i]? = some (x, c) := by rw [List.getElem?_eq_getElem hi, e]
    obtain ⟨v, u, o, z⟩ := C.cells i x c e'
    exact ⟨i, v, u, o, e', z⟩
  have isCell : ∀ {x : Str} {c : Addr}, (x, c) ∈ cl → ∃ u, h₁.IsCell c (some u) := fun hm => by
    obtain ⟨i, v, u, o, _, _, _, z1, z2⟩ := cellAt hm
    exact ⟨u, o, hk _ _ (fzn_get e0.hok z1), z2⟩
  refine ⟨⟨e0.mod, S.kind, rfl, rfl, Nat.le_refl _, fun y z c h1 h2 => ?_, fun y hy => ?_, fun y c h _ => ?_, fun _ => hd, Around.frames_deeper e0.frames, .inr ⟨rfl, rfl⟩, fun b z => absurd z (noA b), fun b o e => ⟨(e0.bs b o e).1, less_none (e0.bs b o e).2⟩, e0.bsz, fun b _ _ => noA b, fun b z => absurd z (noA b), e0.funs, fun b hb => less_none (e0.frf b hb)⟩,
    rfl, e0.bare, Un.kept hk, ⟨_, hns, fun i y v h1 h2 h3 => ?_⟩, fun y c h => ?_, less_none (e0.hok.fresh (Nat.le_refl _)), fun y c h => less_in (List.mem_map_of_mem (mem h)), fun p hp => absurd (show p ∈ ([] : List (Addr × Obj)) from hp) (by simp), (e0.hok.less C.frz).kept hk, ?_⟩
  · exact addr_inj C.nda (mem h1) (mem h2)
  · have hy : (defScope st).names.lookup y = some .cell ∨ (defScope st).names.lookup y = some .free := hy
    rcases hy with hy | hy
    · exact absurd rfl (S.nocell _ (PySem.mem_of_lookup hy))
    · have hf := S.free _ (PySem.mem_of_lookup hy) rfl
      rw [← hcl] at hf
      obtain ⟨⟨x, c⟩, hm, e⟩ := List.mem_map.mp hf
      cases e
      exact ⟨c, lk hm⟩
  · exact absurd h (by simp [cxClo])
  · have h1 : N[i]? = some y := h1
    have sl := S.len
    by_cases hi : i < vs.length
    · have ha : vs[i]? = some v := by
        unfold startC at h2
        rw [List.append_assoc, List.getElem?_append_left (by simpa using hi), List.getElem?_map] at h2
        cases e : vs[i]? with
        | none => rw [e] at h2; cases h2
        | some a => rw [e] at h2; cases h2; rfl
      obtain ⟨u, hu, rv⟩ := r.get ha
      have hp : ps[i]? = some y := by rw [← S.pre, List.getElem?_take_of_lt (by omega)]; exact h1
      have ndP : ps.Nodup := by rw [← S.pre]; exact S.nd.sublist (List.take_sublist _ _)
      refine ⟨u, rv, .inl ⟨S.par y (List.mem_of_getElem? hp), ?_⟩⟩
      have hul : us.length = ps.length := by rw [← r.length]; exact hl
      refine lookup_zip_rev (l := ps.zip us) ?_ ?_
      · rw [List.map_fst_zip (by omega)]; exact ndP
      · refine List.mem_of_getElem? (i := i) ?_
        rw [List.getElem?_zip_eq_some]; exact ⟨hp, hu⟩
    · have hi2 : N.length - fvs.length ≤ i := by
        unfold startC at h2
        rcases Nat.lt_or_ge i (N.length - fvs.length) with z | z
        · rw [List.getElem?_append_left (by simp; omega), List.getElem?_append_right (by simpa using hi), List.getElem?_replicate] at h2
          split at h2 <;> cases h2
        · exact z
      have hf : fvs[i - (N.length - fvs.length)]? = some v := by
        unfold startC at h2
        rw [List.getElem?_append_right (by simp; omega), List.getElem?_map] at h2
        have e1 : i - (List.map some vs ++ List.replicate (N.length - vs.length - fvs.length) none).length = i - (N.length - fvs.length) := by simp; omega
        rw [e1] at h2
        cases e : fvs[i - (N.length - fvs.length)]? with
        | none => rw [e] at h2; cases h2
        | some a => rw [e] at h2; cases h2; rfl
      have hy : fr[i - (N.length - fvs.length)]? = some y := by
        rw [← S.suf, List.getElem?_drop, frl, show N.length - fvs.length + (i - (N.length - fvs.length)) = i by omega]
        exact h1
      rw [← hcl, List.getElem?_map] at hy
      cases e : cl[i - (N.length - fvs.length)]? with
      | none => rw [e] at hy; cases hy
      | some q =>
        obtain ⟨x, c⟩ := q
        rw [e] at hy; cases hy
        obtain ⟨v', u, o, z1, z2, z3, z4⟩ := C.cells _ _ _ e
        rw [hf] at z1; cases z1
        have hm := List.mem_of_getElem? e
        refine ⟨u, z2, .inr ⟨.inr (S.fvis _ (by rw [← hcl]; exact List.mem_map_of_mem hm)), c, lk hm, o, hk _ _ (fzn_get e0.hok z3), z4⟩⟩
  · obtain ⟨u, z⟩ := isCell (mem h)
    exact ⟨_, z⟩
  · have := S.len
    show (startC N vs fvs).length = N.length
    simp only [startC, List.length_append, List.length_map, List.length_replicate]; omega
/-- THE RULE: a def within a def, by its body -/
theorem clo_of (S : CloScope N ps fr (defScope st)) (len : ∀ vs H Q E, sp vs H Q E → vs.length = ps.length)
    (hbind : ∀ (cl : List (Str × Addr)) (doc pm cdv ct : Value) (us : List Value), us.length = ps.length → bindArgs (PySem.W.fnX name qual (defArgs st) (defBody st) (defScope st) cl .none .none doc pm none cdv ct) ⟨us, []⟩ = pure (ps.zip us))
    (hbody : ∀ (f : Addr) (cdv : Value) (cl : List (Str × Addr)) (A : Around) (outer : List Env) (s : Shared) (H : Hp) (vs : List V) (Q : VK) (E : XK), Room k (A.deeper (PySem.W.envX qual (defScope st) s.heap.objs.size f cdv cl)) → cl.map (·.1) = fr → Frz H (cl.map (·.2)) → sp vs H Q E →
      ∃ t, PSs (cxClo P w K mg base N qual (defScope st) f cdv cl A outer s (less H (cl.map (·.2)))) (defBody st) t ∧
        t { nx := fun _ H' => (∀ a ∈ cl.map (·.2), H' a = none) → Q .non (more H' (cl.map (·.2)) H), rt := fun v H' => (∀ a ∈ cl.map (·.2), H' a = none) → Q v (more H' (cl.map (·.2)) H) } (startC N vs fvs) (less H (cl.map (·.2)))) :
    CloOk P w K mg base (k + 1) name qual st fr fvs ps sp := by
  refine ⟨len, fun A outer s H f cl us vs Q E hr e0 C hcl r hsp => ?_⟩
  have hl := len _ _ _ _ hsp
  have lim : s.heap.NoLimit := e0.mod.nolimit.keeps fun b o e => (e0.bs b o e).1
  obtain ⟨oc, od, doc, pm, cdv, ct, sl, hf, c, o, vs', t', hcd, hc, hd, hv⟩ := C.fn
  have hul : us.length = ps.length := by rw [← r.length]; exact hl
  have fz := C.frz
  refine codeAny_call_def (binds := ps.zip us) hr.depth (fzn_get e0.hok hf) rfl lim ⟨c, o, vs', t', hcd, fzn_get e0.hok hc, hd, hv⟩ rfl (.of_eq (hbind cl doc pm cdv ct us hul)) S.nocell (fun y hy => S.par y.1 (List.of_mem_zip (show (y.1, y.2) ∈ ps.zip us from hy)).1) (fun h₀ hns hk => ?_) S.co S.gen S.kind
  obtain ⟨t, ht, hq⟩ := hbody f cdv cl A outer s H vs Q E (hr.deeper _) hcl fz hsp
  have I := inv_clo (h₁ := h₀) (tk := s.toks + (ps.zip us).length) (cd := cdv) S hr.hd e0 C hcl hl r hns hk
  refine wpAny_mono (ht [] _ _ _ _ I hq) (fun fl s' hs => ?_) fun e s' hs => False.elim hs
  have nofs : ∀ a ∈ cl.map (·.2), a ∉ frs outer := fun a ha z => by
    obtain ⟨o', z'⟩ := fz a ha
    rw [e0.frf a z] at z'; cases z'
  have fin : ∀ {σ' : St} {H' : Hp} {v : V} {u : Value}, Inv (cxClo P w K mg base N qual (defScope st) f cdv cl A outer s (less H (cl.map (·.2)))) [] σ' H' s' → RelV v u → ((∀ a ∈ cl.map (·.2), H' a = none) → Q v (more H' (cl.map (·.2)) H)) → CE outer P w H s Q u s' :=
    fun {σ' H' v u} J rv q => by
      have no : ∀ a ∈ cl.map (·.2), H' a = none := fun a ha => by
        obtain ⟨o', z⟩ := fz a ha
        exact J.base.free a o' (fzn_get e0.hok z) (less_in ha) (by simp [cxClo])
      refine ⟨v, _, J.os, J.bare, J.base.more e0.hok fz nofs, J.hok.more no fun a ha => ?_, rv, q no⟩
      obtain ⟨o', z⟩ := fz a ha
      exact ⟨o', z, J.base.keep a o' (fzn_get e0.hok z) (less_in ha) (nofs a ha) (by simp [cxClo])⟩
  cases fl with
  | ret u =>
    obtain ⟨v, σ', H', J, rv, q⟩ := hs
    exact fin J rv q
  | next =>
    obtain ⟨σ', H', J, q⟩ := hs
    exact fin (v := V.non) (u := Value.none) J rfl q
  | brk =>
    obtain ⟨_, _, _, q⟩ := hs
    exact False.elim q
  | cont =>
    obtain ⟨_, _, _, q⟩ := hs
    exact False.elim q
/-- f(..), f a name whose value is a closure that keeps a promise -/
def tCallC (i : Nat) (name qual : Str) (st : Stmt) (fr : List Str) (fvs : List V) (sp : Sp) (t : TA) : TE := fun σ H Q => ∃ f cl, σ[i]? = some (some (.ref f)) ∧ CloAt H f name qual st cl fvs ∧ cl.map (·.1) = fr ∧ t σ H fun vs H1 => CloAt H1 f name qual st cl fvs ∧ sp vs H1 Q E0
end
section
variable {X : Cx} {k j : Nat} {name qual : Str} {st : Stmt} {fr : List Str} {fvs : List V} {ps : List Str} {x : Str} {sp : Sp} {p pos : Pos} {e : Expr} {es : List Expr} {t : TA}
theorem CloAt.at' {H : Hp} {f : Addr} {cl : List (Str × Addr)} {P : Program} {w : World} {h : Heap} (C : CloAt H f name qual st cl fvs) (ok : HOk P w H h) : PySem.W.FnAt f h := by
  obtain ⟨oc, od, doc, pm, cdv, ct, sl, hf, _⟩ := C.fn
  exact ⟨oc, od, _, sl, fzn_get ok hf⟩
theorem pe_cc {i : Nat} (G : CloOk X.prog X.w X.K X.mg X.base k name qual st fr fvs ps sp) (hr : Room j X.A) (hk : k ≤ j) (hN : X.N[i]? = some x) (hv : Vis X.env.scope x) (ha : PA X (e :: es) t) (hd : (x == ("__debug__" : Str)) = false) (hcd : (x == ("__classdict__" : Str)) = false)
    (he : starEach (e :: es) X.env = (false, eval e X.env) :: starEach es X.env) (hpl : (backTo pos (starEach es X.env)).any (·.1) = false) :
    PE X (.Call (.Name x p) (e :: es) [] pos) (tCallC i name qual st fr fvs sp t) := by
  intro pins s σ H Q I h
  obtain ⟨f, cl, e1, C, hcl, h⟩ := h
  refine wpAny_Call_Name_kw (thn (pe_var (pos := p) hN hv hd hcd pins s σ H (fun v H1 => v = .ref f ∧ H1 = H) I ⟨_, e1, rfl, rfl⟩) fun u s1 ⟨v, H1, I1, r1, ev, eH⟩ => ?_)
  subst ev eH
  obtain rfl : u = Value.ref f := r1
  refine PySem.W.callWith_F (C.at' I1.hok) (thn (ha pos pins s1 σ H1 _ I1 h) fun us s2 ⟨vs, H2, I2, r, C2, q⟩ => ⟨C2.at' I2.hok, ?_⟩) he hpl
  refine wpAny_call (codeAny_mono (G.run X.A X.stack s2 H2 f cl us vs Q E0 (hr.mono hk) I2.env0 C2 hcl r q) fun r s' hq => ?_)
  cases r with
  | error e => exact False.elim hq
  | ok fl =>
    cases fl with
    | ret u => exact I2.after hq
    | next => exact False.elim hq
    | brk => exact False.elim hq
    | cont => exact False.elim hq
end
end L2
namespace L2
open PySem PySem.Spec PyProof.Rows
def clOf (env : Env) (fr : List Str) : List (Str × Addr) := fr.map fun x => (x, (env.cells.lookup x).getD 0)
/-- a def that was made in this body: its object and its code are frozen, its cells are the body's own -/
structure MadeAt (env : Env) (H : Hp) (f : Addr) (name qual : Str) (st : Stmt) (fr : List Str) : Prop where
  fn : ∃ (oc : Value) (od : Option Addr) (doc pm cdv ct : Value) (sl : Array (Option Value)), H f = some (fzn ⟨oc, od, .func (PySem.W.fnX name qual (defArgs st) (defBody st) (defScope st) (clOf env fr) .none .none doc pm none cdv ct), sl⟩) ∧
    ∃ c o vs t, cdv = .ref c ∧ H c = some (fzn o) ∧ o.data = .fields vs ∧ vs[1]? = some (.str qual t)
section
variable {X : Cx} {pins : List (Addr × Obj)} {σ : St} {H H2 : Hp} {s s' : Shared} {as : List Addr}
/-- H2: H and frozen things of the addresses as, untracked in H -/
structure Plus (X : Cx) (H H2 : Hp) (as : List Addr) (h : Heap) : Prop where
  out : ∀ b, b ∉ as → H2 b = H b
  no : ∀ a ∈ as, H a = none
  at' : ∀ a ∈ as, ∃ o, H2 a = some (fzn o) ∧ h.get? a = some o
  nob : ∀ a ∈ as, X.base.get? a = none
  nof : ∀ a ∈ as, a ∉ frs X.stack
theorem Plus.ok (p : Plus X H H2 as s.heap) (ok : HOk X.prog X.w H s.heap) : HOk X.prog X.w H2 s.heap := fun b u e => by
  by_cases hb : b ∈ as
  · obtain ⟨o, e1, e2⟩ := p.at' b hb
    rw [e1] at e; cases e
    exact fzn_ok e2
  · rw [p.out b hb] at e
    refine (ok b u e).stay (fun c v _ q => q) (fun c q => ?_) fun c xs q => ?_
    · rw [p.out c fun z => ?_]; exact q
      rw [p.no c z] at q; cases q
    · rw [p.out c fun z => ?_]; exact q
      rw [p.no c z] at q; cases q
theorem Plus.env0 (p : Plus X H H2 as s.heap) (I : Inv X pins σ H s) : Env0 X.prog X.w X.K X.mg X.base X.A X.stack s H2 := by
  have e0 := I.env0
  refine ⟨e0.frames, e0.mod, fun b o e => ⟨(e0.bs b o e).1, ?_⟩, e0.bsz, e0.funs, fun b hb => ?_, p.ok e0.hok, e0.bare⟩
  · rw [p.out b fun z => ?_]; exact (e0.bs b o e).2
    rw [p.nob b z] at e; cases e
  · rw [p.out b fun z => p.nof b z hb]; exact e0.frf b hb
/-- behind the call: they are untracked again -/
theorem Plus.after {Q : VK} {u : Value} (p : Plus X H H2 as s.heap) (I : Inv X pins σ H s) (h : CE X.stack X.prog X.w H2 s (fun v H' => Q v (less H' as)) u s') : EP X pins σ Q u s' := by
  obtain ⟨v, H', os, bare, un, hok, r, q⟩ := h
  have fz : ∀ a ∈ as, ∃ o, H' a = some (fzn o) ∧ s.heap.get? a = some o := fun a ha => by
    obtain ⟨o, e1, e2⟩ := p.at' a ha
    exact ⟨o, un.frzs a o _ e1, e2⟩
  refine I.after ⟨v, less H' as, os, bare, ⟨fun b o e n hb hx => ?_, fun b o e n hb hx => ?_, fun b o e n hx => ?_, fun b o e hx => un.there b o e hx, fun b xs e => ?_, fun b o x e => ?_, fun b ps e => ?_⟩, hok.less fun a ha => let ⟨o, e, _⟩ := fz a ha; ⟨o, e⟩, r, q⟩
  · by_cases z : b ∈ as
    · obtain ⟨o', e1, e2⟩ := fz b z
      rw [e] at e2; cases e2
      exact fzn_get hok e1
    · exact un.keep b o e (by rw [p.out b z]; exact n) hb hx
  · have z : b ∉ as := fun z => p.nof b z hb
    exact un.slot b o e (by rw [p.out b z]; exact n) hb hx
  · by_cases z : b ∈ as
    · exact less_in z
    · exact less_none (un.free b o e (by rw [p.out b z]; exact n) hx)
  · have z : b ∉ as := fun z => by rw [p.no b z] at e; cases e
    rw [less_out z]; exact un.tups b xs (by rw [p.out b z]; exact e)
  · have z : b ∉ as := fun z => by rw [p.no b z] at e; cases e
    rw [less_out z]; exact un.frzs b o x (by rw [p.out b z]; exact e)
  · have z : b ∉ as := fun z => by rw [p.no b z] at e; cases e
    rw [less_out z]; exact un.tbls b ps (by rw [p.out b z]; exact e)
end
/-- g(.., f, ..): f a closure of this body over the names fr, which stand at the places ix -/
def tCallX (X : Cx) (name qual : Str) (st : Stmt) (fr : List Str) (ix : List Nat) (sp : Sp) (t : TA) : TE := fun σ H Q => t σ H fun vs H1 => ∃ (f : Addr) (fvs : List V), MadeAt X.env H1 f name qual st fr ∧ (∀ (i j : Nat), ix[i]? = some j → ∃ v, σ[j]? = some (some v) ∧ fvs[i]? = some v) ∧ fvs.length = fr.length ∧
  ∀ H2, (∀ b, b ∉ (clOf X.env fr).map (·.2) → H2 b = H1 b) → (∀ b ∈ (clOf X.env fr).map (·.2), H1 b = none) → CloAt H2 f name qual st (clOf X.env fr) fvs → sp vs H2 (fun v H' => Q v (less H' ((clOf X.env fr).map (·.2)))) E0
section
variable {X : Cx} {k j : Nat} {g : Addr} {fd : FuncData} {name qual : Str} {st : Stmt} {fr : List Str} {ix : List Nat} {ps : List Str} {x : Str} {sp : Sp} {p pos : Pos} {e : Expr} {es : List Expr} {t : TA}
theorem pe_callX (G : Got X.prog X.w X.K X.mg X.base k x ps sp) (hr : Room j X.A) (hk : k ≤ j) (hg : Gl X x) (ha : PA X (e :: es) t) (hdb : (x == ("__debug__" : Str)) = false) (ndf : fr.Nodup) (hix : ix.length = fr.length)
    (hfr : ∀ (i : Nat) (y : Str), fr[i]? = some y → ∃ j, ix[i]? = some j ∧ X.N[j]? = some y ∧ X.env.scope.names.lookup y = some .cell ∧ X.fn y = true)
    (he : starEach (e :: es) X.env = (false, eval e X.env) :: starEach es X.env) (hpl : (backTo pos (starEach es X.env)).any (·.1) = false) :
    PE X (.Call (.Name x p) (e :: es) [] pos) (tCallX X name qual st fr ix sp t) := by
  intro pins s σ H Q I h
  obtain ⟨f, fd, F, hm, kp, b⟩ := G.ex
  refine wpAny_Call_Name_kw (ld_glob I hg hm ?_ hdb)
  refine PySem.W.callWith_K (h₀ := X.base) I.ok.mod.kin kp (thn (ha pos pins s σ H _ I h) fun us s1 ⟨vs, H1, I1, r, f', fvs, M, hv, hfl, q⟩ => ⟨I1.kIn, ?_⟩) he hpl
  -- the cells of the captured names
  have cells : ∀ (i : Nat) (y : Str), fr[i]? = some y → ∃ v u c o, fvs[i]? = some v ∧ RelV v u ∧ X.env.cells.lookup y = some c ∧ s1.heap.get? c = some o ∧ o.data = .cell (some u) ∧ H1 c = none ∧ X.s₀.heap.objs.size ≤ c := fun i y hy => by
    obtain ⟨j, h1, h2, h3, h4⟩ := hfr i y hy
    obtain ⟨v, h5, h6⟩ := hv i j h1
    obtain ⟨m, _, hl⟩ := I1.loc
    obtain ⟨u, rv, lk⟩ := hl j y v h2 h5 (.inr (.inl h3))
    rcases lk with ⟨z, _⟩ | ⟨_, c, z1, o, z2, z3⟩
    · have z' : X.env.scope.names.lookup y = some .local := z
      rw [h3] at z'; cases z'
    · exact ⟨v, u, c, o, h6, rv, z1, z2, z3, I1.freeC y c z1, I1.ok.cab y c h4 z1⟩
  have mem : ∀ a ∈ (clOf X.env fr).map (·.2), ∃ i y, fr[i]? = some y ∧ X.env.cells.lookup y = some a := fun a ha => by
    obtain ⟨q, hq, rfl⟩ := List.mem_map.mp ha
    obtain ⟨y, hy, rfl⟩ := List.mem_map.mp hq
    obtain ⟨i, hi, e1⟩ := List.getElem_of_mem hy
    have e2 : fr[i]? = some y := by rw [List.getElem?_eq_getElem hi, e1]
    obtain ⟨v, u, c, o, _, _, z1, _⟩ := cells i y e2
    exact ⟨i, y, e2, by rw [z1]; rfl⟩
  have atc : ∀ a ∈ (clOf X.env fr).map (·.2), ∃ o, s1.heap.get? a = some o ∧ H1 a = none ∧ X.s₀.heap.objs.size ≤ a := fun a ha => by
    obtain ⟨i, y, h1, h2⟩ := mem a ha
    obtain ⟨v, u, c, o, _, _, z1, z2, _, z3, z4⟩ := cells i y h1
    rw [h2] at z1; cases z1
    exact ⟨o, z2, z3, z4⟩
  let H2 : Hp := fun b => if b ∈ (clOf X.env fr).map (·.2) then (s1.heap.get? b).map fzn else H1 b
  have h2in : ∀ a ∈ (clOf X.env fr).map (·.2), ∀ o, s1.heap.get? a = some o → H2 a = some (fzn o) := fun a ha o e => by
    show (if a ∈ (clOf X.env fr).map (·.2) then (s1.heap.get? a).map fzn else H1 a) = _
    rw [if_pos ha, e]; rfl
  have h2out : ∀ b, b ∉ (clOf X.env fr).map (·.2) → H2 b = H1 b := fun b hb => if_neg hb
  have hno : ∀ b ∈ (clOf X.env fr).map (·.2), H1 b = none := fun b hb => let ⟨_, _, z, _⟩ := atc b hb; z
  have h2some : ∀ b u, H1 b = some u → H2 b = some u := fun b u e => by
    rw [h2out b fun z => ?_]; exact e
    rw [hno b z] at e; cases e
  have p2 : Plus X H1 H2 ((clOf X.env fr).map (·.2)) s1.heap := by
    refine ⟨h2out, hno, fun a ha => ?_, fun a ha => ?_, fun a ha z => ?_⟩
    · obtain ⟨o, e, _⟩ := atc a ha
      exact ⟨o, h2in a ha o e, e⟩
    · obtain ⟨o, _, _, z⟩ := atc a ha
      exact Heap.get?_none_of_le (Nat.le_trans I1.ok.bsz z)
    · obtain ⟨o, _, _, z4⟩ := atc a ha
      obtain ⟨i, y, _, h2⟩ := mem a ha
      rcases List.mem_cons.mp (I1.stkSub a z) with e | e
      · exact I1.cne y a h2 e
      · obtain ⟨_, o', ho, _⟩ := I1.ok.funs.mem e
        exact absurd (Nat.lt_of_lt_of_le (Heap.lt_size ho) z4) (Nat.lt_irrefl _)
  have C : CloAt H2 f' name qual st (clOf X.env fr) fvs := by
    obtain ⟨oc, od, doc, pm, cdv, ct, sl, m1, c, o, vs', t', m2, m3, m4⟩ := M.fn
    refine ⟨⟨oc, od, doc, pm, cdv, ct, sl, h2some _ _ m1, c, o, vs', t', m2, h2some _ _ m3, m4⟩, fun i y c hi => ?_, ?_, ?_⟩
    · unfold clOf at hi
      rw [List.getElem?_map] at hi
      cases e1 : fr[i]? with
      | none => rw [e1] at hi; cases hi
      | some y' =>
        rw [e1] at hi; cases hi
        obtain ⟨v, u, c, o, z0, z1, z2, z3, z4, _⟩ := cells i _ e1
        refine ⟨v, u, o, z0, z1, ?_, z4⟩
        have e3 : (X.env.cells.lookup y).getD 0 = c := by rw [z2]; rfl
        refine h2in _ (List.mem_map_of_mem (f := (·.2)) (List.mem_map_of_mem (f := fun x => (x, (X.env.cells.lookup x).getD 0)) (List.mem_of_getElem? e1))) o ?_
        show s1.heap.get? ((X.env.cells.lookup y).getD 0) = some o
        rw [e3]; exact z3
    · rw [clOf, List.length_map]; exact hfl.symm
    · rw [clOf, List.map_map]
      refine List.pairwise_map.mpr (List.Pairwise.imp_of_mem (fun {a b} ha hb hab e => ?_) ndf)
      obtain ⟨i, hi, ea⟩ := List.getElem_of_mem ha
      obtain ⟨j', hj, eb⟩ := List.getElem_of_mem hb
      obtain ⟨_, _, ca, _, _, _, za, _⟩ := cells i a (by rw [List.getElem?_eq_getElem hi, ea])
      obtain ⟨_, _, cb, _, _, _, zb, _⟩ := cells j' b (by rw [List.getElem?_eq_getElem hj, eb])
      have e' : ca = cb := by
        have e2 : (X.env.cells.lookup a).getD 0 = (X.env.cells.lookup b).getD 0 := e
        rw [za, zb] at e2; exact e2
      exact hab (I1.ok.inj a b ca za (by rw [e']; exact zb))
  have hsp := q H2 h2out hno C
  have hl : us.length = ps.length := by rw [← r.length]; exact F.len _ _ _ _ hsp
  have hb := b s1 us I1.kIn (by rw [List.append_nil]; exact hl)
  rw [List.append_nil] at hb
  refine wpAny_call (codeAny_mono (F.run X.A X.stack s1 H2 ⟨us, []⟩ us vs _ E0 (hr.mono hk) (p2.env0 I1) hb r hsp) fun rr s' hq => ?_)
  cases rr with
  | error e => exact False.elim hq
  | ok fl =>
    cases fl with
    | ret u => exact p2.after I1 hq
    | next => exact False.elim hq
    | brk => exact False.elim hq
    | cont => exact False.elim hq
end
end L2
namespace L2
open PySem PySem.Spec PyProof.Rows
/-- the table of the code that holds the def: nothing is there yet, or the def's own code -/
def Tab (H : Hp) (T : Addr) (pos : Pos) (qual : Str) : Prop := ∃ ps, H T = some (.tbl ps) ∧ TriplesOk ps.toList ∧ (codeAmong pos ps.toList = none ∨ ∃ c o vs t, codeAmong pos ps.toList = some (.ref c) ∧ H c = some (fzn o) ∧ o.data = .fields vs ∧ vs[1]? = some (.str qual t))
/-- the module's builtins, as the making of a def reads them -/
def BltIn (mg : Str → Option Value) (h : Heap) : Prop := ∃ bm ob, mg "__builtins__" = some (.ref bm) ∧ bm ≠ builtinsNs ∧ bm ≠ mainGlobals ∧ h.get? bm = some ob ∧ ob.cls = .type "module" ∧ ob.dict = some builtinsNs ∧ ob.data = .plain
section
variable {P : Program} {w : World} {H : Hp} {h h' : Heap} {T c : Addr} {ps mo : Array Value} {oc : Obj} {fs ex : List Addr}
theorem Un.tab (hT : H T = some (.tbl ps)) (hc : H c = none) (hge : h.objs.size ≤ c) (hx : Heap.ExtBut T h h') (ht : h'.get? T = some (PySem.W.tabObj (ps ++ mo))) : Un fs ex H (upd (upd H T (.tbl (ps ++ mo))) c (fzn oc)) h h' := by
  have nT : ∀ b u, H b = some u → u ≠ .tbl ps → b ≠ T := fun b u e n z => by rw [z, hT] at e; exact n (Option.some.inj e).symm
  have nT0 : ∀ b, H b = none → b ≠ T := fun b e z => by rw [z, hT] at e; cases e
  have nc : ∀ b u, H b = some u → b ≠ c := fun b u e z => by rw [z, hc] at e; cases e
  have nc0 : ∀ b o, h.get? b = some o → b ≠ c := fun b o e => Nat.ne_of_lt (Nat.lt_of_lt_of_le (Heap.lt_size e) hge)
  refine ⟨fun b o e n _ _ => hx b o (nT0 b n) e, fun b o e n _ _ => ⟨o.slots, hx b o (nT0 b n) e⟩, fun b o e n _ => ?_, fun b o e _ => ?_, fun b xs e => ?_, fun b o u e => ?_, fun b qs e => ?_⟩
  · rw [upd_ne (nc0 b o e), upd_ne (nT0 b n)]; exact n
  · by_cases z : b = T
    · subst z; exact ⟨_, ht⟩
    · exact ⟨o, hx b o z e⟩
  · rw [upd_ne (nc b _ e), upd_ne (nT b _ e fun z => nomatch z)]; exact e
  · rw [upd_ne (nc b _ e), upd_ne (nT b _ e fun z => nomatch z)]; exact e
  · by_cases z : b = T
    · subst z
      rw [hT] at e; cases e
      exact ⟨mo, by rw [upd_ne (nc b _ hT), upd_same]⟩
    · exact ⟨#[], by rw [upd_ne (nc b _ e), upd_ne z, e]; simp⟩
theorem HOk.tab (ok : HOk P w H h) (hT : H T = some (.tbl ps)) (hge : h.objs.size ≤ c) (hx : Heap.ExtBut T h h') (ht : h'.get? T = some (PySem.W.tabObj (ps ++ mo))) (hoc : h'.get? c = some oc) : HOk P w (upd (upd H T (.tbl (ps ++ mo))) c (fzn oc)) h' := fun b u e => by
  have hc : H c = none := ok.fresh hge
  have nT : ∀ b u, H b = some u → u ≠ .tbl ps → b ≠ T := fun b u e n z => by rw [z, hT] at e; exact n (Option.some.inj e).symm
  have nc : ∀ b u, H b = some u → b ≠ c := fun b u e z => by rw [z, hc] at e; cases e
  by_cases h1 : b = c
  · subst h1; rw [upd_same] at e; cases e; exact fzn_ok hoc
  · rw [upd_ne h1] at e
    by_cases h2 : b = T
    · subst h2; rw [upd_same] at e; cases e; exact ht
    · rw [upd_ne h2] at e
      refine (ok b u e).stay (fun d v hd q => hx d v ?_ q) (fun d q => ?_) fun d xs q => ?_
      · rcases hd with rfl | hd
        · exact h2
        · exact nT d _ hd fun z => nomatch z
      · rw [upd_ne (nc d _ q), upd_ne (nT d _ q fun z => nomatch z)]; exact q
      · rw [upd_ne (nc d _ q), upd_ne (nT d _ q fun z => nomatch z)]; exact q
end
def tDef (X : Cx) (i : Nat) (T : Addr) (name qual : Str) (st : Stmt) (fr : List Str) (pos : Pos) : TS := fun D σ H => Tab H T pos qual ∧ ∀ f H', H f = none → MadeAt X.env H' f name qual st fr → Tab H' T pos qual → (∀ b u, b ≠ T → H b = some u → H' b = some u) → D.nx (σ.set i (some (.ref f))) H'
section
variable {X : Cx} {i : Nat} {T c : Addr} {name : Str} {params : Arguments} {body : List Stmt} {scope : Scope} {pos : Pos} {fr : List Str}
theorem ps_def (hN : X.N.Nodup) (hi : X.N[i]? = some name) (hl : Loc X.env.scope name) (hcode : X.env.code = .ref c) (hC : PySem.W.CodeHd X.base c T) (hB : BltIn X.mg X.base)
    (hcl : closureFor scope X.env = pure (clOf X.env fr)) (hd0 : params.defaults = []) (hk0 : params.kw_defaults = []) (ha : annTrees params none X.env = [])
    (hf : X.fn name = true ∨ X.env.scope.names.lookup name = some .local) :
    PS X (.FunctionDef name params body [] none [] scope none name pos) (tDef X i T name (qualnameIn X.env name name) (.FunctionDef name params body [] none [] scope none name pos) fr pos) := by
  intro pins s σ H D I h
  obtain ⟨⟨ps, hT, ht, hcase⟩, h⟩ := h
  have hTh : s.heap.get? T = some (PySem.W.tabObj ps) := I.hok T _ hT
  have C := hC.keeps I.bk
  have hg : s.heap.Ns mainGlobals X.mg := I.ok.mod.glob.keeps I.bk
  obtain ⟨bm, ob, b1, b2, b3, b4, b5, b6, b7⟩ := hB
  have hbm : bm ≠ T := fun z => by
    have e := I.bk _ _ b4
    rw [z, hTh] at e; cases e; cases b5
  have hgT : mainGlobals ≠ T := fun z => by
    obtain ⟨o, es, ep, e, hd, _⟩ := hg
    rw [z, hTh] at e; cases e; cases hd
  have BA : s.heap.BuiltinsAt X.mg T := ⟨bm, ob, b1, b2, b3, hbm, I.bk _ _ b4, b5, b6, b7⟩
  refine PySem.W.nestDef_K hd0 hk0 ha ?_
  rcases hcase with hn | ⟨c', o, vs, t, hc', hHc, hd, hv⟩
  · refine PySem.W.makeFunction_K (mg := X.mg) hcl I.ok.glob hg hcode C hTh ht hn hgT BA fun c' ctv doc h' tk hx hge hlt hrec htb => ?_
    obtain ⟨c2, oc, vs, t, e2, hoc, hd, hv⟩ := hrec
    cases e2
    have I1 : Inv X pins σ (upd (upd H T (.tbl (ps ++ #[rawInt pos.line, rawInt pos.col, .ref c']))) c' (fzn oc)) { s with heap := h', toks := tk } :=
      I.un (Un.tab hT (I.hok.fresh hge) hge hx htb) (I.hok.tab hT hge hx htb hoc)
    have I2 := I1.laid (a := h'.objs.size) (o := fzn (PySem.W.fnMade name (qualnameIn X.env name name) params body scope (clOf X.env fr) doc ((X.mg "__name__").getD .none) c' ctv)) (t' := tk) (h' := h'.push (PySem.W.fnMade name (qualnameIn X.env name name) params body scope (clOf X.env fr) doc ((X.mg "__name__").getD .none) c' ctv)) (fun b u e => Heap.get?_push_of_some _ e) (Nat.le_refl _) (fzn_ok (Heap.get?_push_size _ rfl))
    have hfn : H h'.objs.size = none := I.hok.fresh (Nat.le_of_lt (Nat.lt_of_le_of_lt hge hlt))
    have ncf : c' ≠ h'.objs.size := Nat.ne_of_lt hlt
    have nTf : T ≠ h'.objs.size := fun z => by rw [z, hfn] at hT; cases hT
    have nTc : T ≠ c' := fun z => by rw [z, I.hok.fresh hge] at hT; cases hT
    refine store_ok (v := .ref h'.objs.size) I2 hN hi hl rfl (fun s' I3 => ⟨_, _, I3, h _ _ hfn ⟨⟨_, _, doc, _, _, ctv, _, upd_same, c', oc, vs, t, rfl, ?_, hd, hv⟩⟩ ⟨ps ++ #[rawInt pos.line, rawInt pos.col, .ref c'], ?_, ?_, .inr ⟨c', oc, vs, t, by rw [Array.toList_append]; exact codeAmong_snoc _ ht hn, ?_, hd, hv⟩⟩ fun b u hb e => ?_⟩) hf
    · rw [upd_ne ncf, upd_same]
    · rw [upd_ne nTf, upd_ne nTc, upd_same]
    · rw [Array.toList_append]; exact TriplesOk_snoc _ _ _ _ ht
    · rw [upd_ne ncf, upd_same]
    · rw [upd_ne (fun z => by rw [z, hfn] at e; cases e), upd_ne (fun z => by rw [z, I.hok.fresh hge] at e; cases e), upd_ne hb]; exact e
  · refine PySem.W.makeFunction_hit (mg := X.mg) hcl I.ok.glob hg hcode C hTh ht hc' BA fun ctv doc h' tk hk hsz => ?_
    have hfn : H h'.objs.size = none := I.hok.fresh hsz
    have I2 := I.laid (a := h'.objs.size) (o := fzn (PySem.W.fnMade name (qualnameIn X.env name name) params body scope (clOf X.env fr) doc ((X.mg "__name__").getD .none) c' ctv)) (t' := tk) (h' := h'.push (PySem.W.fnMade name (qualnameIn X.env name name) params body scope (clOf X.env fr) doc ((X.mg "__name__").getD .none) c' ctv)) (fun b u e => Heap.get?_push_of_some _ (hk b u e)) hsz (fzn_ok (Heap.get?_push_size _ rfl))
    have keep : ∀ b u, H b = some u → upd H h'.objs.size (fzn (PySem.W.fnMade name (qualnameIn X.env name name) params body scope (clOf X.env fr) doc ((X.mg "__name__").getD .none) c' ctv)) b = some u := fun b u e => by
      rw [upd_ne (fun z => by rw [z, hfn] at e; cases e)]; exact e
    exact store_ok (v := .ref h'.objs.size) I2 hN hi hl rfl (fun s' I3 => ⟨_, _, I3, h _ _ hfn ⟨⟨_, _, doc, _, _, ctv, _, upd_same, c', o, vs, t, rfl, keep _ _ hHc, hd, hv⟩⟩ ⟨ps, keep _ _ hT, ht, .inr ⟨c', o, vs, t, hc', keep _ _ hHc, hd, hv⟩⟩ fun b u _ e => keep b u e⟩) hf
end
end L2
namespace L2
open PySem PySem.Spec PyProof.Rows
/-- tracked at the entry: the script (known to the object), the tables (empty) -/
structure EntryT (tabs : List (Addr × Addr)) (K : PySem.W.Frag) (a : Addr) (H : Hp) : Prop where
  only : ∀ b, H b = none ∨ (∃ o xs, H b = some (.frz o (.lst xs))) ∨ (b ∈ tabs.map (·.2) ∧ H b = some (.tbl #[]))
  tab : ∀ q ∈ tabs, H q.2 = some (.tbl #[])
def startH (tabs : List (Addr × Addr)) (K : PySem.W.Frag) (a : Addr) (o : Obj) (xs : List V) : Hp := fun b =>
  if b ∈ tabs.map (·.2) then some (.tbl #[]) else if b = a then (if (K.lookup a).isSome then none else some (.frz o (.lst xs))) else none
section
variable {P : Program} {w : World} {K : PySem.W.Frag} {mg mb : Str → Option Value} {k : Nat} {fa a : Addr} {fd : FuncData} {x : Str} {sp : Sp} {s₁ : Shared} {vs : List Value} {ns : List Int} {tabs : List (Addr × Addr)}
theorem law_callT (KX : K.In s₁.heap) (hns : s₁.heap.Ns mainGlobals mg) (hb : s₁.heap.Ns builtinsNs mb) (hbb : ∀ x : Str, x ≠ "__name__" → mb x = bootBuiltins x) (hlim : s₁.heap.NoLimit) (hg : s₁.gens = #[])
    (ha : s₁.heap.get? a = some { cls := .type "list", data := .seq vs.toArray }) (hi : IntsAre vs ns) (hl : ns.length ≤ sizeLine) (hr : Room k callerA)
    (hT : PySem.W.TabsAt tabs s₁.heap) (hK : PySem.W.noTabs K = true) (hB : BltIn mg s₁.heap)
    (F : ∀ base : Heap, K.In base → base.Ns mainGlobals mg → (∀ q ∈ tabs, PySem.W.CodeHd base q.1 q.2) → BltIn mg base → FnOk P w K mg base CX0 k fa fd [x] sp) (hbind : ∀ (s : Shared) (u : Value), BindsTo s fd ⟨[u], []⟩ [(x, u)])
    (hsp : ∀ H : Hp, EntryT tabs K a H → SqL K H a (ns.map V.int) → sp [.ref a] H (fun v _ => v = .bl true) fun _ _ _ => False) :
    codeAny (model P w) callerA (.call (.ref fa) ⟨[.ref a], []⟩) (fun r s' => r = .ok (.ret (.bool true)) ∧ OldK s₁.heap s'.heap ∧ s'.os = s₁.os ∧ AllBare s'.gens) s₁ := by
  generalize hO : ({ cls := .type "list", data := .seq vs.toArray } : Obj) = oA at ha
  have dA : oA.data = .seq vs.toArray 0 ∧ oA.cls = .type "list" ∧ oA.dict = none := by rw [← hO]; exact ⟨rfl, rfl, rfl⟩
  have rv := vals_ints hi
  have tabAt : ∀ b ∈ tabs.map (·.2), s₁.heap.get? b = some (PySem.W.tabObj #[]) := fun b hb => by
    obtain ⟨q, hq, rfl⟩ := List.mem_map.mp hb
    exact (hT q hq).2
  have aT : a ∉ tabs.map (·.2) := fun z => by
    have e := tabAt a z
    rw [ha] at e
    have := dA.2.1
    rw [Option.some.inj e] at this; cases this
  obtain ⟨H, eH⟩ : ∃ H, H = startH tabs K a oA (ns.map V.int) := ⟨_, rfl⟩
  have inT : ∀ b ∈ tabs.map (·.2), H b = some (.tbl #[]) := fun b hb => by rw [eH]; exact if_pos hb
  have atA : H a = if (K.lookup a).isSome then none else some (.frz oA (.lst (ns.map V.int))) := by
    rw [eH]; unfold startH; rw [if_neg aT, if_pos rfl]
  have off : ∀ b, b ∉ tabs.map (·.2) → b ≠ a → H b = none := fun b h1 h2 => by rw [eH]; unfold startH; rw [if_neg h1, if_neg h2]
  -- what is tracked is a table or the script
  have free : ∀ {b : Addr} {o : Obj}, s₁.heap.get? b = some o → o ≠ PySem.W.tabObj #[] → (b = a → (K.lookup a).isSome = true) → H b = none := fun {b o} e h1 h2 => by
    by_cases z : b ∈ tabs.map (·.2)
    · rw [tabAt b z] at e; exact absurd (Option.some.inj e).symm h1
    · by_cases y : b = a
      · subst y; rw [atA, if_pos (h2 rfl)]
      · exact off b z y
  have notA : ∀ {b : Addr} {o : Obj}, s₁.heap.get? b = some o → o.cls ≠ .type "list" → b ≠ a := fun {b o} e h1 z => by
    rw [z, ha] at e; exact h1 (by rw [← Option.some.inj e]; exact dA.2.1)
  have get : ∀ {b : Addr} {o : Obj}, s₁.heap.get? b = some o → H b = none → (hidT s₁.heap H).get? b = some o := fun e n => hidT_get e n
  have nsK : ∀ {b : Addr} {m : Str → Option Value}, s₁.heap.Ns b m → (hidT s₁.heap H).Ns b m := fun {b m} ⟨o, es, ep, e, d, r⟩ =>
    ⟨o, es, ep, get e (free e (fun z => by rw [z] at d; cases d) fun z => by
      rw [z, ha] at e
      have d' := dA.1
      rw [Option.some.inj e, d] at d'; cases d'), d, r⟩
  have kb : K.In (hidT s₁.heap H) := fun b o e => get (KX b o e) (free (KX b o e) (fun z => by
      have h2 := List.all_eq_true.mp hK (b, o) (PySem.W.mem_of_lookupK e)
      subst z
      exact absurd (show false = true from h2) Bool.false_ne_true) fun z => by rw [← z, e]; rfl)
  have cds : ∀ q ∈ tabs, PySem.W.CodeHd (hidT s₁.heap H) q.1 q.2 := fun q hq => by
    obtain ⟨o, us, file, tf, flags, tg, inF, text, tt, e1, r1, r2⟩ := (hT q hq).1
    refine ⟨o, us, file, tf, flags, tg, inF, text, tt, get e1 (free e1 (fun z => by rw [z] at r1; cases r1) fun z => absurd z (notA e1 (by rw [r1]; decide))), r1, r2⟩
  have bl : BltIn mg (hidT s₁.heap H) := by
    obtain ⟨bm, ob, b1, b2, b3, b4, b5, b6⟩ := hB
    exact ⟨bm, ob, b1, b2, b3, get b4 (free b4 (fun z => by rw [z] at b5; cases b5) fun z => absurd z (notA b4 (by rw [b5]; decide))), b5, b6⟩
  have hok : HOk P w H s₁.heap := fun b u e => by
    by_cases z : b ∈ tabs.map (·.2)
    · rw [inT b z] at e; cases e; exact tabAt b z
    · by_cases y : b = a
      · subst y
        rw [atA] at e
        split at e
        · cases e
        · cases e
          refine ⟨ha, ?_⟩
          subst hO
          exact ⟨by rw [List.length_map]; exact hl, vs, _, rv, ha⟩
      · rw [off b z y] at e; cases e
  have ent : EntryT tabs K a H := ⟨fun b => by
    by_cases z : b ∈ tabs.map (·.2)
    · exact .inr (.inr ⟨z, inT b z⟩)
    · by_cases y : b = a
      · subst y
        cases hk : (K.lookup b).isSome with
        | true => exact .inl (by rw [atA, hk]; rfl)
        | false => exact .inr (.inl ⟨_, _, by rw [atA, hk]; rfl⟩)
      · exact .inl (off b z y), fun q hq => inT _ (List.mem_map_of_mem hq)⟩
  have sq : SqL K H a (ns.map V.int) := by
    cases hk : K.lookup a with
    | some o =>
      have e := KX a o hk
      rw [ha] at e
      obtain rfl := Option.some.inj e
      exact .inr ⟨_, vs.toArray, 0, hk, dA.2.1, dA.2.2, dA.1, by rw [List.size_toArray, hi.length]; exact hl, by simpa using rv⟩
    | none => exact .inl (.inr ⟨oA, by rw [atA, hk]; rfl⟩)
  have e0 : Env0 P w K mg (hidT s₁.heap H) callerA [] s₁ H := ⟨rfl, ⟨kb, nsK hns, ⟨mb, nsK hb, hbb⟩, let ⟨mc, h1, h2⟩ := hlim; ⟨mc, nsK h1, h2⟩⟩, fun b o e => of_hidT e, Nat.le_of_eq (hidT_size _ _), trivial, fun b hb => absurd (show b ∈ ([] : List Addr) from hb) (by simp), hok, .of_eq hg⟩
  refine codeAny_mono ((F _ kb (nsK hns) cds bl).run callerA [] s₁ H ⟨[.ref a], []⟩ [.ref a] [.ref a] _ _ hr e0 (hbind s₁ (.ref a)) (.cons rfl .nil) (hsp H ent sq)) fun r s' h => ?_
  match r, h with
  | .ok (.ret u), ⟨v, H', os, bare, un, hok', r', q⟩ =>
    obtain rfl : v = .bl true := q
    obtain rfl : u = Value.bool true := r'
    have no : ∀ b : Addr, b ∉ frs ([] : List Env) := fun b z => absurd (show b ∈ ([] : List Addr) from z) (by simp)
    refine ⟨rfl, ⟨fun b o e => ?_, fun b o e => un.there b o e (by simp)⟩, os, bare⟩
    rcases ent.only b with z | ⟨ob, xs, z⟩ | ⟨z, y⟩
    · exact .inl (un.keep b o e z (no b) (by simp))
    · refine .inl ?_
      have z2 := un.frzs b ob _ z
      obtain ⟨e1, _⟩ := hok b _ z
      rw [e] at e1; cases e1
      exact (hok' b _ z2).1
    · obtain ⟨mo, z2⟩ := un.tbls b _ y
      have e3 := tabAt b z
      rw [e] at e3
      obtain rfl := Option.some.inj e3
      obtain ⟨p, hp, rfl⟩ := List.mem_map.mp z
      exact .inr (.inl ⟨((hT p hp).1.tab (hT p hp).2).isCodeTable, rfl, #[], mo, rfl, hok' p.2 _ z2⟩)
end
end L2
namespace L2
open PySem PySem.Spec PyProof.Rows
theorem bltIn_of {p : Program} {loose : List Str} {mean : ExcName → Option Value} {mg mb : Str → Option Value} {h : Heap} (T : Top p loose mean mg mb h) : BltIn mg h := by
  obtain ⟨bm, ob, b1, b2, b3, b4, b5, b6⟩ := T.bmain
  refine ⟨bm, ob, b1, b2, fun z => ?_, b3, b4, b5, b6⟩
  obtain ⟨o, es, ep, e, hd, _⟩ := T.g
  rw [z, e] at b3; cases b3; rw [hd] at b6; cases b6
end L2
namespace L3
open PySem PySem.Spec L2
inductive D where
  | non | bl (b : Bool) | int (i : Int) | str (x : Str) | ref (a : Addr) | ty (n : String) | tup (ds : List D) | frl (ds : List D)
/-- a list that nobody writes (the script) -/
def FrL (K : PySem.W.Frag) (H : Hp) (a : Addr) (xs : List V) : Prop :=
  (∃ o, H a = some (.frz o (.lst xs))) ∨ ∃ (o : Obj) (its : Array Value) (n : Nat), K.lookup a = some o ∧ o.cls = .type "list" ∧ o.dict = none ∧ o.data = .seq its n ∧ its.size ≤ sizeLine ∧ Vals xs its.toList
theorem FrL.sq {K : PySem.W.Frag} {H : Hp} {a : Addr} {xs : List V} (h : FrL K H a xs) : SqL K H a xs := by
  rcases h with h | h
  · exact .inl (.inr h)
  · exact .inr h
mutual
def Abs (K : PySem.W.Frag) (H : Hp) : D → V → Prop
  | .non, v => v = .non
  | .bl b, v => v = .bl b
  | .int i, v => v = .int i
  | .str x, v => v = .str x
  | .ref a, v => v = .ref a
  | .ty n, v => v = .ty n
  | .tup ds, v => ∃ a vs, v = .ref a ∧ SqT K H a vs ∧ AbsL K H ds vs
  | .frl ds, v => ∃ a vs, v = .ref a ∧ FrL K H a vs ∧ AbsL K H ds vs
def AbsL (K : PySem.W.Frag) (H : Hp) : List D → List V → Prop
  | [], vs => vs = []
  | d :: ds, vs => ∃ v r, vs = v :: r ∧ Abs K H d v ∧ AbsL K H ds r
end
/-- what never changes is there still -/
structure Mono (K : PySem.W.Frag) (H H' : Hp) : Prop where
  tp : ∀ a xs, SqT K H a xs → SqT K H' a xs
  fr : ∀ a xs, FrL K H a xs → FrL K H' a xs
  fz : ∀ a o, H a = some (fzn o) → H' a = some (fzn o)
section
variable {K : PySem.W.Frag} {H H' : Hp}
mutual
theorem Abs.mono (h : Mono K H H') : ∀ {d : D} {v : V}, Abs K H d v → Abs K H' d v
  | .non, _, r => r
  | .bl _, _, r => r
  | .int _, _, r => r
  | .str _, _, r => r
  | .ref _, _, r => r
  | .ty _, _, r => r
  | .tup _, _, ⟨a, vs, e, q, l⟩ => ⟨a, vs, e, h.tp a vs q, AbsL.mono h l⟩
  | .frl _, _, ⟨a, vs, e, q, l⟩ => ⟨a, vs, e, h.fr a vs q, AbsL.mono h l⟩
theorem AbsL.mono (h : Mono K H H') : ∀ {ds : List D} {vs : List V}, AbsL K H ds vs → AbsL K H' ds vs
  | [], _, r => r
  | _ :: _, _, ⟨v, r, e, q, l⟩ => ⟨v, r, e, Abs.mono h q, AbsL.mono h l⟩
end
theorem AbsL.len : ∀ {ds : List D} {vs : List V}, AbsL K H ds vs → vs.length = ds.length
  | [], _, r => by cases r; rfl
  | _ :: _, _, ⟨v, r, e, _, l⟩ => by subst e; simp [l.len]
theorem AbsL.append : ∀ {ds es : List D} {vs us : List V}, AbsL K H ds vs → AbsL K H es us → AbsL K H (ds ++ es) (vs ++ us)
  | [], _, _, _, r, s => by cases r; exact s
  | _ :: _, _, _, _, ⟨v, r, e, q, l⟩, s => by subst e; exact ⟨v, _, rfl, q, l.append s⟩
theorem AbsL.one {d : D} {v : V} (h : Abs K H d v) : AbsL K H [d] [v] := ⟨v, [], rfl, h, rfl⟩
theorem AbsL.get : ∀ {ds : List D} {vs : List V} {i : Nat} {d : D}, AbsL K H ds vs → ds[i]? = some d → ∃ v, vs[i]? = some v ∧ Abs K H d v
  | [], _, _, _, _, e => by simp at e
  | _ :: _, _, 0, _, ⟨v, r, e', q, l⟩, e => by simp at e; subst e e'; exact ⟨v, rfl, q⟩
  | _ :: _, _, i + 1, d, ⟨v, r, e', q, l⟩, e => by
    subst e'
    obtain ⟨u, h1, h2⟩ := AbsL.get (i := i) (d := d) l (by simpa using e)
    exact ⟨u, by simpa using h1, h2⟩
theorem AbsL.take : ∀ {ds : List D} {vs : List V} (n : Nat), AbsL K H ds vs → AbsL K H (ds.take n) (vs.take n)
  | _, _, 0, _ => by simp [AbsL]
  | [], _, n + 1, r => by cases r; simp [AbsL]
  | _ :: _, _, n + 1, ⟨v, r, e, q, l⟩ => by subst e; exact ⟨v, _, rfl, q, l.take n⟩
theorem AbsL.drop : ∀ {ds : List D} {vs : List V} (n : Nat), AbsL K H ds vs → AbsL K H (ds.drop n) (vs.drop n)
  | _, _, 0, r => r
  | [], _, n + 1, r => by cases r; simp [AbsL]
  | _ :: _, _, n + 1, ⟨v, r, e, q, l⟩ => by subst e; exact l.drop n
theorem AbsL.set {d : D} {v : V} (h : Abs K H d v) : ∀ {ds : List D} {vs : List V} (i : Nat), AbsL K H ds vs → AbsL K H (ds.set i d) (vs.set i v)
  | [], _, _, r => by cases r; simp [AbsL]
  | _ :: _, _, 0, ⟨u, r, e, q, l⟩ => by subst e; exact ⟨v, r, rfl, h, l⟩
  | _ :: _, _, i + 1, ⟨u, r, e, q, l⟩ => by subst e; exact ⟨u, _, rfl, q, l.set h i⟩
theorem AbsL.ints {ns : List Int} : ∀ {vs : List V}, AbsL K H (ns.map D.int) vs → vs = ns.map V.int := by
  induction ns with
  | nil => intro vs h; exact h
  | cons n ns ih => rintro vs ⟨v, r, e, q, l⟩; subst e; rw [ih l, show v = V.int n from q]; rfl
theorem AbsL.of_ints : ∀ (ns : List Int), AbsL K H (ns.map D.int) (ns.map V.int)
  | [] => rfl
  | n :: ns => ⟨_, _, rfl, rfl, AbsL.of_ints ns⟩
end
/-- a slice's items, of anything -/
def cut {α : Type} (xs : List α) (lo hi : Option Int) : List α := (xs.drop (HT.sIx xs.length 0 lo)).take (HT.sIx xs.length xs.length hi - HT.sIx xs.length 0 lo)
theorem AbsL.cut {K : PySem.W.Frag} {H : Hp} {ds : List D} {vs : List V} (h : AbsL K H ds vs) (lo hi : Option Int) : AbsL K H (L3.cut ds lo hi) (cutV vs lo hi) := by
  have e := h.len
  rw [L3.cut, cutV, e]
  exact (h.drop _).take _
inductive DO where
  | lst (ds : List D)
  | ins (C : Addr) (fs : List (Str × D))
  | dK (kvs : List (Key × D))
  | dT (kvs : List (List Key × D))
  /-- the table of a code that makes a def; a def made in this body; a closure, its captured data -/
  | tab (pos : Pos) (qual : Str) | made (env : Env) (name qual : Str) (st : Stmt) (fr : List Str) | clo (name qual : Str) (st : Stmt) (fr : List Str) (vals : List D)
abbrev DV := Addr → Option DO
abbrev DSt := List (Option D)
def up (G : DV) (a : Addr) (o : DO) : DV := fun b => if b = a then some o else G b
theorem up_same {G : DV} {a : Addr} {o : DO} : up G a o a = some o := by unfold up; rw [if_pos rfl]
theorem up_ne {G : DV} {a b : Addr} {o : DO} (h : b ≠ a) : up G a o b = G b := by unfold up; rw [if_neg h]
theorem up_up {G : DV} {a : Addr} {o u : DO} : up (up G a o) a u = up G a u := by funext b; unfold up; split <;> rfl
theorem up_comm {G : DV} {a b : Addr} {o u : DO} (h : a ≠ b) : up (up G a o) b u = up (up G b u) a o := by
  funext c; unfold up; split <;> split <;> simp_all
def AbsF {κ : Type} (K : PySem.W.Frag) (H : Hp) (fs : List (κ × D)) (gs : List (κ × V)) : Prop := fs.map (·.1) = gs.map (·.1) ∧ AbsL K H (fs.map (·.2)) (gs.map (·.2))
def BearO (K : PySem.W.Frag) (H : Hp) (a : Addr) : DO → Prop
  | .lst ds => ∃ vs, H a = some (.lst vs) ∧ AbsL K H ds vs
  | .ins C fs => ∃ dx gs, H a = some (.ins C dx gs) ∧ AbsF K H fs gs
  | .dK kvs => ∃ gs, H a = some (.dK gs) ∧ AbsF K H kvs gs
  | .dT kvs => ∃ gs, H a = some (.dT gs) ∧ AbsF K H kvs gs
  | .tab pos qual => Tab H a pos qual
  | .made env name qual st fr => MadeAt env H a name qual st fr
  | .clo name qual st fr vals => ∃ cl fvs, CloAt H a name qual st cl fvs ∧ cl.map (·.1) = fr ∧ AbsL K H vals fvs
def Vw (K : PySem.W.Frag) (G : DV) (H : Hp) : Prop := ∀ a o, G a = some o → BearO K H a o
theorem BearO.some {K : PySem.W.Frag} {H : Hp} {a : Addr} {o : DO} (h : BearO K H a o) : ∃ u, H a = .some u := by
  cases o with
  | lst ds => obtain ⟨_, e, _⟩ := h; exact ⟨_, e⟩
  | ins C fs => obtain ⟨_, _, e, _⟩ := h; exact ⟨_, e⟩
  | dK kvs => obtain ⟨_, e, _⟩ := h; exact ⟨_, e⟩
  | dT kvs => obtain ⟨_, e, _⟩ := h; exact ⟨_, e⟩
  | tab pos qual => obtain ⟨_, e, _⟩ := h; exact ⟨_, e⟩
  | made env name qual st fr => obtain ⟨_, _, _, _, _, _, _, e, _⟩ := h.fn; exact ⟨_, e⟩
  | clo name qual st fr vals => obtain ⟨_, _, h, _⟩ := h; obtain ⟨_, _, _, _, _, _, _, e, _⟩ := h.fn; exact ⟨_, e⟩
theorem Vw.none {K : PySem.W.Frag} {G : DV} {H : Hp} (h : Vw K G H) {a : Addr} (e : H a = .none) : G a = .none := by
  cases q : G a with
  | none => rfl
  | some o => obtain ⟨u, z⟩ := (h a o q).some; rw [e] at z; cases z
theorem BearO.mono {K : PySem.W.Frag} {H H' : Hp} {a : Addr} {o : DO} (ht : Mono K H H') (e : H' a = H a) (h : BearO K H a o) : BearO K H' a o := by
  cases o with
  | lst ds => obtain ⟨vs, q, l⟩ := h; exact ⟨vs, by rw [e]; exact q, l.mono ht⟩
  | ins C fs => obtain ⟨dx, gs, q, l⟩ := h; exact ⟨dx, gs, by rw [e]; exact q, l.1, l.2.mono ht⟩
  | dK kvs => obtain ⟨gs, q, l⟩ := h; exact ⟨gs, by rw [e]; exact q, l.1, l.2.mono ht⟩
  | dT kvs => obtain ⟨gs, q, l⟩ := h; exact ⟨gs, by rw [e]; exact q, l.1, l.2.mono ht⟩
  | tab pos qual =>
    obtain ⟨ps, h1, h2, h3⟩ := h
    refine ⟨ps, by rw [e]; exact h1, h2, ?_⟩
    rcases h3 with h3 | ⟨c, o, vs, t, h3, h4, h5⟩
    · exact .inl h3
    · exact .inr ⟨c, o, vs, t, h3, ht.fz _ _ h4, h5⟩
  | made env name qual st fr =>
    obtain ⟨oc, od, doc, pm, cdv, ct, sl, h1, c, o, vs, t, h2, h3, h4⟩ := h.fn
    exact ⟨oc, od, doc, pm, cdv, ct, sl, ht.fz _ _ h1, c, o, vs, t, h2, ht.fz _ _ h3, h4⟩
  | clo name qual st fr vals =>
    obtain ⟨cl, fvs, C, h1, h2⟩ := h
    obtain ⟨oc, od, doc, pm, cdv, ct, sl, h3, c, o, vs, t, h4, h5, h6⟩ := C.fn
    exact ⟨cl, fvs, ⟨⟨oc, od, doc, pm, cdv, ct, sl, ht.fz _ _ h3, c, o, vs, t, h4, ht.fz _ _ h5, h6⟩, fun i x c hi => let ⟨v, u, o, z1, z2, z3, z4⟩ := C.cells i x c hi; ⟨v, u, o, z1, z2, ht.fz _ _ z3, z4⟩, C.len, C.nda⟩, h1, h2.mono ht⟩
/-- a step: tuples stay, nothing goes, what is not in the view stays as it is and out of the view -/
structure Go (K : PySem.W.Frag) (G : DV) (H : Hp) (G' : DV) (H' : Hp) : Prop where
  tup : Mono K H H'
  dom : ∀ a o, H a = some o → ∃ o', H' a = some o'
  same : ∀ a o, H a = some o → G a = none → H' a = some o
  new : ∀ a o, H a = some o → G a = none → G' a = none
  vw : Vw K G' H'
section
variable {K : PySem.W.Frag} {G G1 G2 G' : DV} {H H1 H2 H' : Hp}
theorem Go.refl (v : Vw K G H) : Go K G H G H := ⟨⟨fun _ _ h => h, fun _ _ h => h, fun _ _ h => h⟩, fun _ o e => ⟨o, e⟩, fun _ _ e _ => e, fun _ _ _ e => e, v⟩
theorem Go.trans (a : Go K G H G1 H1) (b : Go K G1 H1 G2 H2) : Go K G H G2 H2 :=
  ⟨⟨fun x xs h => b.tup.tp x xs (a.tup.tp x xs h), fun x xs h => b.tup.fr x xs (a.tup.fr x xs h), fun x o h => b.tup.fz x o (a.tup.fz x o h)⟩, fun x o e => let ⟨o', e'⟩ := a.dom x o e; b.dom x o' e', fun x o e n => b.same x o (a.same x o e n) (a.new x o e n),
   fun x o e n => b.new x o (a.same x o e n) (a.new x o e n), b.vw⟩
/-- what is let go of the view -/
def Sub (G G' : DV) : Prop := ∀ a o, G a = some o → G' a = some o
theorem Sub.refl (G : DV) : Sub G G := fun _ _ e => e
theorem Sub.trans {G G1 G2 : DV} (a : Sub G G1) (b : Sub G1 G2) : Sub G G2 := fun x o e => b x o (a x o e)
theorem Sub.none {G G' : DV} (h : Sub G G') {a : Addr} (e : G' a = .none) : G a = .none := by
  cases q : G a with
  | none => rfl
  | some o => rw [h a o q] at e; cases e
theorem Vw.sub (v : Vw K G' H) (h : Sub G G') : Vw K G H := fun a o e => v a o (h a o e)
theorem Go.sub (g : Go K G H G1 H1) (h : Sub G2 G1) : Go K G H G2 H1 := ⟨g.tup, g.dom, g.same, fun x o e n => h.none (g.new x o e n), g.vw.sub h⟩
theorem sqT_upd {a p : Addr} {o : HO} {xs : List V} (hp : ∀ ys, ¬ Rd H p (.tup ys)) (h : SqT K H a xs) : SqT K (upd H p o) a xs := by
  rcases h with h | h
  · have ne : a ≠ p := by rintro rfl; exact hp _ h
    refine .inl ?_
    unfold Rd at h ⊢
    rw [upd_ne ne]; exact h
  · exact .inr h
theorem rd_none {p : Addr} {ys : List V} (h : H p = none) : ¬ Rd H p (.tup ys) := by
  rintro (e | ⟨o, e⟩) <;> rw [h] at e <;> cases e
theorem rd_lst {p : Addr} {xs ys : List V} (h : H p = some (.lst xs)) : ¬ Rd H p (.tup ys) := by
  rintro (e | ⟨o, e⟩) <;> rw [h] at e <;> cases e
theorem mono_upd {p : Addr} {o : HO} (hp : ∀ ys, ¬ Rd H p (.tup ys)) (hl : ∀ o ys, H p ≠ some (.frz o ys)) : Mono K H (upd H p o) where
  tp := fun _ _ q => sqT_upd hp q
  fr := fun a xs q => by
    rcases q with ⟨z, q⟩ | q
    · exact .inl ⟨z, by rw [upd_ne (by rintro rfl; exact hl _ _ q)]; exact q⟩
    · exact .inr q
  fz := fun a u q => by rw [upd_ne (by rintro rfl; exact hl _ _ q)]; exact q
theorem mono_new {p : Addr} {o : HO} (h : H p = none) : Mono K H (upd H p o) := mono_upd (fun _ => rd_none h) fun _ _ e => by rw [h] at e; cases e
theorem mono_set {p : Addr} {o : HO} {xs : List V} (h : H p = some (.lst xs)) : Mono K H (upd H p o) := mono_upd (fun _ => rd_lst h) fun _ _ e => by rw [h] at e; cases e
/-- something new that is not in the view -/
theorem Go.newT (v : Vw K G H) {p : Addr} {o : HO} (h : H p = none) : Go K G H G (upd H p o) where
  tup := mono_new h
  dom := fun a u e => ⟨u, by rw [upd_ne (ne_of_none e h)]; exact e⟩
  same := fun a u e _ => by rw [upd_ne (ne_of_none e h)]; exact e
  new := fun _ _ _ e => e
  vw := fun a u e => (v a u e).mono (mono_new h) (upd_ne (by rintro rfl; obtain ⟨z, q⟩ := (v _ _ e).some; rw [h] at q; cases q))
/-- a new list -/
theorem Go.newL (v : Vw K G H) {p : Addr} {ds : List D} {vs : List V} (h : H p = none) (r : AbsL K H ds vs) : Go K G H (up G p (.lst ds)) (upd H p (.lst vs)) where
  tup := mono_new h
  dom := fun a u e => ⟨u, by rw [upd_ne (ne_of_none e h)]; exact e⟩
  same := fun a u e _ => by rw [upd_ne (ne_of_none e h)]; exact e
  new := fun a u e n => by rw [up_ne (ne_of_none e h)]; exact n
  vw := fun a u e => by
    by_cases c : a = p
    · subst c; rw [up_same] at e; cases e
      exact ⟨vs, upd_same, r.mono (mono_new h)⟩
    · rw [up_ne c] at e
      exact (v a u e).mono (mono_new h) (upd_ne c)
/-- a list of the view is written -/
theorem Go.setL (v : Vw K G H) {p : Addr} {ds0 ds : List D} {vs : List V} (h : G p = some (.lst ds0)) (r : AbsL K H ds vs) : Go K G H (up G p (.lst ds)) (upd H p (.lst vs)) := by
  obtain ⟨us, hp, _⟩ := v p _ h
  exact {
    tup := mono_set hp
    dom := fun a u e => by
      by_cases c : a = p
      · subst c; exact ⟨_, upd_same⟩
      · exact ⟨u, by rw [upd_ne c]; exact e⟩
    same := fun a u e n => by
      have c : a ≠ p := by rintro rfl; rw [h] at n; cases n
      rw [upd_ne c]; exact e
    new := fun a u e n => by
      have c : a ≠ p := by rintro rfl; rw [h] at n; cases n
      rw [up_ne c]; exact n
    vw := fun a u e => by
      by_cases c : a = p
      · subst c; rw [up_same] at e; cases e
        exact ⟨vs, upd_same, r.mono (mono_set hp)⟩
      · rw [up_ne c] at e
        exact (v a u e).mono (mono_set hp) (upd_ne c) }
/-- the heap grew by things that are not in the view -/
theorem Go.grow (v : Vw K G H) (h : Same H H') : Go K G H G H' := by
  have ht : Mono K H H' := ⟨fun b xs q => by
    rcases q with q | q
    · rcases q with q | ⟨o, q⟩
      · exact .inl (.inl (h _ _ q))
      · exact .inl (.inr ⟨o, h _ _ q⟩)
    · exact .inr q, fun b xs q => by
    rcases q with ⟨o, q⟩ | q
    · exact .inl ⟨o, h _ _ q⟩
    · exact .inr q, fun b o q => h _ _ q⟩
  exact ⟨ht, fun a o e => ⟨o, h a o e⟩, fun a o e _ => h a o e, fun _ _ _ e => e, fun a u e => by
    obtain ⟨z, q⟩ := (v a u e).some
    exact (v a u e).mono ht (by rw [q]; exact h _ _ q)⟩
end
structure Bears (K : PySem.W.Frag) (ρ : DSt) (G : DV) (σ : St) (H : Hp) : Prop where
  len : ρ.length = σ.length
  st : ∀ (i : Nat) (d : D), ρ[i]? = some (some d) → ∃ v, σ[i]? = some (some v) ∧ Abs K H d v
  vw : Vw K G H
theorem Bears.go {K : PySem.W.Frag} {ρ : DSt} {G G' : DV} {σ : St} {H H' : Hp} (b : Bears K ρ G σ H) (g : Go K G H G' H') : Bears K ρ G' σ H' :=
  ⟨b.len, fun i d e => let ⟨v, h1, h2⟩ := b.st i d e; ⟨v, h1, h2.mono g.tup⟩, g.vw⟩
theorem Bears.set {K : PySem.W.Frag} {ρ : DSt} {G : DV} {σ : St} {H : Hp} {d : D} {v : V} (b : Bears K ρ G σ H) (h : Abs K H d v) (i : Nat) : Bears K (ρ.set i (some d)) G (σ.set i (some v)) H where
  len := by simp [b.len]
  vw := b.vw
  st := fun j e he => by
    by_cases c : j = i
    · subst c
      rw [List.getElem?_set] at he ⊢
      have l := b.len
      simp only [if_true] at he ⊢
      split at he
      · next q => rw [if_pos (by omega)]; simp at he; subst he; exact ⟨v, rfl, h⟩
      · cases he
    · rw [List.getElem?_set_ne (by omega)] at he ⊢
      exact b.st j e he
/-- names forgotten -/
def StSub (ρ ρ' : DSt) : Prop := ρ.length = ρ'.length ∧ ∀ (i : Nat) (d : D), ρ[i]? = some (some d) → ρ'[i]? = some (some d)
theorem StSub.refl (ρ : DSt) : StSub ρ ρ := ⟨rfl, fun _ _ e => e⟩
theorem Bears.weak {K : PySem.W.Frag} {ρ ρ' : DSt} {G G' : DV} {σ : St} {H : Hp} (b : Bears K ρ' G' σ H) (s : StSub ρ ρ') (g : Sub G G') : Bears K ρ G σ H :=
  ⟨s.1.trans b.len, fun i d e => b.st i d (s.2 i d e), b.vw.sub g⟩
abbrev DK := D → DV → Prop
abbrev DTE := DSt → DV → DK → Prop
abbrev DTT := DSt → DV → (Bool → DV → Prop) → Prop
abbrev DTA := DSt → DV → (List D → DV → Prop) → Prop
abbrev DTO := DSt → DV → (Option Int → DV → Prop) → Prop
structure DEnds where
  nx : DSt → DV → Prop
  rt : DK
  bk : DSt → DV → Prop := fun _ _ => False
  ct : DSt → DV → Prop := fun _ _ => False
abbrev DTS := DEnds → DSt → DV → Prop
abbrev Fin (K : PySem.W.Frag) (G : DV) (H : Hp) (DQ : DK) (Q : VK) : Prop := ∀ d G' v H', Go K G H G' H' → Abs K H' d v → DQ d G' → Q v H'
abbrev FinB (K : PySem.W.Frag) (G : DV) (H : Hp) (DQ : Bool → DV → Prop) (Q : Bool → Hp → Prop) : Prop := ∀ b G' H', Go K G H G' H' → DQ b G' → Q b H'
abbrev FinO (K : PySem.W.Frag) (G : DV) (H : Hp) (DQ : Option Int → DV → Prop) (Q : Option Int → Hp → Prop) : Prop := ∀ b G' H', Go K G H G' H' → DQ b G' → Q b H'
abbrev FinL (K : PySem.W.Frag) (n : Nat) (G : DV) (H : Hp) (DQ : List D → DV → Prop) (Q : List V → Hp → Prop) : Prop := ∀ ds G' vs H', Go K G H G' H' → AbsL K H' ds vs → ds.length = n → DQ ds G' → Q vs H'
structure AE (X : Cx) (e : Expr) (t : DTE) : Prop where
  run : ∃ tc : TE, JE X e tc ∧ ∀ ρ G DQ σ H Q, Bears X.K ρ G σ H → t ρ G DQ → Fin X.K G H DQ Q → tc σ H Q
structure AT (X : Cx) (e : Expr) (t : DTT) : Prop where
  run : ∃ tc : TT, JT X e tc ∧ ∀ ρ G DQ σ H Q, Bears X.K ρ G σ H → t ρ G DQ → FinB X.K G H DQ Q → tc σ H Q
structure AW (X : Cx) (e : Expr) (t : DTT) : Prop where
  run : ∃ tc : TT, JW X e tc ∧ ∀ ρ G DQ σ H Q, Bears X.K ρ G σ H → t ρ G DQ → FinB X.K G H DQ Q → tc σ H Q
structure AA (X : Cx) (es : List Expr) (t : DTA) : Prop where
  run : ∃ tc : TA, JA X es tc ∧ ∀ ρ G DQ σ H Q, Bears X.K ρ G σ H → t ρ G DQ → FinL X.K es.length G H DQ Q → tc σ H Q
structure AO (X : Cx) (e : Option Expr) (t : DTO) : Prop where
  run : ∃ tc : TO, JO X e tc ∧ ∀ ρ G DQ σ H Q, Bears X.K ρ G σ H → t ρ G DQ → FinO X.K G H DQ Q → tc σ H Q
structure EndsOk (K : PySem.W.Frag) (G : DV) (H : Hp) (DD : DEnds) (Dc : Ends) : Prop where
  nx : ∀ ρ G' σ H', Go K G H G' H' → Bears K ρ G' σ H' → DD.nx ρ G' → Dc.nx σ H'
  rt : Fin K G H DD.rt Dc.rt
  bk : ∀ ρ G' σ H', Go K G H G' H' → Bears K ρ G' σ H' → DD.bk ρ G' → Dc.bk σ H'
  ct : ∀ ρ G' σ H', Go K G H G' H' → Bears K ρ G' σ H' → DD.ct ρ G' → Dc.ct σ H'
structure AS (X : Cx) (st : Stmt) (t : DTS) : Prop where
  run : ∃ tc : TS, JS X st tc ∧ ∀ DD Dc ρ G σ H, Bears X.K ρ G σ H → t DD ρ G → EndsOk X.K G H DD Dc → tc Dc σ H
structure AB (X : Cx) (st : List Stmt) (t : DTS) : Prop where
  run : ∃ tc : TS, JB X st tc ∧ ∀ DD Dc ρ G σ H, Bears X.K ρ G σ H → t DD ρ G → EndsOk X.K G H DD Dc → tc Dc σ H
abbrev DTG := D → DSt → DV → (DSt → DV → Prop) → Prop
abbrev DTGs := List D → DSt → DV → (DSt → DV → Prop) → Prop
abbrev FinS (K : PySem.W.Frag) (G : DV) (H : Hp) (DQ : DSt → DV → Prop) (Q : St → Hp → Prop) : Prop := ∀ ρ G' σ H', Go K G H G' H' → Bears K ρ G' σ H' → DQ ρ G' → Q σ H'
structure AG (X : Cx) (tg : Expr) (t : DTG) : Prop where
  run : ∃ tc : TG, JG X tg tc ∧ ∀ d v ρ G DQ σ H Q, Bears X.K ρ G σ H → Abs X.K H d v → t d ρ G DQ → FinS X.K G H DQ Q → tc v σ H Q
structure AGs (X : Cx) (tgs : List Expr) (t : DTGs) : Prop where
  run : ∃ tc : TGs, JGs X tgs tc ∧ ∀ ds vs ρ G DQ σ H Q, Bears X.K ρ G σ H → AbsL X.K H ds vs → t ds ρ G DQ → FinS X.K G H DQ Q → tc vs σ H Q
/-- operations by values -/
abbrev DR1 := D → DV → DK → Prop
abbrev DR2 := D → D → DV → DK → Prop
abbrev DRL := List D → DV → DK → Prop
structure AOp (X : Cx) (f : Value → Value → Sem Value) (r : DR2) : Prop where
  run : ∃ rc : R2, JOp X f rc ∧ ∀ x y vx vy G H DQ Q, Vw X.K G H → Abs X.K H x vx → Abs X.K H y vy → r x y G DQ → Fin X.K G H DQ Q → rc vx vy H Q
structure AUn (X : Cx) (f : Value → Sem Value) (r : DR1) : Prop where
  run : ∃ rc : V → Hp → VK → Prop, JUn X f rc ∧ ∀ x vx G H DQ Q, Vw X.K G H → Abs X.K H x vx → r x G DQ → Fin X.K G H DQ Q → rc vx H Q
structure ACall (X : Cx) (f : Value) (r : DRL) : Prop where
  run : ∃ rc : List V → Hp → VK → Prop, JCall X f rc ∧ ∀ xs vs G H DQ Q, Vw X.K G H → AbsL X.K H xs vs → r xs G DQ → Fin X.K G H DQ Q → rc vs H Q
structure AIx (X : Cx) (r : DR2) : Prop where
  run : ∃ rc : R2, JIx X rc ∧ ∀ x y vx vy G H DQ Q, Vw X.K G H → Abs X.K H x vx → Abs X.K H y vy → r x y G DQ → Fin X.K G H DQ Q → rc vx vy H Q
structure ASl (X : Cx) (r : D → Option Int → Option Int → DV → DK → Prop) : Prop where
  run : ∃ rc, JSl X rc ∧ ∀ x vx lo hi G H DQ Q, Vw X.K G H → Abs X.K H x vx → r x lo hi G DQ → Fin X.K G H DQ Q → rc vx lo hi H Q
theorem Fin.after {K : PySem.W.Frag} {G G1 : DV} {H H1 : Hp} {DQ : DK} {Q : VK} (F : Fin K G H DQ Q) (g : Go K G H G1 H1) : Fin K G1 H1 DQ Q := fun d G' v H' g' a q => F d G' v H' (g.trans g') a q
theorem EndsOk.after {K : PySem.W.Frag} {G G1 : DV} {H H1 : Hp} {DD : DEnds} {Dc : Ends} (F : EndsOk K G H DD Dc) (g : Go K G H G1 H1) : EndsOk K G1 H1 DD Dc :=
  ⟨fun ρ G' σ H' g' b q => F.nx ρ G' σ H' (g.trans g') b q, fun d G' v H' g' a q => F.rt d G' v H' (g.trans g') a q, fun ρ G' σ H' g' b q => F.bk ρ G' σ H' (g.trans g') b q, fun ρ G' σ H' g' b q => F.ct ρ G' σ H' (g.trans g') b q⟩
end L3
namespace L3
open PySem PySem.Spec L2
section
variable {X : Cx} {a b c e o i : Expr} {es : List Expr} {ta tb te to ti : DTE} {t : DTA} {pos p apos cpos : Pos}
abbrev dC (d : D) : DTE := fun _ G Q => Q d G
abbrev dVar (k : Nat) : DTE := fun ρ G Q => match ρ[k]? with
  | some (some d) => Q d G
  | _ => False
theorem ae_c {v : V} {d : D} (h : JE X e (tC v)) (r : ∀ H, Abs X.K H d v) : AE X e (dC d) := ⟨_, h, fun ρ G DQ σ H Q B q F => F d G v H (.refl B.vw) (r H) q⟩
theorem ae_int {n : Int} {j} : AE X (.Constant (.int n) j pos) (dC (.int n)) := ae_c je_int fun _ => rfl
theorem ae_bl {n : Bool} {j} : AE X (.Constant (.bool n) j pos) (dC (.bl n)) := ae_c je_bl fun _ => rfl
theorem ae_non {j} : AE X (.Constant .none j pos) (dC .non) := ae_c je_non fun _ => rfl
theorem ae_str {x : Str} {j} : AE X (.Constant (.str x) j pos) (dC (.str x)) := ae_c je_str fun _ => rfl
theorem ae_var (k : Nat) {x : Str} (hN : X.N[k]? = some x := by rfl) (hv : Vis X.env.scope x := by first | exact Or.inl rfl | exact Or.inr (Or.inl rfl) | exact Or.inr (Or.inr rfl)) (hd : (x == ("__debug__" : Str)) = false := by decide)
    (hcd : (x == ("__classdict__" : Str)) = false := by decide) : AE X (.Name x pos) (dVar k) := ⟨_, jv k hN hv hd hcd, fun ρ G DQ σ H Q B q F => by
  unfold dVar at q
  split at q
  · next d h =>
    obtain ⟨v, h1, h2⟩ := B.st k d h
    exact ⟨v, h1, F d G v H (.refl B.vw) h2 q⟩
  · exact q.elim⟩
abbrev dNil : DTA := fun _ G Q => Q [] G
abbrev dCons (ta : DTE) (tr : DTA) : DTA := fun ρ G Q => ta ρ G fun x G1 => tr ρ G1 fun xs G2 => Q (x :: xs) G2
theorem aa_nil : AA X [] dNil := ⟨_, ja_nil, fun ρ G DQ σ H Q B q F => F [] G [] H (.refl B.vw) rfl rfl q⟩
theorem aa_cons (ha : AE X e te) (hr : AA X es t) (hs : unstar e = true := by rfl) : AA X (e :: es) (dCons te t) := by
  obtain ⟨ca, ja, ra⟩ := ha.run
  obtain ⟨cr, jr, rr⟩ := hr.run
  refine ⟨_, ja_cons ja jr hs, fun ρ G DQ σ H Q B q F => ?_⟩
  refine ra ρ G _ σ H _ B q fun x G1 v H1 g1 ax q1 => rr ρ G1 _ σ H1 _ (B.go g1) q1 fun xs G2 vs H2 g2 axs hl q2 => ?_
  exact F (x :: xs) G2 (v :: vs) H2 (g1.trans g2) ⟨v, vs, rfl, ax.mono g2.tup, axs⟩ (by simp [hl]) q2
abbrev dTup (t : DTA) : DTE := fun ρ G Q => t ρ G fun ds G1 => Q (.tup ds) G1
abbrev dLst (t : DTA) : DTE := fun ρ G Q => t ρ G fun ds G1 => ∀ p, G1 p = none → Q (.ref p) (up G1 p (.lst ds))
theorem line_of {n : Nat} (h : Nat.ble n 1000 = true) : n ≤ sizeLine := by
  have := Nat.le_of_ble_eq_true h
  rw [sizeLine_eq]; omega
theorem ae_tup {x1} (h : AA X es t) (hl : Nat.ble es.length 1000 = true := by rfl) : AE X (.Tuple es x1 pos) (dTup t) := by
  obtain ⟨ca, ja, ra⟩ := h.run
  refine ⟨_, je_tup ja, fun ρ G DQ σ H Q B q F => ra ρ G _ σ H _ B q fun ds G1 vs H1 g1 al hn q1 => ⟨by rw [al.len, hn]; exact line_of hl, fun p hp => ?_⟩⟩
  have g2 := Go.newT (o := .tup vs) g1.vw hp
  exact F (.tup ds) G1 _ _ (g1.trans g2) ⟨p, vs, rfl, .of upd_same, al.mono g2.tup⟩ q1
theorem ae_lst (h : AA X es t) (hl : Nat.ble es.length 1000 = true := by rfl) : AE X (.List es pos) (dLst t) := by
  obtain ⟨ca, ja, ra⟩ := h.run
  refine ⟨_, je_lst ja, fun ρ G DQ σ H Q B q F => ra ρ G _ σ H _ B q fun ds G1 vs H1 g1 al hn q1 => ⟨by rw [al.len, hn]; exact line_of hl, fun p hp => ?_⟩⟩
  exact F (.ref p) _ _ _ (g1.trans (Go.newL g1.vw hp al)) rfl (q1 p (g1.vw.none hp))
/-- the item at i; a written i is reckoned without the length -/
def atN (ds : List D) : Int → Option D
  | .ofNat k => ds[k]?
  | .negSucc k => atI ds (.negSucc k)
theorem atN_eq (ds : List D) (i : Int) : atN ds i = atI ds i := by
  cases i with
  | negSucc k => rfl
  | ofNat k =>
    show ds[k]? = atI ds (k : Int)
    by_cases h : k < ds.length
    · rw [List.getElem?_eq_getElem h]
      exact (atI_nat (List.getElem?_eq_getElem h)).symm
    · rw [List.getElem?_eq_none (by omega)]
      unfold atI ixN
      rw [if_pos (by omega), if_neg (by omega)]; rfl
def atD (ds : List D) (i : Int) (G : DV) (Q : DK) : Prop := match atN ds i with
  | some d => Q d G
  | none => False
theorem atD_of {ds : List D} {i : Int} {G : DV} {Q : DK} {d : D} (h : atI ds i = some d) (q : Q d G) : atD ds i G Q := by unfold atD; rw [atN_eq, h]; exact q
@[irreducible] def onL (G : DV) (l : Addr) (k : List D → Prop) : Prop := match G l with
  | some (.lst ds) => k ds
  | _ => False
@[irreducible] def onM (G : DV) (l : Addr) (k : List D → Prop) : Prop := match G l with
  | some (.lst ds) => k ds
  | _ => False
theorem onL_of {G : DV} {l : Addr} {k : List D → Prop} {ds : List D} (h : G l = some (.lst ds)) (q : k ds) : onL G l k := by unfold onL; rw [h]; exact q
theorem onM_of {G : DV} {l : Addr} {k : List D → Prop} {ds : List D} (h : G l = some (.lst ds)) (q : k ds) : onM G l k := by unfold onM; rw [h]; exact q
theorem onL_get {K : PySem.W.Frag} {G : DV} {H : Hp} {l : Addr} {k : List D → Prop} (v : Vw K G H) (h : onL G l k) : ∃ ds vs, k ds ∧ SqL K H l vs ∧ AbsL K H ds vs := by
  unfold onL at h
  split at h
  · next ds e => obtain ⟨vs, z, r⟩ := v _ _ e; exact ⟨ds, vs, h, .of z, r⟩
  · exact h.elim
theorem onM_get {K : PySem.W.Frag} {G : DV} {H : Hp} {l : Addr} {k : List D → Prop} (v : Vw K G H) (h : onM G l k) : ∃ ds vs, k ds ∧ G l = some (.lst ds) ∧ H l = some (.lst vs) ∧ AbsL K H ds vs := by
  unfold onM at h
  split at h
  · next ds e => obtain ⟨vs, z, r⟩ := v _ _ e; exact ⟨ds, vs, h, e, z, r⟩
  · exact h.elim
abbrev dOp (r : DR2) (ta tb : DTE) : DTE := fun ρ G Q => ta ρ G fun x G1 => tb ρ G1 fun y G2 => r x y G2 Q
abbrev dUn (r : DR1) (ta : DTE) : DTE := fun ρ G Q => ta ρ G fun x G1 => r x G1 Q
theorem ae_op {op : Operator} {r : DR2} (ho : AOp X (binaryOp op) r) (ha : AE X a ta) (hb : AE X b tb) : AE X (.BinOp a op b pos) (dOp r ta tb) := by
  obtain ⟨ca, ja, ra⟩ := ha.run
  obtain ⟨cb, jb, rb⟩ := hb.run
  obtain ⟨co, jo, ro⟩ := ho.run
  refine ⟨_, je_op jo ja jb, fun ρ G DQ σ H Q B q F => ?_⟩
  exact ra ρ G _ σ H _ B q fun x G1 v H1 g1 ax q1 => rb ρ G1 _ σ H1 _ (B.go g1) q1 fun y G2 u H2 g2 ay q2 => ro x y v u G2 H2 DQ Q g2.vw (ax.mono g2.tup) ay q2 (F.after (g1.trans g2))
theorem ae_cmp {op : CmpOp} {r : DR2} (ho : AOp X (compareOp op) r) (ha : AE X a ta) (hb : AE X b tb) (hm : behindInMarks op b = false) : AE X (.Compare a [op] [b] pos) (dOp r ta tb) := by
  obtain ⟨ca, ja, ra⟩ := ha.run
  obtain ⟨cb, jb, rb⟩ := hb.run
  obtain ⟨co, jo, ro⟩ := ho.run
  refine ⟨_, je_cmpR jo ja jb hm, fun ρ G DQ σ H Q B q F => ?_⟩
  exact ra ρ G _ σ H _ B q fun x G1 v H1 g1 ax q1 => rb ρ G1 _ σ H1 _ (B.go g1) q1 fun y G2 u H2 g2 ay q2 => ro x y v u G2 H2 DQ Q g2.vw (ax.mono g2.tup) ay q2 (F.after (g1.trans g2))
theorem ae_un {op : UnaryOp} {r : DR1} (ho : AUn X (unaryOp op) r) (ha : AE X a ta) : AE X (.UnaryOp op a pos) (dUn r ta) := by
  obtain ⟨ca, ja, ra⟩ := ha.run
  obtain ⟨co, jo, ro⟩ := ho.run
  refine ⟨_, je_un jo ja, fun ρ G DQ σ H Q B q F => ?_⟩
  exact ra ρ G _ σ H _ B q fun x G1 v H1 g1 ax q1 => ro x v G1 H1 DQ Q g1.vw ax q1 (F.after g1)
theorem ae_ix {r : DR2} (hr : AIx X r) (ha : AE X a ta) (hb : AE X b tb) (hs : PlainIx b) : AE X (.Subscript a b pos) (dOp r ta tb) := by
  obtain ⟨ca, ja, ra⟩ := ha.run
  obtain ⟨cb, jb, rb⟩ := hb.run
  obtain ⟨co, jo, ro⟩ := hr.run
  refine ⟨_, je_ix jo ja jb hs, fun ρ G DQ σ H Q B q F => ?_⟩
  exact ra ρ G _ σ H _ B q fun x G1 v H1 g1 ax q1 => rb ρ G1 _ σ H1 _ (B.go g1) q1 fun y G2 u H2 g2 ay q2 => ro x y v u G2 H2 DQ Q g2.vw (ax.mono g2.tup) ay q2 (F.after (g1.trans g2))
/-- two ways -/
def Br (c : Bool) (A B : Prop) : Prop := (c = true → A) ∧ (c = false → B)
/-- the logic of values that are truths -/
abbrev blD (x : D) (k : Bool → Prop) : Prop := match x with
  | .bl c => k c
  | _ => False
theorem blD_get {K : PySem.W.Frag} {H : Hp} {x : D} {v : V} {k : Bool → Prop} (h : blD x k) (r : Abs K H x v) : ∃ c, v = .bl c ∧ x = .bl c ∧ k c := by
  unfold blD at h
  split at h
  · exact ⟨_, r, rfl, h⟩
  · exact h.elim
abbrev dAndV (ta tb : DTE) : DTE := fun ρ G Q => ta ρ G fun x G1 => blD x fun c => Br c (tb ρ G1 Q) (Q (.bl false) G1)
theorem ae_one {op} (h : AE X a ta) : AE X (.BoolOp op [a] pos) ta := by
  obtain ⟨ca, ja, ra⟩ := h.run
  exact ⟨_, je_one ja, ra⟩
theorem ae_and {rest : List Expr} (ha : AE X a ta) (hb : AE X (.BoolOp .And (b :: rest) pos) tb) : AE X (.BoolOp .And (a :: b :: rest) pos) (dAndV ta tb) := by
  obtain ⟨ca, ja, ra⟩ := ha.run
  obtain ⟨cb, jb, rb⟩ := hb.run
  refine ⟨_, je_and ja jb, fun ρ G DQ σ H Q B q F => ra ρ G _ σ H _ B q fun x G1 v H1 g1 ax q1 => ?_⟩
  obtain ⟨c, e1, e2, q2⟩ := blD_get q1 ax
  refine ⟨c, e1, ?_⟩
  cases c with
  | true => exact rb ρ G1 _ σ H1 _ (B.go g1) (q2.1 rfl) (F.after g1)
  | false => exact F (.bl false) _ _ _ g1 rfl (q2.2 rfl)
abbrev dIf (tc : DTT) (ta tb : DTE) : DTE := fun ρ G Q => tc ρ G fun c G1 => Br c (ta ρ G1 Q) (tb ρ G1 Q)
theorem ae_ifExp {tc : DTT} (hc : AT X c tc) (ha : AE X a ta) (hb : AE X b tb) : AE X (.IfExp c a b pos) (dIf tc ta tb) := by
  obtain ⟨cc, jc, rc⟩ := hc.run
  obtain ⟨ca, ja, ra⟩ := ha.run
  obtain ⟨cb, jb, rb⟩ := hb.run
  refine ⟨_, je_ifExp jc ja jb, fun ρ G DQ σ H Q B q F => rc ρ G _ σ H _ B q fun c G1 H1 g1 q1 => ?_⟩
  cases c with
  | true => exact ra ρ G1 _ σ H1 _ (B.go g1) (q1.1 rfl) (F.after g1)
  | false => exact rb ρ G1 _ σ H1 _ (B.go g1) (q1.2 rfl) (F.after g1)
abbrev dTest (t : DTE) : DTT := fun ρ G Q => t ρ G fun x G1 => blD x fun c => Q c G1
theorem at_cmp {op : CmpOp} {r : DR2} (ho : AOp X (compareOp op) r) (ha : AE X a ta) (hb : AE X b tb) (hm : behindInMarks op b = false) : AT X (.Compare a [op] [b] pos) (dTest (dOp r ta tb)) := by
  obtain ⟨ca, ja, ra⟩ := ha.run
  obtain ⟨cb, jb, rb⟩ := hb.run
  obtain ⟨co, jo, ro⟩ := ho.run
  refine ⟨_, jt_cmpR jo ja jb hm, fun ρ G DQ σ H Q B q F => ?_⟩
  refine ra ρ G _ σ H _ B q fun x G1 v H1 g1 ax q1 => rb ρ G1 _ σ H1 _ (B.go g1) q1 fun y G2 u H2 g2 ay q2 => ro x y v u G2 H2 _ _ g2.vw (ax.mono g2.tup) ay q2 fun z G3 w H3 g3 az q3 => ?_
  obtain ⟨c, e1, e2, q4⟩ := blD_get q3 az
  exact ⟨c, e1, F c G3 H3 ((g1.trans g2).trans g3) q4⟩
abbrev dNot (tc : DTT) : DTT := fun ρ G Q => tc ρ G fun c G1 => Q (!c) G1
abbrev dAnd (tc td : DTT) : DTT := fun ρ G Q => tc ρ G fun c G1 => Br c (td ρ G1 Q) (Q false G1)
abbrev dOr (tc td : DTT) : DTT := fun ρ G Q => tc ρ G fun c G1 => Br c (Q true G1) (td ρ G1 Q)
theorem at_not {tc : DTT} (ha : AT X a tc) : AT X (.UnaryOp .Not a pos) (dNot tc) := by
  obtain ⟨ca, ja, ra⟩ := ha.run
  exact ⟨_, jt_not ja, fun ρ G DQ σ H Q B q F => ra ρ G _ σ H _ B q fun c G1 H1 g1 q1 => F _ _ _ g1 q1⟩
theorem aw_and1 {tc : DTT} (ha : AT X a tc) : AW X (.BoolOp .And [a] pos) tc := by
  obtain ⟨ca, ja, ra⟩ := ha.run
  exact ⟨_, jw_and1 ja, ra⟩
theorem aw_or1 {tc : DTT} (ha : AT X a tc) : AW X (.BoolOp .Or [a] pos) tc := by
  obtain ⟨ca, ja, ra⟩ := ha.run
  exact ⟨_, jw_or1 ja, ra⟩
theorem aw_and {tc td : DTT} {rest : List Expr} (ha : AT X a tc) (hb : AW X (.BoolOp .And (b :: rest) pos) td) : AW X (.BoolOp .And (a :: b :: rest) pos) (dAnd tc td) := by
  obtain ⟨ca, ja, ra⟩ := ha.run
  obtain ⟨cb, jb, rb⟩ := hb.run
  refine ⟨_, jw_and ja jb, fun ρ G DQ σ H Q B q F => ra ρ G _ σ H _ B q fun c G1 H1 g1 q1 => ?_⟩
  cases c with
  | true => exact rb ρ G1 _ σ H1 _ (B.go g1) (q1.1 rfl) fun c G' H' g' => F c G' H' (g1.trans g')
  | false => exact F _ _ _ g1 (q1.2 rfl)
theorem aw_or {tc td : DTT} {rest : List Expr} (ha : AT X a tc) (hb : AW X (.BoolOp .Or (b :: rest) pos) td) : AW X (.BoolOp .Or (a :: b :: rest) pos) (dOr tc td) := by
  obtain ⟨ca, ja, ra⟩ := ha.run
  obtain ⟨cb, jb, rb⟩ := hb.run
  refine ⟨_, jw_or ja jb, fun ρ G DQ σ H Q B q F => ra ρ G _ σ H _ B q fun c G1 H1 g1 q1 => ?_⟩
  cases c with
  | false => exact rb ρ G1 _ σ H1 _ (B.go g1) (q1.2 rfl) fun c G' H' g' => F c G' H' (g1.trans g')
  | true => exact F _ _ _ g1 (q1.1 rfl)
theorem AW.at {tc : DTT} (h : AW X e tc) : AT X e tc := by
  obtain ⟨ca, ja, ra⟩ := h.run
  exact ⟨_, ja.pt, ra⟩
/-- a value's truth -/
def truD (x : D) (G : DV) (k : Bool → Prop) : Prop := match x with
  | .non => k false
  | .bl b => k b
  | .int i => k (i != 0)
  | .str y => y.length ≤ sizeLine ∧ k ((y.length : Int) != 0)
  | .tup ds => k (!ds.isEmpty)
  | .ref p => onL G p fun ds => k (!ds.isEmpty)
  | _ => False
theorem AbsL.isEmpty {K : PySem.W.Frag} {H : Hp} {ds : List D} {vs : List V} (h : AbsL K H ds vs) : vs.isEmpty = ds.isEmpty := by
  have := h.len
  cases ds <;> cases vs <;> simp_all
abbrev dTruth (t : DTE) : DTT := fun ρ G Q => t ρ G fun x G1 => truD x G1 fun c => Q c G1
theorem at_truth (ha : AE X a ta) (he : ∀ whole, isTrue a X.env whole = (do let v ← whole; standAt a.pos; holding [v] (truthy v)) := by intro _; rfl) : AT X a (dTruth ta) := by
  obtain ⟨ca, ja, ra⟩ := ha.run
  refine ⟨_, jt_truth ja he, fun ρ G DQ σ H Q B q F => ra ρ G _ σ H _ B q fun x G1 v H1 g1 ax q1 => ?_⟩
  cases x with
  | non => cases ax; exact ⟨_, rfl, F _ _ _ g1 q1⟩
  | bl b => cases ax; exact ⟨_, rfl, F _ _ _ g1 q1⟩
  | int i => cases ax; exact ⟨_, rfl, F _ _ _ g1 q1⟩
  | str y => cases ax; exact ⟨_, ⟨q1.1, rfl⟩, F _ _ _ g1 q1.2⟩
  | ref l =>
    cases ax
    obtain ⟨ds, vs, k, s, r⟩ := onL_get g1.vw q1
    exact ⟨_, .inl ⟨vs, s, rfl⟩, by rw [r.isEmpty]; exact F _ _ _ g1 k⟩
  | tup ds =>
    obtain ⟨l, vs, rfl, s, r⟩ := ax
    exact ⟨_, .inr (.inl ⟨vs, s, rfl⟩), by rw [r.isEmpty]; exact F _ _ _ g1 q1⟩
  | ty n => exact (show False from q1).elim
  | frl ds => exact (show False from q1).elim
abbrev dNoPart : DTO := fun _ G Q => Q none G
abbrev dPart (t : DTE) : DTO := fun ρ G Q => t ρ G fun x G1 => match x with
  | .int i => Q (some i) G1
  | _ => False
theorem ao_none : AO X none dNoPart := ⟨_, jo_none, fun ρ G DQ σ H Q B q F => F none G H (.refl B.vw) q⟩
theorem ao_some (h : AE X e te) : AO X (some e) (dPart te) := by
  obtain ⟨ca, ja, ra⟩ := h.run
  refine ⟨_, jo_some ja, fun ρ G DQ σ H Q B q F => ra ρ G _ σ H _ B q fun x G1 v H1 g1 ax q1 => ?_⟩
  split at q1
  · next i => exact ⟨i, ax, F _ _ _ g1 q1⟩
  · exact q1.elim
abbrev dSl (r : D → Option Int → Option Int → DV → DK → Prop) (te : DTE) (tl th : DTO) : DTE := fun ρ G Q => te ρ G fun x G1 => tl ρ G1 fun l G2 => th ρ G2 fun u G3 => r x l u G3 Q
theorem ae_slice {r : D → Option Int → Option Int → DV → DK → Prop} {lo hi : Option Expr} {tl th : DTO} {p2 : Pos} (hr : ASl X r) (he : AE X e te) (hl : AO X lo tl) (hu : AO X hi th) : AE X (.Subscript e (.Slice lo hi none p2) pos) (dSl r te tl th) := by
  obtain ⟨ce, je, re⟩ := he.run
  obtain ⟨cl, jl, rl⟩ := hl.run
  obtain ⟨cu, ju, ru⟩ := hu.run
  obtain ⟨cr, jr, rr⟩ := hr.run
  refine ⟨_, je_slice jr je jl ju, fun ρ G DQ σ H Q B q F => re ρ G _ σ H _ B q fun x G1 v H1 g1 ax q1 => rl ρ G1 _ σ H1 _ (B.go g1) q1 fun l G2 H2 g2 q2 => ru ρ G2 _ σ H2 _ ((B.go g1).go g2) q2 fun u G3 H3 g3 q3 => ?_⟩
  exact rr x v l u G3 H3 DQ Q g3.vw ((ax.mono g2.tup).mono g3.tup) q3 (F.after ((g1.trans g2).trans g3))
abbrev dNext : DTS := fun D ρ G => D.nx ρ G
abbrev dSeq (t u : DTS) : DTS := fun D ρ G => t { D with nx := u D } ρ G
abbrev dDrop (te : DTE) : DTS := fun D ρ G => te ρ G fun _ G1 => D.nx ρ G1
abbrev dRet (te : DTE) : DTS := fun D ρ G => te ρ G D.rt
abbrev dIfS (c : DTT) (t u : DTS) : DTS := fun D ρ G => c ρ G fun b G1 => Br b (t D ρ G1) (u D ρ G1)
theorem ab_nil : AB X [] dNext := ⟨_, jb_nil, fun DD Dc ρ G σ H B q F => F.nx ρ G σ H (.refl B.vw) B q⟩
theorem ab_cons {st : Stmt} {rest : List Stmt} {ts us : DTS} (h1 : AS X st ts) (h2 : AB X rest us) : AB X (st :: rest) (dSeq ts us) := by
  obtain ⟨c1, j1, r1⟩ := h1.run
  obtain ⟨c2, j2, r2⟩ := h2.run
  refine ⟨_, jb_cons j1 j2, fun DD Dc ρ G σ H B q F => r1 _ _ ρ G σ H B q ⟨fun ρ' G' σ' H' g b q => r2 DD Dc ρ' G' σ' H' b q (F.after g), F.rt, F.bk, F.ct⟩⟩
theorem ab_one {st : Stmt} {ts : DTS} (h1 : AS X st ts) : AB X [st] ts := by
  obtain ⟨c1, j1, r1⟩ := h1.run
  exact ⟨_, jb_one j1, r1⟩
theorem as_expr (he : AE X e te) (hs : swapsWith e none pos.line X.env = pure false := by rfl) : AS X (.Expr e pos) (dDrop te) := by
  obtain ⟨c1, j1, r1⟩ := he.run
  exact ⟨_, js_expr j1 hs, fun DD Dc ρ G σ H B q F => r1 ρ G _ σ H _ B q fun d G' v H' g _ q => F.nx ρ G' σ H' g (B.go g) q⟩
theorem as_ret (he : AE X e te) : AS X (.Return (some e) pos) (dRet te) := by
  obtain ⟨c1, j1, r1⟩ := he.run
  exact ⟨_, js_ret j1, fun DD Dc ρ G σ H B q F => r1 ρ G _ σ H _ B q F.rt⟩
theorem as_if {ss us : List Stmt} {tc : DTT} {ts tu : DTS} (hc : AT X c tc) (ha : AB X ss ts) (hb : AB X us tu) : AS X (.If c ss us pos) (dIfS tc ts tu) := by
  obtain ⟨cc, jc, rc⟩ := hc.run
  obtain ⟨ca, ja, ra⟩ := ha.run
  obtain ⟨cb, jb, rb⟩ := hb.run
  refine ⟨_, js_if jc ja jb, fun DD Dc ρ G σ H B q F => rc ρ G _ σ H _ B q fun c G1 H1 g1 q1 => ?_⟩
  cases c with
  | true => exact ra DD Dc ρ G1 σ H1 (B.go g1) (q1.1 rfl) (F.after g1)
  | false => exact rb DD Dc ρ G1 σ H1 (B.go g1) (q1.2 rfl) (F.after g1)
abbrev dgName (k : Nat) : DTG := fun d ρ G Q => Q (ρ.set k (some d)) G
abbrev dgNil : DTGs := fun ds ρ G Q => match ds with
  | [] => Q ρ G
  | _ => False
abbrev dgCons (t : DTG) (u : DTGs) : DTGs := fun ds ρ G Q => match ds with
  | d :: r => t d ρ G fun ρ' G' => u r ρ' G' Q
  | [] => False
abbrev dgTup (t : DTGs) : DTG := fun d ρ G Q => match d with
  | .tup ds => t ds ρ G Q
  | _ => False
theorem ag_name {k : Nat} {x : Str} (hN : X.N.Nodup) (hi : X.N[k]? = some x) (hx : Loc X.env.scope x) (hf : X.fn x = true ∨ X.env.scope.names.lookup x = some .local := by first | exact .inl rfl | exact .inr rfl | assumption) : AG X (.Name x pos) (dgName k) :=
  ⟨_, jg_name hN hi hx hf, fun d v ρ G DQ σ H Q B a q F => F _ G _ H (.refl B.vw) (B.set a k) q⟩
abbrev dAsg (te : DTE) (g : DTG) : DTS := fun D ρ G => te ρ G fun x G1 => g x ρ G1 D.nx
theorem as_asg {tg : Expr} {g : DTG} (he : AE X e te) (hg : AG X tg g) (hs : swapsWithSole [tg] e pos.line X.env = pure false := by rfl) (hw : swappedStores [tg] e X.env = pure none := by rfl) (h1 : (assignEach [tg] X.env).map (·.2) = [assign tg X.env] := by rfl) : AS X (.Assign [tg] e pos) (dAsg te g) := by
  obtain ⟨c1, j1, r1⟩ := he.run
  obtain ⟨c2, j2, r2⟩ := hg.run
  exact ⟨_, js_asg j1 j2 hs hw h1, fun DD Dc ρ G σ H B q F => r1 ρ G _ σ H _ B q fun d G1 v H1 g1 a q1 => r2 d v ρ G1 _ σ H1 _ (B.go g1) a q1 fun ρ' G' σ' H' g' b q' => F.nx ρ' G' σ' H' (g1.trans g') b q'⟩
theorem as_set {k : Nat} {x : Str} {pos' : Pos} (hN : X.N.Nodup) (hi : X.N[k]? = some x) (hx : Loc X.env.scope x) (he : AE X e te) (hs : swapsWith e (some (.Name x pos')) pos.line X.env = pure false := by rfl) (hf : X.fn x = true ∨ X.env.scope.names.lookup x = some .local := by first | exact .inl rfl | exact .inr rfl | assumption) :
    AS X (.Assign [.Name x pos'] e pos) (dAsg te (dgName k)) := by
  obtain ⟨c1, j1, r1⟩ := he.run
  exact ⟨_, js_set hN hi hx j1 hs hf, fun DD Dc ρ G σ H B q F => r1 ρ G _ σ H _ B q fun d G1 v H1 g1 a q1 => F.nx _ G1 _ H1 g1 ((B.go g1).set a k) q1⟩
theorem ags_nil : AGs X [] dgNil := ⟨_, jgs_nil, fun ds vs ρ G DQ σ H Q B a q F => by
  cases ds with
  | nil => cases a; exact ⟨rfl, F ρ G σ H (.refl B.vw) B q⟩
  | cons d r => exact (show False from q).elim⟩
theorem ags_cons {tg : DTG} {u : DTGs} (h1 : AG X e tg) (h2 : AGs X es u) (hs : (assignEach (e :: es) X.env).map (·.2) = assign e X.env :: (assignEach es X.env).map (·.2) := by rfl) : AGs X (e :: es) (dgCons tg u) := by
  obtain ⟨c1, j1, r1⟩ := h1.run
  obtain ⟨c2, j2, r2⟩ := h2.run
  refine ⟨_, jgs_cons j1 j2 hs, fun ds vs ρ G DQ σ H Q B a q F => ?_⟩
  cases ds with
  | nil => exact (show False from q).elim
  | cons d r =>
    obtain ⟨v, us, rfl, ad, ar⟩ := a
    exact ⟨v, us, rfl, r1 d v ρ G _ σ H _ B ad q fun ρ' G' σ' H' g b q' => r2 r us ρ' G' _ σ' H' _ b (ar.mono g.tup) q' fun ρ2 G2 σ2 H2 g2 b2 q2 => F ρ2 G2 σ2 H2 (g.trans g2) b2 q2⟩
theorem ag_tup {k n : Nat} {tg : DTGs} (hc : X.calm = true) (h : AGs X es tg) (hl : es.length = n := by rfl) (hn : (assignEach es X.env).length = n := by rfl) (hst : (assignEach es X.env).findIdx? (·.1) = none := by rfl)
    (hlen : ∀ ds ρ G Q, tg ds ρ G Q → ds.length = n := by intro ds ρ G Q h; match ds, h with | [], h => (first | rfl | exact (show False from h).elim) | [_], h => (first | rfl | exact (show False from h).elim) | [_, _], h => (first | rfl | exact (show False from h).elim) | [_, _, _], h => (first | rfl | exact (show False from h).elim) | _ :: _ :: _ :: _ :: _, h => exact (show False from h).elim) : AG X (.Tuple es k pos) (dgTup tg) := by
  obtain ⟨c1, j1, r1⟩ := h.run
  refine ⟨_, jg_tup (n := n) hc j1 hn hst, fun d v ρ G DQ σ H Q B a q F => ?_⟩
  cases d with
  | tup ds =>
    obtain ⟨l, vs, rfl, s, r⟩ := a
    exact ⟨l, vs, rfl, s, by rw [r.len]; exact hlen _ _ _ _ q, r1 ds vs ρ G DQ σ H Q B r q F⟩
  | _ => exact (show False from q).elim
end
end L3
namespace L3
open PySem PySem.Spec L2
section
variable {X : Cx}
def addD : DR2 := fun x y G Q => match x, y with
  | .int i, .int j => Q (.int (i + j)) G
  | .str i, .str j => i.length + j.length ≤ sizeLine ∧ Q (.str (i ++ j)) G
  | .tup xs, .tup ys => xs.length + ys.length ≤ sizeLine ∧ Q (.tup (xs ++ ys)) G
  | .ref l, .ref m => onM G l fun xs => onM G m fun ys => xs.length + ys.length ≤ sizeLine ∧ ∀ p, G p = none → Q (.ref p) (up G p (.lst (xs ++ ys)))
  | _, _ => False
theorem aop_add : AOp X (binaryOp .Add) addD := by
  refine ⟨_, ⟨op_add.or (op_add_str.or (op_catW.or op_cat))⟩, fun x y vx vy G H DQ Q v ax ay r F => ?_⟩
  cases x with
  | int i =>
    cases y with
    | int j => cases ax; cases ay; exact .inl ⟨i, j, rfl, rfl, F (.int (i + j)) G _ H (.refl v) rfl r⟩
    | _ => exact (show False from r).elim
  | str i =>
    cases y with
    | str j => cases ax; cases ay; exact .inr (.inl ⟨i, j, rfl, rfl, r.1, F (.str (i ++ j)) G _ H (.refl v) rfl r.2⟩)
    | _ => exact (show False from r).elim
  | tup xs =>
    cases y with
    | tup ys =>
      obtain ⟨l, vs, rfl, s1, r1⟩ := ax
      obtain ⟨m, us, rfl, s2, r2⟩ := ay
      have l1 := r1.len
      have l2 := r2.len
      refine .inr (.inr (.inl ⟨l, m, vs, us, rfl, rfl, s1, s2, by rw [l1, l2]; exact r.1, fun e => ?_, fun e e2 => ?_, fun e e2 p hp => ?_⟩))
      · subst e
        have e' : xs = [] := by cases xs <;> simp_all
        subst e'
        exact F (.tup ys) G _ H (.refl v) ⟨m, us, rfl, s2, r2⟩ (by simpa using r.2)
      · subst e2
        have e' : ys = [] := by cases ys <;> simp_all
        subst e'
        exact F (.tup xs) G _ H (.refl v) ⟨l, vs, rfl, s1, r1⟩ (by simpa using r.2)
      · have g := Go.newT (o := .tup (vs ++ us)) v hp
        exact F (.tup (xs ++ ys)) G _ _ g ⟨p, _, rfl, .of upd_same, (r1.append r2).mono g.tup⟩ r.2
    | _ => exact (show False from r).elim
  | ref l =>
    cases y with
    | ref m =>
      cases ax; cases ay
      obtain ⟨xs, vs, k1, e1, h1, r1⟩ := onM_get v r
      obtain ⟨ys, us, k2, e2, h2, r2⟩ := onM_get v k1
      have l1 := r1.len
      have l2 := r2.len
      exact .inr (.inr (.inr ⟨l, m, vs, us, rfl, rfl, h1, h2, by rw [l1, l2]; exact k2.1, fun p hp => F (.ref p) _ _ _ (Go.newL v hp (r1.append r2)) rfl (k2.2 p (v.none hp))⟩))
    | _ => exact (show False from r).elim
  | _ => exact (show False from r).elim
/-- ints in, under C, a value out -/
def intR (C : Int → Int → Prop) (g : Int → Int → D) : DR2 := fun x y G Q => match x, y with
  | .int i, .int j => C i j ∧ Q (g i j) G
  | _, _ => False
def intR0 (g : Int → Int → D) : DR2 := fun x y G Q => match x, y with
  | .int i, .int j => Q (g i j) G
  | _, _ => False
theorem aop_i {f : Value → Value → Sem Value} {C : Int → Int → Prop} {g : Int → Int → Int} (h : OpR X f (rI C fun i j => .int (g i j))) : AOp X f (intR C fun i j => .int (g i j)) := by
  refine ⟨_, ⟨h⟩, fun x y vx vy G H DQ Q v ax ay r F => ?_⟩
  cases x with
  | int i =>
    cases y with
    | int j => cases ax; cases ay; exact ⟨i, j, rfl, rfl, r.1, F (.int (g i j)) G _ H (.refl v) rfl r.2⟩
    | _ => exact (show False from r).elim
  | _ => exact (show False from r).elim
theorem aop_i0 {f : Value → Value → Sem Value} {g : Int → Int → Int} (h : OpR X f (rI0 fun i j => .int (g i j))) : AOp X f (intR0 fun i j => .int (g i j)) := by
  refine ⟨_, ⟨h⟩, fun x y vx vy G H DQ Q v ax ay r F => ?_⟩
  cases x with
  | int i =>
    cases y with
    | int j => cases ax; cases ay; exact ⟨i, j, rfl, rfl, F (.int (g i j)) G _ H (.refl v) rfl r⟩
    | _ => exact (show False from r).elim
  | _ => exact (show False from r).elim
theorem aop_b0 {f : Value → Value → Sem Value} {g : Int → Int → Bool} (h : OpR X f (rI0 fun i j => .bl (g i j))) : AOp X f (intR0 fun i j => .bl (g i j)) := by
  refine ⟨_, ⟨h⟩, fun x y vx vy G H DQ Q v ax ay r F => ?_⟩
  cases x with
  | int i =>
    cases y with
    | int j => cases ax; cases ay; exact ⟨i, j, rfl, rfl, F (.bl (g i j)) G _ H (.refl v) rfl r⟩
    | _ => exact (show False from r).elim
  | _ => exact (show False from r).elim
theorem aop_sub : AOp X (binaryOp .Sub) (intR0 fun i j => .int (i - j)) := aop_i0 op_sub
theorem aop_mul : AOp X (binaryOp .Mult) (intR CMul fun i j => .int (i * j)) := aop_i op_mul
theorem aop_fdiv : AOp X (binaryOp .FloorDiv) (intR (fun _ j => 0 < j ∧ j < 2 ^ 64) fun i j => .int (i / j)) := aop_i op_fdivL
theorem aop_mod : AOp X (binaryOp .Mod) (intR (fun _ j => 0 < j) fun i j => .int (i % j)) := aop_i op_mod
theorem aop_pow : AOp X (binaryOp .Pow) (intR CPow fun i j => .int (i ^ j.toNat)) := aop_i op_pow
theorem aop_lt : AOp X (compareOp .Lt) (intR0 fun i j => .bl (decide (i < j))) := aop_b0 op_lt
theorem aop_gt : AOp X (compareOp .Gt) (intR0 fun i j => .bl (decide (j < i))) := aop_b0 op_gt
theorem aop_ge : AOp X (compareOp .GtE) (intR0 fun i j => .bl (decide (j ≤ i))) := aop_b0 op_ge
def negD : DR1 := fun x G Q => match x with
  | .int i => Q (.int (-i)) G
  | _ => False
theorem aun_neg : AUn X (unaryOp .USub) negD := by
  refine ⟨_, ⟨un_neg⟩, fun x vx G H DQ Q v ax r F => ?_⟩
  cases x with
  | int i => cases ax; exact ⟨i, rfl, F (.int (-i)) G _ H (.refl v) rfl r⟩
  | _ => exact (show False from r).elim
def isNon : D → Bool
  | .non => true
  | _ => false
theorem atI_abs {K : PySem.W.Frag} {H : Hp} {ds : List D} {vs : List V} {i : Int} {d : D} (r : AbsL K H ds vs) (h : atI ds i = some d) : ∃ v, atI vs i = some v ∧ Abs K H d v := by
  unfold atI at h ⊢
  rw [r.len]
  cases e : ixN ds.length i with
  | none => rw [e] at h; cases h
  | some j =>
    rw [e] at h
    exact r.get h
theorem atD_get {ds : List D} {i : Int} {G : DV} {Q : DK} (h : atD ds i G Q) : ∃ d, atI ds i = some d ∧ Q d G := by
  unfold atD at h
  rw [atN_eq] at h
  split at h
  · next d e => exact ⟨d, e, h⟩
  · exact h.elim
def ixD : DR2 := fun x y G Q => match x, y with
  | .tup ds, .int i => atD ds i G Q
  | .ref l, .int i => onL G l fun ds => atD ds i G Q
  | .frl ds, .int i => atD ds i G Q
  | .str z, .int i => z.length ≤ sizeLine ∧ ∃ c, atI z.cps.toList i = some c ∧ Q (.str ⟨#[c]⟩) G
  | _, _ => False
theorem ixT_of {ds : List D} {i : Int} {G : DV} {Q : DK} {d : D} (h : atI ds i = some d) (q : Q d G) : ixD (.tup ds) (.int i) G Q := atD_of h q
theorem ixF_of {ds : List D} {i : Int} {G : DV} {Q : DK} {d : D} (h : atI ds i = some d) (q : Q d G) : ixD (.frl ds) (.int i) G Q := atD_of h q
theorem aix : AIx X ixD := by
  refine ⟨_, ⟨ix_seq⟩, fun x y vx vy G H DQ Q v ax ay r F => ?_⟩
  cases x with
  | tup ds =>
    cases y with
    | int i =>
      cases ay
      obtain ⟨l, vs, rfl, s, rl⟩ := ax
      obtain ⟨d, hd, q⟩ := atD_get r
      obtain ⟨u, hu, ad⟩ := atI_abs rl hd
      exact .inr (.inl ⟨l, vs, i, u, rfl, rfl, s, hu, F d G u H (.refl v) ad q⟩)
    | _ => exact (show False from r).elim
  | ref l =>
    cases y with
    | int i =>
      cases ax; cases ay
      obtain ⟨ds, vs, k, s, rl⟩ := onL_get v r
      obtain ⟨d, hd, q⟩ := atD_get k
      obtain ⟨u, hu, ad⟩ := atI_abs rl hd
      exact .inl ⟨l, vs, i, u, rfl, rfl, s, hu, F d G u H (.refl v) ad q⟩
    | _ => exact (show False from r).elim
  | frl ds =>
    cases y with
    | int i =>
      cases ay
      obtain ⟨l, vs, rfl, s, rl⟩ := ax
      obtain ⟨d, hd, q⟩ := atD_get r
      obtain ⟨u, hu, ad⟩ := atI_abs rl hd
      exact .inl ⟨l, vs, i, u, rfl, rfl, s.sq, hu, F d G u H (.refl v) ad q⟩
    | _ => exact (show False from r).elim
  | str z =>
    cases y with
    | int i =>
      cases ax; cases ay
      obtain ⟨hz, c, hc, q⟩ := r
      exact .inr (.inr ⟨z, i, c, rfl, rfl, hz, hc, F (.str ⟨#[c]⟩) G _ H (.refl v) rfl q⟩)
    | _ => exact (show False from r).elim
  | _ => exact (show False from r).elim
def slD : D → Option Int → Option Int → DV → DK → Prop := fun x lo hi G Q => match x with
  | .tup ds => Q (.tup (cut ds lo hi)) G
  | .ref l => onL G l fun ds => ∀ p, G p = none → Q (.ref p) (up G p (.lst (cut ds lo hi)))
  | .frl ds => ∀ p, G p = none → Q (.ref p) (up G p (.lst (cut ds lo hi)))
  | _ => False
theorem asl : ASl X slD := by
  refine ⟨_, ⟨sl_tupU.or sl_list⟩, fun x vx lo hi G H DQ Q v ax r F => ?_⟩
  cases x with
  | tup ds =>
    obtain ⟨l, vs, rfl, s, rl⟩ := ax
    refine .inl ⟨l, vs, rfl, s, fun t H2 sm st => ?_⟩
    have g := Go.grow v sm
    exact F (.tup (cut ds lo hi)) G _ _ g ⟨t, _, rfl, st, (rl.cut lo hi).mono g.tup⟩ r
  | ref l =>
    cases ax
    obtain ⟨ds, vs, k, s, rl⟩ := onL_get v r
    exact .inr ⟨l, vs, rfl, s, fun p hp => F (.ref p) _ _ _ (Go.newL v hp (rl.cut lo hi)) rfl (k p (v.none hp))⟩
  | frl ds =>
    obtain ⟨l, vs, rfl, s, rl⟩ := ax
    exact .inr ⟨l, vs, rfl, s.sq, fun p hp => F (.ref p) _ _ _ (Go.newL v hp (rl.cut lo hi)) rfl (r p (v.none hp))⟩
  | _ => exact (show False from r).elim
def flatD : D → Bool
  | .non => true
  | .bl _ => true
  | .int _ => true
  | .str _ => true
  | _ => false
def toV : D → V
  | .non => .non
  | .bl b => .bl b
  | .int i => .int i
  | .str x => .str x
  | _ => .non
theorem toV_of {K : PySem.W.Frag} {H : Hp} {d : D} {v : V} (a : Abs K H d v) (h : flatD d = true) : v = toV d ∧ flatV v = true := by
  cases d with
  | non => cases a; exact ⟨rfl, rfl⟩
  | bl b => cases a; exact ⟨rfl, rfl⟩
  | int b => cases a; exact ⟨rfl, rfl⟩
  | str b => cases a; exact ⟨rfl, rfl⟩
  | _ => exact absurd h (by simp [flatD])
theorem toVs {K : PySem.W.Frag} {H : Hp} : ∀ {ds : List D} {vs : List V}, AbsL K H ds vs → ds.all flatD = true → vs = ds.map toV ∧ vs.all flatV = true
  | [], _, r, _ => by cases r; exact ⟨rfl, rfl⟩
  | _ :: _, _, ⟨v, r, e, q, l⟩, h => by
    subst e
    rw [List.all_cons, Bool.and_eq_true] at h
    obtain ⟨h1, h2⟩ := toV_of q h.1
    obtain ⟨h3, h4⟩ := toVs l h.2
    exact ⟨by rw [List.map_cons, ← h1, ← h3], by rw [List.all_cons, h2, h4]; rfl⟩
/-- == of flat data -/
def eqF : D → D → Bool
  | .non, .non => true
  | .bl a, .bl b => a == b
  | .bl a, .int b => (if a then 1 else 0) == b
  | .int a, .bl b => a == (if b then 1 else 0)
  | .int a, .int b => a == b
  | .str a, .str b => a == b
  | _, _ => false
theorem eqF_V {x y : D} (hx : flatD x = true) (hy : flatD y = true) : eqV (toV x) (toV y) = eqF x y := by
  cases x <;> cases y <;> first | rfl | (simp [flatD] at hx; done) | (simp [flatD] at hy; done)
def inL (x : D) (ds : List D) : Bool := ds.any fun y => eqF y x
theorem inL_V {x : D} (hx : flatD x = true) : ∀ {ds : List D}, ds.all flatD = true → inV (toV x) (ds.map toV) = inL x ds
  | [], _ => rfl
  | d :: ds, h => by
    rw [List.all_cons, Bool.and_eq_true] at h
    have ih := inL_V hx h.2
    unfold inV inL at *
    rw [List.map_cons, List.any_cons, List.any_cons, ih, eqF_V h.1 hx]
def inD (neg : Bool) : DR2 := fun x y G Q => match y with
  | .tup ds => flatD x = true ∧ ds.all flatD = true ∧ Q (.bl (neg ^^ inL x ds)) G
  | .ref l => onL G l fun ds => flatD x = true ∧ ds.all flatD = true ∧ Q (.bl (neg ^^ inL x ds)) G
  | .str j => (match x with
      | .str i => Q (.bl (neg ^^ !(Builtin.Str.occurrences j i 0 j.length 1).isEmpty)) G
      | _ => False)
  | _ => False
theorem aop_in : AOp X (compareOp .In) (inD false) := by
  refine ⟨_, ⟨op_in_seq.or op_in_str⟩, fun x y vx vy G H DQ Q v ax ay r F => ?_⟩
  cases y with
  | tup ds =>
    obtain ⟨h1, h2, q⟩ := r
    obtain ⟨l, vs, rfl, s, rl⟩ := ay
    obtain ⟨e1, f1⟩ := toV_of ax h1
    obtain ⟨e2, f2⟩ := toVs rl h2
    refine .inl ⟨l, vs, rfl, .inr s, f1, f2, ?_⟩
    rw [e1, e2, inL_V h1 h2]
    exact F (.bl _) G _ H (.refl v) rfl (by simpa using q)
  | ref l =>
    cases ay
    obtain ⟨ds, vs, ⟨h1, h2, q⟩, s, rl⟩ := onL_get v r
    obtain ⟨e1, f1⟩ := toV_of ax h1
    obtain ⟨e2, f2⟩ := toVs rl h2
    refine .inl ⟨l, vs, rfl, .inl s, f1, f2, ?_⟩
    rw [e1, e2, inL_V h1 h2]
    exact F (.bl _) G _ H (.refl v) rfl (by simpa using q)
  | str j =>
    cases x with
    | str i => cases ax; cases ay; exact .inr ⟨i, j, rfl, rfl, F (.bl _) G _ H (.refl v) rfl (by simpa [inD] using r)⟩
    | _ => exact (show False from r).elim
  | _ => exact (show False from r).elim
variable {e o : Expr} {es : List Expr} {te to : DTE} {t : DTA} {pos p apos cpos : Pos}
abbrev dCB (r : DRL) (t : DTA) : DTE := fun ρ G Q => t ρ G fun ds G1 => r ds G1 Q
theorem ae_callB {x : Str} {id : String} {r : DRL} (hc : ACall X (.builtin id) r) (hg : Gl X x) (hm : X.mg x = none) (hv : bootBuiltins x = some (.builtin id)) (ha : AA X (e :: es) t) (hn : x ≠ "__name__" := by decide) (hdb : (x == ("__debug__" : Str)) = false := by decide)
    (hs : (e :: es).all unstar = true := by rfl) : AE X (.Call (.Name x p) (e :: es) [] pos) (dCB r t) := by
  obtain ⟨ca, ja, ra⟩ := ha.run
  obtain ⟨cc, jc, rc⟩ := hc.run
  exact ⟨_, je_callB jc hg hm hv ja hn hdb hs, fun ρ G DQ σ H Q B q F => ra ρ G _ σ H _ B q fun ds G1 vs H1 g1 al _ q1 => rc ds vs G1 H1 DQ Q g1.vw al q1 (F.after g1)⟩
theorem ae_callTy {x : Str} {T : String} {r : DRL} (hc : ACall X (.type T) r) (hg : Gl X x) (hm : X.mg x = none) (hv : bootBuiltins x = some (.type T)) (ha : AA X (e :: es) t) (hn : x ≠ "__name__" := by decide) (hdb : (x == ("__debug__" : Str)) = false := by decide)
    (hs : (e :: es).all unstar = true := by rfl) : AE X (.Call (.Name x p) (e :: es) [] pos) (dCB r t) := by
  obtain ⟨ca, ja, ra⟩ := ha.run
  obtain ⟨cc, jc, rc⟩ := hc.run
  exact ⟨_, je_callTy jc hg hm hv ja hn hdb hs, fun ρ G DQ σ H Q B q F => ra ρ G _ σ H _ B q fun ds G1 vs H1 g1 al _ q1 => rc ds vs G1 H1 DQ Q g1.vw al q1 (F.after g1)⟩
abbrev one1 (r : D → DV → DK → Prop) : DRL := fun xs G Q => match xs with
  | [x] => r x G Q
  | _ => False
abbrev two2 (r : D → D → DV → DK → Prop) : DRL := fun xs G Q => match xs with
  | [x, y] => r x y G Q
  | _ => False
theorem one1_get {K : PySem.W.Frag} {H : Hp} {r : D → DV → DK → Prop} {xs : List D} {vs : List V} {G : DV} {Q : DK} (h : one1 r xs G Q) (a : AbsL K H xs vs) : ∃ x v, xs = [x] ∧ vs = [v] ∧ Abs K H x v ∧ r x G Q := by
  unfold one1 at h
  split at h
  · obtain ⟨v, r, rfl, q, l⟩ := a; cases l; exact ⟨_, v, rfl, rfl, q, h⟩
  · exact h.elim
theorem two2_get {K : PySem.W.Frag} {H : Hp} {r : D → D → DV → DK → Prop} {xs : List D} {vs : List V} {G : DV} {Q : DK} (h : two2 r xs G Q) (a : AbsL K H xs vs) : ∃ x y v u, xs = [x, y] ∧ vs = [v, u] ∧ Abs K H x v ∧ Abs K H y u ∧ r x y G Q := by
  unfold two2 at h
  split at h
  · obtain ⟨v, r, rfl, q, u, r2, rfl, q2, l⟩ := a; cases l; exact ⟨_, _, v, u, rfl, rfl, q, q2, h⟩
  · exact h.elim
def lenD : D → DV → DK → Prop := fun x G Q => match x with
  | .tup ds => Q (.int ds.length) G
  | .ref l => onL G l fun ds => Q (.int ds.length) G
  | .frl ds => Q (.int ds.length) G
  | .str z => z.length ≤ sizeLine ∧ Q (.int z.length) G
  | _ => False
theorem acall_len : ACall X (.builtin "len") (one1 lenD) := by
  refine ⟨_, ⟨call_len_seq.or call_len_str⟩, fun xs vs G H DQ Q v a r F => ?_⟩
  obtain ⟨x, u, rfl, rfl, ax, r⟩ := one1_get r a
  cases x with
  | tup ds =>
    obtain ⟨l, ws, rfl, s, rl⟩ := ax
    exact .inl ⟨l, ws, rfl, .inr s, by rw [rl.len]; exact F (.int ds.length) G _ H (.refl v) rfl r⟩
  | ref l =>
    cases ax
    obtain ⟨ds, ws, k, s, rl⟩ := onL_get v r
    exact .inl ⟨l, ws, rfl, .inl s, by rw [rl.len]; exact F (.int ds.length) G _ H (.refl v) rfl k⟩
  | frl ds =>
    obtain ⟨l, ws, rfl, s, rl⟩ := ax
    exact .inl ⟨l, ws, rfl, .inl s.sq, by rw [rl.len]; exact F (.int ds.length) G _ H (.refl v) rfl r⟩
  | str z => cases ax; exact .inr ⟨z, rfl, r.1, F (.int z.length) G _ H (.refl v) rfl r.2⟩
  | _ => exact (show False from r).elim
def intD : D → DV → DK → Prop := fun x G Q => match x with
  | .int i => Q (.int i) G
  | .bl k => Q (.int (if k then 1 else 0)) G
  | _ => False
theorem acall_int : ACall X (.type "int") (one1 intD) := by
  refine ⟨_, ⟨call_int1⟩, fun xs vs G H DQ Q v a r F => ?_⟩
  obtain ⟨x, u, rfl, rfl, ax, r⟩ := one1_get r a
  cases x with
  | int i => cases ax; exact .inl ⟨i, rfl, F (.int i) G _ H (.refl v) rfl r⟩
  | bl k => cases ax; exact .inr ⟨k, rfl, F (.int (if k then 1 else 0)) G _ H (.refl v) rfl r⟩
  | _ => exact (show False from r).elim
def ints2 (g : Int → Int → Int) : D → D → DV → DK → Prop := fun x y G Q => match x, y with
  | .int i, .int j => Q (.int (g i j)) G
  | _, _ => False
theorem acall_max (hc : X.calm = true) : ACall X (.builtin "max") (two2 (ints2 fun i j => if j > i then j else i)) := by
  refine ⟨_, ⟨call_max2 hc⟩, fun xs vs G H DQ Q v a r F => ?_⟩
  obtain ⟨x, y, u, w, rfl, rfl, ax, ay, r⟩ := two2_get r a
  cases x with
  | int i =>
    cases y with
    | int j => cases ax; cases ay; exact ⟨i, j, rfl, F (.int (if j > i then j else i)) G _ H (.refl v) rfl r⟩
    | _ => exact (show False from r).elim
  | _ => exact (show False from r).elim
def tupD : D → DV → DK → Prop := fun x G Q => match x with
  | .tup ds => Q (.tup ds) G
  | .ref l => onL G l fun ds => Q (.tup ds) G
  | _ => False
theorem acall_tuple : ACall X (.type "tuple") (one1 tupD) := by
  refine ⟨_, ⟨call_tuple_of⟩, fun xs vs G H DQ Q v a r F => ?_⟩
  obtain ⟨x, u, rfl, rfl, ax, r⟩ := one1_get r a
  cases x with
  | tup ds =>
    obtain ⟨l, ws, rfl, s, rl⟩ := ax
    exact ⟨l, ws, rfl, .inr ⟨s, F (.tup ds) G _ H (.refl v) ⟨l, ws, rfl, s, rl⟩ r⟩⟩
  | ref l =>
    cases ax
    obtain ⟨ds, ws, k, s, rl⟩ := onL_get v r
    refine ⟨l, ws, rfl, .inl ⟨s, fun p hp => ?_⟩⟩
    have g := Go.newT (o := .tup ws) v hp
    exact F (.tup ds) G _ _ g ⟨p, ws, rfl, .of upd_same, rl.mono g.tup⟩ k
  | _ => exact (show False from r).elim
/-- sum of a list of ints -/
def asInts : List D → Option (List Int)
  | [] => some []
  | .int i :: r => (asInts r).map (i :: ·)
  | _ :: _ => none
theorem asInts_eq : ∀ {ds : List D} {ns : List Int}, asInts ds = some ns → ds = ns.map D.int
  | [], ns, h => by cases h; rfl
  | d :: r, ns, h => by
    cases d with
    | int i =>
      simp only [asInts, Option.map_eq_some_iff] at h
      obtain ⟨ms, h1, rfl⟩ := h
      rw [asInts_eq h1]; rfl
    | _ => simp [asInts] at h
theorem asInts_map : ∀ ns : List Int, asInts (ns.map D.int) = some ns
  | [] => rfl
  | n :: ns => by simp [asInts, asInts_map ns]
end
end L3
namespace L2
open PySem PySem.Spec PyProof.Rows
/-- a list or a tuple, whichever it is -/
def iSeq (K : PySem.W.Frag) (tl : TE) : TI := fun σ H R => tl σ H fun x H1 => ∃ a, x = .ref a ∧ (((∃ xs, SqL K H1 a xs) ∧ R (Itl K a) H1) ∨ ((∃ xs, SqT K H1 a xs) ∧ R (Itt K a) H1))
theorem pi_seq {X : Cx} {tg l : Expr} {tl : TE} (hl : PE X l tl) : PI X tg l (iSeq X.K tl) := by
  intro pins s σ H R I h
  refine thn (hl pins s σ H _ I h) fun v s1 ⟨x, H1, I1, r1, q1⟩ => ?_
  obtain ⟨a, e, q1⟩ := q1
  subst e
  cases r1
  rcases q1 with ⟨⟨xs, hq⟩, q⟩ | ⟨⟨xs, hq⟩, q⟩
  · obtain ⟨its, rv, p, hz⟩ := I1.list hq
    refine wpAny_pyIter_list p.isList ?_
    refine ⟨s1.heap.objs.size, [s1.heap.objs.size], _, _, H1, rfl, I1.kept (t' := s1.toks) fun b o e => Heap.get?_push_of_some _ e, turn_list a _, ⟨_, Heap.get?_push_size _ rfl, rfl, rfl⟩, fun b hb => ?_, q⟩
    have e : b = s1.heap.objs.size := by simpa using hb
    subst e
    exact I1.fpOk (Nat.le_refl _) (I1.hok.fresh (Nat.le_refl _))
  · obtain ⟨its, rv, p, hz⟩ := I1.tuple hq
    refine wpAny_pyIter_tuple (show s1.heap.IsTuple a its.toArray from p) ?_
    refine ⟨s1.heap.objs.size, [s1.heap.objs.size], _, _, H1, rfl, I1.kept (t' := s1.toks) fun b o e => Heap.get?_push_of_some _ e, turn_tuple a _, ⟨_, Heap.get?_push_size _ rfl, rfl, rfl⟩, fun b hb => ?_, q⟩
    have e : b = s1.heap.objs.size := by simpa using hb
    subst e
    exact I1.fpOk (Nat.le_refl _) (I1.hok.fresh (Nat.le_refl _))
end L2
namespace L3
open PySem PySem.Spec L2
section
variable {X : Cx} {a b c e o i tg iter : Expr} {es : List Expr} {ta tb te to ti : DTE} {t : DTA} {pos p apos cpos : Pos}
structure DIt where
  items : List D
  held : DV → Prop
abbrev DTI := DSt → DV → (DIt → DV → Prop) → Prop
/-- from the state in which it was made on -/
def ItOk (K : PySem.W.Frag) (J : DIt) (Jc : It) (G : DV) (H : Hp) : Prop := ∀ G1 H1, Go K G H G1 H1 → J.held G1 →
  (∀ (i : Nat) (d : D), J.items[i]? = some d → Jc.go i H1 ∧ ∀ x H', Jc.yld i H1 x H' → Go K G1 H1 G1 H' ∧ Abs K H' d x) ∧ ∀ i, J.items.length ≤ i → Jc.stop i H1
structure AI (X : Cx) (tg iter : Expr) (wi : DTI) : Prop where
  run : ∃ wc : TI, JI X tg iter wc ∧ ∀ ρ G DR σ H R, Bears X.K ρ G σ H → wi ρ G DR → (∀ J Jc G' H', Go X.K G H G' H' → ItOk X.K J Jc G' H' → DR J G' → R Jc H') → wc σ H R
@[irreducible] def onIt (G : DV) (l : Addr) (k : DIt → Prop) : Prop := match G l with
  | some (.lst ds) => k ⟨ds, fun G => G l = some (.lst ds)⟩
  | _ => False
abbrev diSeq (ta : DTE) : DTI := fun ρ G R => ta ρ G fun x G1 => match x with
  | .tup ds => R ⟨ds, fun _ => True⟩ G1
  | .ref l => onIt G1 l fun J => R J G1
  | .frl ds => R ⟨ds, fun _ => True⟩ G1
  | _ => False
theorem onIt_of {G : DV} {l : Addr} {k : DIt → Prop} {ds : List D} (h : G l = some (.lst ds)) (q : k ⟨ds, fun G => G l = some (.lst ds)⟩) : onIt G l k := by unfold onIt; rw [h]; exact q
theorem itt_ok {K : PySem.W.Frag} {ds : List D} {vs : List V} {l : Addr} {G1 : DV} {H1 : Hp} (v : Vw K G1 H1) (s : SqT K H1 l vs) (r : AbsL K H1 ds vs) :
    (∀ (i : Nat) (d : D), ds[i]? = some d → (Itt K l).go i H1 ∧ ∀ x H', (Itt K l).yld i H1 x H' → Go K G1 H1 G1 H' ∧ Abs K H' d x) ∧ ∀ i, ds.length ≤ i → (Itt K l).stop i H1 := by
  refine ⟨fun i d hd => ?_, fun i hi => ⟨vs, s, by rw [r.len]; exact hi⟩⟩
  obtain ⟨w, hw, aw⟩ := r.get hd
  refine ⟨⟨vs, w, s, hw⟩, fun x H' y => ?_⟩
  obtain ⟨rfl, y⟩ := y
  have z := y vs s
  rw [hw] at z
  cases z
  exact ⟨.refl v, aw⟩
theorem itl_ok' {K : PySem.W.Frag} {ds : List D} {vs : List V} {l : Addr} {G1 : DV} {H1 : Hp} (v : Vw K G1 H1) (s : SqL K H1 l vs) (r : AbsL K H1 ds vs) :
    (∀ (i : Nat) (d : D), ds[i]? = some d → (Itl K l).go i H1 ∧ ∀ x H', (Itl K l).yld i H1 x H' → Go K G1 H1 G1 H' ∧ Abs K H' d x) ∧ ∀ i, ds.length ≤ i → (Itl K l).stop i H1 := by
  refine ⟨fun i d hd => ?_, fun i hi => ⟨vs, s, by rw [r.len]; exact hi⟩⟩
  obtain ⟨w, hw, aw⟩ := r.get hd
  refine ⟨⟨vs, w, s, hw⟩, fun x H' y => ?_⟩
  obtain ⟨rfl, y⟩ := y
  have z := y vs s
  rw [hw] at z
  cases z
  exact ⟨.refl v, aw⟩
theorem ji_seq {tc : TE} (hl : JE X a tc) : JI X tg a (iSeq X.K tc) := ⟨pi_seq hl.run⟩
theorem ai_seq (ha : AE X a ta) : AI X tg a (diSeq ta) := by
  obtain ⟨ca, ja, ra⟩ := ha.run
  refine ⟨_, ji_seq ja, fun ρ G DR σ H R B q F => ra ρ G _ σ H _ B q fun x G1 v H1 g1 ax q1 => ?_⟩
  cases x with
  | tup ds =>
    obtain ⟨l, vs, rfl, s, r⟩ := ax
    exact ⟨l, rfl, .inr ⟨⟨vs, s⟩, F ⟨ds, fun _ => True⟩ _ G1 H1 g1 (fun G2 H2 g2 _ => itt_ok g2.vw (g2.tup.tp _ _ s) (r.mono g2.tup)) q1⟩⟩
  | ref l =>
    cases ax
    refine ⟨l, rfl, .inl ?_⟩
    replace q1 : onIt G1 l fun J => DR J G1 := q1
    unfold onIt at q1
    split at q1
    · next ds hd =>
      obtain ⟨vs, z, r⟩ := g1.vw _ _ hd
      refine ⟨⟨vs, .of z⟩, F ⟨ds, fun G => G l = some (.lst ds)⟩ _ G1 H1 g1 (fun G2 H2 g2 h2 => ?_) q1⟩
      obtain ⟨us, z2, r2⟩ := g2.vw _ _ h2
      exact itl_ok' g2.vw (.of z2) r2
    · exact q1.elim
  | frl ds =>
    obtain ⟨l, vs, rfl, s, r⟩ := ax
    exact ⟨l, rfl, .inl ⟨⟨vs, s.sq⟩, F ⟨ds, fun _ => True⟩ _ G1 H1 g1 (fun G2 H2 g2 _ => itl_ok' g2.vw (g2.tup.fr _ _ s).sq (r.mono g2.tup)) q1⟩⟩
  | _ => exact (show False from q1).elim
def rangeD (lo : Int) (n : Nat) : List D := (List.range n).map fun (i : Nat) => D.int (lo + (i : Int))
theorem rangeD_get {lo : Int} {n i : Nat} {d : D} (h : (rangeD lo n)[i]? = some d) : i < n ∧ d = .int (lo + i) := by
  unfold rangeD at h
  rw [List.getElem?_map] at h
  by_cases c : i < n
  · rw [List.getElem?_range c] at h
    simp at h
    exact ⟨c, h.symm⟩
  · rw [List.getElem?_eq_none (by simpa using c)] at h
    cases h
theorem rangeD_len {lo : Int} {n : Nat} : (rangeD lo n).length = n := by simp [rangeD]
@[irreducible] def onR (r : List D → Option (Int × Nat)) (ds : List D) (k : Int → Nat → Prop) : Prop := match r ds with
  | some (lo, n) => k lo n
  | none => False
abbrev diRange (r : List D → Option (Int × Nat)) (t : DTA) : DTI := fun ρ G R => t ρ G fun ds G1 => onR r ds fun lo n => R ⟨rangeD lo n, fun _ => True⟩ G1
def small62 (i : Int) : Bool := decide (-(2 ^ 62) ≤ i) && decide (i < 2 ^ 62)
def rng1 : List D → Option (Int × Nat)
  | [.int j] => if small62 j = true then some (0, j.toNat) else none
  | _ => none
def rng2 : List D → Option (Int × Nat)
  | [.int i, .int j] => if small62 i = true ∧ small62 j = true then some (i, (j - i).toNat) else none
  | _ => none
theorem small62_iff {i : Int} : small62 i = true ↔ -(2 ^ 62) ≤ i ∧ i < 2 ^ 62 := by unfold small62; simp
theorem itr_ok {K : PySem.W.Frag} {lo : Int} {n : Nat} {G1 : DV} {H1 : Hp} (v : Vw K G1 H1) :
    (∀ (i : Nat) (d : D), (rangeD lo n)[i]? = some d → (Itr lo n).go i H1 ∧ ∀ x H', (Itr lo n).yld i H1 x H' → Go K G1 H1 G1 H' ∧ Abs K H' d x) ∧ ∀ i, (rangeD lo n).length ≤ i → (Itr lo n).stop i H1 := by
  refine ⟨fun i d hd => ?_, fun i hi => by rw [rangeD_len] at hi; exact hi⟩
  obtain ⟨h1, rfl⟩ := rangeD_get hd
  refine ⟨h1, fun x H' y => ?_⟩
  obtain ⟨rfl, rfl⟩ := y
  exact ⟨.refl v, rfl⟩
theorem rng1_get {ds : List D} {lo : Int} {n : Nat} (h : rng1 ds = some (lo, n)) : ∃ j, ds = [.int j] ∧ (-(2 ^ 62) ≤ j ∧ j < 2 ^ 62) ∧ lo = 0 ∧ n = j.toNat := by
  unfold rng1 at h
  split at h
  · next j =>
    split at h
    · next c => cases h; exact ⟨j, rfl, small62_iff.mp c, rfl, rfl⟩
    · cases h
  · cases h
theorem rng2_get {ds : List D} {lo : Int} {n : Nat} (h : rng2 ds = some (lo, n)) : ∃ j, ds = [.int lo, .int j] ∧ (-(2 ^ 62) ≤ lo ∧ lo < 2 ^ 62 ∧ -(2 ^ 62) ≤ j ∧ j < 2 ^ 62) ∧ n = (j - lo).toNat := by
  unfold rng2 at h
  split at h
  · next i j =>
    split at h
    · next c =>
      cases h
      have c1 := small62_iff.mp c.1
      have c2 := small62_iff.mp c.2
      exact ⟨j, rfl, ⟨c1.1, c1.2, c2.1, c2.2⟩, rfl⟩
    · cases h
  · cases h
theorem onR1_of {j : Int} {k : Int → Nat → Prop} (h : -(2 ^ 62) ≤ j ∧ j < 2 ^ 62) (q : k 0 j.toNat) : onR rng1 [.int j] k := by
  have e : rng1 [.int j] = some (0, j.toNat) := if_pos (small62_iff.mpr h)
  unfold onR; rw [e]; exact q
theorem onR2_of {i j : Int} {k : Int → Nat → Prop} (h1 : -(2 ^ 62) ≤ i ∧ i < 2 ^ 62) (h2 : -(2 ^ 62) ≤ j ∧ j < 2 ^ 62) (q : k i (j - i).toNat) : onR rng2 [.int i, .int j] k := by
  have e : rng2 [.int i, .int j] = some (i, (j - i).toNat) := if_pos ⟨small62_iff.mpr h1, small62_iff.mpr h2⟩
  unfold onR; rw [e]; exact q
theorem diRange_get {r : List D → Option (Int × Nat)} {ds : List D} {R : DIt → DV → Prop} {G : DV} (h : onR r ds fun lo n => R ⟨rangeD lo n, fun _ => True⟩ G) : ∃ lo n, r ds = some (lo, n) ∧ R ⟨rangeD lo n, fun _ => True⟩ G := by
  unfold onR at h
  split at h
  · next lo n e => exact ⟨lo, n, e, h⟩
  · exact h.elim
theorem ai_range1 (hg : Gl X "range") (hm : X.mg "range" = none) (ha : AA X [a] t) (hs : unstar a = true := by rfl) : AI X tg (.Call (.Name "range" p) [a] [] pos) (diRange rng1 t) := by
  obtain ⟨ca, ja, ra⟩ := ha.run
  refine ⟨_, ji_range1 hg hm ja hs, fun ρ G DR σ H R B q F => ra ρ G _ σ H _ B q fun ds G1 vs H1 g1 al hl q1 => ?_⟩
  obtain ⟨lo, n, e, q2⟩ := diRange_get q1
  obtain ⟨j, rfl, c, rfl, rfl⟩ := rng1_get e
  obtain ⟨v, r, rfl, av, l⟩ := al
  cases l; cases av
  exact ⟨j, rfl, c.1, c.2, F _ _ G1 H1 g1 (fun G2 H2 g2 _ => itr_ok g2.vw) q2⟩
theorem ai_range2 (hg : Gl X "range") (hm : X.mg "range" = none) (ha : AA X [a, b] t) (h1 : unstar a = true := by rfl) (h2 : unstar b = true := by rfl) : AI X tg (.Call (.Name "range" p) [a, b] [] pos) (diRange rng2 t) := by
  obtain ⟨ca, ja, ra⟩ := ha.run
  refine ⟨_, ji_range2 hg hm ja h1 h2, fun ρ G DR σ H R B q F => ra ρ G _ σ H _ B q fun ds G1 vs H1 g1 al hl q1 => ?_⟩
  obtain ⟨lo, n, e, q2⟩ := diRange_get q1
  obtain ⟨j, rfl, c, rfl⟩ := rng2_get e
  obtain ⟨v, r, rfl, av, u, r2, rfl, au, l⟩ := al
  cases l; cases av; cases au
  exact ⟨lo, j, rfl, c, F _ _ G1 H1 g1 (fun G2 H2 g2 _ => itr_ok g2.vw) q2⟩
/-- the word holds of the state, or of it with names and things let go -/
def Wk (P : DSt → DV → Prop) : DSt → DV → Prop := fun ρ G => ∃ ρ' G', StSub ρ' ρ ∧ Sub G' G ∧ P ρ' G'
theorem Wk.of {P : DSt → DV → Prop} {ρ : DSt} {G : DV} (h : P ρ G) : Wk P ρ G := ⟨ρ, G, .refl _, .refl _, h⟩
abbrev dFor (wi : DTI) (g : DTG) (tb : DTS) : DTS := fun DD ρ G => wi ρ G fun J G1 => ∃ P : Nat → DSt → DV → Prop, P 0 ρ G1 ∧ (∀ i ρ G, i ≤ J.items.length → P i ρ G → J.held G) ∧
  (∀ (i : Nat) (d : D) (ρ : DSt) (G : DV), J.items[i]? = some d → P i ρ G → g d ρ G fun ρ' G' => tb { DD with nx := Wk (P (i + 1)), ct := Wk (P (i + 1)), bk := DD.nx } ρ' G') ∧ ∀ ρ G, P J.items.length ρ G → DD.nx ρ G
theorem as_for {body : List Stmt} {wi : DTI} {g : DTG} {tb : DTS} (hp : PassesOwn (model X.prog X.w) X.A X.env X.xe) (hc : X.calm = true) (hi : AI X tg iter wi) (hg : AG X tg g) (hb : AB X body tb) (hs : ∀ x, foldedSetIterable iter X.env x = pure x := by intro _; rfl) :
    AS X (.For tg iter body [] pos) (dFor wi g tb) := by
  obtain ⟨ci, ji, ri⟩ := hi.run
  obtain ⟨cg, jg, rg⟩ := hg.run
  obtain ⟨cb, jb, rb⟩ := hb.run
  refine ⟨_, js_for hp hc ji jg jb hs, fun DD Dc ρ G σ H B q F => ri ρ G _ σ H _ B q fun J Jc G1 H1 g1 ok q1 => ?_⟩
  obtain ⟨P, p0, held, turn, done⟩ := q1
  refine ⟨fun i m σ' H' => m = J.items.length - i ∧ i ≤ J.items.length ∧ ∃ ρ' G', P i ρ' G' ∧ Bears X.K ρ' G' σ' H' ∧ Go X.K G1 H1 G' H', ⟨_, rfl, Nat.zero_le _, ρ, G1, p0, B.go g1, .refl g1.vw⟩, ?_⟩
  rintro i m σ2 H2 ⟨rfl, hi, ρ2, G2, p2, b2, g2⟩
  have k2 := ok G2 H2 g2 (held i ρ2 G2 hi p2)
  by_cases hlt : i < J.items.length
  · have hd : J.items[i]? = some J.items[i] := by simp [hlt]
    obtain ⟨go, yl⟩ := k2.1 i _ hd
    refine .inr ⟨go, fun σ' H' => ∃ ρ' G', P (i + 1) ρ' G' ∧ Bears X.K ρ' G' σ' H' ∧ Go X.K G1 H1 G' H', fun σ' H' ⟨ρ', G', z1, z2, z3⟩ => ⟨J.items.length - (i + 1), by omega, rfl, hlt, ρ', G', z1, z2, z3⟩, fun x H' y => ?_⟩
    obtain ⟨g3, ax⟩ := yl x H' y
    refine rg _ x ρ2 G2 _ σ2 H' _ (b2.go g3) ax (turn i _ ρ2 G2 hd p2) fun ρ4 G4 σ4 H4 g4 b4 q4 => ?_
    have gg := (g2.trans g3).trans g4
    have again : ∀ ρ' G' σ' H', Go X.K G4 H4 G' H' → Bears X.K ρ' G' σ' H' → Wk (P (i + 1)) ρ' G' → ∃ ρ' G', P (i + 1) ρ' G' ∧ Bears X.K ρ' G' σ' H' ∧ Go X.K G1 H1 G' H' := fun ρ' G' σ' H' g' b' ⟨ρ5, G5, s1, s2, w⟩ =>
      ⟨ρ5, G5, w, b'.weak s1 s2, (gg.trans g').sub s2⟩
    exact rb _ _ ρ4 G4 σ4 H4 b4 q4 ⟨fun ρ' G' σ' H' g' b' w => again ρ' G' σ' H' g' b' w, (F.after ((g1.trans gg))).rt, fun ρ' G' σ' H' g' b' w => F.nx ρ' G' σ' H' ((g1.trans gg).trans g') b' w, fun ρ' G' σ' H' g' b' w => again ρ' G' σ' H' g' b' w⟩
  · have e : i = J.items.length := by omega
    subst e
    exact .inl ⟨k2.2 _ (Nat.le_refl _), F.nx ρ2 G2 σ2 H2 (g1.trans g2) b2 (done ρ2 G2 p2)⟩
abbrev dWhile (tc : DTT) (tb : DTS) : DTS := fun DD ρ G => ∃ W : Nat → DSt → DV → Prop, (∃ m, W m ρ G) ∧ ∀ m ρ G, W m ρ G →
  tc ρ G fun b G1 => Br b (tb { DD with nx := Wk fun ρ' G' => ∃ m', m' < m ∧ W m' ρ' G', ct := Wk fun ρ' G' => ∃ m', m' < m ∧ W m' ρ' G', bk := DD.nx } ρ G1) (DD.nx ρ G1)
theorem as_while {body : List Stmt} {tc : DTT} {tb : DTS} (hp : PassesOwn (model X.prog X.w) X.A X.env X.xe) (hc : AT X c tc) (hb : AB X body tb) : AS X (.While c body [] pos) (dWhile tc tb) := by
  obtain ⟨cc, jc, rc⟩ := hc.run
  obtain ⟨cb, jb, rb⟩ := hb.run
  refine ⟨_, js_while hp jc jb, fun DD Dc ρ G σ H B q F => ?_⟩
  obtain ⟨W, ⟨m0, w0⟩, turn⟩ := q
  refine ⟨fun m σ' H' => ∃ ρ' G', W m ρ' G' ∧ Bears X.K ρ' G' σ' H' ∧ Go X.K G H G' H', ⟨m0, ρ, G, w0, B, .refl B.vw⟩, ?_⟩
  rintro m σ2 H2 ⟨ρ2, G2, w2, b2, g2⟩
  refine rc ρ2 G2 _ σ2 H2 _ b2 (turn m ρ2 G2 w2) fun k G3 H3 g3 q3 => ?_
  cases k with
  | true =>
    refine ⟨fun σ' H' => ∃ m', m' < m ∧ ∃ ρ' G', W m' ρ' G' ∧ Bears X.K ρ' G' σ' H' ∧ Go X.K G H G' H', fun σ' H' ⟨m', z, ρ', G', z1, z2, z3⟩ => ⟨m', z, ρ', G', z1, z2, z3⟩, ?_⟩
    have gg := g2.trans g3
    have again : ∀ ρ' G' σ' H', Go X.K G3 H3 G' H' → Bears X.K ρ' G' σ' H' → Wk (fun ρ' G' => ∃ m', m' < m ∧ W m' ρ' G') ρ' G' → ∃ m', m' < m ∧ ∃ ρ' G', W m' ρ' G' ∧ Bears X.K ρ' G' σ' H' ∧ Go X.K G H G' H' := fun ρ' G' σ' H' g' b' ⟨ρ5, G5, s1, s2, m', hm, w⟩ =>
      ⟨m', hm, ρ5, G5, w, b'.weak s1 s2, (gg.trans g').sub s2⟩
    exact rb _ _ ρ2 G3 σ2 H3 (b2.go g3) (q3.1 rfl) ⟨fun ρ' G' σ' H' g' b' w => again ρ' G' σ' H' g' b' w, (F.after gg).rt, fun ρ' G' σ' H' g' b' w => F.nx ρ' G' σ' H' (gg.trans g') b' w, fun ρ' G' σ' H' g' b' w => again ρ' G' σ' H' g' b' w⟩
  | false => exact F.nx ρ2 G3 σ2 H3 (g2.trans g3) (b2.go g3) (q3.2 rfl)
end
end L3
namespace L2
open PySem PySem.Spec PyProof.Rows
theorem JE.imp {X : Cx} {e : Expr} {t t' : TE} (h : JE X e t) (i : ∀ σ H Q, t' σ H Q → t σ H Q) : JE X e t' := ⟨fun pins s σ H Q I q => h.run pins s σ H Q I (i σ H Q q)⟩
theorem JT.imp {X : Cx} {e : Expr} {t t' : TT} (h : JT X e t) (i : ∀ σ H Q, t' σ H Q → t σ H Q) : JT X e t' := ⟨fun pins s σ H Q I q => h.run pins s σ H Q I (i σ H Q q)⟩
theorem JG.imp {X : Cx} {e : Expr} {t t' : TG} (h : JG X e t) (i : ∀ v σ H Q, t' v σ H Q → t v σ H Q) : JG X e t' := ⟨fun pins s σ H x v Q I r q => h.run pins s σ H x v Q I r (i _ _ _ _ q)⟩
end L2
namespace L3
open PySem PySem.Spec L2
section
variable {X : Cx} {a b c e o i tg iter elt ct : Expr} {es : List Expr} {ta tb te to ti : DTE} {t : DTA} {pos p apos cpos : Pos}
abbrev ImpE (K : PySem.W.Frag) (tc : TE) (t : DTE) : Prop := ∀ ρ G DQ σ H Q, Bears K ρ G σ H → t ρ G DQ → Fin K G H DQ Q → tc σ H Q
abbrev ImpT (K : PySem.W.Frag) (tc : TT) (t : DTT) : Prop := ∀ ρ G DQ σ H Q, Bears K ρ G σ H → t ρ G DQ → FinB K G H DQ Q → tc σ H Q
abbrev ImpG (K : PySem.W.Frag) (tc : TG) (t : DTG) : Prop := ∀ d v ρ G DQ σ H Q, Bears K ρ G σ H → Abs K H d v → t d ρ G DQ → FinS K G H DQ Q → tc v σ H Q
theorem AE.uni {ι : Type} {cx : ι → Cx} {K : PySem.W.Frag} (hK : ∀ z, (cx z).K = K) (h : ∀ z, AE (cx z) e te) : ∃ tc : TE, (∀ z, JE (cx z) e tc) ∧ ImpE K tc te := by
  have h' : ∀ z, ∃ tc, JE (cx z) e tc ∧ ImpE K tc te := fun z => by
    have q := (h z).run
    rw [hK z] at q
    exact q
  exact ⟨fun σ H Q => ∀ z, Classical.choose (h' z) σ H Q, fun z => (Classical.choose_spec (h' z)).1.imp fun σ H Q q => q z, fun ρ G DQ σ H Q B q F z => (Classical.choose_spec (h' z)).2 ρ G DQ σ H Q B q F⟩
theorem AT.uni {ι : Type} {cx : ι → Cx} {K : PySem.W.Frag} {te : DTT} (hK : ∀ z, (cx z).K = K) (h : ∀ z, AT (cx z) e te) : ∃ tc : TT, (∀ z, JT (cx z) e tc) ∧ ImpT K tc te := by
  have h' : ∀ z, ∃ tc, JT (cx z) e tc ∧ ImpT K tc te := fun z => by
    have q := (h z).run
    rw [hK z] at q
    exact q
  exact ⟨fun σ H Q => ∀ z, Classical.choose (h' z) σ H Q, fun z => (Classical.choose_spec (h' z)).1.imp fun σ H Q q => q z, fun ρ G DQ σ H Q B q F z => (Classical.choose_spec (h' z)).2 ρ G DQ σ H Q B q F⟩
theorem AG.uni {ι : Type} {cx : ι → Cx} {K : PySem.W.Frag} {te : DTG} (hK : ∀ z, (cx z).K = K) (h : ∀ z, AG (cx z) e te) : ∃ tc : TG, (∀ z, JG (cx z) e tc) ∧ ImpG K tc te := by
  have h' : ∀ z, ∃ tc, JG (cx z) e tc ∧ ImpG K tc te := fun z => by
    have q := (h z).run
    rw [hK z] at q
    exact q
  exact ⟨fun v σ H Q => ∀ z, Classical.choose (h' z) v σ H Q, fun z => (Classical.choose_spec (h' z)).1.imp fun v σ H Q q => q z, fun d v ρ G DQ σ H Q B ad q F z => (Classical.choose_spec (h' z)).2 d v ρ G DQ σ H Q B ad q F⟩
def compD (nt : Nat) (cap : List Nat) (ρ : DSt) : DSt := List.replicate nt none ++ cap.map fun i => (ρ[i]?).join
theorem compD_low {nt : Nat} {cap : List Nat} {ρ : DSt} {i : Nat} {d : D} (h : (compD nt cap ρ)[i]? = some (some d)) : nt ≤ i := by
  by_cases c : nt ≤ i
  · exact c
  · unfold compD at h
    rw [List.getElem?_append_left (by simpa using c), List.getElem?_replicate] at h
    rw [if_pos (by omega)] at h
    cases h
theorem Bears.comp {K : PySem.W.Frag} {ρ : DSt} {G : DV} {σ : St} {H : Hp} (B : Bears K ρ G σ H) (nt : Nat) (cap : List Nat) : Bears K (compD nt cap ρ) G (compSt nt cap σ) H := by
  refine ⟨by simp [compD, compSt], fun i d h => ?_, B.vw⟩
  have hi := compD_low h
  unfold compD at h
  unfold compSt
  rw [List.getElem?_append_right (by simpa using hi)] at h ⊢
  rw [List.length_replicate, List.getElem?_map] at h ⊢
  cases e : cap[i - nt]? with
  | none => rw [e] at h; cases h
  | some k =>
    rw [e] at h
    have h' : (ρ[k]?).join = some d := by simpa using h
    have h2 : ρ[k]? = some (some d) := by
      cases q : ρ[k]? with
      | none => rw [q] at h'; cases h'
      | some z => rw [q] at h'; cases z with
        | none => cases h'
        | some y => simp at h'; rw [h']
    obtain ⟨v, h3, h4⟩ := B.st k d h2
    exact ⟨v, by simp [h3], h4⟩
/-- a target that leaves the names from nt on -/
def Keeps (nt : Nat) (g : DTG) : Prop := ∀ d ρ G Q, g d ρ G Q → g d ρ G fun ρ' G' => Q ρ' G' ∧ ρ'.length = ρ.length ∧ ∀ i, nt ≤ i → ρ'[i]? = ρ[i]?
def KeepsL (nt : Nat) (g : DTGs) : Prop := ∀ d ρ G Q, g d ρ G Q → g d ρ G fun ρ' G' => Q ρ' G' ∧ ρ'.length = ρ.length ∧ ∀ i, nt ≤ i → ρ'[i]? = ρ[i]?
theorem keeps_name {nt k : Nat} (h : k < nt) : Keeps nt (dgName k) := fun d ρ G Q q => ⟨q, by simp, fun i hi => List.getElem?_set_ne (by omega)⟩
theorem keepsL_nil {nt : Nat} : KeepsL nt dgNil := fun ds ρ G Q q => by
  cases ds with
  | nil => exact ⟨q, rfl, fun _ _ => rfl⟩
  | cons _ _ => exact (show False from q).elim
/-- a target's reading may be weakened -/
def MonG (g : DTG) : Prop := ∀ d ρ G Q Q', (∀ ρ' G', Q ρ' G' → Q' ρ' G') → g d ρ G Q → g d ρ G Q'
def MonGs (g : DTGs) : Prop := ∀ d ρ G Q Q', (∀ ρ' G', Q ρ' G' → Q' ρ' G') → g d ρ G Q → g d ρ G Q'
theorem mon_name {k : Nat} : MonG (dgName k) := fun _ _ _ _ _ i q => i _ _ q
theorem monL_nil : MonGs dgNil := fun ds ρ G Q Q' i q => by
  cases ds with
  | nil => exact i _ _ q
  | cons _ _ => exact (show False from q).elim
theorem monL_cons {g : DTG} {u : DTGs} (h1 : MonG g) (h2 : MonGs u) : MonGs (dgCons g u) := fun ds ρ G Q Q' i q => by
  cases ds with
  | nil => exact (show False from q).elim
  | cons d r => exact h1 d ρ G _ _ (fun ρ' G' z => h2 r ρ' G' _ _ i z) q
theorem keepsL_cons {nt : Nat} {g : DTG} {u : DTGs} (m1 : MonG g) (m2 : MonGs u) (h1 : Keeps nt g) (h2 : KeepsL nt u) : KeepsL nt (dgCons g u) := fun ds ρ G Q q => by
  cases ds with
  | nil => exact (show False from q).elim
  | cons d r => exact m1 d ρ G _ _ (fun ρ' G' ⟨z, z1, z2⟩ => m2 r ρ' G' _ _ (fun ρ2 G2 ⟨y, y1, y2⟩ => ⟨y, y1.trans z1, fun i hi => (y2 i hi).trans (z2 i hi)⟩) (h2 r ρ' G' Q z)) (h1 d ρ G _ q)
theorem keeps_tup {nt : Nat} {u : DTGs} (h : KeepsL nt u) : Keeps nt (dgTup u) := fun d ρ G Q q => by
  cases d with
  | tup ds => exact h ds ρ G Q q
  | _ => exact (show False from q).elim
def WkV (P : DV → Prop) : DV → Prop := fun G => ∃ G', Sub G' G ∧ P G'
theorem WkV.of {P : DV → Prop} {G : DV} (h : P G) : WkV P G := ⟨G, .refl _, h⟩
@[irreducible] def CompB (g : DTG) (te : DTE) (nt : Nat) (cap : List Nat) (ρ : DSt) (Q : DK) (J : DIt) (G1 : DV) : Prop := J.items.length < sizeLine ∧ ∃ P : Nat → List D → DV → Prop, P 0 [] G1 ∧ (∀ i ds G, i ≤ J.items.length → P i ds G → J.held G) ∧
  (∀ (i : Nat) (d : D) (ds : List D) (G : DV), J.items[i]? = some d → P i ds G → g d (compD nt cap ρ) G fun ρ3 G3 => te ρ3 G3 fun y G4 => WkV (P (i + 1) (ds ++ [y])) G4) ∧ ∀ ds G, P J.items.length ds G → ∀ p, G p = none → Q (.ref p) (up G p (.lst ds))
@[irreducible] def CompIfB (g : DTG) (tc : DTT) (te : DTE) (nt : Nat) (cap : List Nat) (ρ : DSt) (Q : DK) (J : DIt) (G1 : DV) : Prop := J.items.length < sizeLine ∧ ∃ P : Nat → List D → DV → Prop, P 0 [] G1 ∧ (∀ i ds G, i ≤ J.items.length → P i ds G → J.held G) ∧
  (∀ (i : Nat) (d : D) (ds : List D) (G : DV), J.items[i]? = some d → P i ds G → g d (compD nt cap ρ) G fun ρ3 G3 => tc ρ3 G3 fun b G5 => Br b (te ρ3 G5 fun y G4 => WkV (P (i + 1) (ds ++ [y])) G4) (WkV (P (i + 1) ds) G5)) ∧ ∀ ds G, P J.items.length ds G → ∀ p, G p = none → Q (.ref p) (up G p (.lst ds))
abbrev dComp (wi : DTI) (g : DTG) (te : DTE) (nt : Nat) (cap : List Nat) : DTE := fun ρ G Q => wi ρ G (CompB g te nt cap ρ Q)
abbrev dCompIf (wi : DTI) (g : DTG) (tc : DTT) (te : DTE) (nt : Nat) (cap : List Nat) : DTE := fun ρ G Q => wi ρ G (CompIfB g tc te nt cap ρ Q)
theorem compB_of {g : DTG} {te : DTE} {nt : Nat} {cap : List Nat} {ρ : DSt} {Q : DK} {J : DIt} {G1 : DV} (P : Nat → List D → DV → Prop) (hz : J.items.length < sizeLine) (h0 : P 0 [] G1) (held : ∀ i ds G, i ≤ J.items.length → P i ds G → J.held G)
    (turn : ∀ (i : Nat) (d : D) (ds : List D) (G : DV), J.items[i]? = some d → P i ds G → g d (compD nt cap ρ) G fun ρ3 G3 => te ρ3 G3 fun y G4 => WkV (P (i + 1) (ds ++ [y])) G4) (done : ∀ ds G, P J.items.length ds G → ∀ p, G p = none → Q (.ref p) (up G p (.lst ds))) : CompB g te nt cap ρ Q J G1 := by
  unfold CompB; exact ⟨hz, P, h0, held, turn, done⟩
/-- a comprehension that changes nothing -/
theorem comp_map {α : Type} {J : DIt} {G1 : DV} {g : DTG} {te : DTE} {nt : Nat} {cap : List Nat} {ρ : DSt} {Q : DK} (xs : List α) (en fn : α → D) (he : J.items = xs.map en) (hz : xs.length < sizeLine) (held : J.held G1)
    (turn : ∀ x ∈ xs, ∀ R : DK, R (fn x) G1 → g (en x) (compD nt cap ρ) G1 fun ρ3 G3 => te ρ3 G3 R) (q : ∀ p, G1 p = none → Q (.ref p) (up G1 p (.lst (xs.map fn)))) :
    CompB g te nt cap ρ Q J G1 := by
  unfold CompB
  refine ⟨by rw [he, List.length_map]; exact hz, fun i ds G => G = G1 ∧ ds = (xs.take i).map fn, ⟨rfl, rfl⟩, fun i ds G _ h => h.1 ▸ held, ?_, ?_⟩
  · rintro i d ds G hd ⟨rfl, rfl⟩
    rw [he, List.getElem?_map] at hd
    cases e : xs[i]? with
    | none => rw [e] at hd; cases hd
    | some x =>
      rw [e] at hd
      cases hd
      refine turn x (List.mem_of_getElem? e) _ (WkV.of ⟨rfl, ?_⟩)
      rw [List.take_add_one, e, List.map_append]; rfl
  · rintro ds G ⟨rfl, rfl⟩ p hp
    rw [he, List.length_map, List.take_length]
    exact q p hp
theorem compIf_map {α : Type} {J : DIt} {G1 : DV} {g : DTG} {tc : DTT} {te : DTE} {nt : Nat} {cap : List Nat} {ρ : DSt} {Q : DK} (xs : List α) (en : α → D) (fn : α → Option D) (he : J.items = xs.map en) (hz : xs.length < sizeLine) (held : J.held G1)
    (turn : ∀ x ∈ xs, ∀ (R : DK) (S : DV → Prop), (∀ y, fn x = some y → R y G1) → (fn x = none → S G1) → g (en x) (compD nt cap ρ) G1 fun ρ3 G3 => tc ρ3 G3 fun b G5 => Br b (te ρ3 G5 R) (S G5)) (q : ∀ p, G1 p = none → Q (.ref p) (up G1 p (.lst (xs.filterMap fn)))) :
    CompIfB g tc te nt cap ρ Q J G1 := by
  unfold CompIfB
  refine ⟨by rw [he, List.length_map]; exact hz, fun i ds G => G = G1 ∧ ds = (xs.take i).filterMap fn, ⟨rfl, rfl⟩, fun i ds G _ h => h.1 ▸ held, ?_, ?_⟩
  · rintro i d ds G hd ⟨rfl, rfl⟩
    rw [he, List.getElem?_map] at hd
    cases e : xs[i]? with
    | none => rw [e] at hd; cases hd
    | some x =>
      rw [e] at hd
      cases hd
      refine turn x (List.mem_of_getElem? e) _ _ (fun y hy => WkV.of ⟨rfl, ?_⟩) (fun hy => WkV.of ⟨rfl, ?_⟩)
      · rw [List.take_add_one, e, List.filterMap_append]; simp [hy]
      · rw [List.take_add_one, e, List.filterMap_append]; simp [hy]
  · rintro ds G ⟨rfl, rfl⟩ p hp
    rw [he, List.length_map, List.take_length]
    exact q p hp
/-- a list of ours that the view does not hold is written -/
theorem Vw.priv {K : PySem.W.Frag} {G : DV} {H : Hp} {acc : Addr} {ys zs : List V} (v : Vw K G H) (h : H acc = some (.lst ys)) (n : G acc = Option.none) : Vw K G (upd H acc (.lst zs)) := fun a o e =>
  (v a o e).mono (mono_set h) (upd_ne (by rintro rfl; rw [n] at e; cases e))
theorem Go.priv {K : PySem.W.Frag} {G G' : DV} {H H' : Hp} {acc : Addr} {ys zs : List V} (g : Go K G H G' H') (h0 : H acc = none) (h : H' acc = some (.lst ys)) (n : G' acc = none) : Go K G H G' (upd H' acc (.lst zs)) where
  tup := ⟨fun a xs q => (mono_set h).tp a xs (g.tup.tp a xs q), fun a xs q => (mono_set h).fr a xs (g.tup.fr a xs q), fun a o q => (mono_set (K := K) h).fz a o (g.tup.fz a o q)⟩
  dom := fun a o e => by
    obtain ⟨o', e'⟩ := g.dom a o e
    exact ⟨o', by rw [upd_ne (ne_of_none e h0)]; exact e'⟩
  same := fun a o e z => by rw [upd_ne (ne_of_none e h0)]; exact g.same a o e z
  new := g.new
  vw := g.vw.priv h n
theorem Bears.priv {K : PySem.W.Frag} {ρ : DSt} {G : DV} {σ : St} {H : Hp} {acc : Addr} {ys zs : List V} (B : Bears K ρ G σ H) (h : H acc = some (.lst ys)) (n : G acc = none) : Bears K ρ G σ (upd H acc (.lst zs)) :=
  ⟨B.len, fun i d e => let ⟨v, h1, h2⟩ := B.st i d e; ⟨v, h1, h2.mono (mono_set h)⟩, B.vw.priv h n⟩
theorem Go.held {K : PySem.W.Frag} {G G' : DV} {H H' : Hp} {acc : Addr} {ds : List D} {ys : List V} (g : Go K G H G' H') (h0 : H acc = none) (h : H' acc = some (.lst ys)) (r : AbsL K H' ds ys) : Go K G H (up G' acc (.lst ds)) H' where
  tup := g.tup
  dom := g.dom
  same := g.same
  new := fun a o e z => by rw [up_ne (ne_of_none e h0)]; exact g.new a o e z
  vw := fun a o e => by
    by_cases c : a = acc
    · subst c; rw [up_same] at e; cases e; exact ⟨ys, h, r⟩
    · rw [up_ne c] at e; exact g.vw a o e
theorem comp_core {K : PySem.W.Frag} {ci : TI} {cg : TG} {ce : TE} {wi : DTI} {g : DTG} {te : DTE} {nt : Nat} {cap : List Nat} (hk : Keeps nt g)
    (ri : ∀ ρ G DR σ H R, Bears K ρ G σ H → wi ρ G DR → (∀ J Jc G' H', Go K G H G' H' → ItOk K J Jc G' H' → DR J G' → R Jc H') → ci σ H R) (rg : ImpG K cg g) (re : ImpE K ce te) : ImpE K (tComp ci cg ce nt cap) (dComp wi g te nt cap) := by
  intro ρ G DQ σ H Q B q F
  refine ri ρ G _ σ H _ B q fun J Jc G1 H1 g1 ok q1 => ?_
  unfold CompB at q1
  obtain ⟨hsz, P, p0, held, turn, done⟩ := q1
  intro acc hacc
  have n1 := g1.vw.none hacc
  have gN := Go.newT (o := .lst []) g1.vw hacc
  refine ⟨fun i m ys σ' H' => m = J.items.length - i ∧ i ≤ J.items.length ∧ ∃ ds G', P i ds G' ∧ AbsL K H' ds ys ∧ ds.length ≤ i ∧ Bears K (compD nt cap ρ) G' σ' H' ∧ Go K G1 H1 G' H' ∧ G' acc = none ∧ H' acc = some (.lst ys),
    ⟨_, rfl, Nat.zero_le _, [], G1, p0, rfl, Nat.le_refl _, ((B.go g1).comp nt cap).go gN, gN, n1, upd_same⟩, ?_⟩
  rintro i m ys σ2 H2 ⟨rfl, hi, ds, G2, p2, r2, l2, b2, g2, n2, h2⟩
  have k2 := ok G2 H2 g2 (held i ds G2 hi p2)
  by_cases hlt : i < J.items.length
  · have hd : J.items[i]? = some J.items[i] := by simp [hlt]
    obtain ⟨go, yl⟩ := k2.1 i _ hd
    refine .inr ⟨go, fun x H' y => ?_⟩
    obtain ⟨g3, ax⟩ := yl x H' y
    refine rg _ x _ G2 _ σ2 H' _ (b2.go g3) ax (hk _ _ _ _ (turn i _ ds G2 hd p2)) fun ρ4 G4 σ4 H4 g4 b4 ⟨q4, hl4, hs4⟩ => ?_
    refine re ρ4 G4 _ σ4 H4 _ b4 q4 fun z G5 u H5 g5 az q5 => ?_
    obtain ⟨G6, s6, p6⟩ := q5
    have gg := (g3.trans g4).trans g5
    have h5 := gg.same acc _ h2 n2
    have n5 := gg.new acc _ h2 n2
    have n6 := s6.none n5
    have b5 : Bears K (compD nt cap ρ) G6 σ4 H5 := (b4.go g5).weak ⟨hl4.symm, fun j d e => by rw [hs4 j (compD_low e)]; exact e⟩ s6
    refine ⟨h5, by rw [r2.len]; omega, J.items.length - (i + 1), by omega, rfl, hlt, ds ++ [z], G6, p6, ((r2.mono gg.tup).append (.one az)).mono (mono_set h5), by simp; omega, b5.priv h5 n6, (((g2.trans gg).sub s6)).priv hacc h5 n6, n6, upd_same⟩
  · have e : i = J.items.length := by omega
    subst e
    refine .inl ⟨k2.2 _ (Nat.le_refl _), F (.ref acc) (up G2 acc (.lst ds)) _ _ ((g1.trans g2).held ?_ h2 r2) rfl (done ds G2 p2 acc n2)⟩
    cases z : H acc with
    | none => rfl
    | some o => obtain ⟨o', e'⟩ := g1.dom acc o z; rw [hacc] at e'; cases e'
theorem compIf_core {K : PySem.W.Frag} {ci : TI} {cg : TG} {cc : TT} {ce : TE} {wi : DTI} {g : DTG} {tc : DTT} {te : DTE} {nt : Nat} {cap : List Nat} (hk : Keeps nt g)
    (ri : ∀ ρ G DR σ H R, Bears K ρ G σ H → wi ρ G DR → (∀ J Jc G' H', Go K G H G' H' → ItOk K J Jc G' H' → DR J G' → R Jc H') → ci σ H R) (rg : ImpG K cg g) (rt : ImpT K cc tc) (re : ImpE K ce te) : ImpE K (tCompIf ci cg cc ce nt cap) (dCompIf wi g tc te nt cap) := by
  intro ρ G DQ σ H Q B q F
  refine ri ρ G _ σ H _ B q fun J Jc G1 H1 g1 ok q1 => ?_
  unfold CompIfB at q1
  obtain ⟨hsz, P, p0, held, turn, done⟩ := q1
  intro acc hacc
  have n1 := g1.vw.none hacc
  have gN := Go.newT (o := .lst []) g1.vw hacc
  refine ⟨fun i m ys σ' H' => m = J.items.length - i ∧ i ≤ J.items.length ∧ ∃ ds G', P i ds G' ∧ AbsL K H' ds ys ∧ ds.length ≤ i ∧ Bears K (compD nt cap ρ) G' σ' H' ∧ Go K G1 H1 G' H' ∧ G' acc = none ∧ H' acc = some (.lst ys),
    ⟨_, rfl, Nat.zero_le _, [], G1, p0, rfl, Nat.le_refl _, ((B.go g1).comp nt cap).go gN, gN, n1, upd_same⟩, ?_⟩
  rintro i m ys σ2 H2 ⟨rfl, hi, ds, G2, p2, r2, l2, b2, g2, n2, h2⟩
  have k2 := ok G2 H2 g2 (held i ds G2 hi p2)
  by_cases hlt : i < J.items.length
  · have hd : J.items[i]? = some J.items[i] := by simp [hlt]
    obtain ⟨go, yl⟩ := k2.1 i _ hd
    refine .inr ⟨go, fun x H' y => ?_⟩
    obtain ⟨g3, ax⟩ := yl x H' y
    refine rg _ x _ G2 _ σ2 H' _ (b2.go g3) ax (hk _ _ _ _ (turn i _ ds G2 hd p2)) fun ρ4 G4 σ4 H4 g4 b4 ⟨q4, hl4, hs4⟩ => ?_
    refine rt ρ4 G4 _ σ4 H4 _ b4 q4 fun bb G7 H7 g7 q7 => ?_
    cases bb with
    | true =>
      refine re ρ4 G7 _ σ4 H7 _ (b4.go g7) (q7.1 rfl) fun z G5 u H5 g5 az q5 => ?_
      obtain ⟨G6, s6, p6⟩ := q5
      have gg := ((g3.trans g4).trans g7).trans g5
      have h5 := gg.same acc _ h2 n2
      have n5 := gg.new acc _ h2 n2
      have n6 := s6.none n5
      have b5 : Bears K (compD nt cap ρ) G6 σ4 H5 := ((b4.go g7).go g5).weak ⟨hl4.symm, fun j d e => by rw [hs4 j (compD_low e)]; exact e⟩ s6
      exact ⟨h5, by rw [r2.len]; omega, J.items.length - (i + 1), by omega, rfl, hlt, ds ++ [z], G6, p6, ((r2.mono gg.tup).append (.one az)).mono (mono_set h5), by simp; omega, b5.priv h5 n6, (((g2.trans gg).sub s6)).priv hacc h5 n6, n6, upd_same⟩
    | false =>
      obtain ⟨G6, s6, p6⟩ := q7.2 rfl
      have gg := (g3.trans g4).trans g7
      have h5 := gg.same acc _ h2 n2
      have n5 := gg.new acc _ h2 n2
      have n6 := s6.none n5
      have b5 : Bears K (compD nt cap ρ) G6 σ4 H7 := (b4.go g7).weak ⟨hl4.symm, fun j d e => by rw [hs4 j (compD_low e)]; exact e⟩ s6
      exact ⟨J.items.length - (i + 1), by omega, rfl, hlt, ds, G6, p6, r2.mono gg.tup, by omega, b5, (g2.trans gg).sub s6, n6, h5⟩
  · have e : i = J.items.length := by omega
    subst e
    refine .inl ⟨k2.2 _ (Nat.le_refl _), F (.ref acc) (up G2 acc (.lst ds)) _ _ ((g1.trans g2).held ?_ h2 r2) rfl (done ds G2 p2 acc n2)⟩
    cases z : H acc with
    | none => rfl
    | some o => obtain ⟨o', e'⟩ := g1.dom acc o z; rw [hacc] at e'; cases e'
theorem ae_comp {scope : Scope} {N' : List Str} {nt : Nat} {cap : List Nat} {wi : DTI} {g : DTG} (hc : X.calm = true) (ok : CompOk X scope N' nt cap) (hk : Keeps nt g) (hi : AI X tg iter wi) (hg : ∀ C ex s H, AG (cxComp X scope N' C ex s H) tg g) (he : ∀ C ex s H, AE (cxComp X scope N' C ex s H) elt te)
    (hs : ∀ x, foldedSetIterable iter X.env x = pure x := by intro _; rfl) : AE X (.ListComp elt [⟨tg, iter, [], 0⟩] scope pos) (dComp wi g te nt cap) := by
  obtain ⟨ci, ji, ri⟩ := hi.run
  obtain ⟨cg, jg, rg⟩ := AG.uni (ι := Addr × List Addr × Shared × Hp) (cx := fun z => cxComp X scope N' z.1 z.2.1 z.2.2.1 z.2.2.2) (K := X.K) (fun _ => rfl) fun z => hg _ _ _ _
  obtain ⟨ce, je, re⟩ := AE.uni (ι := Addr × List Addr × Shared × Hp) (cx := fun z => cxComp X scope N' z.1 z.2.1 z.2.2.1 z.2.2.2) (K := X.K) (fun _ => rfl) fun z => he _ _ _ _
  exact ⟨_, je_comp hc ok ji (fun C ex s H => jg (C, ex, s, H)) (fun C ex s H => je (C, ex, s, H)) hs, comp_core hk ri rg re⟩
theorem ae_compIf {scope : Scope} {N' : List Str} {nt : Nat} {cap : List Nat} {wi : DTI} {g : DTG} {tc : DTT} (hc : X.calm = true) (ok : CompOk X scope N' nt cap) (hk : Keeps nt g) (hi : AI X tg iter wi) (hg : ∀ C ex s H, AG (cxComp X scope N' C ex s H) tg g) (ht : ∀ C ex s H, AT (cxComp X scope N' C ex s H) ct tc) (he : ∀ C ex s H, AE (cxComp X scope N' C ex s H) elt te)
    (hs : ∀ x, foldedSetIterable iter X.env x = pure x := by intro _; rfl) : AE X (.ListComp elt [⟨tg, iter, [ct], 0⟩] scope pos) (dCompIf wi g tc te nt cap) := by
  obtain ⟨ci, ji, ri⟩ := hi.run
  obtain ⟨cg, jg, rg⟩ := AG.uni (ι := Addr × List Addr × Shared × Hp) (cx := fun z => cxComp X scope N' z.1 z.2.1 z.2.2.1 z.2.2.2) (K := X.K) (fun _ => rfl) fun z => hg _ _ _ _
  obtain ⟨cc, jt, rt⟩ := AT.uni (ι := Addr × List Addr × Shared × Hp) (cx := fun z => cxComp X scope N' z.1 z.2.1 z.2.2.1 z.2.2.2) (K := X.K) (fun _ => rfl) fun z => ht _ _ _ _
  obtain ⟨ce, je, re⟩ := AE.uni (ι := Addr × List Addr × Shared × Hp) (cx := fun z => cxComp X scope N' z.1 z.2.1 z.2.2.1 z.2.2.2) (K := X.K) (fun _ => rfl) fun z => he _ _ _ _
  exact ⟨_, je_compIf hc ok ji (fun C ex s H => jg (C, ex, s, H)) (fun C ex s H => jt (C, ex, s, H)) (fun C ex s H => je (C, ex, s, H)) hs, compIf_core hk ri rg rt re⟩
theorem as_setComp {scope : Scope} {N' : List Str} {nt : Nat} {cap : List Nat} {wi : DTI} {g : DTG} {y : Str} {py spos : Pos} {k : Nat} (hc : X.calm = true) (hN : X.N.Nodup) (hy : X.N[k]? = some y) (hl : Loc X.env.scope y) (ok : CompOk X scope N' nt cap) (hk : Keeps nt g) (hi : AI X tg iter wi) (hg : ∀ C ex s H, AG (cxComp X scope N' C ex s H) tg g) (he : ∀ C ex s H, AE (cxComp X scope N' C ex s H) elt te)
    (hs : ∀ x, foldedSetIterable iter X.env x = pure x := by intro _; rfl) (hsw : swapsWith (.ListComp elt [⟨tg, iter, [], 0⟩] scope pos) (some (.Name y py)) spos.line X.env = pure true := by rfl) (hf : X.fn y = true ∨ X.env.scope.names.lookup y = some .local := by first | exact .inl rfl | exact .inr rfl | assumption) :
    AS X (.Assign [.Name y py] (.ListComp elt [⟨tg, iter, [], 0⟩] scope pos) spos) (dAsg (dComp wi g te nt cap) (dgName k)) := by
  obtain ⟨ci, ji, ri⟩ := hi.run
  obtain ⟨cg, jg, rg⟩ := AG.uni (ι := Addr × List Addr × Shared × Hp) (cx := fun z => cxComp X scope N' z.1 z.2.1 z.2.2.1 z.2.2.2) (K := X.K) (fun _ => rfl) fun z => hg _ _ _ _
  obtain ⟨ce, je, re⟩ := AE.uni (ι := Addr × List Addr × Shared × Hp) (cx := fun z => cxComp X scope N' z.1 z.2.1 z.2.2.1 z.2.2.2) (K := X.K) (fun _ => rfl) fun z => he _ _ _ _
  exact ⟨_, js_setComp hc hN hy hl ok ji (fun C ex s H => jg (C, ex, s, H)) (fun C ex s H => je (C, ex, s, H)) hs hsw hf, fun DD Dc ρ G σ H B q F => comp_core hk ri rg re ρ G _ σ H _ B q fun d G1 v H1 g1 a q1 => F.nx _ G1 _ H1 g1 ((B.go g1).set a k) q1⟩
structure AMt (X : Cx) (T id : String) (ty : D → DV → Prop) (r : D → List D → DV → DK → Prop) : Prop where
  run : ∃ rc : V → List V → Hp → VK → Prop, JMt X id rc ∧ (∀ x v G H, Vw X.K G H → Abs X.K H x v → ty x G → tyV X.K T v H) ∧
    ∀ x xs vx vs G H DQ Q, Vw X.K G H → Abs X.K H x vx → AbsL X.K H xs vs → r x xs G DQ → Fin X.K G H DQ Q → rc vx vs H Q
abbrev dBM (ty : D → DV → Prop) (r : D → List D → DV → DK → Prop) (to : DTE) (t : DTA) : DTE := fun ρ G Q => to ρ G fun x G1 => ty x G1 ∧ t ρ G1 fun xs G2 => r x xs G2 Q
abbrev dBM0 (ty : D → DV → Prop) (r : D → List D → DV → DK → Prop) (to : DTE) : DTE := fun ρ G Q => to ρ G fun x G1 => ty x G1 ∧ r x [] G1 Q
theorem ae_bm {name : Str} {T id : String} {ty : D → DV → Prop} {r : D → List D → DV → DK → Prop} (pa : PlainAttrs T) (slot : Slot T name id) (hty : typeOf (.builtin id) = pure (.type "method_descriptor")) (hm : AMt X T id ty r) (ho : AE X o to) (ha : AA X [e] t)
    (hbase : attributeBase o name X.env (eval o X.env) = eval o X.env := by rfl) (hline : (apos.endLine == cpos.line) = true := by rfl) (hs : unstar e = true := by rfl) : AE X (.Call (.Attribute o name apos) [e] [] cpos) (dBM ty r to t) := by
  obtain ⟨co, jo, ro⟩ := ho.run
  obtain ⟨ca, ja, ra⟩ := ha.run
  obtain ⟨cm, jm, hy, rm⟩ := hm.run
  refine ⟨_, je_bm pa slot hty jm jo ja hbase hline hs, fun ρ G DQ σ H Q B q F => ro ρ G _ σ H _ B q fun x G1 v H1 g1 ax ⟨h1, q1⟩ => ⟨hy x v G1 H1 g1.vw ax h1, ?_⟩⟩
  exact ra ρ G1 _ σ H1 _ (B.go g1) q1 fun xs G2 vs H2 g2 al _ q2 => rm x xs v vs G2 H2 DQ Q g2.vw (ax.mono g2.tup) al q2 (F.after (g1.trans g2))
theorem ae_bm0 {name : Str} {T id : String} {ty : D → DV → Prop} {r : D → List D → DV → DK → Prop} (pa : PlainAttrs T) (slot : Slot T name id) (hty : typeOf (.builtin id) = pure (.type "method_descriptor")) (hm : AMt X T id ty r) (ho : AE X o to)
    (hbase : attributeBase o name X.env (eval o X.env) = eval o X.env := by rfl) (hline : (apos.endLine == cpos.line) = true := by rfl) : AE X (.Call (.Attribute o name apos) [] [] cpos) (dBM0 ty r to) := by
  obtain ⟨co, jo, ro⟩ := ho.run
  obtain ⟨cm, jm, hy, rm⟩ := hm.run
  exact ⟨_, je_bm0 pa slot hty jm jo hbase hline, fun ρ G DQ σ H Q B q F => ro ρ G _ σ H _ B q fun x G1 v H1 g1 ax ⟨h1, q1⟩ => ⟨hy x v G1 H1 g1.vw ax h1, rm x [] v [] G1 H1 DQ Q g1.vw ax rfl q1 (F.after g1)⟩⟩
def isLst : D → DV → Prop := fun x G => match x with
  | .ref l => onL G l fun _ => True
  | _ => False
theorem isLst_ty {K : PySem.W.Frag} {x : D} {v : V} {G : DV} {H : Hp} (w : Vw K G H) (ax : Abs K H x v) (h : isLst x G) : tyV K "list" v H := by
  cases x with
  | ref l => cases ax; obtain ⟨ds, vs, _, s, _⟩ := onL_get w h; exact .inl ⟨rfl, vs, s⟩
  | _ => exact (show False from h).elim
def appD : D → List D → DV → DK → Prop := fun x xs G Q => match x, xs with
  | .ref l, [y] => onM G l fun ds => ds.length < sizeLine ∧ Q .non (up G l (.lst (ds ++ [y])))
  | _, _ => False
theorem amt_append : AMt X "list" "list.append" isLst appD := by
  refine ⟨_, ⟨mt_append⟩, fun x v G H w ax h => isLst_ty w ax h, fun x xs vx vs G H DQ Q v ax al r F => ?_⟩
  unfold appD at r
  split at r
  · next l y =>
    cases ax
    obtain ⟨u, us, rfl, au, z⟩ := al
    cases z
    obtain ⟨ds, ws, k, e1, h1, r1⟩ := onM_get v r
    exact ⟨l, ws, u, rfl, rfl, h1, by rw [r1.len]; exact k.1, F .non _ _ _ (Go.setL v e1 (r1.append (.one au))) rfl k.2⟩
  · exact r.elim
def extD : D → List D → DV → DK → Prop := fun x xs G Q => match x, xs with
  | .ref l, [.tup es] => onM G l fun ds => ds.length + es.length ≤ sizeLine ∧ Q .non (up G l (.lst (ds ++ es)))
  | .ref l, [.ref m] => onM G l fun ds => onM G m fun es => ds.length + es.length ≤ sizeLine ∧ Q .non (up G l (.lst (ds ++ es)))
  | _, _ => False
theorem JMt.or {id : String} {r r' : V → List V → Hp → VK → Prop} (h : JMt X id r) (h' : JMt X id r') : JMt X id (fun x xs H Q => r x xs H Q ∨ r' x xs H Q) := ⟨h.run.or h'.run⟩
theorem amt_extend : AMt X "list" "list.extend" isLst extD := by
  refine ⟨_, JMt.or ⟨mt_extT⟩ ⟨mt_extend⟩, fun x v G H w ax h => isLst_ty w ax h, fun x xs vx vs G H DQ Q v ax al r F => ?_⟩
  unfold extD at r
  split at r
  · next l es' =>
    cases ax
    obtain ⟨u, us, rfl, ⟨m, zs, rfl, s, rz⟩, z⟩ := al
    cases z
    obtain ⟨ds, ws, k, e1, h1, r1⟩ := onM_get v r
    exact .inl ⟨l, m, ws, zs, rfl, rfl, h1, s, by rw [r1.len, rz.len]; exact k.1, F .non _ _ _ (Go.setL v e1 (r1.append rz)) rfl k.2⟩
  · next l m =>
    cases ax
    obtain ⟨u, us, rfl, au, z⟩ := al
    cases z; cases au
    obtain ⟨ds, ws, k, e1, h1, r1⟩ := onM_get v r
    obtain ⟨es', zs, k2, e2, h2, r2⟩ := onM_get v k
    exact .inr ⟨l, m, ws, zs, rfl, rfl, h1, h2, by rw [r1.len, r2.len]; exact k2.1, F .non _ _ _ (Go.setL v e1 (r1.append r2)) rfl k2.2⟩
  · exact r.elim
def popD : D → List D → DV → DK → Prop := fun x xs G Q => match x, xs with
  | .ref l, [] => onM G l fun ds => ∃ es d, ds = es ++ [d] ∧ Q d (up G l (.lst es))
  | _, _ => False
theorem amt_pop : AMt X "list" "list.pop" isLst popD := by
  refine ⟨_, ⟨mt_pop⟩, fun x v G H w ax h => isLst_ty w ax h, fun x xs vx vs G H DQ Q v ax al r F => ?_⟩
  unfold popD at r
  split at r
  · next l =>
    cases ax; cases al
    obtain ⟨ds, ws, ⟨es', d, rfl, k⟩, e1, h1, r1⟩ := onM_get v r
    have hl := r1.len
    have hd : (es' ++ [d])[es'.length]? = some d := by simp
    obtain ⟨u, hu, au⟩ := r1.get hd
    have e : ws.length - 1 = es'.length := by rw [hl]; simp
    have r2 : AbsL X.K H es' ws.dropLast := by
      have z := r1.take es'.length
      rw [List.take_left] at z
      rw [List.dropLast_eq_take, e]; exact z
    have g := Go.setL v e1 r2
    exact ⟨l, ws, u, rfl, rfl, h1, by rw [e]; exact hu, F d _ _ _ g (au.mono g.tup) k⟩
  · exact r.elim
abbrev DSp := List D → DV → DK → Prop
def conc (K : PySem.W.Frag) (dsp : DSp) : Sp := fun vs H Q _ => ∃ ds G DQ, AbsL K H ds vs ∧ Vw K G H ∧ dsp ds G DQ ∧ Fin K G H DQ Q
abbrev dCall (dsp : DSp) (t : DTA) : DTE := fun ρ G Q => t ρ G fun ds G1 => dsp ds G1 Q
theorem ae_call {k j : Nat} {x : Str} {ps : List Str} {dsp : DSp} (Gt : Got X.prog X.w X.K X.mg X.base k x ps (conc X.K dsp)) (hr : Room j X.A) (hk : k ≤ j) (hg : Gl X x) (ha : AA X (e :: es) t) (hdb : (x == ("__debug__" : Str)) = false := by decide)
    (hs : (e :: es).all unstar = true := by rfl) : AE X (.Call (.Name x p) (e :: es) [] pos) (dCall dsp t) := by
  obtain ⟨ca, ja, ra⟩ := ha.run
  exact ⟨_, je_cg Gt hr hk hg ja hdb hs, fun ρ G DQ σ H Q B q F => ra ρ G _ σ H _ B q fun ds G1 vs H1 g1 al _ q1 => ⟨ds, G1, DQ, by rw [List.append_nil]; exact al, g1.vw, q1, F.after g1⟩⟩
/-- the end of a def: what it made may be let go -/
def Dr (DQ : DK) : DK := fun d G => ∃ G', Sub G' G ∧ DQ d G'
theorem Dr.of {DQ : DK} {d : D} {G : DV} (h : DQ d G) : Dr DQ d G := ⟨G, .refl _, h⟩
def startD (N : List Str) (ds : List D) : DSt := ds.map some ++ List.replicate (N.length - ds.length) none
theorem bears_start {K : PySem.W.Frag} {N : List Str} {ds : List D} {vs : List V} {G : DV} {H : Hp} (r : AbsL K H ds vs) (v : Vw K G H) : Bears K (startD N ds) G (L2.start N vs) H := by
  have hl := r.len
  refine ⟨by simp [startD, L2.start, hl], fun i d h => ?_, v⟩
  unfold startD at h
  unfold L2.start
  by_cases c : i < ds.length
  · rw [List.getElem?_append_left (by simpa using c), List.getElem?_map] at h
    rw [List.getElem?_append_left (by simpa [hl] using c), List.getElem?_map]
    cases e : ds[i]? with
    | none => rw [e] at h; cases h
    | some z =>
      rw [e] at h
      simp at h
      subst h
      obtain ⟨u, h1, h2⟩ := r.get e
      exact ⟨u, by rw [h1]; rfl, h2⟩
  · rw [List.getElem?_append_right (by simpa using c), List.getElem?_replicate] at h
    split at h <;> cases h
theorem okD {P : Program} {w : World} {K : PySem.W.Frag} {mg : Str → Option Value} {base : Heap} {x qual : Str} {st : Stmt} {f : Addr} {fd : FuncData} {N ps : List Str} {k : Nat} {dsp : DSp} (F : Fun K x qual st f fd) (S : FnScope N ps (defScope st)) (len : ∀ ds G DQ, dsp ds G DQ → ds.length = ps.length)
    (hbody : ∀ (cdv : Value) (A : Around) (outer : List Env) (s : Shared) (H : Hp) (E : XK), Room k (A.deeper (PyProof.Rows.envOfC qual (defScope st) s.heap.objs.size f cdv)) → ∀ (ds : List D) (G : DV) (DQ : DK), dsp ds G DQ →
      ∃ t, AB (cxOf CX0 P w K mg base N qual (defScope st) f cdv A outer s H E).nox (defBody st) t ∧ t { nx := fun _ G' => Dr DQ .non G', rt := Dr DQ } (startD N ds) G) : FnOk P w K mg base CX0 (k + 1) f fd ps (conc K dsp) := by
  refine F.okJ S (fun vs H Q E h => ?_) (fun cdv A outer s H vs Q E hr h => ?_)
  · obtain ⟨ds, G, DQ, r, _, h, _⟩ := h
    rw [r.len]; exact len ds G DQ h
  · obtain ⟨ds, G, DQ, r, v, h, Fn⟩ := h
    obtain ⟨t, ⟨tc, j, imp⟩, q⟩ := hbody cdv A outer s H E hr ds G DQ h
    refine ⟨tc, j, imp _ _ (startD N ds) G (L2.start N vs) H (bears_start r v) q ⟨fun ρ' G' σ' H' g b ⟨G2, s2, q2⟩ => Fn .non G2 .non H' (g.sub s2) rfl q2, fun d G' v H' g a ⟨G2, s2, q2⟩ => Fn d G2 v H' (g.sub s2) a q2, fun _ _ _ _ _ _ z => z.elim, fun _ _ _ _ _ _ z => z.elim⟩⟩
end
end L3
namespace L3
open PySem PySem.Spec L2
mutual
/-- == as Python has it -/
def eqD : D → D → Bool
  | .non, .non => true
  | .bl a, .bl b => a == b
  | .bl a, .int b => (if a then 1 else 0) == b
  | .int a, .bl b => a == (if b then 1 else 0)
  | .int a, .int b => a == b
  | .str a, .str b => a == b
  | .tup xs, .tup ys => eqDs xs ys
  | _, _ => false
def eqDs : List D → List D → Bool
  | [], [] => true
  | x :: xs, y :: ys => eqD x y && eqDs xs ys
  | _, _ => false
end
mutual
/-- nothing in it is a thing of the heap -/
def D.data : D → Bool
  | .ref _ => false
  | .ty _ => false
  | .frl _ => false
  | .tup ds => dataL ds
  | _ => true
def dataL : List D → Bool
  | [] => true
  | d :: ds => d.data && dataL ds
end
mutual
def D.dp : D → Nat
  | .tup ds => 1 + dpsL ds
  | _ => 0
def dpsL : List D → Nat
  | [] => 0
  | d :: ds => max d.dp (dpsL ds)
end
def eqJ (ds es : List D) (j : Nat) : Bool := match ds[j]?, es[j]? with
  | some d, some e => eqD d e
  | _, _ => false
theorem eqDs_range : ∀ (ds es : List D), ((List.range (min ds.length es.length)).all (eqJ ds es) && ds.length == es.length) = eqDs ds es
  | [], [] => by simp [eqDs]
  | [], e :: es => by simp [eqDs]
  | d :: ds, [] => by simp [eqDs]
  | d :: ds, e :: es => by
    rw [eqDs, ← eqDs_range ds es, List.length_cons, List.length_cons, Nat.succ_min_succ, List.range_succ_eq_map, List.all_cons, List.all_map]
    have h1 : eqJ (d :: ds) (e :: es) 0 = eqD d e := rfl
    have h2 : (eqJ (d :: ds) (e :: es) ∘ Nat.succ) = eqJ ds es := by funext j; simp [eqJ]
    rw [h1, h2, Bool.and_assoc]
    congr 2
    rw [Bool.eq_iff_iff]; simp
section
variable {X : Cx} {pins : List (Addr × Obj)} {σ : L2.St} {H : Hp} {s : Shared}
mutual
theorem abs_inj (I : Inv X pins σ H s) : ∀ {d e : D} {v : V}, d.data = true → e.data = true → Abs X.K H d v → Abs X.K H e v → d = e
  | .non, e, v, _, h, a, b => by
    cases a
    cases e <;> first | rfl | (cases b; done) | (obtain ⟨_, _, z, _⟩ := b; cases z)
  | .bl _, e, v, _, h, a, b => by
    cases a
    cases e <;> first | (cases b; rfl) | (cases b; done) | (obtain ⟨_, _, z, _⟩ := b; cases z)
  | .int _, e, v, _, h, a, b => by
    cases a
    cases e <;> first | (cases b; rfl) | (cases b; done) | (obtain ⟨_, _, z, _⟩ := b; cases z)
  | .str _, e, v, _, h, a, b => by
    cases a
    cases e <;> first | (cases b; rfl) | (cases b; done) | (obtain ⟨_, _, z, _⟩ := b; cases z)
  | .ref _, _, _, h, _, _, _ => by simp [D.data] at h
  | .ty _, _, _, h, _, _, _ => by simp [D.data] at h
  | .frl _, _, _, h, _, _, _ => by simp [D.data] at h
  | .tup ds, e, v, h0, h, a, b => by
    obtain ⟨l, vs, rfl, s1, r1⟩ := a
    cases e with
    | tup es =>
      obtain ⟨m, us, z, s2, r2⟩ := b
      cases z
      have e := I.tuple_inj s1 s2
      subst e
      rw [absL_inj I (by simpa [D.data] using h0) (by simpa [D.data] using h) r1 r2]
    | ref m => simp [D.data] at h
    | frl m => simp [D.data] at h
    | _ => cases b
theorem absL_inj (I : Inv X pins σ H s) : ∀ {ds es : List D} {vs : List V}, dataL ds = true → dataL es = true → AbsL X.K H ds vs → AbsL X.K H es vs → ds = es
  | [], [], _, _, _, _, _ => rfl
  | [], e :: es, _, _, _, a, b => by cases a; obtain ⟨_, _, z, _⟩ := b; cases z
  | d :: ds, [], _, _, _, a, b => by cases b; obtain ⟨_, _, z, _⟩ := a; cases z
  | d :: ds, e :: es, vs, h1, h2, ⟨v, r, e1, a1, l1⟩, ⟨u, q, e2, a2, l2⟩ => by
    subst e1
    cases e2
    simp only [dataL, Bool.and_eq_true] at h1 h2
    rw [abs_inj I h1.1 h2.1 a1 a2, absL_inj I h1.2 h2.2 l1 l2]
end
mutual
theorem eqD_refl : ∀ {d : D}, d.data = true → eqD d d = true
  | .non, _ => rfl
  | .bl _, _ => by simp [eqD]
  | .int _, _ => by simp [eqD]
  | .str _, _ => by simp [eqD]
  | .ref _, h => by simp [D.data] at h
  | .ty _, h => by simp [D.data] at h
  | .frl _, h => by simp [D.data] at h
  | .tup ds, h => by rw [eqD]; exact eqDs_refl (by simpa [D.data] using h)
theorem eqDs_refl : ∀ {ds : List D}, dataL ds = true → eqDs ds ds = true
  | [], _ => rfl
  | d :: ds, h => by
    simp only [dataL, Bool.and_eq_true] at h
    rw [eqDs, eqD_refl h.1, eqDs_refl h.2]; rfl
end
mutual
theorem eqAtD (I : Inv X pins σ H s) : ∀ (d e : D) (A : Around) (x y : V) (u v : Value), d.data = true → e.data = true → Abs X.K H d x → Abs X.K H e y → RelV x u → RelV y v → A.units + d.dp < cLine → SeqAt.EqAt A s u v (eqD d e)
  | .tup ds, e, A, x, y, u, v, hd, he, ax, ay, ru, rv, hu => by
    obtain ⟨a, vs, rfl, s1, r1⟩ := ax
    cases ru
    obtain ⟨its, rr, t1, _⟩ := I.tuple s1
    have hu0 : A.units < cLine := by omega
    cases e with
    | non => cases ay; cases rv; exact SeqAt.EqAt.tuple_none t1 hu0
    | bl b => cases ay; cases rv; exact SeqAt.EqAt.tuple_bool b t1 hu0
    | int b => cases ay; obtain ⟨t, rfl⟩ := rv; exact SeqAt.EqAt.tuple_int b t t1 hu0
    | str b => cases ay; obtain ⟨t, rfl⟩ := rv; exact SeqAt.EqAt.tuple_str b t t1 hu0
    | ref b => simp [D.data] at he
    | ty b => simp [D.data] at he
    | frl b => simp [D.data] at he
    | tup es =>
      obtain ⟨b, us, rfl, s2, r2⟩ := ay
      cases rv
      by_cases hab : a = b
      · subst hab
        have e1 := I.tuple_inj s1 s2
        subst e1
        have e2 := absL_inj I (by simpa [D.data] using hd) (by simpa [D.data] using he) r1 r2
        subst e2
        rw [eqD_refl hd]
        exact SeqAt.EqAt.same _
      · obtain ⟨its2, rr2, t2, _⟩ := I.tuple s2
        have l1 := rr.length
        have l2 := rr2.length
        have l3 := r1.len
        have l4 := r2.len
        simp only [D.dp] at hu
        have z := SeqAt.RcAt.tuples (A := A) (e := eqJ ds es) t1 t2 hu0 (fun j h1 h2 => by
          have q := eqAtDs I ds es A.in1 vs us its its2 (by simpa [D.data] using hd) (by simpa [D.data] using he) r1 r2 rr rr2 (by show A.units + 1 + dpsL ds < cLine; omega) j (by simpa using h1) (by simpa using h2)
          simpa using q)
        have ez : ((List.range (min its.toArray.size its2.toArray.size)).all (eqJ ds es) && its.toArray.size == its2.toArray.size) = eqD (.tup ds) (.tup es) := by
          rw [List.size_toArray, List.size_toArray, ← l1, ← l2, l3, l4, eqDs_range]; rfl
        rw [ez] at z
        exact SeqAt.EqAt.of_refs hab z
  | .ref _, _, _, _, _, _, _, hd, _, _, _, _, _, _ => by simp [D.data] at hd
  | .ty _, _, _, _, _, _, _, hd, _, _, _, _, _, _ => by simp [D.data] at hd
  | .frl _, _, _, _, _, _, _, hd, _, _, _, _, _, _ => by simp [D.data] at hd
  | .non, e, A, x, y, u, v, hd, he, ax, ay, ru, rv, hu => by
    cases ax; cases ru
    have hu0 : A.units < cLine := by omega
    cases e with
    | non => cases ay; cases rv; exact SeqAt.EqAt.same _
    | bl b => cases ay; cases rv; exact SeqAt.EqAt.none_bool b
    | int b => cases ay; obtain ⟨t, rfl⟩ := rv; exact SeqAt.EqAt.none_int b t
    | str b => cases ay; obtain ⟨t, rfl⟩ := rv; exact SeqAt.EqAt.none_str b t
    | ref b => simp [D.data] at he
    | ty b => simp [D.data] at he
    | frl b => simp [D.data] at he
    | tup es => obtain ⟨b, us, rfl, s2, r2⟩ := ay; cases rv; obtain ⟨its2, rr2, t2, _⟩ := I.tuple s2; exact SeqAt.EqAt.none_tuple t2 hu0
  | .bl a, e, A, x, y, u, v, hd, he, ax, ay, ru, rv, hu => by
    cases ax; cases ru
    have hu0 : A.units < cLine := by omega
    cases e with
    | non => cases ay; cases rv; exact SeqAt.EqAt.bool_none a
    | bl b => cases ay; cases rv; exact SeqAt.EqAt.bool_bool a b
    | int b => cases ay; obtain ⟨t, rfl⟩ := rv; exact SeqAt.EqAt.bool_int a b t
    | str b => cases ay; obtain ⟨t, rfl⟩ := rv; exact SeqAt.EqAt.bool_str a b t
    | ref b => simp [D.data] at he
    | ty b => simp [D.data] at he
    | frl b => simp [D.data] at he
    | tup es => obtain ⟨b, us, rfl, s2, r2⟩ := ay; cases rv; obtain ⟨its2, rr2, t2, _⟩ := I.tuple s2; exact SeqAt.EqAt.bool_tuple a t2 hu0
  | .int a, e, A, x, y, u, v, hd, he, ax, ay, ru, rv, hu => by
    cases ax; obtain ⟨t', rfl⟩ := ru
    have hu0 : A.units < cLine := by omega
    cases e with
    | non => cases ay; cases rv; exact SeqAt.EqAt.int_none a t'
    | bl b => cases ay; cases rv; exact SeqAt.EqAt.int_bool a t' b
    | int b => cases ay; obtain ⟨t, rfl⟩ := rv; exact SeqAt.EqAt.int_int a t' b t
    | str b => cases ay; obtain ⟨t, rfl⟩ := rv; exact SeqAt.EqAt.int_str a t' b t
    | ref b => simp [D.data] at he
    | ty b => simp [D.data] at he
    | frl b => simp [D.data] at he
    | tup es => obtain ⟨b, us, rfl, s2, r2⟩ := ay; cases rv; obtain ⟨its2, rr2, t2, _⟩ := I.tuple s2; exact SeqAt.EqAt.int_tuple a t' t2 hu0
  | .str a, e, A, x, y, u, v, hd, he, ax, ay, ru, rv, hu => by
    cases ax; obtain ⟨t', rfl⟩ := ru
    have hu0 : A.units < cLine := by omega
    cases e with
    | non => cases ay; cases rv; exact SeqAt.EqAt.str_none a t'
    | bl b => cases ay; cases rv; exact SeqAt.EqAt.str_bool a t' b
    | int b => cases ay; obtain ⟨t, rfl⟩ := rv; exact SeqAt.EqAt.str_int a t' b t
    | str b => cases ay; obtain ⟨t, rfl⟩ := rv; exact SeqAt.EqAt.str_str a t' b t
    | ref b => simp [D.data] at he
    | ty b => simp [D.data] at he
    | frl b => simp [D.data] at he
    | tup es => obtain ⟨b, us, rfl, s2, r2⟩ := ay; cases rv; obtain ⟨its2, rr2, t2, _⟩ := I.tuple s2; exact SeqAt.EqAt.str_tuple a t' t2 hu0
theorem eqAtDs (I : Inv X pins σ H s) : ∀ (ds es : List D) (A : Around) (vs us : List V) (its its2 : List Value), dataL ds = true → dataL es = true → AbsL X.K H ds vs → AbsL X.K H es us → Vals vs its → Vals us its2 → A.units + dpsL ds < cLine →
    ∀ j (h1 : j < its.length) (h2 : j < its2.length), SeqAt.EqAt A s its[j] its2[j] (eqJ ds es j)
  | [], es, A, vs, us, its, its2, _, _, e, e', rr, rr2, _, j, h1, h2 => by
    rw [show vs = [] from e] at rr
    cases rr
    exact absurd h1 (by simp)
  | d :: ds, [], A, vs, us, its, its2, _, _, e, e', rr, rr2, _, j, h1, h2 => by
    rw [show us = [] from e'] at rr2
    cases rr2
    exact absurd h2 (by simp)
  | d :: ds, e0 :: es, A, vs, us, its, its2, hd, he, ⟨v, r, e, q, t⟩, ⟨v', r', e', q', t'⟩, rr, rr2, hu, j, h1, h2 => by
    subst e e'
    cases rr with
    | cons r1 rt =>
      cases rr2 with
      | cons r2 rt2 =>
        simp only [dpsL] at hu
        simp only [dataL, Bool.and_eq_true] at hd he
        cases j with
        | zero => exact eqAtD I d e0 A _ _ _ _ hd.1 he.1 q q' r1 r2 (by omega)
        | succ j =>
          have z := eqAtDs I ds es A _ _ _ _ hd.2 he.2 t t' rt rt2 (by omega) j (by simpa using h1) (by simpa using h2)
          simpa [eqJ] using z
end
/-- the comparison itself, of two data -/
theorem rcAtD (I : Inv X pins σ H s) (d e : D) (A : Around) (x y : V) (u v : Value) (hd : d.data = true) (he : e.data = true) (ax : Abs X.K H d x) (ay : Abs X.K H e y) (ru : RelV x u) (rv : RelV y v) (hu : A.units + d.dp < cLine) : SeqAt.RcAt A s u v (eqD d e) := by
  have hu0 : A.units < cLine := by omega
  cases d with
  | tup ds =>
    obtain ⟨a, vs, rfl, s1, r1⟩ := ax
    cases ru
    obtain ⟨its, rr, t1, _⟩ := I.tuple s1
    cases e with
    | non => cases ay; cases rv; exact SeqAt.RcAt.tuple_none t1 hu0
    | bl b => cases ay; cases rv; exact SeqAt.RcAt.tuple_bool b t1 hu0
    | int b => cases ay; obtain ⟨t, rfl⟩ := rv; exact SeqAt.RcAt.tuple_int b t t1 hu0
    | str b => cases ay; obtain ⟨t, rfl⟩ := rv; exact SeqAt.RcAt.tuple_str b t t1 hu0
    | ref b => simp [D.data] at he
    | ty b => simp [D.data] at he
    | frl b => simp [D.data] at he
    | tup es =>
      obtain ⟨b, us, rfl, s2, r2⟩ := ay
      cases rv
      obtain ⟨its2, rr2, t2, _⟩ := I.tuple s2
      have l1 := rr.length
      have l2 := rr2.length
      have l3 := r1.len
      have l4 := r2.len
      simp only [D.dp] at hu
      have z := SeqAt.RcAt.tuples (A := A) (e := eqJ ds es) t1 t2 hu0 (fun j h1 h2 => by
        have q := eqAtDs I ds es A.in1 vs us its its2 (by simpa [D.data] using hd) (by simpa [D.data] using he) r1 r2 rr rr2 (by show A.units + 1 + dpsL ds < cLine; omega) j (by simpa using h1) (by simpa using h2)
        simpa using q)
      have ez : ((List.range (min its.toArray.size its2.toArray.size)).all (eqJ ds es) && its.toArray.size == its2.toArray.size) = eqD (.tup ds) (.tup es) := by
        rw [List.size_toArray, List.size_toArray, ← l1, ← l2, l3, l4, eqDs_range]; rfl
      rw [ez] at z
      exact z
  | ref a => simp [D.data] at hd
  | ty a => simp [D.data] at hd
  | frl a => simp [D.data] at hd
  | non =>
    cases ax; cases ru
    cases e with
    | non => cases ay; cases rv; exact SeqAt.RcAt.none_none
    | bl b => cases ay; cases rv; exact SeqAt.RcAt.none_bool b
    | int b => cases ay; obtain ⟨t, rfl⟩ := rv; exact SeqAt.RcAt.none_int b t
    | str b => cases ay; obtain ⟨t, rfl⟩ := rv; exact SeqAt.RcAt.none_str b t
    | ref b => simp [D.data] at he
    | ty b => simp [D.data] at he
    | frl b => simp [D.data] at he
    | tup es => obtain ⟨b, us, rfl, s2, r2⟩ := ay; cases rv; obtain ⟨its2, rr2, t2, _⟩ := I.tuple s2; exact SeqAt.RcAt.none_tuple t2 hu0
  | bl a =>
    cases ax; cases ru
    cases e with
    | non => cases ay; cases rv; exact SeqAt.RcAt.bool_none a
    | bl b => cases ay; cases rv; exact SeqAt.RcAt.bool_bool a b
    | int b => cases ay; obtain ⟨t, rfl⟩ := rv; exact SeqAt.RcAt.bool_int a b t
    | str b => cases ay; obtain ⟨t, rfl⟩ := rv; exact SeqAt.RcAt.bool_str a b t
    | ref b => simp [D.data] at he
    | ty b => simp [D.data] at he
    | frl b => simp [D.data] at he
    | tup es => obtain ⟨b, us, rfl, s2, r2⟩ := ay; cases rv; obtain ⟨its2, rr2, t2, _⟩ := I.tuple s2; exact SeqAt.RcAt.bool_tuple a t2 hu0
  | int a =>
    cases ax; obtain ⟨t', rfl⟩ := ru
    cases e with
    | non => cases ay; cases rv; exact SeqAt.RcAt.int_none a t'
    | bl b => cases ay; cases rv; exact SeqAt.RcAt.int_bool a t' b
    | int b => cases ay; obtain ⟨t, rfl⟩ := rv; exact SeqAt.RcAt.int_int a t' b t
    | str b => cases ay; obtain ⟨t, rfl⟩ := rv; exact SeqAt.RcAt.int_str a t' b t
    | ref b => simp [D.data] at he
    | ty b => simp [D.data] at he
    | frl b => simp [D.data] at he
    | tup es => obtain ⟨b, us, rfl, s2, r2⟩ := ay; cases rv; obtain ⟨its2, rr2, t2, _⟩ := I.tuple s2; exact SeqAt.RcAt.int_tuple a t' t2 hu0
  | str a =>
    cases ax; obtain ⟨t', rfl⟩ := ru
    cases e with
    | non => cases ay; cases rv; exact SeqAt.RcAt.str_none a t'
    | bl b => cases ay; cases rv; exact SeqAt.RcAt.str_bool a t' b
    | int b => cases ay; obtain ⟨t, rfl⟩ := rv; exact SeqAt.RcAt.str_int a t' b t
    | str b => cases ay; obtain ⟨t, rfl⟩ := rv; exact SeqAt.RcAt.str_str a t' b t
    | ref b => simp [D.data] at he
    | ty b => simp [D.data] at he
    | frl b => simp [D.data] at he
    | tup es => obtain ⟨b, us, rfl, s2, r2⟩ := ay; cases rv; obtain ⟨its2, rr2, t2, _⟩ := I.tuple s2; exact SeqAt.RcAt.str_tuple a t' t2 hu0
end
end L3
namespace L3
open PySem PySem.Spec L2
section
variable {X : Cx} {pins : List (Addr × Obj)} {σ : L2.St} {H : Hp} {s : Shared}
theorem rcNeD (I : Inv X pins σ H s) (d e : D) (A : Around) (x y : V) (u v : Value) (hd : d.data = true) (he : e.data = true) (ax : Abs X.K H d x) (ay : Abs X.K H e y) (ru : RelV x u) (rv : RelV y v) (hu : A.units + d.dp < cLine) : SeqAt.RcNeAt A s u v (!eqD d e) := by
  have hu0 : A.units < cLine := by omega
  cases d with
  | tup ds =>
    obtain ⟨a, vs, rfl, s1, r1⟩ := ax
    cases ru
    obtain ⟨its, rr, t1, _⟩ := I.tuple s1
    cases e with
    | non => cases ay; cases rv; exact SeqAt.RcNeAt.tuple_none t1 hu0
    | bl b => cases ay; cases rv; exact SeqAt.RcNeAt.tuple_bool b t1 hu0
    | int b => cases ay; obtain ⟨t, rfl⟩ := rv; exact SeqAt.RcNeAt.tuple_int b t t1 hu0
    | str b => cases ay; obtain ⟨t, rfl⟩ := rv; exact SeqAt.RcNeAt.tuple_str b t t1 hu0
    | ref b => simp [D.data] at he
    | ty b => simp [D.data] at he
    | frl b => simp [D.data] at he
    | tup es =>
      obtain ⟨b, us, rfl, s2, r2⟩ := ay
      cases rv
      obtain ⟨its2, rr2, t2, _⟩ := I.tuple s2
      have l1 := rr.length
      have l2 := rr2.length
      have l3 := r1.len
      have l4 := r2.len
      simp only [D.dp] at hu
      have z := SeqAt.RcNeAt.tuples (A := A) (e := eqJ ds es) t1 t2 hu0 (fun j h1 h2 => by
        have q := eqAtDs I ds es A.in1 vs us its its2 (by simpa [D.data] using hd) (by simpa [D.data] using he) r1 r2 rr rr2 (by show A.units + 1 + dpsL ds < cLine; omega) j (by simpa using h1) (by simpa using h2)
        simpa using q)
      have ez : ((List.range (min its.toArray.size its2.toArray.size)).all (eqJ ds es) && its.toArray.size == its2.toArray.size) = eqD (.tup ds) (.tup es) := by
        rw [List.size_toArray, List.size_toArray, ← l1, ← l2, l3, l4, eqDs_range]; rfl
      rw [ez] at z
      exact z
  | ref a => simp [D.data] at hd
  | ty a => simp [D.data] at hd
  | frl a => simp [D.data] at hd
  | non =>
    cases ax; cases ru
    cases e with
    | non => cases ay; cases rv; exact SeqAt.RcNeAt.none_none
    | bl b => cases ay; cases rv; exact SeqAt.RcNeAt.none_bool b
    | int b => cases ay; obtain ⟨t, rfl⟩ := rv; exact SeqAt.RcNeAt.none_int b t
    | str b => cases ay; obtain ⟨t, rfl⟩ := rv; exact SeqAt.RcNeAt.none_str b t
    | ref b => simp [D.data] at he
    | ty b => simp [D.data] at he
    | frl b => simp [D.data] at he
    | tup es => obtain ⟨b, us, rfl, s2, r2⟩ := ay; cases rv; obtain ⟨its2, rr2, t2, _⟩ := I.tuple s2; exact SeqAt.RcNeAt.none_tuple t2 hu0
  | bl a =>
    cases ax; cases ru
    cases e with
    | non => cases ay; cases rv; exact SeqAt.RcNeAt.bool_none a
    | bl b => cases ay; cases rv; exact SeqAt.RcNeAt.bool_bool a b
    | int b => cases ay; obtain ⟨t, rfl⟩ := rv; exact SeqAt.RcNeAt.bool_int a b t
    | str b => cases ay; obtain ⟨t, rfl⟩ := rv; exact SeqAt.RcNeAt.bool_str a b t
    | ref b => simp [D.data] at he
    | ty b => simp [D.data] at he
    | frl b => simp [D.data] at he
    | tup es => obtain ⟨b, us, rfl, s2, r2⟩ := ay; cases rv; obtain ⟨its2, rr2, t2, _⟩ := I.tuple s2; exact SeqAt.RcNeAt.bool_tuple a t2 hu0
  | int a =>
    cases ax; obtain ⟨t', rfl⟩ := ru
    cases e with
    | non => cases ay; cases rv; exact SeqAt.RcNeAt.int_none a t'
    | bl b => cases ay; cases rv; exact SeqAt.RcNeAt.int_bool a t' b
    | int b => cases ay; obtain ⟨t, rfl⟩ := rv; exact SeqAt.RcNeAt.int_int a t' b t
    | str b => cases ay; obtain ⟨t, rfl⟩ := rv; exact SeqAt.RcNeAt.int_str a t' b t
    | ref b => simp [D.data] at he
    | ty b => simp [D.data] at he
    | frl b => simp [D.data] at he
    | tup es => obtain ⟨b, us, rfl, s2, r2⟩ := ay; cases rv; obtain ⟨its2, rr2, t2, _⟩ := I.tuple s2; exact SeqAt.RcNeAt.int_tuple a t' t2 hu0
  | str a =>
    cases ax; obtain ⟨t', rfl⟩ := ru
    cases e with
    | non => cases ay; cases rv; exact SeqAt.RcNeAt.str_none a t'
    | bl b => cases ay; cases rv; exact SeqAt.RcNeAt.str_bool a t' b
    | int b => cases ay; obtain ⟨t, rfl⟩ := rv; exact SeqAt.RcNeAt.str_int a t' b t
    | str b => cases ay; obtain ⟨t, rfl⟩ := rv; exact SeqAt.RcNeAt.str_str a t' b t
    | ref b => simp [D.data] at he
    | ty b => simp [D.data] at he
    | frl b => simp [D.data] at he
    | tup es => obtain ⟨b, us, rfl, s2, r2⟩ := ay; cases rv; obtain ⟨its2, rr2, t2, _⟩ := I.tuple s2; exact SeqAt.RcNeAt.str_tuple a t' t2 hu0
end
end L3
namespace L3
open PySem PySem.Spec L2
section
variable {X : Cx} {a b c e o i tg iter : Expr} {es : List Expr} {ta tb te to ti tc : DTE} {t : DTA} {pos p apos cpos : Pos}
theorem hu200 {A : Around} {k : Nat} (hr : Room k A) : A.units + 200 < cLine := by have := hr.un; omega
/-- of two data; of two lists of data -/
def rEqD (K : PySem.W.Frag) (f : Bool → Bool) : R2 := fun x y H Q => ∃ d e, Abs K H d x ∧ Abs K H e y ∧ d.data = true ∧ e.data = true ∧ d.dp ≤ 150 ∧ Q (.bl (f (eqD d e))) H
def rEqLs (K : PySem.W.Frag) (f : Bool → Bool) : R2 := fun x y H Q => ∃ l m vs us ds es, x = .ref l ∧ y = .ref m ∧ SqL K H l vs ∧ SqL K H m us ∧ AbsL K H ds vs ∧ AbsL K H es us ∧ dataL ds = true ∧ dataL es = true ∧ dpsL ds ≤ 150 ∧ Q (.bl (f (eqDs ds es))) H
theorem op_eqD (hu : X.A.units + 200 < cLine) : OpR X (compareOp .Eq) (rEqD X.K id) := by
  intro pins s σ H x y v u Q I rx ry h
  obtain ⟨d, e, ax, ay, hd, he, hz, q⟩ := h
  exact rcAtD I d e X.A x y v u hd he ax ay rx ry (by omega) X.prog X.w X.xe _ ⟨.bl _, H, I, rfl, q⟩
theorem op_neD (hu : X.A.units + 200 < cLine) : OpR X (compareOp .NotEq) (rEqD X.K (!·)) := by
  intro pins s σ H x y v u Q I rx ry h
  obtain ⟨d, e, ax, ay, hd, he, hz, q⟩ := h
  exact rcNeD I d e X.A x y v u hd he ax ay rx ry (by omega) X.prog X.w X.xe _ ⟨.bl _, H, I, rfl, q⟩
theorem eqDs_len : ∀ {ds es : List D}, ds.length ≠ es.length → eqDs ds es = false
  | [], [], h => absurd rfl h
  | [], _ :: _, _ => rfl
  | _ :: _, [], _ => rfl
  | d :: ds, e :: es, h => by rw [eqDs, eqDs_len (by simpa using h), Bool.and_false]
theorem eqDs_all {ds es : List D} (h : ds.length = es.length) : (List.range ds.length).all (eqJ ds es) = eqDs ds es := by
  rw [← eqDs_range, ← h, Nat.min_self]; simp
theorem op_eqLs (hu : X.A.units + 200 < cLine) : OpR X (compareOp .Eq) (rEqLs X.K id) := by
  intro pins s σ H x y v u Q I rx ry h
  obtain ⟨l, m, vs, us, ds, es, rfl, rfl, s1, s2, r1, r2, hd, he, hz, q⟩ := h
  cases rx; cases ry
  obtain ⟨its, rr, t1, _⟩ := I.list s1
  obtain ⟨its2, rr2, t2, _⟩ := I.list s2
  have l1 := rr.length
  have l2 := rr2.length
  have l3 := r1.len
  have l4 := r2.len
  by_cases hl : ds.length = es.length
  · refine SeqAt.RcAt.lists (e := eqJ ds es) t1.isList t2.isList (by rw [List.size_toArray, List.size_toArray]; omega) (by omega) (fun j h1 h2 => ?_) X.prog X.w X.xe _ ⟨.bl _, H, I, ?_, q⟩
    · have q := eqAtDs I ds es X.A.in1 vs us its its2 hd he r1 r2 rr rr2 (by show X.A.units + 1 + dpsL ds < cLine; omega) j (by simpa using h1) (by simpa using h2)
      simpa using q
    · show Value.bool _ = Value.bool _
      rw [List.size_toArray, ← l1, l3, eqDs_all hl]; rfl
  · refine SeqAt.RcAt.lists_lengths t1.isList t2.isList (by rw [List.size_toArray, List.size_toArray]; simp; omega) (by omega) X.prog X.w X.xe _ ⟨.bl _, H, I, ?_, q⟩
    rw [eqDs_len hl]; rfl
theorem op_neLs (hu : X.A.units + 200 < cLine) : OpR X (compareOp .NotEq) (rEqLs X.K (!·)) := by
  intro pins s σ H x y v u Q I rx ry h
  obtain ⟨l, m, vs, us, ds, es, rfl, rfl, s1, s2, r1, r2, hd, he, hz, q⟩ := h
  cases rx; cases ry
  obtain ⟨its, rr, t1, _⟩ := I.list s1
  obtain ⟨its2, rr2, t2, _⟩ := I.list s2
  have l1 := rr.length
  have l2 := rr2.length
  have l3 := r1.len
  have l4 := r2.len
  by_cases hl : ds.length = es.length
  · refine SeqAt.RcNeAt.lists (e := eqJ ds es) t1.isList t2.isList (by rw [List.size_toArray, List.size_toArray]; omega) (by omega) (fun j h1 h2 => ?_) X.prog X.w X.xe _ ⟨.bl _, H, I, ?_, q⟩
    · have q := eqAtDs I ds es X.A.in1 vs us its its2 hd he r1 r2 rr rr2 (by show X.A.units + 1 + dpsL ds < cLine; omega) j (by simpa using h1) (by simpa using h2)
      simpa using q
    · show Value.bool _ = Value.bool _
      rw [List.size_toArray, ← l1, l3, eqDs_all hl]
  · refine SeqAt.RcNeAt.lists_lengths t1.isList t2.isList (by rw [List.size_toArray, List.size_toArray]; simp; omega) (by omega) X.prog X.w X.xe _ ⟨.bl _, H, I, ?_, q⟩
    rw [eqDs_len hl]; rfl
/-- f: what is made of the answer (== itself, != its contrary) -/
def eqR (f : Bool → Bool) : DR2 := fun x y G Q => match x, y with
  | .int i, .int j => Q (.bl (f (i == j))) G
  | .str i, .str j => Q (.bl (f (i == j))) G
  | .tup _, .str _ => Q (.bl (f false)) G
  | .str _, .tup _ => Q (.bl (f false)) G
  | .ref l, .ref m => onL G l fun ds => onL G m fun es => dataL ds = true ∧ dataL es = true ∧ dpsL ds ≤ 150 ∧ Q (.bl (f (eqDs ds es))) G
  | x, y => x.data = true ∧ y.data = true ∧ x.dp ≤ 150 ∧ Q (.bl (f (eqD x y))) G
theorem eqR_of {f : Bool → Bool} {x y : D} {G : DV} {Q : DK} (hx : x.data = true) (hy : y.data = true) (hd : x.dp ≤ 150) (q : Q (.bl (f (eqD x y))) G) : eqR f x y G Q := by
  cases x <;> cases y <;> first | exact q | exact ⟨hx, hy, hd, q⟩ | (simp [D.data] at hx; done) | (simp [D.data] at hy; done)
/-- tuple against text, whatever the tuple holds -/
def rTS (K : PySem.W.Frag) (f : Bool → Bool) : R2 := fun x y H Q => (∃ a vs z, x = .ref a ∧ SqT K H a vs ∧ y = .str z ∧ Q (.bl (f false)) H) ∨ ∃ a vs z, y = .ref a ∧ SqT K H a vs ∧ x = .str z ∧ Q (.bl (f false)) H
theorem op_eqTS (hu : X.A.units + 200 < cLine) : OpR X (compareOp .Eq) (rTS X.K id) := by
  intro pins s σ H x y v u Q I rx ry h
  rcases h with ⟨a, vs, z, rfl, sq, rfl, q⟩ | ⟨a, vs, z, rfl, sq, rfl, q⟩
  · cases rx; obtain ⟨t, rfl⟩ := ry
    obtain ⟨its, rr, t1, _⟩ := I.tuple sq
    exact SeqAt.RcAt.tuple_str z t t1 (by omega) X.prog X.w X.xe _ ⟨.bl false, H, I, rfl, q⟩
  · cases ry; obtain ⟨t, rfl⟩ := rx
    obtain ⟨its, rr, t1, _⟩ := I.tuple sq
    exact SeqAt.RcAt.str_tuple z t t1 (by omega) X.prog X.w X.xe _ ⟨.bl false, H, I, rfl, q⟩
theorem op_neTS (hu : X.A.units + 200 < cLine) : OpR X (compareOp .NotEq) (rTS X.K (!·)) := by
  intro pins s σ H x y v u Q I rx ry h
  rcases h with ⟨a, vs, z, rfl, sq, rfl, q⟩ | ⟨a, vs, z, rfl, sq, rfl, q⟩
  · cases rx; obtain ⟨t, rfl⟩ := ry
    obtain ⟨its, rr, t1, _⟩ := I.tuple sq
    exact SeqAt.RcNeAt.tuple_str z t t1 (by omega) X.prog X.w X.xe _ ⟨.bl true, H, I, rfl, q⟩
  · cases ry; obtain ⟨t, rfl⟩ := rx
    obtain ⟨its, rr, t1, _⟩ := I.tuple sq
    exact SeqAt.RcNeAt.str_tuple z t t1 (by omega) X.prog X.w X.xe _ ⟨.bl true, H, I, rfl, q⟩
theorem aop_of {f : Bool → Bool} {op : CmpOp} (h1 : OpR X (compareOp op) (rEqD X.K f)) (h2 : OpR X (compareOp op) (rEqLs X.K f)) (h3 : OpR X (compareOp op) (rTS X.K f)) : AOp X (compareOp op) (eqR f) := by
  refine ⟨_, ⟨h1.or (h2.or h3)⟩, fun x y vx vy G H DQ Q v ax ay r F => ?_⟩
  have fin : ∀ b : Bool, DQ (.bl b) G → Q (.bl b) H := fun b q => F (.bl b) G _ H (.refl v) rfl q
  have gen : x.data = true ∧ y.data = true ∧ x.dp ≤ 150 ∧ DQ (.bl (f (eqD x y))) G → rEqD X.K f vx vy H Q := fun ⟨z1, z2, z3, z4⟩ => ⟨x, y, ax, ay, z1, z2, z3, fin _ z4⟩
  unfold eqR at r
  split at r
  · exact .inl (gen ⟨rfl, rfl, Nat.zero_le _, r⟩)
  · exact .inl (gen ⟨rfl, rfl, Nat.zero_le _, r⟩)
  · obtain ⟨l, vs, rfl, s1, _⟩ := ax
    cases ay
    exact .inr (.inr (.inl ⟨l, vs, _, rfl, s1, rfl, fin _ r⟩))
  · obtain ⟨l, vs, rfl, s1, _⟩ := ay
    cases ax
    exact .inr (.inr (.inr ⟨l, vs, _, rfl, s1, rfl, fin _ r⟩))
  · cases ax; cases ay
    obtain ⟨ds, vs, k1, s1, r1⟩ := onL_get v r
    obtain ⟨es, us, ⟨z1, z2, z3, k2⟩, s2, r2⟩ := onL_get v k1
    exact .inr (.inl ⟨_, _, vs, us, ds, es, rfl, rfl, s1, s2, r1, r2, z1, z2, z3, fin _ k2⟩)
  · exact .inl (gen r)
theorem aop_eq (hu : X.A.units + 200 < cLine) : AOp X (compareOp .Eq) (eqR id) := aop_of (op_eqD hu) (op_eqLs hu) (op_eqTS hu)
theorem aop_ne (hu : X.A.units + 200 < cLine) : AOp X (compareOp .NotEq) (eqR (!·)) := aop_of (op_neD hu) (op_neLs hu) (op_neTS hu)
abbrev dClean (t : DTE) : DTE := fun ρ G Q => t ρ G fun d G' => ∃ G2, Sub G2 G' ∧ Q d G2
theorem ae_clean (h : AE X e te) : AE X e (dClean te) := by
  obtain ⟨ca, ja, ra⟩ := h.run
  exact ⟨_, ja, fun ρ G DQ σ H Q B q F => ra ρ G _ σ H _ B q fun d G' v H' g a ⟨G2, s2, q2⟩ => F d G2 v H' (g.sub s2) a q2⟩
@[irreducible] def atS (ds : List D) (i : Int) (G : DV) (Q : DK) : Prop := atD ds i G Q
theorem atS_of {ds : List D} {i : Int} {G : DV} {Q : DK} (h : atD ds i G Q) : atS ds i G Q := by unfold atS; exact h
/-- [a, b, ..][i] -/
abbrev dIxD (t : DTA) (tb : DTE) : DTE := fun ρ G Q => t ρ G fun ds G1 => tb ρ G1 fun y G2 => match y with
  | .int i => atS ds i G2 Q
  | _ => False
theorem ae_ixDisp {lp : Pos} (h : AA X es t) (hb : AE X b tb) (hs : PlainIx b) (hl : Nat.ble es.length 1000 = true := by rfl) : AE X (.Subscript (.List es lp) b pos) (dIxD t tb) := by
  obtain ⟨ca, ja, ra⟩ := h.run
  obtain ⟨cb, jb, rb⟩ := hb.run
  refine ⟨_, je_ix ⟨ix_seq⟩ (je_lst ja) jb hs, fun ρ G DQ σ H Q B q F => ra ρ G _ σ H _ B q fun ds G1 vs H1 g1 al hn q1 => ⟨by rw [al.len, hn]; exact line_of hl, fun p hp => ?_⟩⟩
  have g2 := Go.newT (o := .lst vs) g1.vw hp
  have n1 := g1.vw.none hp
  refine rb ρ G1 _ σ _ _ ((B.go g1).go g2) q1 fun y G3 u H3 g3 ay q3 => ?_
  have h3 := g3.same p _ upd_same n1
  split at q3
  · next i =>
    cases ay
    unfold atS at q3
    obtain ⟨d, hd, q4⟩ := atD_get q3
    obtain ⟨w, hw, aw⟩ := atI_abs ((al.mono g2.tup).mono g3.tup) hd
    exact .inl ⟨p, vs, i, w, rfl, rfl, .of h3, hw, F d G3 w H3 ((g1.trans g2).trans g3) aw q4⟩
  · exact q3.elim
def compOkB (sc : Scope) (N : List Str) (scope : Scope) (N' : List Str) (nt : Nat) (cap : List Nat) : Bool :=
  scope.names.all (fun y => y.2 != .cell) && scope.names.all (fun y => y.2 != .local || scope.names.lookup y.1 == some .local) &&
  scope.names.all (fun y => y.2 != .free || (sc.names.lookup y.1 == some .cell || sc.names.lookup y.1 == some .free)) && N'.length == nt + cap.length &&
  (List.range cap.length).all fun j => match cap[j]?, N'[nt + j]? with
    | some i, some x => N[i]? == some x && scope.names.lookup x == some .free
    | _, _ => true
theorem CompOk.of {scope : Scope} {N' : List Str} {nt : Nat} {cap : List Nat} (hk : scope.kind = .function) (h : compOkB X.env.scope X.N scope N' nt cap = true) : CompOk X scope N' nt cap := by
  unfold compOkB at h
  simp only [Bool.and_eq_true, List.all_eq_true] at h
  obtain ⟨⟨⟨⟨h1, h2⟩, h3⟩, h4⟩, h5⟩ := h
  refine ⟨hk, fun y hy => by simpa using h1 y hy, fun y hy e => ?_, fun y hy e => ?_, by simpa using h4, fun j i x hj hx => ?_⟩
  · have z := h2 y hy
    rw [e] at z
    simpa using z
  · have z := h3 y hy
    rw [e] at z
    simpa using z
  · have lt : j < cap.length := by
      rcases Nat.lt_or_ge j cap.length with z | z
      · exact z
      · rw [List.getElem?_eq_none z] at hj; cases hj
    have z := h5 j (List.mem_range.mpr lt)
    rw [hj, hx] at z
    simpa using z
abbrev dgSub (to ti : DTE) : DTG := fun d ρ G Q => to ρ G fun x G1 => ti ρ G1 fun y G2 => match x, y with
  | .ref l, .int k => onM G2 l fun ds => ∃ j, ixN ds.length k = some j ∧ Q ρ (up G2 l (.lst (ds.set j d)))
  | _, _ => False
theorem ag_sub (ho : AE X o to) (hi : AE X i ti) (ha : ∀ v, assign (.Subscript o i pos) X.env v = (do
      let ov ← holding [v] (eval o X.env)
      let iv ← holding [v, ov] (eval i X.env)
      standAt pos
      holding [v, ov, iv] (setItem ov iv v)
      release [v, ov, iv] []) := by intro _; rfl) : AG X (.Subscript o i pos) (dgSub to ti) := by
  obtain ⟨co, jo, ro⟩ := ho.run
  obtain ⟨ci, ji, ri⟩ := hi.run
  refine ⟨_, jg_sub jo ji ⟨set_list⟩ ha, fun d v ρ G DQ σ H Q B ad q F => ro ρ G _ σ H _ B q fun x G1 vx H1 g1 ax q1 => ri ρ G1 _ σ H1 _ (B.go g1) q1 fun y G2 vy H2 g2 ay q2 => ?_⟩
  split at q2
  · next l k =>
    cases ax; cases ay
    obtain ⟨ds, vs, ⟨j, hj, q3⟩, e1, h1, r1⟩ := onM_get g2.vw q2
    have ad2 := (ad.mono g1.tup).mono g2.tup
    have g3 := Go.setL g2.vw e1 (r1.set ad2 j)
    have gg := (g1.trans g2).trans g3
    exact ⟨l, vs, k, j, rfl, rfl, h1, by rw [r1.len]; exact hj, F ρ _ σ _ gg (B.go gg) q3⟩
  · exact q2.elim
end
end L3
namespace L3
open PySem PyProof L2
open PySem.MeetsSeq
section
variable {X : Cx}
variable {e : Expr} {t : DTA} {pos apos cpos : Pos}
end
end L3
namespace L3
open PySem L2
theorem ofStr_inj {a b : String} (h : Str.ofString a = Str.ofString b) : a = b := by
  rw [Str.ofString_eq_toList, Str.ofString_eq_toList] at h
  have h1 : a.toList.map Char.toNat = b.toList.map Char.toNat := by simpa using h
  have h2 : a.toList = b.toList := by
    generalize a.toList = x at h1
    generalize b.toList = y at h1
    induction x generalizing y with
    | nil => cases y with
      | nil => rfl
      | cons _ _ => simp at h1
    | cons c x ih => cases y with
      | nil => simp at h1
      | cons d y =>
        simp only [List.map_cons, List.cons.injEq] at h1
        rw [Char.ext (UInt32.toNat_inj.mp h1.1), ih y h1.2]
  exact String.toList_inj.mp h2
theorem ofStr_eq {a b : String} : (Str.ofString a = Str.ofString b) = (a = b) := propext ⟨ofStr_inj, fun h => by rw [h]⟩
theorem ofStr_beq {a b : String} : (Str.ofString a == Str.ofString b) = (a == b) := by
  rw [Bool.eq_iff_iff]; simp [ofStr_eq]
inductive Tm where
  | name (k : Nat) | whole (n : Int) | way (t : Tm) | give (t u : Tm) | pair (t u : Tm) | first (t : Tm) | second (t : Tm) | plus (t u : Tm) | look (t u v : Tm)
def Tm.inn : Tm → List Tm
  | .name _ => []
  | .whole _ => []
  | .way t => [t]
  | .give t u => [t, u]
  | .pair t u => [t, u]
  | .first t => [t]
  | .second t => [t]
  | .plus t u => [t, u]
  | .look t u v => [t, u, v]
def Tm.word : Tm → Str
  | .name _ => "name" | .whole _ => "whole" | .way _ => "way" | .give _ _ => "give" | .pair _ _ => "pair" | .first _ => "first" | .second _ => "second" | .plus _ _ => "plus" | .look _ _ _ => "look"
def Tm.enc : Tm → D
  | .name k => .tup [.str "name", .int k]
  | .whole n => .tup [.str "whole", .int n]
  | .way t => .tup [.str "way", t.enc]
  | .give t u => .tup [.str "give", t.enc, u.enc]
  | .pair t u => .tup [.str "pair", t.enc, u.enc]
  | .first t => .tup [.str "first", t.enc]
  | .second t => .tup [.str "second", t.enc]
  | .plus t u => .tup [.str "plus", t.enc, u.enc]
  | .look t u v => .tup [.str "look", t.enc, u.enc, v.enc]
def Tm.sz : Tm → Nat
  | .name _ => 1
  | .whole _ => 1
  | .way t => 1 + t.sz
  | .give t u => 1 + t.sz + u.sz
  | .pair t u => 1 + t.sz + u.sz
  | .first t => 1 + t.sz
  | .second t => 1 + t.sz
  | .plus t u => 1 + t.sz + u.sz
  | .look t u v => 1 + t.sz + u.sz + v.sz
def Tm.dp : Tm → Nat
  | .name _ => 0
  | .whole _ => 0
  | .way t => 1 + t.dp
  | .give t u => 1 + max t.dp u.dp
  | .pair t u => 1 + max t.dp u.dp
  | .first t => 1 + t.dp
  | .second t => 1 + t.dp
  | .plus t u => 1 + max t.dp u.dp
  | .look t u v => 1 + max t.dp (max u.dp v.dp)
theorem Tm.sz_pos (t : Tm) : 1 ≤ t.sz := by cases t <;> simp [Tm.sz] <;> omega
theorem Tm.enc_data (t : Tm) : t.enc.data = true := by
  induction t <;> simp_all [Tm.enc, D.data, dataL]
theorem Tm.enc_dp (t : Tm) : t.enc.dp = t.dp + 1 := by
  induction t <;> simp_all [Tm.enc, D.dp, dpsL, Tm.dp] <;> omega
/-- the first item is the word -/
def Tm.args : Tm → List D
  | .name k => [.int k]
  | .whole n => [.int n]
  | t => t.inn.map Tm.enc
theorem Tm.enc_eq (t : Tm) : t.enc = .tup (.str t.word :: t.args) := by cases t <;> rfl
abbrev fed (x y : Int) : DO := .lst [.int x, .int y]
def Fd (G : DV) (a : Addr) : Prop := ∃ x y, G a = some (fed x y)
theorem Fd.up {G : DV} {a : Addr} {x y : Int} : Fd (up G a (fed x y)) a := ⟨x, y, up_same⟩
theorem up_new {G : DV} {a l : Addr} {f o : DO} (n : up G a f l = none) : up (up G a f) l o = up (up G l o) a f ∧ G l = none ∧ l ≠ a := by
  have ne : l ≠ a := by rintro rfl; rw [up_same] at n; cases n
  exact ⟨up_comm (Ne.symm ne), by rw [up_ne ne] at n; exact n, ne⟩
theorem Sub.new {G G1 : DV} {p : Addr} {o : DO} (h : Sub G G1) (n : G p = Option.none) : Sub G (up G1 p o) := fun b u e => by
  rw [up_ne (by rintro rfl; rw [n] at e; cases e)]; exact h b u e
theorem Sub.put {G G1 : DV} {a : Addr} {o : DO} (h : Sub G G1) : Sub (up G a o) (up G1 a o) := fun b u e => by
  by_cases c : b = a
  · subst c; rw [up_same] at e ⊢; exact e
  · rw [up_ne c] at e ⊢; exact h b u e
/-- the feed was taken of, nothing else -/
def Fx (a : Addr) (G G' : DV) : Prop := ∃ x y, G' = up G a (fed x y)
theorem Fx.mk {a : Addr} {G : DV} {x y : Int} : Fx a G (up G a (fed x y)) := ⟨x, y, rfl⟩
theorem Fx.trans {a : Addr} {G G1 G2 : DV} (h : Fx a G G1) (k : Fx a G1 G2) : Fx a G G2 := by
  obtain ⟨x, y, rfl⟩ := h
  obtain ⟨z, u, rfl⟩ := k
  exact ⟨z, u, up_up⟩
theorem Fx.fd {a : Addr} {G G' : DV} (h : Fx a G G') : Fd G' a := by obtain ⟨x, y, rfl⟩ := h; exact .up
theorem Fx.other {a l : Addr} {G G' : DV} (h : Fx a G G') (n : l ≠ a) : G' l = G l := by obtain ⟨x, y, rfl⟩ := h; exact up_ne n
def spTake : DSp := fun ds G Q => match ds with
  | [.ref a, .int m] => Fd G a ∧ 0 < m ∧ m < 2 ^ 62 ∧ ∀ d G', Fx a G G' → 0 ≤ d → d < m → Q (.int d) G'
  | _ => False
def spFeed : DSp := fun ds G Q => match ds with
  | [.frl ss, .int k] => ∃ ns : List Int, ss = ns.map D.int ∧ ns.length ≤ 63 ∧ 0 ≤ k ∧ k < 2 ^ 32 ∧ ∀ r x y, G r = none → Q (.ref r) (up G r (fed x y))
  | _ => False
def spWhole : DSp := fun ds G Q => match ds with
  | [.ref a] => Fd G a ∧ ∀ n G', Fx a G G' → -(2 ^ 40) < n → n < 2 ^ 40 → Q (Tm.enc (.whole n)) G'
  | _ => False
/-- a drawn program: at most so many parts, so deep -/
structure Fit (p : Tm) (z d : Int) : Prop where
  sz : (p.sz : Int) ≤ z
  dp : (p.dp : Int) ≤ d
def spWild (n : Nat) : DSp := fun ds G Q => match ds with
  | [.ref a, .int many, .int room, .int deep] => Fd G a ∧ 0 ≤ many ∧ many + deep < 2 ^ 32 ∧ room < 1000 ∧ 0 ≤ deep ∧ deep < n ∧ ∀ (p : Tm) G', Fx a G G' → Fit p (3 * max room 0 + 1) deep → Q p.enc G'
  | _ => False
theorem okNo {P : Program} {w : World} {K : PySem.W.Frag} {mg : Str → Option Value} {base : Heap} {f : Addr} {fd : FuncData} {ps : List Str} {k : Nat} {dsp : DSp} (no : ∀ ds G DQ, ¬ dsp ds G DQ) : FnOk P w K mg base CX0 k f fd ps (conc K dsp) :=
  ⟨fun vs H Q E ⟨ds, G, DQ, _, _, h, _⟩ => absurd h (no ds G DQ), fun A outer s H args us vs Q E _ _ _ _ ⟨ds, G, DQ, _, _, h, _⟩ => absurd h (no ds G DQ)⟩
/-- items by an index that is not written -/
theorem at2 {x y : D} {G : DV} {Q : DK} {i : Int} (h0 : 0 ≤ i) (h1 : i < 2) (hx : i = 0 → Q x G) (hy : i = 1 → Q y G) : atS [x, y] i G Q := by
  refine atS_of ?_
  rcases (by omega : i = 0 ∨ i = 1) with rfl | rfl
  · exact hx rfl
  · exact hy rfl
theorem at4 {x y z u : D} {G : DV} {Q : DK} {i : Int} (h0 : 0 ≤ i) (h1 : i < 4) (hx : i = 0 → Q x G) (hy : i = 1 → Q y G) (hz : i = 2 → Q z G) (hu : i = 3 → Q u G) : atS [x, y, z, u] i G Q := by
  refine atS_of ?_
  rcases (by omega : i = 0 ∨ i = 1 ∨ i = 2 ∨ i = 3) with rfl | rfl | rfl | rfl
  · exact hx rfl
  · exact hy rfl
  · exact hz rfl
  · exact hu rfl
theorem at5 {x y z u v : D} {G : DV} {Q : DK} {i : Int} (h0 : 0 ≤ i) (h1 : i < 5) (hx : i = 0 → Q x G) (hy : i = 1 → Q y G) (hz : i = 2 → Q z G) (hu : i = 3 → Q u G) (hv : i = 4 → Q v G) : atS [x, y, z, u, v] i G Q := by
  refine atS_of ?_
  rcases (by omega : i = 0 ∨ i = 1 ∨ i = 2 ∨ i = 3 ∨ i = 4) with rfl | rfl | rfl | rfl | rfl
  · exact hx rfl
  · exact hy rfl
  · exact hz rfl
  · exact hu rfl
  · exact hv rfl
end L3
namespace L3
open PySem L2
def plD (ns : List Int) : D := .tup (ns.map D.int)
/-- a def that tells a thing's inner ones -/
def spInn {α : Type} (enc : α → D) (inn : α → List α) : DSp := fun ds G Q => ∃ x, ds = [enc x] ∧ Q (.tup ((inn x).map enc)) G
end L3
namespace L3
open PySem L2
section
variable {α : Type} {all : α → List (List Int × α)} {inn : α → List α}
theorem small {n : Nat} (h : n ≤ 200000) : n ≤ sizeLine := by rw [sizeLine_eq]; omega
theorem smaller {n : Nat} (h : n ≤ 200000) : n < sizeLine := by rw [sizeLine_eq]; omega
theorem up3 {G : DV} {p q : Addr} {x y z : DO} (h : p ≠ q) : up (up (up G q x) p y) q z = up (up G q z) p y := by
  rw [up_comm h, up_up]
end
end L3
namespace L3
open PySem L2
theorem Tm.dp_inn {t u : Tm} (h : u ∈ t.inn) : u.dp + 1 ≤ t.dp := by
  cases t <;> simp [Tm.inn] at h <;> simp only [Tm.dp] <;> first | (subst h; omega) | (rcases h with rfl | rfl <;> omega) | (rcases h with rfl | rfl | rfl <;> omega)
theorem Tm.sz_mem {t u : Tm} (h : u ∈ t.inn) : u.sz + 1 ≤ t.sz := by
  cases t <;> simp [Tm.inn] at h <;> simp only [Tm.sz] <;> first | (subst h; omega) | (rcases h with rfl | rfl <;> omega) | (rcases h with rfl | rfl | rfl <;> omega)
theorem Tm.inn_len (t : Tm) : t.inn.length ≤ 3 := by cases t <;> simp [Tm.inn]
def Tm.at : Tm → List Int → Option Tm
  | t, [] => some t
  | t, k :: ks => if 0 ≤ k then (match t.inn[k.toNat]? with | some u => Tm.at u ks | none => none) else none
theorem Tm.at_go {t u : Tm} {k : Int} {ks : List Int} (h0 : 0 ≤ k) (h : t.inn[k.toNat]? = some u) : t.at (k :: ks) = u.at ks := by rw [Tm.at, if_pos h0, h]
theorem Tm.at_cons {t : Tm} {k : Int} {ks : List Int} {q : Tm} (h : t.at (k :: ks) = some q) : 0 ≤ k ∧ ∃ x, t.inn[k.toNat]? = some x ∧ x.at ks = some q := by
  rw [Tm.at] at h
  split at h
  · next c =>
    split at h
    · next u e => exact ⟨c, u, e, h⟩
    · cases h
  · cases h
theorem Tm.at_take : ∀ {ns : List Int} {t q : Tm} {i : Nat} {k : Int}, t.at ns = some q → ns[i]? = some k → ∃ u v, t.at (ns.take i) = some u ∧ 0 ≤ k ∧ u.inn[k.toNat]? = some v ∧ t.at (ns.take (i + 1)) = some v
  | [], _, _, _, _, _, hi => by simp at hi
  | n :: ns, t, q, 0, k, h, hi => by
    simp at hi; subst hi
    obtain ⟨n0, x, hx, h'⟩ := Tm.at_cons h
    exact ⟨t, x, rfl, n0, hx, by rw [List.take_succ_cons, List.take_zero, Tm.at_go n0 hx]; rfl⟩
  | n :: ns, t, q, i + 1, k, h, hi => by
    obtain ⟨n0, x, hx, h'⟩ := Tm.at_cons h
    obtain ⟨u, v, h1, h2, h3, h4⟩ := Tm.at_take (i := i) (k := k) h' (by simpa using hi)
    exact ⟨u, v, by rw [List.take_succ_cons, Tm.at_go n0 hx]; exact h1, h2, h3, by rw [List.take_succ_cons, Tm.at_go n0 hx]; exact h4⟩
def spAt : DSp := fun ds G Q => ∃ (t : Tm) (ns : List Int) (u : Tm), ds = [t.enc, plD ns] ∧ t.at ns = some u ∧ Q u.enc G
end L3
namespace L3
open PySem L2
end L3
namespace L3
open PySem PyProof L2
section
variable {X : Cx}
/-- a def statement within a body: T is the table of the body's own code -/
abbrev dDef (i : Nat) (T : Addr) (env : Env) (name qual : Str) (st : Stmt) (fr : List Str) (pos : Pos) : DTS := fun DD ρ G => G T = some (.tab pos qual) ∧ ∀ f, G f = none → DD.nx (ρ.set i (some (.ref f))) (up G f (.made env name qual st fr))
theorem Go.def {K : PySem.W.Frag} {G : DV} {H H' : Hp} {T f : Addr} {env : Env} {name qual : Str} {st : Stmt} {fr : List Str} {pos : Pos} (v : Vw K G H) (hT : G T = some (.tab pos qual)) (hf : H f = none) (M : MadeAt env H' f name qual st fr) (tb : Tab H' T pos qual) (kp : ∀ b u, b ≠ T → H b = some u → H' b = some u) :
    Go K G H (up G f (.made env name qual st fr)) H' := by
  obtain ⟨ps, eT, _⟩ := v T _ hT
  obtain ⟨ps', eT', _⟩ := id tb
  have nT : ∀ a u, H a = some u → u ≠ .tbl ps → a ≠ T := fun a u e n z => by rw [z, eT] at e; exact n (Option.some.inj e).symm
  have ht : Mono K H H' := by
    refine ⟨fun a xs q => ?_, fun a xs q => ?_, fun a o q => kp _ _ (nT _ _ q fun z => nomatch z) q⟩
    · rcases q with (q | ⟨o, q⟩) | q
      · exact .inl (.inl (kp _ _ (nT _ _ q fun z => nomatch z) q))
      · exact .inl (.inr ⟨o, kp _ _ (nT _ _ q fun z => nomatch z) q⟩)
      · exact .inr q
    · rcases q with ⟨o, q⟩ | q
      · exact .inl ⟨o, kp _ _ (nT _ _ q fun z => nomatch z) q⟩
      · exact .inr q
  refine ⟨ht, fun a o e => ?_, fun a o e n => ?_, fun a o e n => ?_, fun a u e => ?_⟩
  · by_cases z : a = T
    · subst z; exact ⟨_, eT'⟩
    · exact ⟨o, kp a o z e⟩
  · exact kp a o (fun z => by rw [z, hT] at n; cases n) e
  · rw [up_ne (fun z => by rw [z, hf] at e; cases e)]; exact n
  · by_cases z : a = f
    · subst z; rw [up_same] at e; cases e; exact M
    · rw [up_ne z] at e
      by_cases y : a = T
      · subst y; rw [hT] at e; cases e; exact tb
      · obtain ⟨z', q⟩ := (v a u e).some
        exact (v a u e).mono ht (by rw [q]; exact kp _ _ y q)
variable {i : Nat} {T c : Addr} {name : Str} {params : Arguments} {body : List Stmt} {scope : Scope} {pos : Pos} {fr : List Str}
theorem as_def (hN : X.N.Nodup) (hi : X.N[i]? = some name) (hl : Loc X.env.scope name) (hcode : X.env.code = .ref c) (hC : PySem.W.CodeHd X.base c T) (hB : BltIn X.mg X.base)
    (hcl : closureFor scope X.env = pure (clOf X.env fr)) (hd0 : params.defaults = []) (hk0 : params.kw_defaults = []) (ha : annTrees params none X.env = [])
    (hf : X.fn name = true ∨ X.env.scope.names.lookup name = some .local := by first | exact .inl rfl | exact .inr rfl | assumption) :
    AS X (.FunctionDef name params body [] none [] scope none name pos) (dDef i T X.env name (qualnameIn X.env name name) (.FunctionDef name params body [] none [] scope none name pos) fr pos) := by
  refine ⟨_, ⟨ps_def (T := T) hN hi hl hcode hC hB hcl hd0 hk0 ha hf⟩, fun DD Dc ρ G σ H B q F => ?_⟩
  obtain ⟨hT, q⟩ := q
  refine ⟨B.vw T _ hT, fun f H' hf' M tb kp => ?_⟩
  have g := Go.def B.vw hT hf' M tb kp
  exact F.nx _ _ _ _ g ((B.go g).set (d := .ref f) rfl i) (q f (B.vw.none hf'))
end
end L3
namespace L2
open PySem PySem.Spec PyProof.Rows
/-- as tCallC, the captured values not known beforehand -/
def tCallD (i : Nat) (name qual : Str) (st : Stmt) (fr : List Str) (sp : List V → Sp) (t : TA) : TE := fun σ H Q => ∃ fvs, tCallC i name qual st fr fvs (sp fvs) t σ H Q
theorem pe_cd {X : Cx} {k j i : Nat} {name qual : Str} {st : Stmt} {fr : List Str} {ps : List Str} {x : Str} {sp : List V → Sp} {p pos : Pos} {e : Expr} {es : List Expr} {t : TA} (G : ∀ fvs, CloOk X.prog X.w X.K X.mg X.base k name qual st fr fvs ps (sp fvs)) (hr : Room j X.A) (hk : k ≤ j) (hN : X.N[i]? = some x) (hv : Vis X.env.scope x) (ha : PA X (e :: es) t)
    (hd : (x == ("__debug__" : Str)) = false) (hcd : (x == ("__classdict__" : Str)) = false) (he : starEach (e :: es) X.env = (false, eval e X.env) :: starEach es X.env) (hpl : (backTo pos (starEach es X.env)).any (·.1) = false) :
    PE X (.Call (.Name x p) (e :: es) [] pos) (tCallD i name qual st fr sp t) := fun pins s σ H Q I ⟨fvs, h⟩ => pe_cc (G fvs) hr hk hN hv ha hd hcd he hpl pins s σ H Q I h
end L2
namespace L3
open PySem PyProof L2
def concC (K : PySem.W.Frag) (vals : List D) (dsp : DSp) (fvs : List V) : Sp := fun vs H Q _ => ∃ ds G DQ, AbsL K H ds vs ∧ AbsL K H vals fvs ∧ Vw K G H ∧ dsp ds G DQ ∧ Fin K G H DQ Q
/-- the closure of that text over that data keeps the promise -/
structure CloD (P : Program) (w : World) (K : PySem.W.Frag) (mg : Str → Option Value) (base : Heap) (k : Nat) (name qual : Str) (st : Stmt) (fr : List Str) (vals : List D) (ps : List Str) (dsp : DSp) : Prop where
  ok : ∀ fvs, CloOk P w K mg base k name qual st fr fvs ps (concC K vals dsp fvs)
section
variable {X : Cx} {k j : Nat} {name qual : Str} {st : Stmt} {fr : List Str} {vals : List D} {ps : List Str} {x : Str} {dsp : DSp} {p pos : Pos} {e : Expr} {es : List Expr} {t : DTA}
abbrev dCallC (n : Nat) (name qual : Str) (st : Stmt) (fr : List Str) (vals : List D) (dsp : DSp) (t : DTA) : DTE := fun ρ G Q => ∃ f, ρ[n]? = some (some (.ref f)) ∧ G f = some (.clo name qual st fr vals) ∧ t ρ G fun ds G1 => G1 f = some (.clo name qual st fr vals) ∧ dsp ds G1 Q
theorem Go.frz {K : PySem.W.Frag} {G G1 : DV} {H H1 : Hp} {f : Addr} {cl : List (Str × Addr)} {fvs : List V} (g : Go K G H G1 H1) (C : CloAt H f name qual st cl fvs) : CloAt H1 f name qual st cl fvs := by
  obtain ⟨oc, od, doc, pm, cdv, ct, sl, h3, c, o, vs, t, h4, h5, h6⟩ := C.fn
  exact ⟨⟨oc, od, doc, pm, cdv, ct, sl, g.tup.fz _ _ h3, c, o, vs, t, h4, g.tup.fz _ _ h5, h6⟩, fun i x c hi => let ⟨v, u, o, z1, z2, z3, z4⟩ := C.cells i x c hi; ⟨v, u, o, z1, z2, g.tup.fz _ _ z3, z4⟩, C.len, C.nda⟩
theorem ae_cc (n : Nat) (Ck : CloD X.prog X.w X.K X.mg X.base k name qual st fr vals ps dsp) (hr : Room j X.A) (hk : k ≤ j) (ha : AA X (e :: es) t) (hN : X.N[n]? = some x := by rfl) (hv : Vis X.env.scope x := by first | exact Or.inl rfl | exact Or.inr (Or.inl rfl) | exact Or.inr (Or.inr rfl))
    (hd : (x == ("__debug__" : Str)) = false := by decide) (hcd : (x == ("__classdict__" : Str)) = false := by decide) (hs : (e :: es).all unstar = true := by rfl) : AE X (.Call (.Name x p) (e :: es) [] pos) (dCallC n name qual st fr vals dsp t) := by
  obtain ⟨ca, ja, ra⟩ := ha.run
  have h := hs
  rw [List.all_cons, Bool.and_eq_true] at h
  refine ⟨_, ⟨pe_cd Ck.ok hr hk hN hv ja.run hd hcd (starEach_one h.1) (backTo_plain h.2)⟩, fun ρ G DQ σ H Q B q F => ?_⟩
  obtain ⟨f, q0, q1, q⟩ := q
  obtain ⟨v, h1, h2⟩ := B.st n _ q0
  cases h2
  obtain ⟨cl, fvs, C, hcl, hvals⟩ := B.vw f _ q1
  exact ⟨fvs, f, cl, h1, C, hcl, ra ρ G _ σ H _ B q fun ds G1 vs H1 g1 al _ ⟨_, q3⟩ => ⟨g1.frz C, ds, G1, DQ, al, hvals.mono g1.tup, g1.vw, q3, F.after g1⟩⟩
end
end L3
namespace L3
open PySem PyProof L2
section
variable {K : PySem.W.Frag} {H H' : Hp}
mutual
theorem Abs.mono2 (tp : ∀ a xs, SqT K H a xs → SqT K H' a xs) (fr : ∀ a xs, FrL K H a xs → FrL K H' a xs) : ∀ {d : D} {v : V}, Abs K H d v → Abs K H' d v
  | .non, _, r => r
  | .bl _, _, r => r
  | .int _, _, r => r
  | .str _, _, r => r
  | .ref _, _, r => r
  | .ty _, _, r => r
  | .tup _, _, ⟨a, vs, e, q, l⟩ => ⟨a, vs, e, tp a vs q, AbsL.mono2 tp fr l⟩
  | .frl _, _, ⟨a, vs, e, q, l⟩ => ⟨a, vs, e, fr a vs q, AbsL.mono2 tp fr l⟩
theorem AbsL.mono2 (tp : ∀ a xs, SqT K H a xs → SqT K H' a xs) (fr : ∀ a xs, FrL K H a xs → FrL K H' a xs) : ∀ {ds : List D} {vs : List V}, AbsL K H ds vs → AbsL K H' ds vs
  | [], _, r => r
  | _ :: _, _, ⟨v, r, e, q, l⟩ => ⟨v, r, e, Abs.mono2 tp fr q, AbsL.mono2 tp fr l⟩
end
/-- data that may change: lists, dicts, instances -/
def DO.vary : DO → Bool
  | .lst _ => true
  | .ins _ _ => true
  | .dK _ => true
  | .dT _ => true
  | _ => false
theorem BearO.mono2 {a : Addr} {o : DO} (tp : ∀ a xs, SqT K H a xs → SqT K H' a xs) (fr : ∀ a xs, FrL K H a xs → FrL K H' a xs) (ho : o.vary = true) (e : H' a = H a) (h : BearO K H a o) : BearO K H' a o := by
  cases o with
  | lst ds => obtain ⟨vs, q, l⟩ := h; exact ⟨vs, by rw [e]; exact q, l.mono2 tp fr⟩
  | ins C fs => obtain ⟨dx, gs, q, l⟩ := h; exact ⟨dx, gs, by rw [e]; exact q, l.1, l.2.mono2 tp fr⟩
  | dK kvs => obtain ⟨gs, q, l⟩ := h; exact ⟨gs, by rw [e]; exact q, l.1, l.2.mono2 tp fr⟩
  | dT kvs => obtain ⟨gs, q, l⟩ := h; exact ⟨gs, by rw [e]; exact q, l.1, l.2.mono2 tp fr⟩
  | _ => cases ho
/-- what varies is not frozen -/
theorem BearO.nfz {a : Addr} {o : DO} (ho : o.vary = true) (h : BearO K H a o) {u : Obj} (e : H a = Option.some (fzn u)) : False := by
  cases o with
  | lst ds => obtain ⟨vs, q, l⟩ := h; rw [e] at q; cases q
  | ins C fs => obtain ⟨dx, gs, q, l⟩ := h; rw [e] at q; cases q
  | dK kvs => obtain ⟨gs, q, l⟩ := h; rw [e] at q; cases q
  | dT kvs => obtain ⟨gs, q, l⟩ := h; rw [e] at q; cases q
  | _ => cases ho
theorem Same.mono (h : Same H H') : Mono K H H' := ⟨fun b xs q => by
    rcases q with q | q
    · rcases q with q | ⟨o, q⟩
      · exact .inl (.inl (h _ _ q))
      · exact .inl (.inr ⟨o, h _ _ q⟩)
    · exact .inr q, fun b xs q => by
    rcases q with ⟨o, q⟩ | q
    · exact .inl ⟨o, h _ _ q⟩
    · exact .inr q, fun b o q => h _ _ q⟩
/-- without frozen things of the kind cell -/
theorem less_tp {as : List Addr} (fz : Frz H as) : ∀ a xs, SqT K H a xs → SqT K (less H as) a xs := fun a xs q => by
  have out : ∀ {u}, H a = some u → (∀ o, u ≠ fzn o) → less H as a = some u := fun {u} e n => by
    rw [less_out fun z => ?_]; exact e
    obtain ⟨o, z⟩ := fz a z; rw [e] at z; exact n o (Option.some.inj z)
  rcases q with (q | ⟨o, q⟩) | q
  · exact .inl (.inl (out q fun o z => nomatch z))
  · exact .inl (.inr ⟨o, out q fun o z => nomatch z⟩)
  · exact .inr q
theorem less_fr {as : List Addr} (fz : Frz H as) : ∀ a xs, FrL K H a xs → FrL K (less H as) a xs := fun a xs q => by
  rcases q with ⟨o, q⟩ | q
  · refine .inl ⟨o, ?_⟩
    rw [less_out fun z => ?_]; exact q
    obtain ⟨o, z⟩ := fz a z; rw [q] at z; cases z
  · exact .inr q
end
def callXB (sc : Scope) (N : List Str) (fn : Str → Bool) (fr : List Str) (ix : List Nat) : Bool :=
  ix.length == fr.length && (List.range fr.length).all fun i => match fr[i]?, ix[i]? with
    | some y, some j => N[j]? == some y && sc.names.lookup y == some .cell && fn y
    | _, _ => false
section
variable {X : Cx} {e : Expr} {es : List Expr} {t : DTA} {p pos : Pos}
abbrev dCallX (env : Env) (name qual : Str) (st : Stmt) (fr : List Str) (ix : List Nat) (dsp : DSp) (t : DTA) : DTE := fun ρ G Q => t ρ G fun ds G1 => ∃ f vals, G1 f = some (.made env name qual st fr) ∧ vals.length = fr.length ∧
  (∀ (i j : Nat), ix[i]? = some j → ∃ d, ρ[j]? = some (some d) ∧ vals[i]? = some d) ∧ dsp ds (up G1 f (.clo name qual st fr vals)) fun d G2 => G2 = up G1 f (.clo name qual st fr vals) ∧ Q d G1
theorem ae_callX {k j : Nat} {x : Str} {ps : List Str} {dsp : DSp} {name qual : Str} {st : Stmt} {fr : List Str} {ix : List Nat} (Gt : Got X.prog X.w X.K X.mg X.base k x ps (conc X.K dsp)) (hr : Room j X.A) (hk : k ≤ j) (hg : Gl X x) (ndf : fr.Nodup) (hB : callXB X.env.scope X.N X.fn fr ix = true) (ha : AA X (e :: es) t)
    (hdb : (x == ("__debug__" : Str)) = false := by decide) (hs : (e :: es).all unstar = true := by rfl) : AE X (.Call (.Name x p) (e :: es) [] pos) (dCallX X.env name qual st fr ix dsp t) := by
  obtain ⟨ca, ja, ra⟩ := ha.run
  have h := hs
  rw [List.all_cons, Bool.and_eq_true] at h
  unfold callXB at hB
  rw [Bool.and_eq_true, List.all_eq_true] at hB
  have hix : ix.length = fr.length := by simpa using hB.1
  have hfr : ∀ (i : Nat) (y : Str), fr[i]? = some y → ∃ j, ix[i]? = some j ∧ X.N[j]? = some y ∧ X.env.scope.names.lookup y = some .cell ∧ X.fn y = true := fun i y hy => by
    have lt : i < fr.length := (List.getElem?_eq_some_iff.mp hy).1
    have z := hB.2 i (List.mem_range.mpr lt)
    have ej : ix[i]? = some (ix[i]'(by omega)) := List.getElem?_eq_getElem (by omega)
    rw [hy, ej] at z
    simp only [Bool.and_eq_true, beq_iff_eq] at z
    exact ⟨_, ej, z.1.1, z.1.2, z.2⟩
  refine ⟨_, ⟨pe_callX (name := name) (qual := qual) (st := st) (ix := ix) Gt hr hk hg ja.run hdb ndf hix hfr (starEach_one h.1) (backTo_plain h.2)⟩, fun ρ G DQ σ H Q B q F => ?_⟩
  refine ra ρ G _ σ H _ B q fun ds G1 vs H1 g1 al _ q1 => ?_
  obtain ⟨f, vals, hf, hvl, hvals, q2⟩ := q1
  have M : MadeAt X.env H1 f name qual st fr := g1.vw f _ hf
  let fvs : List V := ix.map fun j => match σ[j]? with
    | some (some v) => v
    | _ => .non
  have hfv : ∀ (i j : Nat), ix[i]? = some j → ∃ d v, ρ[j]? = some (some d) ∧ vals[i]? = some d ∧ σ[j]? = some (some v) ∧ fvs[i]? = some v ∧ Abs X.K H1 d v := fun i j hj => by
    obtain ⟨d, h1, h2⟩ := hvals i j hj
    obtain ⟨v, h3, h4⟩ := B.st j d h1
    refine ⟨d, v, h1, h2, h3, ?_, h4.mono g1.tup⟩
    show (ix.map _)[i]? = _
    rw [List.getElem?_map, hj]
    simp only [Option.map_some, h3]
  have habs : AbsL X.K H1 vals fvs := by
    have key : ∀ (n : Nat) (ws : List D) (us : List V), ws.length = n → us.length = n → (∀ (i : Nat) (d : D), ws[i]? = some d → ∃ v : V, us[i]? = some v ∧ Abs X.K H1 d v) → AbsL X.K H1 ws us := fun n => by
      induction n with
      | zero => intro ws us h1 h2 _; cases ws <;> cases us <;> simp_all [AbsL]
      | succ n ih =>
        intro ws us h1 h2 hh
        cases ws with
        | nil => simp at h1
        | cons w ws =>
          cases us with
          | nil => simp at h2
          | cons u us =>
            obtain ⟨v, e1, e2⟩ := hh 0 w rfl
            cases e1
            exact ⟨u, us, rfl, e2, ih ws us (by simpa using h1) (by simpa using h2) fun i d hd => by simpa using hh (i + 1) d (by simpa using hd)⟩
    refine key vals.length vals fvs rfl (by show (ix.map _).length = _; rw [List.length_map]; omega) fun i d hd => ?_
    have lt : i < ix.length := by have := (List.getElem?_eq_some_iff.mp hd).1; omega
    obtain ⟨d', v, _, h2, _, h4, h5⟩ := hfv i ix[i] (List.getElem?_eq_getElem lt)
    rw [hd] at h2; cases h2
    exact ⟨v, h4, h5⟩
  refine ⟨f, fvs, M, fun i j hj => let ⟨d, v, _, _, h3, h4, _⟩ := hfv i j hj; ⟨v, h3, h4⟩, by show (ix.map _).length = _; rw [List.length_map]; exact hix, fun H2 out no C => ?_⟩
  have s12 : Same H1 H2 := fun b u eb => by
    rw [out b fun z => ?_]; exact eb
    rw [no b z] at eb; cases eb
  have m12 : Mono X.K H1 H2 := Same.mono s12
  have v2 : Vw X.K (up G1 f (.clo name qual st fr vals)) H2 := fun a o ea => by
    by_cases z : a = f
    · subst z; rw [up_same] at ea; cases ea
      refine ⟨_, fvs, C, ?_, habs.mono m12⟩
      rw [clOf, List.map_map]
      exact List.map_id fr
    · rw [up_ne z] at ea
      obtain ⟨u, eu⟩ := (g1.vw a o ea).some
      exact (g1.vw a o ea).mono m12 (by rw [eu]; exact s12 a u eu)
  refine ⟨ds, _, _, by rw [show vs = vs from rfl]; exact al.mono m12, v2, q2, fun d G2 v H' g2 ad hq => ?_⟩
  obtain ⟨rfl, hq⟩ := hq
  have fz2 : Frz H2 ((clOf X.env fr).map (·.2)) := C.frz
  have fz' : Frz H' ((clOf X.env fr).map (·.2)) := fun a ha => let ⟨o, z⟩ := fz2 a ha; ⟨o, g2.tup.fz a o z⟩
  have nin : ∀ {b u}, H1 b = some u → b ∉ (clOf X.env fr).map (·.2) := fun {b u} eb z => by rw [no b z] at eb; cases eb
  have m' : Mono X.K H1 (less H' ((clOf X.env fr).map (·.2))) := ⟨fun a xs q => less_tp fz' a xs (g2.tup.tp a xs (m12.tp a xs q)), fun a xs q => less_fr fz' a xs (g2.tup.fr a xs (m12.fr a xs q)), fun a o q => by rw [less_out (nin q)]; exact g2.tup.fz a o (m12.fz a o q)⟩
  refine F d G1 v _ (g1.trans ⟨m', fun a o ea => ?_, fun a o ea n => ?_, fun _ _ _ n => n, fun a o ea => ?_⟩) (ad.mono2 (less_tp fz') (less_fr fz')) hq
  · rw [less_out (nin ea)]
    exact g2.dom a o (s12 a o ea)
  · rw [less_out (nin ea)]
    refine g2.same a o (s12 a o ea) ?_
    rw [up_ne (by rintro rfl; rw [hf] at n; cases n)]; exact n
  · have b1 := g1.vw a o ea
    obtain ⟨u, eu⟩ := b1.some
    by_cases ho : o.vary = true
    · have z : a ≠ f := by rintro rfl; rw [hf] at ea; cases ea; cases ho
      exact (g2.vw a o (by rw [up_ne z]; exact ea)).mono2 (less_tp fz') (less_fr fz') ho (less_out (nin eu))
    · cases o with
      | made env' name' qual' st' fr' =>
        obtain ⟨_, _, _, _, _, _, _, z, _⟩ := (show MadeAt env' H1 a name' qual' st' fr' from b1).fn
        exact b1.mono m' (by rw [z]; exact m'.fz _ _ z)
      | clo name' qual' st' fr' vals' =>
        obtain ⟨cl, us, C', _⟩ := id b1
        obtain ⟨_, _, _, _, _, _, _, z, _⟩ := C'.fn
        exact b1.mono m' (by rw [z]; exact m'.fz _ _ z)
      | tab pos' qual' =>
        have z : a ≠ f := by rintro rfl; rw [hf] at ea; cases ea
        obtain ⟨ps', t1, t2, t3⟩ := g2.vw a (.tab pos' qual') (by rw [up_ne z]; exact ea)
        refine ⟨ps', by rw [less_out (nin eu)]; exact t1, t2, ?_⟩
        rcases t3 with t3 | ⟨c, o, us, tt, t3, t4, t5, t6⟩
        · exact .inl t3
        · refine .inr ⟨c, o, us, tt, t3, ?_, t5, t6⟩
          rw [less_out fun zc => ?_]; exact t4
          obtain ⟨⟨y, c'⟩, hm, hc⟩ := List.mem_map.mp zc
          cases hc
          obtain ⟨i, hi, ei⟩ := List.getElem_of_mem hm
          obtain ⟨_, _, oc, _, _, z3, z4⟩ := C.cells i y c' (by rw [List.getElem?_eq_getElem hi, ei])
          have z5 := g2.tup.fz _ _ z3
          rw [t4] at z5
          cases z5
          rw [t5] at z4; cases z4
      | _ => exact absurd rfl ho
end
/-- the view of a closure's body: what varies -/
def vry (G : DV) : DV := fun a => match G a with
  | some o => if o.vary then some o else none
  | none => none
theorem vry_get {G : DV} {a : Addr} {o : DO} : vry G a = some o ↔ G a = some o ∧ o.vary = true := by
  unfold vry
  cases e : G a with
  | none => simp
  | some u =>
    by_cases h : u.vary = true
    · simp only [h, if_true, Option.some.injEq]
      exact ⟨fun z => (by subst z; exact ⟨rfl, h⟩), fun z => z.1⟩
    · simp only [if_neg h]
      exact ⟨fun z => (by cases z), fun z => (by rw [Option.some.inj z.1] at h; exact absurd z.2 h)⟩
def startCD (N : List Str) (ds vals : List D) : DSt := ds.map some ++ List.replicate (N.length - ds.length - vals.length) none ++ vals.map some
theorem bears_startC {K : PySem.W.Frag} {N : List Str} {ds vals : List D} {vs fvs : List V} {G : DV} {H : Hp} (r : AbsL K H ds vs) (r2 : AbsL K H vals fvs) (v : Vw K G H) : Bears K (startCD N ds vals) G (startC N vs fvs) H := by
  have hl := r.len
  have hl2 := r2.len
  have one : ∀ {ws : List D} {us : List V} {i : Nat} {d : D}, AbsL K H ws us → (ws.map some)[i]? = some (some d) → ∃ v, (us.map some)[i]? = some (some v) ∧ Abs K H d v := fun {ws us i d} r h => by
    rw [List.getElem?_map] at h
    cases e : ws[i]? with
    | none => rw [e] at h; cases h
    | some z =>
      rw [e] at h
      simp at h
      subst h
      obtain ⟨u, h1, h2⟩ := r.get e
      exact ⟨u, by rw [List.getElem?_map, h1]; rfl, h2⟩
  refine ⟨by simp [startCD, startC, hl, hl2], fun i d h => ?_, v⟩
  unfold startCD at h
  unfold startC
  rw [hl, hl2]
  by_cases c : i < (ds.map some ++ List.replicate (N.length - ds.length - vals.length) (none : Option D)).length
  · rw [List.getElem?_append_left c] at h
    rw [List.getElem?_append_left (by simpa [hl] using c)]
    by_cases c2 : i < (ds.map (some : D → Option D)).length
    · rw [List.getElem?_append_left c2] at h
      rw [List.getElem?_append_left (by simpa [hl] using c2)]
      exact one r h
    · rw [List.getElem?_append_right (by omega), List.getElem?_replicate] at h
      split at h <;> cases h
  · rw [List.getElem?_append_right (by omega)] at h
    rw [List.getElem?_append_right (by simpa [hl] using c)]
    have e1 : (ds.map some ++ List.replicate (N.length - ds.length - vals.length) (none : Option D)).length = (vs.map some ++ List.replicate (N.length - ds.length - vals.length) (none : Option V)).length := by simp [hl]
    rw [← e1]
    exact one r2 h
theorem okClo {P : Program} {w : World} {K : PySem.W.Frag} {mg : Str → Option Value} {base : Heap} {k : Nat} {name qual : Str} {st : Stmt} {fr N ps : List Str} {vals : List D} {dsp : DSp} (S : CloScope N ps fr (defScope st)) (len : ∀ ds G DQ, dsp ds G DQ → ds.length = ps.length)
    (hbind : ∀ (cl : List (Str × Addr)) (doc pm cdv ct : Value) (us : List Value), us.length = ps.length → bindArgs (PySem.W.fnX name qual (defArgs st) (defBody st) (defScope st) cl .none .none doc pm none cdv ct) ⟨us, []⟩ = pure (ps.zip us))
    (hbody : ∀ (f : Addr) (cdv : Value) (cl : List (Str × Addr)) (A : Around) (outer : List Env) (s : Shared) (H : Hp), Room k (A.deeper (PySem.W.envX qual (defScope st) s.heap.objs.size f cdv cl)) → ∀ (ds : List D) (G : DV) (DQ : DK), dsp ds G DQ →
      ∃ t, AB (cxClo P w K mg base N qual (defScope st) f cdv cl A outer s H) (defBody st) t ∧ t { nx := fun _ G' => Sub (vry G) G' ∧ DQ .non G, rt := fun d G' => Sub (vry G) G' ∧ DQ d G } (startCD N ds vals) (vry G)) : CloD P w K mg base (k + 1) name qual st fr vals ps dsp := by
  refine ⟨fun fvs => clo_of S (fun vs H Q E h => ?_) hbind fun f cdv cl A outer s H vs Q E hr hcl fz hsp => ?_⟩
  · obtain ⟨ds, G, DQ, r, _, _, h, _⟩ := h
    rw [r.len]; exact len ds G DQ h
  · obtain ⟨ds, G, DQ, r, r2, v, h, Fn⟩ := hsp
    obtain ⟨t, ⟨tc, j, imp⟩, q⟩ := hbody f cdv cl A outer s (less H (cl.map (·.2))) hr ds G DQ h
    have v0 : Vw K (vry G) (less H (cl.map (·.2))) := fun a o e => by
      obtain ⟨e1, ho⟩ := vry_get.mp e
      refine (v a o e1).mono2 (less_tp fz) (less_fr fz) ho (less_out fun z => ?_)
      obtain ⟨u, z⟩ := fz a z
      exact (v a o e1).nfz ho z
    have fin : ∀ {d G' v H'}, Go K (vry G) (less H (cl.map (·.2))) G' H' → Abs K H' d v → Sub (vry G) G' ∧ DQ d G → (∀ a ∈ cl.map (·.2), H' a = none) → Q v (more H' (cl.map (·.2)) H) := fun {d G' u H'} g ad q no => by
      have sm : Same H' (more H' (cl.map (·.2)) H) := fun b u eb => by
        rw [more_out fun z => ?_]; exact eb
        rw [no b z] at eb; cases eb
      have mm : Mono K H' (more H' (cl.map (·.2)) H) := Same.mono sm
      have m : Mono K H (more H' (cl.map (·.2)) H) := ⟨fun a xs q => mm.tp a xs (g.tup.tp a xs (less_tp fz a xs q)), fun a xs q => mm.fr a xs (g.tup.fr a xs (less_fr fz a xs q)), fun a o q => by
        by_cases z : a ∈ cl.map (·.2)
        · rw [more_in z]; exact q
        · exact mm.fz a o (g.tup.fz a o (by rw [less_out z]; exact q))⟩
      have same : ∀ a o, H a = some o → vry G a = none → more H' (cl.map (·.2)) H a = some o := fun a o e n => by
        by_cases z : a ∈ cl.map (·.2)
        · rw [more_in z]; exact e
        · rw [more_out z]; exact g.same a o (by rw [less_out z]; exact e) n
      refine Fn d G u _ ⟨m, fun a o e => ?_, fun a o e n => same a o e ?_, fun _ _ _ n => n, fun a o e => ?_⟩ (ad.mono mm) q.2
      · by_cases z : a ∈ cl.map (·.2)
        · rw [more_in z]; exact ⟨o, e⟩
        · rw [more_out z]; exact g.dom a o (by rw [less_out z]; exact e)
      · unfold vry; rw [n]
      · by_cases ho : o.vary = true
        · have b := g.vw a o (q.1 a o (vry_get.mpr ⟨e, ho⟩))
          obtain ⟨x, ex⟩ := b.some
          exact b.mono mm (by rw [ex]; exact sm a x ex)
        · obtain ⟨x, ex⟩ := (v a o e).some
          refine (v a o e).mono m ?_
          rw [ex]
          refine same a x ex ?_
          cases z : vry G a with
          | none => rfl
          | some y =>
            obtain ⟨z1, z2⟩ := vry_get.mp z
            rw [e] at z1; cases z1; exact absurd z2 ho
    refine ⟨tc, j.run, imp _ _ (startCD N ds vals) (vry G) (startC N vs fvs) _ (bears_startC (r.mono2 (less_tp fz) (less_fr fz)) (r2.mono2 (less_tp fz) (less_fr fz)) v0) q ⟨fun ρ' G' σ' H' g b z no => fin (d := .non) (v := .non) g rfl z no, fun d G' v H' g a z no => fin g a z no, fun _ _ _ _ _ _ z => z.elim, fun _ _ _ _ _ _ z => z.elim⟩⟩
structure FunC (K : PySem.W.Frag) (x qual : Str) (st : Stmt) (f : Addr) (fd : FuncData) (c : Addr) : Prop where
  ex : ∃ (oc : Value) (od : Option Addr) (kV doc pm : Value) (an : Option Addr) (ct : Value) (osl : Array (Option Value)),
    fd = PySem.W.fnOf x qual (defArgs st) (defBody st) (defScope st) .none kV doc pm an (.ref c) ct ∧ K.lookup f = some ⟨oc, od, .func fd, osl⟩ ∧ PySem.W.codeIn K (.ref c) qual = true
theorem okDc {P : Program} {w : World} {K : PySem.W.Frag} {mg : Str → Option Value} {base : Heap} {x qual : Str} {st : Stmt} {f c : Addr} {fd : FuncData} {N ps : List Str} {k : Nat} {dsp : DSp} (F : FunC K x qual st f fd c) (S : FnScope N ps (defScope st)) (len : ∀ ds G DQ, dsp ds G DQ → ds.length = ps.length)
    (hbody : ∀ (A : Around) (outer : List Env) (s : Shared) (H : Hp) (E : XK), Room k (A.deeper (PyProof.Rows.envOfC qual (defScope st) s.heap.objs.size f (.ref c))) → ∀ (ds : List D) (G : DV) (DQ : DK), dsp ds G DQ →
      ∃ t, AB (cxOf CX0 P w K mg base N qual (defScope st) f (.ref c) A outer s H E).nox (defBody st) t ∧ t { nx := fun _ G' => Dr DQ .non G', rt := Dr DQ } (startD N ds) G) : FnOk P w K mg base CX0 (k + 1) f fd ps (conc K dsp) := by
  obtain ⟨oc, od, kV, doc, pm, an, ct, osl, rfl, lk, hcd⟩ := F.ex
  refine fn_of lk hcd S (fun vs H Q E h => ?_) fun A outer s H vs Q E hr h => ?_
  · obtain ⟨ds, G, DQ, r, _, h, _⟩ := h
    rw [r.len]; exact len ds G DQ h
  · obtain ⟨ds, G, DQ, r, v, h, Fn⟩ := h
    obtain ⟨t, ⟨tc, j, imp⟩, q⟩ := hbody A outer s H E hr ds G DQ h
    refine ⟨tc, (j.run).nox, imp _ _ (startD N ds) G (L2.start N vs) H (bears_start r v) q ⟨fun ρ' G' σ' H' g b ⟨G2, s2, q2⟩ => Fn .non G2 .non H' (g.sub s2) rfl q2, fun d G' v H' g a ⟨G2, s2, q2⟩ => Fn d G2 v H' (g.sub s2) a q2, fun _ _ _ _ _ _ z => z.elim, fun _ _ _ _ _ _ z => z.elim⟩⟩
end L3
namespace L3
open PySem PyProof L2
section
variable {K : PySem.W.Frag} {H : Hp}
end
section
variable {K : PySem.W.Frag} {G : DV} {H : Hp}
end
section
variable {X : Cx} {o e value : Expr} {es : List Expr} {f m : Str} {C : Addr} {pos pos' tpos apos p : Pos} {ta tv : DTE} {t : DTA}
end
end L3
namespace L2
open PySem PySem.Spec PyProof.Rows
section
variable {X : Cx} {e : Expr} {ta : TA} {p p2 pos pos2 : Pos}
end
end L2
namespace L3
open PySem PyProof L2
section
variable {X : Cx} {e : Expr} {t : DTA} {p p2 pos pos2 : Pos}
end
end L3
namespace L2
open PySem PySem.Spec PyProof.Rows
theorem walk_ofH {l : PySem.W.OpenLaw} {n k : Nat} {q : Program} {loose : List Str} {XP : (Str → Option Value) → Heap → Prop} {YP : World → Heap → Prop} {d : DefRec} {K : Params → PySem.W.Frag} {sp : PySem.W.Frag → Sp} {x : Str} {tabs : List (Addr × Addr)}
    (hn : l.most = some n) (hn2 : n ≤ sizeLine) (hdf : d.params.defaults = []) (hr : Room k callerA) (hY : ∀ (w : World) (h : Heap), YP w h → (K w.params).In h) (hK : ∀ w : World, PySem.W.noTabs (K w.params) = true)
    (hTab : ∀ (w : World) (h : Heap), YP w h → PySem.W.TabsAt tabs h)
    (F : ∀ (w : World) (mg : Str → Option Value) (fa : Addr) (h : Heap), (K w.params).In h → h.Ns mainGlobals mg → mg d.name = some (.ref fa) →
      ∃ fd : FuncData, (∀ (s : Shared) (u : Value), BindsTo s fd ⟨[u], []⟩ [(x, u)]) ∧
        ∀ base : Heap, (K w.params).In base → base.Ns mainGlobals mg → (∀ q ∈ tabs, PySem.W.CodeHd base q.1 q.2) → BltIn mg base → FnOk l.prog w (K w.params) mg base CX0 k fa fd [x] (sp (K w.params)))
    (hsp : ∀ (K : PySem.W.Frag) (H : Hp) (a : Addr) (ns : List Int), ns.length ≤ n → EntryT tabs K a H → SqL K H a (ns.map V.int) → sp K [.ref a] H (fun v _ => v = .bl true) fun _ _ _ => False) :
    PySem.W.WalkO q loose XP YP l.row.toRowW d [] (fun f vs => PySem.call f vs) := by
  refine Att.attach_call hn hdf fun w s₀ s₁ mg mb fa o pm cd doc a vs ns G Y ho hd hcd hmg hobj hints hlen hg => ?_
  have KX := hY w _ Y
  obtain ⟨fd, hb, hF⟩ := F w mg fa _ KX G.T.g hmg
  exact law_callT KX G.T.g G.T.b G.T.builtins G.T.nolimit hg hobj hints (Nat.le_trans hlen hn2) hr (hTab w _ Y) (hK w) (bltIn_of G.T) hF hb fun H hE hS => hsp _ H a ns hlen hE hS
end L2
namespace L3
open PySem PyProof L2
/-- the law's def where defs within defs are made: their tables are there -/
def spLawTs (tl : List (Addr × Pos × Str)) : DSp := fun ds G Q => ∃ ns : List Int, ds = [.frl (ns.map D.int)] ∧ ns.length ≤ 63 ∧ (∀ q ∈ tl, G q.1 = some (.tab q.2.1 q.2.2)) ∧ ∀ G', Q (.bl true) G'
def ndA : List Addr → Bool
  | [] => true
  | a :: r => !r.contains a && ndA r
theorem lookup_tl : ∀ {tl : List (Addr × Pos × Str)} {q : Addr × Pos × Str}, ndA (tl.map (·.1)) = true → q ∈ tl → tl.lookup q.1 = some q.2
  | (p1, p2) :: r, (q1, q2), nd, h => by
    simp only [List.map_cons, ndA, Bool.and_eq_true, Bool.not_eq_true', List.contains_eq_mem, decide_eq_false_iff_not] at nd
    show ((p1, p2) :: r).lookup q1 = some q2
    rcases List.mem_cons.mp h with e | h
    · cases e; rw [List.lookup_cons, beq_self_eq_true]
    · have ne : q1 ≠ p1 := fun z => nd.1 (by rw [← z]; exact List.mem_map_of_mem (f := (·.1)) h)
      rw [List.lookup_cons, beq_false_of_ne ne]
      exact lookup_tl nd.2 h
theorem lookup_mem : ∀ {tl : List (Addr × Pos × Str)} {a : Addr} {z : Pos × Str}, tl.lookup a = some z → (a, z) ∈ tl
  | (p1, p2) :: r, a, z, h => by
    rw [List.lookup_cons] at h
    cases e : (a == p1) with
    | true =>
      rw [e] at h; cases h
      obtain rfl : a = p1 := by simpa using e
      exact List.mem_cons_self ..
    | false => rw [e] at h; exact List.mem_cons_of_mem _ (lookup_mem h)
theorem lawTs_sp {K : PySem.W.Frag} {H : Hp} {a : Addr} {ns : List Int} {tabs : List (Addr × Addr)} {tl : List (Addr × Pos × Str)} (hm : tl.map (·.1) = tabs.map (·.2)) (nd : ndA (tl.map (·.1)) = true) (hl : ns.length ≤ 63) (o : EntryT tabs K a H) (h : SqL K H a (ns.map V.int)) :
    conc K (spLawTs tl) [.ref a] H (fun v _ => v = .bl true) fun _ _ _ => False := by
  have f : FrL K H a (ns.map V.int) := by
    rcases h with (h | h) | h
    · rcases o.only a with z | ⟨_, _, z⟩ | ⟨_, z⟩ <;> (rw [h] at z; cases z)
    · exact .inl h
    · exact .inr h
  refine ⟨[.frl (ns.map D.int)], fun b => (tl.lookup b).map fun z => .tab z.1 z.2, fun d _ => d = .bl true, ⟨.ref a, [], rfl, ⟨a, _, rfl, f, AbsL.of_ints ns⟩, rfl⟩, fun b u e => ?_, ⟨ns, rfl, hl, fun q hq => by simp only [lookup_tl nd hq, Option.map_some], fun _ => rfl⟩, fun d G' v H' g ad e => ?_⟩
  · cases z : tl.lookup b with
    | none => simp only [z, Option.map_none] at e; cases e
    | some y =>
      simp only [z, Option.map_some] at e
      cases e
      have hb : b ∈ tabs.map (·.2) := by rw [← hm]; exact List.mem_map_of_mem (lookup_mem z)
      obtain ⟨q, hq, rfl⟩ := List.mem_map.mp hb
      exact ⟨#[], o.tab q hq, trivial, .inl rfl⟩
  · subst e
    exact ad
end L3
namespace L3
open PySem PyProof L2
section
variable {K : PySem.W.Frag} {H : Hp} {G : DV}
def kD : Key → D
  | .inl i => .int i
  | .inr x => .str x
theorem kD_abs {k : Key} {v : V} (h : Abs K H (kD k) v) : v = kV k := by cases k <;> exact h
def valD (kvs : List (Key × D)) (k : Key) : Option D := (kvs.find? fun kv => decide (kv.1 = k)).map (·.2)
def putKD (kvs : List (Key × D)) (k : Key) (v : D) : List (Key × D) :=
  if (kvs.any fun kv => decide (kv.1 = k)) = true then kvs.map (fun kv => if kv.1 = k then (kv.1, v) else kv) else kvs ++ [(k, v)]
theorem AbsF.cons_inv {κ : Type} {x : κ} {y : D} {r : List (κ × D)} {gs : List (κ × V)} (h : AbsF K H ((x, y) :: r) gs) : ∃ v s, gs = (x, v) :: s ∧ Abs K H y v ∧ AbsF K H r s := by
  obtain ⟨h1, h2⟩ := h
  cases gs with
  | nil => cases h1
  | cons g s =>
    obtain ⟨g1, g2⟩ := g
    simp only [List.map_cons, List.cons.injEq] at h1
    obtain ⟨v, us, e1, a1, a2⟩ := h2
    simp only [List.map_cons, List.cons.injEq] at e1
    obtain ⟨rfl, h1⟩ := h1
    obtain ⟨rfl, rfl⟩ := e1
    exact ⟨g2, s, rfl, a1, h1, a2⟩
theorem AbsF.nil_inv {κ : Type} {gs : List (κ × V)} (h : AbsF K H ([] : List (κ × D)) gs) : gs = [] := by
  cases gs with
  | nil => rfl
  | cons g s => cases h.1
theorem AbsF.consI {κ : Type} {x : κ} {y : D} {v : V} {r : List (κ × D)} {s : List (κ × V)} (h : Abs K H y v) (hr : AbsF K H r s) : AbsF K H ((x, y) :: r) ((x, v) :: s) := ⟨by simp [hr.1], v, _, rfl, h, hr.2⟩
theorem AbsF.append {κ : Type} : ∀ {fs es : List (κ × D)} {gs hs : List (κ × V)}, AbsF K H fs gs → AbsF K H es hs → AbsF K H (fs ++ es) (gs ++ hs)
  | [], _, _, _, r, s => by rw [r.nil_inv]; exact s
  | (x, y) :: r, _, _, _, h, s => by
    obtain ⟨v, t, rfl, a, hr⟩ := h.cons_inv
    exact AbsF.consI a (hr.append s)
theorem AbsF.val {k : Key} : ∀ {fs : List (Key × D)} {gs : List (Key × V)}, AbsF K H fs gs → (∀ d, valD fs k = some d → ∃ v, valV gs k = some v ∧ Abs K H d v) ∧ (valD fs k = Option.none → valV gs k = Option.none)
  | [], _, h => by rw [h.nil_inv]; exact ⟨fun d e => (by cases e), fun _ => rfl⟩
  | (x, y) :: r, _, h => by
    obtain ⟨v, t, rfl, a, hr⟩ := h.cons_inv
    obtain ⟨i1, i2⟩ := AbsF.val (k := k) hr
    by_cases c : x = k
    · have e1 : valD ((x, y) :: r) k = some y := by simp [valD, List.find?_cons, c]
      have e2 : valV ((x, v) :: t) k = some v := valV_pos c
      rw [e1, e2]
      exact ⟨fun d e => ⟨v, rfl, by cases e; exact a⟩, fun e => by cases e⟩
    · have e1 : valD ((x, y) :: r) k = valD r k := by simp [valD, List.find?_cons, c]
      have e2 : valV ((x, v) :: t) k = valV t k := valV_neg c
      rw [e1, e2]
      exact ⟨i1, i2⟩
theorem AbsF.anyK {k : Key} : ∀ {fs : List (Key × D)} {gs : List (Key × V)}, AbsF K H fs gs → (fs.any fun kv => decide (kv.1 = k)) = gs.any fun kv => decide (kv.1 = k)
  | [], _, h => by rw [h.nil_inv]; rfl
  | (x, y) :: r, _, h => by
    obtain ⟨v, t, rfl, a, hr⟩ := h.cons_inv
    rw [List.any_cons, List.any_cons, AbsF.anyK hr]
theorem AbsF.mapK {k : Key} {d : D} {u : V} (hd : Abs K H d u) : ∀ {fs : List (Key × D)} {gs : List (Key × V)}, AbsF K H fs gs → AbsF K H (fs.map fun kv => if kv.1 = k then (kv.1, d) else kv) (gs.map fun kv => if kv.1 = k then (kv.1, u) else kv)
  | [], _, h => by rw [h.nil_inv]; exact ⟨rfl, rfl⟩
  | (x, y) :: r, _, h => by
    obtain ⟨v, t, rfl, a, hr⟩ := h.cons_inv
    rw [List.map_cons, List.map_cons]
    by_cases c : x = k
    · simp only [c, if_true]; exact AbsF.consI hd (AbsF.mapK hd hr)
    · simp only [if_neg c]; exact AbsF.consI a (AbsF.mapK hd hr)
theorem AbsF.putKD {k : Key} {d : D} {u : V} (hd : Abs K H d u) {fs : List (Key × D)} {gs : List (Key × V)} (h : AbsF K H fs gs) : AbsF K H (L3.putKD fs k d) (putK gs k u) := by
  unfold L3.putKD putK
  rw [h.anyK]
  split
  · exact AbsF.mapK hd h
  · exact h.append (AbsF.consI hd ⟨rfl, rfl⟩)
theorem valD_put (kvs : List (Key × D)) (k j : Key) (y : D) : valD (putKD kvs k y) j = if j = k then some y else valD kvs j := by
  have key : ∀ l : List (Key × D), valD (l.map fun kv => if kv.1 = k then (kv.1, y) else kv) j = (valD l j).map fun x => if j = k then y else x := fun l => by
    induction l with
    | nil => rfl
    | cons p r ih =>
      obtain ⟨p1, p2⟩ := p
      simp only [valD, List.map_cons, List.find?_cons] at ih ⊢
      by_cases c : p1 = k
      · subst c
        by_cases d : p1 = j
        · subst d; simp
        · simp only [if_true, d, decide_false]; exact ih
      · by_cases d : p1 = j
        · subst d; simp [c]
        · simp only [if_neg c, d, decide_false]; exact ih
  unfold putKD
  by_cases c : (kvs.any fun kv => decide (kv.1 = k)) = true
  · rw [if_pos c, key]
    by_cases d : j = k
    · subst d
      have : (valD kvs j).isSome = true := by
        unfold valD
        rw [Option.isSome_map, List.find?_isSome]
        obtain ⟨x, hx, e⟩ := List.any_eq_true.mp c
        exact ⟨x, hx, e⟩
      obtain ⟨z, e⟩ := Option.isSome_iff_exists.mp this
      rw [e]; simp
    · simp [d]
  · rw [if_neg c]
    have no : ∀ x ∈ kvs, x.1 ≠ k := fun x hx e => c (List.any_eq_true.mpr ⟨x, hx, by simpa using e⟩)
    unfold valD
    rw [List.find?_append]
    by_cases d : j = k
    · subst d
      have : kvs.find? (fun kv => decide (kv.1 = j)) = none := List.find?_eq_none.mpr fun x hx => by simpa using no x hx
      rw [this]; simp
    · rw [if_neg d]
      have e : ([(k, y)] : List (Key × D)).find? (fun kv => decide (kv.1 = j)) = none := by simp [Ne.symm d]
      rw [e]; simp
theorem putKD_len (kvs : List (Key × D)) (k : Key) (v : D) : (putKD kvs k v).length ≤ kvs.length + 1 := by
  unfold putKD; split <;> simp
/-- dicts of the view -/
@[irreducible] def onD (G : DV) (a : Addr) (k : List (Key × D) → Prop) : Prop := match G a with
  | some (.dK kvs) => k kvs
  | _ => False
theorem onD_of {a : Addr} {k : List (Key × D) → Prop} {kvs : List (Key × D)} (h : G a = some (.dK kvs)) (q : k kvs) : onD G a k := by unfold onD; rw [h]; exact q
theorem onD_get {a : Addr} {k : List (Key × D) → Prop} (v : Vw K G H) (h : onD G a k) : ∃ kvs gs, k kvs ∧ G a = some (.dK kvs) ∧ H a = some (.dK gs) ∧ AbsF K H kvs gs := by
  unfold onD at h
  split at h
  · next kvs e => obtain ⟨gs, z, r⟩ := v _ _ e; exact ⟨kvs, gs, h, e, z, r⟩
  · exact h.elim
theorem mono_dK {p : Addr} {gs : List (Key × V)} {o : HO} (h : H p = some (.dK gs)) : Mono K H (upd H p o) := mono_upd (fun ys => by rintro (e | ⟨o, e⟩) <;> rw [h] at e <;> cases e) fun _ _ e => by rw [h] at e; cases e
theorem Go.newD (v : Vw K G H) {p : Addr} {kvs : List (Key × D)} {gs : List (Key × V)} (h : H p = none) (r : AbsF K H kvs gs) : Go K G H (up G p (.dK kvs)) (upd H p (.dK gs)) where
  tup := mono_new h
  dom := fun a u e => ⟨u, by rw [upd_ne (ne_of_none e h)]; exact e⟩
  same := fun a u e _ => by rw [upd_ne (ne_of_none e h)]; exact e
  new := fun a u e n => by rw [up_ne (ne_of_none e h)]; exact n
  vw := fun a u e => by
    by_cases c : a = p
    · subst c; rw [up_same] at e; cases e
      exact ⟨gs, upd_same, r.1, r.2.mono (mono_new h)⟩
    · rw [up_ne c] at e
      exact (v a u e).mono (mono_new h) (upd_ne c)
theorem Go.setD (v : Vw K G H) {p : Addr} {kvs0 kvs : List (Key × D)} {gs : List (Key × V)} (h : G p = some (.dK kvs0)) (r : AbsF K H kvs gs) : Go K G H (up G p (.dK kvs)) (upd H p (.dK gs)) := by
  obtain ⟨us, hp, _⟩ := v p _ h
  exact {
    tup := mono_dK hp
    dom := fun a u e => by
      by_cases c : a = p
      · subst c; exact ⟨_, upd_same⟩
      · exact ⟨u, by rw [upd_ne c]; exact e⟩
    same := fun a u e n => by
      have c : a ≠ p := by rintro rfl; rw [h] at n; cases n
      rw [upd_ne c]; exact e
    new := fun a u e n => by
      have c : a ≠ p := by rintro rfl; rw [h] at n; cases n
      rw [up_ne c]; exact n
    vw := fun a u e => by
      by_cases c : a = p
      · subst c; rw [up_same] at e; cases e
        exact ⟨gs, upd_same, r.1, r.2.mono (mono_dK hp)⟩
      · rw [up_ne c] at e
        exact (v a u e).mono (mono_dK hp) (upd_ne c) }
def keyOfD : D → Option Key
  | .int i => some (.inl i)
  | .str x => some (.inr x)
  | _ => none
theorem keyOfD_eq {d : D} {k : Key} (h : keyOfD d = some k) : d = kD k := by cases d <;> simp [keyOfD] at h <;> subst h <;> rfl
end
section
variable {X : Cx} {o i e value : Expr} {pos pos' tpos : Pos} {td ti tv : DTE}
/-- d[k] -/
abbrev dDget (td ti : DTE) : DTE := fun ρ G Q => td ρ G fun x G1 => ti ρ G1 fun y G2 => match x with
  | .ref a => onD G2 a fun kvs => ∃ k d, keyOfD y = some k ∧ valD kvs k = some d ∧ Q d G2
  | _ => False
theorem ae_dgetK (hu : X.A.units + 200 < cLine) (ho : AE X o td) (hi : AE X i ti) (hs : NoSl i) : AE X (.Subscript o i pos) (dDget td ti) := by
  obtain ⟨co, jo, ro⟩ := ho.run
  obtain ⟨ci, ji, ri⟩ := hi.run
  refine ⟨_, ⟨pe_dget (by omega) jo.run ji.run hs⟩, fun ρ G DQ σ H Q B q F => ro ρ G _ σ H _ B q fun x G1 v H1 g1 ax q1 => ri ρ G1 _ σ H1 _ (B.go g1) q1 fun y G2 u H2 g2 ay q2 => ?_⟩
  cases x with
  | ref a =>
    cases ax
    obtain ⟨kvs, gs, ⟨k, d, ek, ed, q3⟩, e1, e2, r⟩ := onD_get g2.vw q2
    obtain ⟨w, hw, aw⟩ := (r.val (k := k)).1 d ed
    rw [keyOfD_eq ek] at ay
    have := kD_abs ay
    subst this
    exact ⟨a, w, rfl, by rw [← hw]; exact DGet.k e2, F d G2 w H2 (g1.trans g2) aw q3⟩
  | _ => exact (show False from q2).elim
/-- d[k] = v -/
abbrev dsDput (td ti tv : DTE) : DTS := fun DD ρ G => tv ρ G fun v G1 => td ρ G1 fun x G2 => ti ρ G2 fun y G3 => match x with
  | .ref a => onD G3 a fun kvs => ∃ k, keyOfD y = some k ∧ kvs.length < sizeLine ∧ DD.nx ρ (up G3 a (.dK (putKD kvs k v)))
  | _ => False
theorem as_dputK (hu : X.A.units + 200 < cLine) (ho : AE X o td) (hi : AE X i ti) (hv : AE X value tv) (hs : swapsWith value (some (.Subscript o i pos')) pos.line X.env = pure false := by rfl) : AS X (.Assign [.Subscript o i pos'] value pos) (dsDput td ti tv) := by
  obtain ⟨co, jo, ro⟩ := ho.run
  obtain ⟨ci, ji, ri⟩ := hi.run
  obtain ⟨cv, jv, rv⟩ := hv.run
  refine ⟨_, ⟨ps_dput (by omega) jo.run ji.run jv.run hs⟩, fun DD Dc ρ G σ H B q F => rv ρ G _ σ H _ B q fun y0 G1 v0 H1 g1 av q1 => ro ρ G1 _ σ H1 _ (B.go g1) q1 fun x G2 v H2 g2 ax q2 => ri ρ G2 _ σ H2 _ ((B.go g1).go g2) q2 fun y G3 u H3 g3 ay q3 => ?_⟩
  cases x with
  | ref a =>
    cases ax
    obtain ⟨kvs, gs, ⟨k, ek, hl, q4⟩, e1, e2, r⟩ := onD_get g3.vw q3
    rw [keyOfD_eq ek] at ay
    have := kD_abs ay
    subst this
    have len : gs.length = kvs.length := by have := congrArg List.length r.1; simpa using this.symm
    have g4 := Go.setD g3.vw e1 (r.putKD (k := k) ((av.mono g2.tup).mono g3.tup))
    exact ⟨a, _, rfl, DPut.k e2 (by omega), F.nx _ _ _ _ (((g1.trans g2).trans g3).trans g4) ((((B.go g1).go g2).go g3).go g4) q4⟩
  | _ => exact (show False from q3).elim
/-- {k: v} -/
abbrev dDisp1 (tk tv : DTE) : DTE := fun ρ G Q => ∀ p, G p = none → tk ρ (up G p (.dK [])) fun x G1 => tv ρ G1 fun y G2 => G2 p = some (.dK []) ∧ ∃ k, keyOfD x = some k ∧ Q (.ref p) (up G2 p (.dK [(k, y)]))
theorem ae_disp1 {tk : DTE} (hk : AE X i tk) (hv : AE X e tv) : AE X (.Dict [some i] [e] pos) (dDisp1 tk tv) := by
  obtain ⟨ck, jk, rk⟩ := hk.run
  obtain ⟨cv, jv, rv⟩ := hv.run
  refine ⟨_, ⟨pe_disp (pps_cons jk.run jv.run pps_nil) rfl rfl (by simp) (by simp)⟩, fun ρ G DQ σ H Q B q F p hp => ?_⟩
  have g0 := Go.newD (kvs := []) (gs := []) B.vw hp ⟨rfl, rfl⟩
  refine rk ρ _ _ σ _ _ (B.go g0) (q p (B.vw.none hp)) fun x G1 v H1 g1 ax q1 => rv ρ G1 _ σ H1 _ ((B.go g0).go g1) q1 fun y G2 u H2 g2 ay q2 => ?_
  obtain ⟨e0, k, ek, q3⟩ := q2
  obtain ⟨gs, z, r⟩ := g2.vw p _ e0
  rw [r.nil_inv] at z
  rw [keyOfD_eq ek] at ax
  have := kD_abs ax
  subst this
  have g3 := Go.setD (kvs := [(k, y)]) (gs := [(k, u)]) g2.vw e0 (AbsF.consI ay ⟨rfl, rfl⟩)
  exact ⟨z, [(k, u)], rfl, by simp, F (.ref p) _ _ _ (((g0.trans g1).trans g2).trans g3) rfl q3⟩
end
end L3
namespace L2
open PySem PySem.Spec PyProof.Rows
section
variable {X : Cx} {a : Expr} {ta : TE} {pos : Pos}
def tNotT (K : PySem.W.Frag) (ta : TE) : TE := fun σ H Q => ta σ H fun x H1 => ∃ k, TruV K x H1 k ∧ Q (.bl (!k)) H1
theorem pe_notT (ha : PE X a ta) : PE X (.UnaryOp .Not a pos) (tNotT X.K ta) := by
  intro pins s σ H Q I h
  refine UnaryOp_ (thn (ha pins s σ H _ I h) fun v s1 ⟨x, H1, I1, r1, k, hk, q1⟩ => not_of ?_)
  exact thn (tru_ok pins s1 σ H1 x v (fun c H2 => Q (.bl (!c)) H2) I1 r1 ⟨k, hk, q1⟩) fun c s2 ⟨H2, I2, q2⟩ => ⟨.bl (!c), H2, I2, rfl, q2⟩
end
end L2
namespace L3
open PySem PyProof L2
section
variable {X : Cx} {a : Expr} {ta : DTE} {pos : Pos}
abbrev dNotT (ta : DTE) : DTE := fun ρ G Q => ta ρ G fun x G1 => truD x G1 fun c => Q (.bl (!c)) G1
theorem ae_notT (ha : AE X a ta) : AE X (.UnaryOp .Not a pos) (dNotT ta) := by
  obtain ⟨ca, ja, ra⟩ := ha.run
  refine ⟨_, ⟨pe_notT ja.run⟩, fun ρ G DQ σ H Q B q F => ra ρ G _ σ H _ B q fun x G1 v H1 g1 ax q1 => ?_⟩
  cases x with
  | non => cases ax; exact ⟨_, rfl, F (.bl _) _ _ _ g1 rfl q1⟩
  | bl b => cases ax; exact ⟨_, rfl, F (.bl _) _ _ _ g1 rfl q1⟩
  | int i => cases ax; exact ⟨_, rfl, F (.bl _) _ _ _ g1 rfl q1⟩
  | str y => cases ax; exact ⟨_, ⟨q1.1, rfl⟩, F (.bl _) _ _ _ g1 rfl q1.2⟩
  | ref l =>
    cases ax
    obtain ⟨ds, vs, k, s, r⟩ := onL_get g1.vw q1
    exact ⟨_, .inl ⟨vs, s, rfl⟩, by rw [r.isEmpty]; exact F (.bl _) _ _ _ g1 rfl k⟩
  | tup ds =>
    obtain ⟨l, vs, rfl, s, r⟩ := ax
    exact ⟨_, .inr (.inl ⟨vs, s, rfl⟩), by rw [r.isEmpty]; exact F (.bl _) _ _ _ g1 rfl q1⟩
  | ty n => exact (show False from q1).elim
  | frl ds => exact (show False from q1).elim
end
end L3
namespace KSs
open PySem PyProof.Rows
/-- places rise -/
abbrev Up (xs : Array Nat) : Prop := xs.toList.Pairwise (· < ·)
theorem Up.lt {xs : Array Nat} (h : Up xs) {i j : Nat} (hij : i < j) (hj : j < xs.size) : xs.getD i 0 < xs.getD j 0 := by
  have hi : i < xs.size := by omega
  have z := List.pairwise_iff_getElem.mp h i j (by simpa using hi) (by simpa using hj) hij
  simpa [Array.getD, hi, hj] using z
theorem go_spec {xs : Array Nat} (h : Up xs) (j : Nat) : ∀ (fuel lo hi : Nat), hi - lo ≤ fuel → lo ≤ hi → hi ≤ xs.size → (∀ i, i < lo → xs.getD i 0 < j) → (∀ i, hi ≤ i → i < xs.size → j ≤ xs.getD i 0) →
    ∃ p, SetTable.below.go xs j fuel lo hi = p ∧ p ≤ xs.size ∧ (∀ i, i < p → xs.getD i 0 < j) ∧ ∀ i, p ≤ i → i < xs.size → j ≤ xs.getD i 0 := by
  intro fuel
  induction fuel with
  | zero =>
    intro lo hi h1 h2 h3 h4 h5
    obtain rfl : lo = hi := by omega
    exact ⟨lo, rfl, h3, h4, h5⟩
  | succ fuel ih =>
    intro lo hi h1 h2 h3 h4 h5
    unfold SetTable.below.go
    by_cases c : lo < hi
    · rw [if_pos c]
      dsimp only
      have hm : (lo + hi) / 2 < xs.size := by omega
      have e0 : xs.getD ((lo + hi) / 2) j = xs.getD ((lo + hi) / 2) 0 := by simp [Array.getD, hm]
      by_cases d : xs.getD ((lo + hi) / 2) j < j
      · rw [if_pos d]
        refine ih _ _ (by omega) (by omega) h3 (fun i hi' => ?_) h5
        rw [e0] at d
        rcases Nat.lt_or_eq_of_le (Nat.lt_succ_iff.mp hi') with z | z
        · exact Nat.lt_trans (h.lt z hm) d
        · rw [z]; exact d
      · rw [if_neg d]
        refine ih _ _ (by omega) (by omega) (by omega) h4 (fun i hi' hs => ?_)
        rw [e0] at d
        rcases Nat.lt_or_eq_of_le hi' with z | z
        · exact Nat.le_of_lt (Nat.lt_of_le_of_lt (Nat.not_lt.mp d) (h.lt z hs))
        · rw [← z]; exact Nat.not_lt.mp d
    · rw [if_neg c]
      obtain rfl : lo = hi := by omega
      exact ⟨lo, rfl, h3, h4, h5⟩
theorem below_spec {xs : Array Nat} (h : Up xs) (j : Nat) : SetTable.below xs j ≤ xs.size ∧ (∀ i, i < SetTable.below xs j → xs.getD i 0 < j) ∧ ∀ i, SetTable.below xs j ≤ i → i < xs.size → j ≤ xs.getD i 0 := by
  obtain ⟨p, e, q⟩ := go_spec h j xs.size 0 xs.size (by omega) (Nat.zero_le _) (Nat.le_refl _) (by omega) (by omega)
  unfold SetTable.below; rw [e]; exact q
theorem up_insert {xs : Array Nat} (h : Up xs) {j : Nat} (hj : xs[SetTable.below xs j]? ≠ some j) : Up (SetTable.insertAt xs (SetTable.below xs j) j) := by
  obtain ⟨h1, h2, h3⟩ := below_spec h j
  generalize SetTable.below xs j = p at *
  unfold Up
  rw [SetTable.toList_insertAt]
  have gt : ∀ y ∈ xs.toList.drop p, j < y := fun y hy => by
    obtain ⟨i, hi, e⟩ := List.getElem_of_mem hy
    rw [List.getElem_drop] at e
    rw [List.length_drop] at hi
    have hs : p + i < xs.size := by simpa using (by omega : p + i < xs.toList.length)
    have z := h3 (p + i) (by omega) hs
    have e2 : xs.getD (p + i) 0 = y := by rw [← e]; simp [Array.getD, hs]
    rw [e2] at z
    rcases Nat.lt_or_eq_of_le z with z | z
    · exact z
    · exfalso
      subst z
      rcases Nat.eq_zero_or_pos i with z0 | z0
      · subst z0
        apply hj
        have hp : p < xs.size := by omega
        have e3 : xs[p] = j := by rw [← e]; simp
        rw [Array.getElem?_eq_getElem hp, e3]
      · have l := h.lt (show p < p + i by omega) hs
        have := h3 p (Nat.le_refl _) (by omega)
        omega
  refine List.pairwise_append.mpr ⟨h.sublist (List.take_sublist _ _), List.pairwise_cons.mpr ⟨gt, h.sublist (List.drop_sublist _ _)⟩, fun x hx y hy => ?_⟩
  have lt : x < j := by
    obtain ⟨i, hi, e⟩ := List.getElem_of_mem hx
    rw [List.getElem_take] at e
    rw [List.length_take] at hi
    have hs : i < xs.size := by simpa using (by omega : i < xs.toList.length)
    have z := h2 i (by omega)
    rw [← e]; simpa [Array.getD, hs] using z
  rcases List.mem_cons.mp hy with rfl | hy
  · exact lt
  · exact Nat.lt_trans lt (gt y hy)
theorem up_range (n : Nat) : Up (Array.range n) := by
  unfold Up; rw [Array.toList_range]; exact List.pairwise_lt_range
theorem no_dummy {t : SetTable} (h : t.dummies = #[]) (j : Nat) : t.slot j ≠ .dummy := by
  unfold SetTable.slot SetTable.has
  rw [h]
  dsimp only
  split
  · exact nofun
  · rw [if_neg (by simp)]; exact nofun
theorem probe_empty {t : SetTable} (h : t.dummies = #[]) {hs : Nat → Int} {k : Int} : ∀ (fuel : Nat) (p : SetTable.Probe) (j : Nat) (d : Option Nat), SetTable.probe.go t hs k fuel p = some (.empty j d) → t.slot j = .empty ∧ d = p.dummy
  | 0, _, _, _, e => by cases e
  | fuel + 1, p, j, d, e => by
    unfold SetTable.probe.go at e
    have adv : ∀ q : SetTable.Probe, (t.advance q).dummy = q.dummy := fun q => by unfold SetTable.advance; split <;> rfl
    split at e
    · next z => cases e; exact ⟨z, rfl⟩
    · next z => exact absurd z (no_dummy h _)
    · split at e
      · cases e
      · obtain ⟨h1, h2⟩ := probe_empty h fuel _ j d e
        exact ⟨h1, by rw [h2, adv]⟩
theorem free_spec {t : SetTable} (h : t.dummies = #[]) {k : Int} {j : Nat} {b : Bool} (e : t.freeSlot k = some (j, b)) : t.slot j = .empty ∧ b = false := by
  unfold SetTable.freeSlot at e
  split at e
  · next j' d z =>
    obtain ⟨h1, h2⟩ := probe_empty h _ _ _ _ (show SetTable.probe.go t (fun _ => k + 1) k (10 * SetTable.turns t.mask) (t.probeStart k) = _ from z)
    have : d = none := h2
    subst this
    cases e
    exact ⟨h1, rfl⟩
  · cases e
theorem slot_empty {t : SetTable} {j : Nat} (h : t.slot j = .empty) : t.place[SetTable.below t.place j]? ≠ some j := fun z => by
  unfold SetTable.slot at h
  dsimp only at h
  rw [if_pos (by rw [z]; simp)] at h
  cases h
/-- the clean table: no dummies, places rise, led as said -/
structure Cl (b : Bool) (t : SetTable) : Prop where
  up : Up t.place
  led : b = false → t.led = true
  nod : t.dummies = #[]
theorem Cl.standIn {b : Bool} {t : SetTable} (h : Cl b t) (n : Nat) : Cl b (t.standIn n) := ⟨up_range n, h.led, rfl⟩
theorem Cl.orStandIn {b : Bool} {t : SetTable} (h : Cl b t) (n : Nat) : Cl b (t.orStandIn n) := by
  unfold SetTable.orStandIn; split
  · exact h
  · exact h.standIn n
theorem Cl.lay {b : Bool} {t : SetTable} (h : Cl b t) (es : Array (Int × Value)) (k : Int) (x : Value) : Cl b (layNew t es k x).2.1 ∧ (layNew t es k x).2.2.1 = false := by
  unfold layNew
  split
  · next slot d e =>
    obtain ⟨h1, rfl⟩ := free_spec h.nod e
    have c : Cl b (t.put slot).1 := ⟨up_insert h.up (slot_empty h1), h.led, by
      show (if SetTable.has t.dummies slot = true then _ else t.dummies) = #[]
      rw [h.nod, if_neg (by simp [SetTable.has])]⟩
    exact ⟨c.orStandIn _, rfl⟩
  · exact ⟨h.standIn _, rfl⟩
theorem filt_sub {α : Type} (g : Nat → Option α) : ∀ l : List Nat, ((l.filterMap fun j => (g j).map (j, ·)).map (·.1)).Sublist l
  | [] => by simp
  | a :: l => by
    cases e : g a with
    | none => simp only [List.filterMap_cons, e, Option.map_none]; exact (filt_sub g l).cons _
    | some y => simp only [List.filterMap_cons, e, Option.map_some, List.map_cons]; exact (filt_sub g l).cons₂ _
theorem laid_cl {b : Bool} {mask finger moves : Nat} {led plain : Bool} {hs : Array Int} {t' : SetTable} {order : Array Nat} (hl : b = false → led = true) (e : SetTable.laid mask finger moves led plain hs = some (t', order)) : Cl b t' := by
  unfold SetTable.laid at e
  cases z : SetTable.layClean mask hs with
  | none => rw [z] at e; cases e
  | some owner =>
    rw [z] at e
    simp only [Option.pure_def, Option.bind_eq_bind, Option.bind_some, Option.some.injEq, Prod.mk.injEq] at e
    obtain ⟨rfl, _⟩ := e
    refine ⟨?_, hl, rfl⟩
    show ((List.map _ _).toArray.toList).Pairwise _
    rw [List.toList_toArray]
    exact (List.pairwise_lt_range (n := mask + 1)).sublist (filt_sub (fun j => owner.getD j none) _)
theorem Cl.relay {b : Bool} {t : SetTable} (h : Cl b t) (es : Array (Int × Value)) (n : Nat) : Cl b (relayAll t es n).2.1 := by
  unfold relayAll
  split
  · next t' order e =>
    dsimp only
    split
    · exact laid_cl h.led e
    · exact h.standIn _
  · exact h.standIn _
end KSs
namespace KSs
open PySem PyProof.Rows
abbrev byT (w : World) : Bool := w.params.followText "set-order"
def keyOf : Value → Int
  | .int k _ => k
  | _ => 0
def AllI (es : List (Int × Value)) : Prop := ∀ e ∈ es, (∃ t, e.2 = .int (keyOf e.2) t) ∧ e.1 = hashInt (keyOf e.2)
abbrev keys (es : Array (Int × Value)) : List Int := es.toList.map fun e => keyOf e.2
abbrev setAt (es : Array (Int × Value)) (ep : Nat) (t : SetTable) : Obj := { cls := .type "set", dict := none, data := .set es ep t, slots := #[] }
theorem AllI.elems {prog : Program} {w : World} {es : List (Int × Value)} (h : AllI es) : ElemsOf (intKind prog w) es := fun e he => by
  obtain ⟨⟨t, e1⟩, e2⟩ := h e he
  refine ⟨⟨keyOf e.2, ?_, e2⟩, ?_⟩
  · rw [e1]; exact intKind_is _ _ _ _
  · rw [e1]; rfl
theorem AllI.perm {es es' : List (Int × Value)} (h : AllI es) (p : es'.Perm es) : AllI es' := fun e he => h e (p.mem_iff.mp he)
theorem AllI.snoc {es : List (Int × Value)} (h : AllI es) (k : Int) (u : Tok) : AllI (es ++ [(hashInt k, .int k u)]) := fun e he => by
  rcases List.mem_append.mp he with he | he
  · exact h e he
  · rw [List.mem_singleton.mp he]; exact ⟨⟨u, rfl⟩, rfl⟩
theorem AllI.met {prog : Program} {w : World} {es : List (Int × Value)} (h : AllI es) {k : Int} : (∃ e ∈ es, (intKind prog w).is k e.2 = true) ↔ k ∈ es.map fun e => keyOf e.2 := by
  constructor
  · rintro ⟨e, he, q⟩
    obtain ⟨⟨t, e1⟩, _⟩ := h e he
    refine List.mem_map.mpr ⟨e, he, ?_⟩
    rw [e1] at q ⊢
    exact (intKind prog w).inj _ _ _ (intKind_is prog w _ t) q
  · intro hk
    obtain ⟨e, he, rfl⟩ := List.mem_map.mp hk
    obtain ⟨⟨t, e1⟩, _⟩ := h e he
    exact ⟨e, he, by rw [e1]; exact intKind_is _ _ _ _⟩
/-- a clean set of ints -/
structure SX (w : World) (h : Heap) (a : Addr) (es : Array (Int × Value)) (ep : Nat) (t : SetTable) : Prop where
  at_ : h.get? a = some (setAt es ep t)
  all : AllI es.toList
  nd : (keys es).Nodup
  fits : t.fits es.size = true
  few : es.size < 1000
  cl : Cl (byT w) t
theorem few_line {n : Nat} (h : n < 1000) : n ≤ sizeLine := by have := sizeLine_eq; omega
section
variable {prog : Program} {w : World} {A : Around} {E : Value → Shared → Prop} {s : Shared} {a : Addr} {es : Array (Int × Value)} {ep : Nat} {t : SetTable}
theorem put_get {h : Heap} (e : h.get? a = some (setAt es ep t)) (es' : Array (Int × Value)) (t' : SetTable) : (h.update a (Obj.putSet es' t')).get? a = some (setAt es' (ep + 1) t') := Heap.get?_update_self (Obj.putSet es' t') e rfl
/-- the new element's table is stored, and laid anew where it is too full -/
theorem tail {g : Bool → Sem Unit} (hg : ∀ b (s1 : Shared) (Q' : Unit → Shared → Prop), Q' () s1 → wpAny (model prog w) A (g b) Q' E s1) (e0 : s.heap.get? a = some (setAt es ep t)) {xs : Array (Int × Value)} {t2 : SetTable} (hall : AllI xs.toList) (hnd : (keys xs).Nodup) (hf : t2.fits xs.size = true) (hfew : xs.size < 1000) (hc : Cl (byT w) t2) {wd : Bool} {R : Option Bool → Shared → Prop}
    (h : ∀ h' xs' ep' t', Heap.SameBut a s.heap h' → SX w h' a xs' ep' t' → xs'.toList.Perm xs.toList → R (some true) { s with heap := h' }) :
    wpAny (model prog w) A (do storeSet a xs t2; (if (!wd && t2.tooFull) = true then (do g (relayAll t2 xs (SetTable.grown xs.size)).2.2; storeSet a (relayAll t2 xs (SetTable.grown xs.size)).1 (relayAll t2 xs (SetTable.grown xs.size)).2.1; pure (some true)) else pure (some true))) R E s := by
  have e1 := put_get e0 xs t2
  have b1 := Heap.SameBut.update s.heap a (Obj.putSet xs t2)
  refine wpAny_bind (wpAny_storeSet_of e0 rfl ?_ (few_line hfew))
  have pm := relayAll_perm t2 xs (SetTable.grown xs.size)
  have fr := relayAll_fits t2 xs (SetTable.grown xs.size)
  have cr := hc.relay xs (SetTable.grown xs.size)
  have sz : (relayAll t2 xs (SetTable.grown xs.size)).1.size = xs.size := by rw [← Array.length_toList, pm.length_eq, Array.length_toList]
  split
  · refine wpAny_bind (hg _ _ _ (wpAny_bind (wpAny_storeSet_of e1 rfl (wpAny_pure (h _ _ _ _ (b1.trans (Heap.SameBut.update _ a _)) ⟨put_get e1 _ _, hall.perm pm, ?_, fr, by rw [sz]; exact hfew, cr⟩ pm)) (few_line (by rw [sz]; exact hfew)))))
    exact (pm.map fun e => keyOf e.2).nodup_iff.mpr hnd
  · exact wpAny_pure (h _ _ _ _ b1 ⟨e1, hall, hnd, hf, hfew, hc⟩ (List.Perm.refl _))
theorem add {k : Int} {u : Tok} {Q : Bool → Shared → Prop} (X : SX w s.heap a es ep t) (hr : es.size + 1 < 1000)
    (h : ∀ b h' es' ep' t', Heap.SameBut a s.heap h' → SX w h' a es' ep' t' → (∀ j, j ∈ keys es' ↔ j ∈ keys es ∨ j = k) → es'.size ≤ es.size + 1 → Q b { s with heap := h' }) : wpAny (model prog w) A (setAddHashed a (.int k u) (hashInt k)) Q E s := by
  have els := X.all.elems (prog := prog) (w := w)
  have sb : es.size < scanBound := by have := X.few; unfold scanBound; omega
  unfold setAddHashed setAddHashedIn
  refine wpAny_holding (wpAny_bind (wpAny_setState_of X.at_ rfl X.fits ?_))
  dsimp only
  rw [byScan_of (knd := intKind prog w) (x := .int k u) rfl sb els, if_pos rfl]
  unfold setAddByScan
  refine wpAny_bind (wpAny_bind (wpAny_rule (wpAny_bind (wpAny_setScan_of (knd := intKind prog w) (k := k) (intKind_is _ _ _ _) X.at_ rfl X.fits els ?_))))
  cases hi : List.findIdx? (fun e => (intKind prog w).is k e.2) es.toList with
  | some j =>
    obtain ⟨hj, q, _⟩ := List.findIdx?_eq_some_iff_getElem.mp hi
    have hk : k ∈ keys es := X.all.met.mp ⟨_, List.getElem_mem hj, q⟩
    exact wpAny_pure (wpAny_pure (h false s.heap es ep t (Heap.SameBut.refl a _) X (fun i => ⟨.inl, fun z => z.elim id fun z => by rw [z]; exact hk⟩) (Nat.le_succ _)))
  | none =>
    have hk : k ∉ keys es := fun z => by
      obtain ⟨e, he, q⟩ := (X.all.met (prog := prog) (w := w)).mpr z
      have := List.findIdx?_eq_none_iff.mp hi e he
      rw [q] at this; cases this
    have pm := layNew_perm t es (hashInt k) (.int k u)
    have fr := layNew_fits t es (hashInt k) (.int k u)
    have cr := X.cl.lay es (hashInt k) (.int k u)
    dsimp only
    generalize layNew t es (hashInt k) (.int k u) = L at pm fr cr ⊢
    obtain ⟨xs, t1, wd, gv⟩ := L
    dsimp only at pm fr cr ⊢
    obtain ⟨cr, rfl⟩ := cr
    rw [Array.toList_push] at pm
    have sz : xs.size = es.size + 1 := by rw [← Array.length_toList, pm.length_eq]; simp
    have kp : (keys xs).Perm (keys es ++ [k]) := by have z := pm.map fun e => keyOf e.2; rwa [List.map_append] at z
    have nd : (keys xs).Nodup := kp.nodup_iff.mpr (List.nodup_append.mpr ⟨X.nd, by simp, fun x hx y hy => by rw [List.mem_singleton.mp hy]; rintro rfl; exact hk hx⟩)
    have gw : ∀ b (s1 : Shared) (Q' : Unit → Shared → Prop), Q' () s1 → wpAny (model prog w) A (match b with | true => rule "set.scan.the-table-gave-way" | false => pure ()) Q' E s1 := fun b s1 Q' hq => by
      cases b
      · exact wpAny_pure hq
      · exact wpAny_rule hq
    have fin : ∀ h' xs' ep' t', Heap.SameBut a s.heap h' → SX w h' a xs' ep' t' → xs'.toList.Perm xs.toList → Q true { s with heap := h' } := fun h' xs' ep' t' hb hX hp => by
      refine h true h' xs' ep' t' hb hX (fun j => ?_) (by rw [← Array.length_toList, hp.length_eq, Array.length_toList, sz]; exact Nat.le_refl _)
      rw [((hp.map fun e => keyOf e.2).trans kp).mem_iff, List.mem_append, List.mem_singleton]
    refine wpAny_bind (gw _ _ _ ?_)
    split
    · refine wpAny_bind ?_
      rw [hashByValue_scannable 8 (x := .int k u) rfl]
      refine wpAny_pure ?_
      refine tail gw X.at_ ((X.all.snoc k u).perm pm) nd (by simpa [plainKind] using fr) (by omega) (by simpa [plainKind] using cr) fun h' xs' ep' t' hb hX hp => wpAny_pure (fin h' xs' ep' t' hb hX hp)
    · refine wpAny_bind (wpAny_pure ?_)
      refine tail gw X.at_ ((X.all.snoc k u).perm pm) nd (by simpa using fr) (by omega) (by simpa using cr) fun h' xs' ep' t' hb hX hp => wpAny_pure (fin h' xs' ep' t' hb hX hp)
end
end KSs
namespace KSs
open PySem PyProof.Rows
section
variable {prog : Program} {w : World} {A : Around} {E : Value → Shared → Prop} {s : Shared}
abbrev set0 (w : World) : Obj := setAt #[] 0 (.fresh 0 0 (!byT w))
theorem SX.fresh {h : Heap} {a : Addr} (e : h.get? a = some (set0 w)) : SX w h a #[] 0 (.fresh 0 0 (!byT w)) :=
  ⟨e, fun _ h => (nomatch (show _ ∈ ([] : List (Int × Value)) from h)), List.Pairwise.nil, rfl, by decide, List.Pairwise.nil, fun h => by simp [SetTable.fresh, h], rfl⟩
theorem newS (x : Value) {Q : Value → Shared → Prop} (h : Q (.ref s.heap.objs.size) { s with heap := s.heap.push (set0 w) }) : codeAny (model prog w) A (.call (.builtin "set.__new__") ⟨[.type "set", x], []⟩) (wants Q E) s := by
  refine codeAny_of_tree (show wpAny _ A.in1 (checkBuiltinCall "set.__new__" ⟨[.type "set", x], []⟩ >>= fun _ => again (.builtin "set.__new__" ⟨[.type "set", x], []⟩)) _ _ s from ?_)
  refine wpAny_bind (wpAny_of_eq (F.newCall_set_1 x) (wpAny_pure ⟨plainId_quiet F.plain_set_new _, codeAny_builtin F.entry_set_new ?_⟩))
  rw [Around.under_plainId F.plain_set_new _]
  unfold Builtin.«set.__new__» Builtin.Frozenset.newClass
  have sub := sub_set_self
  cases s
  dsimp only
  wp_walk
  refine wpAny_askSetting (wpAny_pure ?_)
  dsimp only
  unfold newObj
  exact wpAny_bind (wpAny_alloc (wpAny_pure (wpAny_pure h)))
theorem loopS {I l S : Addr} {items : Array Value} {ns : List Int} {R : Result → Shared → Prop} (hh : A.handled = none) (hne : l ≠ I) (hI : S ≠ I) (hl : S ≠ l) (hi : IntsAre items.toList ns) (hb : items.size < 900) :
    ∀ (k i : Nat) (s : Shared) (es : Array (Int × Value)) (ep : Nat) (t : SetTable), items.size - i = k → i ≤ items.size → s.heap.IsListIter I l i → s.heap.IsList l items → SX w s.heap S es ep t → es.size ≤ i → (∀ j, j ∈ keys es ↔ j ∈ ns.take i) →
      (∀ h' tk es' ep' t', SX w h' S es' ep' t' → es'.size ≤ items.size → (∀ j, j ∈ keys es' ↔ j ∈ ns) → (∀ b o, b ≠ S → b ≠ I → s.heap.get? b = some o → h'.get? b = some o) → R (.ok (.ret .none)) { s with heap := h', toks := tk }) →
      codeAny (model prog w) A (.builtin "set.update.loop" ⟨[.ref S, .ref I], []⟩) R s := by
  have W := Walks.list (prog := prog) (w := w) (A := A.in1) hh I l hne items
  have hlen := hi.length
  rw [Array.length_toList] at hlen
  intro k
  induction k with
  | zero =>
    intro i s es ep t hk hle h1 h2 X hsz hmem fin
    obtain rfl : i = items.size := by omega
    refine codeAny_builtin F.entry_set_update_loop ?_
    rw [Around.under_plainId F.plain_set_update_loop _]
    refine (show wpAny _ A.in1 (pyNext (.ref I) >>= _) _ _ s from wpAny_bind (W.done s _ _ ⟨h1, h2⟩ fun h' tk kk => ?_))
    have e := kk S _ (by simpa using hI) X.at_
    exact wpAny_pure (fin h' tk es ep t ⟨e, X.all, X.nd, X.fits, X.few, X.cl⟩ hsz (fun j => by rw [hmem, List.take_of_length_le (by omega)]) fun b o _ hb e => kk b o (by simpa using hb) e)
  | succ k ih =>
    intro i s es ep t hk hle h1 h2 X hsz hmem fin
    refine codeAny_builtin F.entry_set_update_loop ?_
    rw [Around.under_plainId F.plain_set_update_loop _]
    refine (show wpAny _ A.in1 (pyNext (.ref I) >>= _) _ _ s from wpAny_bind (W.item i s _ _ (by omega) ⟨h1, h2⟩ fun v h' tk hv st kk => ?_))
    obtain ⟨u, rfl⟩ := IntsAre.int_at hi i v (by rw [Array.getElem?_toList]; exact hv)
    have e := kk S _ (by simpa using hI) X.at_
    refine (show wpAny _ A.in1 (holding [Value.int (ns.getD i 0) u] (setAdd S (.int (ns.getD i 0) u)) >>= _) _ _ { s with heap := h', toks := tk } from wpAny_bind (wpAny_holding ?_))
    unfold setAdd
    refine wpAny_holding (wpAny_bind ((intKind prog w).pyHash (k := ns.getD i 0) (intKind_is _ _ _ _) ?_))
    refine add (s := { s with heap := h', toks := tk + 1 }) (X := ⟨e, X.all, X.nd, X.fits, X.few, X.cl⟩) (by omega) fun b h2' es' ep' t' sb X' hmem' hsz' => ?_
    have ne : ∀ b o, b ≠ S → h'.get? b = some o → h2'.get? b = some o := fun b o hb e => by rw [sb.2 b hb]; exact e
    refine wpAny_pure ⟨plainId_quiet F.plain_set_update_loop _, ih (i + 1) _ es' ep' t' (by omega) (by omega) ?_ ?_ X' (by omega) (fun j => ?_) fun h3 tk3 es3 ep3 t3 X3 z3 m3 k3 => ?_⟩
    · obtain ⟨o, ho, r⟩ := st.1; exact ⟨o, ne I o (Ne.symm hI) ho, r⟩
    · obtain ⟨o, ho, r⟩ := st.2; exact ⟨o, ne l o (Ne.symm hl) ho, r⟩
    · rw [hmem', hmem, List.take_add_one]
      have : ns[i]? = some (ns.getD i 0) := by rw [List.getD_eq_getElem?_getD, List.getElem?_eq_getElem (by omega)]; rfl
      rw [this]
      simp
    · exact fin h3 tk3 es3 ep3 t3 X3 z3 m3 fun b o hb1 hb2 e => k3 b o hb1 hb2 (ne b o hb1 (kk b o (by simpa using hb2) e))
set_option maxHeartbeats 4000000 in
theorem ofList {l : Addr} {items : Array Value} {ns : List Int} {Q : Value → Shared → Prop} (hh : A.handled = none) (hl : s.heap.IsList l items) (hi : IntsAre items.toList ns) (hb : items.size < 900)
    (h : ∀ h' tk es ep t, SX w h' s.heap.objs.size es ep t → es.size ≤ items.size → (∀ j, j ∈ keys es ↔ j ∈ ns) → (∀ b o, s.heap.get? b = some o → h'.get? b = some o) → Q (.ref s.heap.objs.size) { s with heap := h', toks := tk }) :
    wpAny (model prog w) A (call (.type "set") [.ref l]) Q E s := by
  obtain ⟨c, tl, hmro⟩ := F.called_set.mro
  have q1 := F.called_set.made
  have q2 := F.called_set.sub
  have q3 := F.called_set.notType
  have q4 := F.called_set.canCreate
  have q5 := F.typeCall_set_1 (.ref l)
  refine wpAny_call (codeAny_of_tree (show wpAny _ _ (callAny (.type "set") _) _ _ _ from wpAny_pure ⟨Code.quiet_builtin _ (by decide +kernel), codeAny_builtin F.entry_type_call ?_⟩))
  rw [Around.under_plain (weight_type_call_type "set" [.ref l] []) rfl]
  repeat (any_goals (first | assumption | wp_step))
  refine codeAny_mono (newS (.ref l) (E := E) (Q := fun obj s1 => obj = .ref s.heap.objs.size ∧ s1 = { s with heap := s.heap.push (set0 w) }) ⟨rfl, rfl⟩) fun r s1 hr => ?_
  cases r with
  | error e => exact hr
  | ok fl =>
    cases fl with
    | ret obj =>
      obtain ⟨rfl, rfl⟩ := hr
      have gS : (s.heap.push (set0 w)).get? s.heap.objs.size = some (set0 w) := Heap.get?_push_size _ rfl
      have tS : Shared.TypeIs { s with heap := s.heap.push (set0 w) } (.ref s.heap.objs.size) "set" := ⟨_, gS, rfl⟩
      have q6 := F.called_set.init.lookup
      have q7 := F.called_set.init.bind (.ref s.heap.objs.size)
      repeat (any_goals (first | assumption | wp_step))
      refine codeAny_mono (codeAny_call_builtin (R := wants (fun r s2 => r = .none ∧ Q (.ref s.heap.objs.size) s2) E) F.called_set.init.plain F.entry_set_init (check_set_init_1 tS ?_)) fun r2 s2 hr2 => ?_
      · obtain ⟨⟨oc, od, oda, osl⟩, ho, hc, nl, hd⟩ := hl
        simp only at hc hd
        subst hc; subst hd
        have hlt := Heap.lt_size ho
        have ho1 : (s.heap.push (set0 w)).get? l = some { cls := .type "list", dict := od, data := .seq items nl, slots := osl } := Heap.get?_push_of_some _ ho
        have hL : (s.heap.push (set0 w)).IsList l items := ⟨_, ho1, rfl, nl, rfl⟩
        have n1 := F.sub_list_set
        have n2 := F.sub_list_frozenset
        have n3 : (Value.type "list" == Value.type "dict") = false := by decide
        unfold Builtin.«set.__init__» noKeywords Builtin.Frozenset.updateFrom
        generalize hP : pyIter = P
        wp_walk
        subst hP
        refine wpAny_pyIter_list hL (wpAny_bind (wpAny_runValue ?_))
        have sz : (s.heap.push (set0 w)).objs.size = s.heap.objs.size + 1 := Heap.size_push ..
        refine loopS (I := (s.heap.push (set0 w)).objs.size) (l := l) (S := s.heap.objs.size) (show A.in1.in1.handled = none from hh) ?zza ?zzb (Nat.ne_of_gt hlt) hi hb (items.size - 0) 0 _ #[] 0 (.fresh 0 0 (!byT w)) rfl (Nat.zero_le _) ?zzd ?zze ?zzf (Nat.le_refl _) ?zzg ?zzh
        case zza => rw [sz]; exact Nat.ne_of_lt (Nat.lt_succ_of_lt hlt)
        case zzb => rw [sz]; exact Nat.ne_of_lt (Nat.lt_succ_self _)
        case zzd => exact ⟨_, Heap.get?_push_size _ rfl, rfl, rfl⟩
        case zze => exact hL.push _
        case zzf => exact SX.fresh (Heap.get?_push_of_some _ gS)
        case zzg => intro j; simp
        case zzh =>
          intro h' tk es ep t X z m k
          refine wpAny_pure (show wpAny _ _ (ret Value.none) _ _ _ from wpAny_pure ⟨rfl, h h' tk es ep t X z m fun b o e => k b o (Nat.ne_of_lt (Heap.lt_size e)) ?_ (Heap.get?_push_of_some _ (Heap.get?_push_of_some _ e))⟩)
          rw [sz]; exact Nat.ne_of_lt (Nat.lt_succ_of_lt (Heap.lt_size e))
      · cases r2 with
        | error e => exact hr2
        | ok fl2 =>
          cases fl2 with
          | ret r =>
            obtain ⟨rfl, hq⟩ := hr2
            repeat (any_goals (first | assumption | wp_step))
          | _ => exact hr2.elim
    | _ => exact hr.elim
end
end KSs
namespace KSs
open PySem PyProof.Rows
theorem own : Manifest.owners.lookup (String.ofList ['r', 'o', 't', 'a', 'r', 'e', 't', 'i', '_', 't', 'e', 's'].reverse) = some Manifest.sig_set_iterator := by kernel_rfl
theorem sNext : Slot "set_iterator" "__next__" "set_iterator.__next__" := .of (owner := "set_iterator") (n := "__next__") (by rw [typeLookup_type, builtinLookup_eq_fast]; kernel_rfl) (by decide +kernel) (by decide +kernel) (by decide +kernel) (by first | exact .inl (by decide +kernel) | exact .inr (by decide +kernel)) (by rw [isSubtype_type]; kernel_rfl)
theorem sItI : Slot "set_iterator" "__iter__" "set_iterator.__iter__" := .of (owner := "set_iterator") (n := "__iter__") (by rw [typeLookup_type, builtinLookup_eq_fast]; kernel_rfl) (by decide +kernel) (by decide +kernel) (by decide +kernel) (by first | exact .inl (by decide +kernel) | exact .inr (by decide +kernel)) (by rw [isSubtype_type]; kernel_rfl)
theorem sIter : Slot "set" "__iter__" "set.__iter__" := .of (owner := "set") (n := "__iter__") (by rw [typeLookup_type, builtinLookup_eq_fast]; kernel_rfl) (by decide +kernel) (by decide +kernel) (by decide +kernel) (by first | exact .inl (by decide +kernel) | exact .inr (by decide +kernel)) (by rw [isSubtype_type]; kernel_rfl)
theorem sLen : Slot "set" "__len__" "set.__len__" := .of (owner := "set") (n := "__len__") (by rw [typeLookup_type, builtinLookup_eq_fast]; kernel_rfl) (by decide +kernel) (by decide +kernel) (by decide +kernel) (by first | exact .inl (by decide +kernel) | exact .inr (by decide +kernel)) (by rw [isSubtype_type]; kernel_rfl)
theorem eNext : entryFor table "set_iterator.__next__" = some Builtin.«set_iterator.__next__» := entryFor_of_tree (by kernel_rfl)
theorem eItI : entryFor table "set_iterator.__iter__" = some Builtin.«dict_keyiterator.__iter__» := entryFor_alias (id' := "dict_keyiterator.__iter__") (by kernel_rfl) (by first | rfl | decide +kernel | (unfold String.splitOn; simp +decide [String.splitOnAux])) (by decide +kernel) (by kernel_rfl)
theorem eIter : entryFor table "set.__iter__" = some Builtin.«frozenset.__iter__» := entryFor_alias (id' := "frozenset.__iter__") (by kernel_rfl) (by first | rfl | decide +kernel | (unfold String.splitOn; simp +decide [String.splitOnAux])) (by decide +kernel) (by kernel_rfl)
theorem aNext (a : Value) : argsOk "set_iterator.__next__" ⟨[a], []⟩ := by unfold argsOk; rw [signature?_of (id := "set_iterator.__next__") (n := ['_', '_', 't', 'x', 'e', 'n', '_', '_']) (o := ['r', 'o', 't', 'a', 'r', 'e', 't', 'i', '_', 't', 'e', 's']) (by kernel_rfl) own]; kernel_rfl
theorem aItI (a : Value) : argsOk "set_iterator.__iter__" ⟨[a], []⟩ := by unfold argsOk; rw [signature?_of (id := "set_iterator.__iter__") (n := ['_', '_', 'r', 'e', 't', 'i', '_', '_']) (o := ['r', 'o', 't', 'a', 'r', 'e', 't', 'i', '_', 't', 'e', 's']) (by kernel_rfl) own]; kernel_rfl
theorem aIter (a : Value) : argsOk "set.__iter__" ⟨[a], []⟩ := by unfold argsOk; rw [signature?_of (id := "set.__iter__") (n := ['_', '_', 'r', 'e', 't', 'i', '_', '_']) (o := ['t', 'e', 's']) (by kernel_rfl) F.owner_set]; kernel_rfl
end KSs
namespace KSs
open PySem PyProof.Rows
theorem pick_go {α : Type} (f : Nat → Nat) : ∀ (fuel k : Nat) (left : List α) (out : Array α), left.length = fuel → (pickOrder.go f fuel k left out).toList.Perm (out.toList ++ left)
  | 0, k, left, out, h => by
    have : left = [] := List.length_eq_zero_iff.mp h
    subst this
    simp [pickOrder.go]
  | fuel + 1, k, left, out, h => by
    have lt : f k % left.length < left.length := Nat.mod_lt _ (by omega)
    unfold pickOrder.go
    rw [List.getElem?_eq_getElem lt]
    dsimp only
    refine (pick_go f fuel (k + 1) _ _ (by rw [List.length_eraseIdx_of_lt lt]; omega)).trans ?_
    rw [Array.toList_push, List.append_assoc]
    refine List.Perm.append_left _ ?_
    have e := List.take_append_drop (f k % left.length) left
    have e2 : left.eraseIdx (f k % left.length) = left.take (f k % left.length) ++ left.drop (f k % left.length + 1) := List.eraseIdx_eq_take_drop_succ ..
    rw [e2, List.singleton_append]
    have e3 : left = left.take (f k % left.length) ++ left[f k % left.length] :: left.drop (f k % left.length + 1) := by
      rw [← List.drop_eq_getElem_cons lt, e]
    conv => rhs; rw [e3]
    exact List.perm_middle.symm
theorem pick_perm {α : Type} (f : Nat → Nat) (xs : Array α) : (pickOrder f xs).toList.Perm xs.toList := by
  have h := pick_go f xs.size 0 xs.toList #[] (by simp)
  simpa [pickOrder] using h
theorem wpAny_choose {M : Model} {A : Around} {E : Value → Shared → Prop} {s : Shared} {src : Source} {n : Nat} {Q : Nat → Shared → Prop} (hn : 0 < n) (h : ∀ i d, i < n → Q i { s with drawn := d }) : wpAny M A (choose src n) Q E s :=
  fun _ _ _ => ⟨by omega, h _ _ (Nat.mod_lt _ hn)⟩
theorem draw {α : Type} {M : Model} {A : Around} {E : Value → Shared → Prop} : ∀ (n : Nat) (xs : List α) (s : Shared) (Q : List α → Shared → Prop), xs.length = n → (∀ ys d, ys.Perm xs → Q ys { s with drawn := d }) → wpAny M A (drawOrder n xs) Q E s
  | 0, xs, s, Q, h, q => by
    have : xs = [] := List.length_eq_zero_iff.mp h
    subst this
    exact wpAny_pure (q [] s.drawn (.refl _))
  | n + 1, [], s, Q, h, q => by simp at h
  | n + 1, x :: xs, s, Q, h, q => by
    unfold drawOrder
    refine wpAny_bind (wpAny_choose (by simp) fun i d hi => ?_)
    rw [List.getElem?_eq_getElem hi]
    dsimp only
    refine wpAny_bind (draw n _ _ _ (by rw [List.length_eraseIdx_of_lt hi]; simp at h ⊢; omega) fun ys d' hp => wpAny_pure (q _ d' ?_))
    have e2 : (x :: xs).eraseIdx i = (x :: xs).take i ++ (x :: xs).drop (i + 1) := List.eraseIdx_eq_take_drop_succ ..
    rw [e2] at hp
    have e3 : x :: xs = (x :: xs).take i ++ (x :: xs)[i] :: (x :: xs).drop (i + 1) := by
      rw [← List.drop_eq_getElem_cons hi, List.take_append_drop]
    refine (hp.cons _).trans ?_
    conv => rhs; rw [e3]
    exact List.perm_middle.symm
/-- what a walk wants of a set -/
structure SW (w : World) (h : Heap) (a : Addr) (es : Array (Int × Value)) (ep : Nat) (t : SetTable) : Prop where
  at_ : h.get? a = some (setAt es ep t)
  fits : t.fits es.size = true
  few : es.size < 1000
  led : byT w = false → t.led = true
  up : Up t.place
theorem SX.sw {w : World} {h : Heap} {a : Addr} {es : Array (Int × Value)} {ep : Nat} {t : SetTable} (X : SX w h a es ep t) : SW w h a es ep t := ⟨X.at_, X.fits, X.few, X.cl.led, X.cl.up⟩
abbrev itAt (first : Value) (i : Nat) (a : Addr) (n ep : Nat) : Obj := { cls := .type "set_iterator", dict := none, data := .fields #[first, rawInt i, .ref a, rawInt n, rawInt ep], slots := #[] }
section
variable {prog : Program} {w : World} {A : Around} {E : Value → Shared → Prop} {s : Shared} {a I T : Addr} {es : Array (Int × Value)} {ep : Nat} {t : SetTable}
theorem text (Q : Bool → Shared → Prop) (h : Q (byT w) s) : wpAny (model prog w) A setsByText Q E s := by
  unfold setsByText
  exact wpAny_bind (wpAny_askSetting (wpAny_pure h))
/-- by the world's order -/
theorem nextW {Q : Option (Value × Nat) → Shared → Prop} (hb : byT w = true) (X : SW w s.heap a es ep t) {sl i : Nat} (h : Q (((pickOrder (w.params.setOrder a ep) es)[i]?).map fun e => (e.2, sl)) s) : wpAny (model prog w) A (setNext a sl i ep) Q E s := by
  unfold setNext
  refine wpAny_bind (wpAny_setState_of X.at_ rfl X.fits (wpAny_bind (text _ ?_)))
  rw [hb, if_pos rfl]
  rw [if_neg (by simp)]
  unfold setWalk
  refine wpAny_bind (wpAny_bind (wpAny_setState_of X.at_ rfl X.fits (wpAny_bind (text _ ?_))))
  rw [hb, if_pos rfl]
  exact wpAny_bind (wpAny_askSetting (wpAny_pure (wpAny_pure h)))
theorem place_size (X : SW w s.heap a es ep t) : t.place.size = es.size := by
  have := X.fits
  simp only [SetTable.fits, Bool.and_eq_true, beq_iff_eq] at this
  exact this.1
def slotOf (t : SetTable) : Nat → Nat
  | 0 => 0
  | i + 1 => t.place.getD i 0 + 1
theorem below_slot (hu : Up t.place) {i : Nat} (hi : i ≤ t.place.size) : SetTable.below t.place (slotOf t i) = i := by
  obtain ⟨h1, h2, h3⟩ := below_spec hu (slotOf t i)
  generalize SetTable.below t.place (slotOf t i) = p at *
  cases i with
  | zero =>
    rcases Nat.eq_zero_or_pos p with z | z
    · exact z
    · exact absurd (h2 0 z) (by simp [slotOf])
  | succ i =>
    rcases Nat.lt_trichotomy p (i + 1) with z | z | z
    · have := h3 i (by omega) (by omega)
      simp only [slotOf] at this
      omega
    · exact z
    · have y := h2 (i + 1) z
      have l := hu.lt (show i < i + 1 by omega) (by omega)
      simp only [slotOf] at y
      omega
/-- by places -/
theorem nextP {Q : Option (Value × Nat) → Shared → Prop} (hb : byT w = false) (hd : (!t.plain && decide (es.size > 1)) = false) (X : SW w s.heap a es ep t) {i : Nat} (hi : i ≤ es.size) (h : Q ((es[i]?).map fun e => (e.2, slotOf t (i + 1))) s) : wpAny (model prog w) A (setNext a (slotOf t i) i ep) Q E s := by
  have hp := place_size X
  unfold setNext
  refine wpAny_bind (wpAny_setState_of X.at_ rfl X.fits (wpAny_bind (text _ ?_)))
  rw [hb, if_neg (by simp)]
  refine (show wpAny (model prog w) A (if (!t.plain && decide (es.size > 1)) = true then _ else _) _ _ s from ?_)
  rw [hd, if_neg (by simp)]
  refine (show wpAny (model prog w) A ((if (!t.led && !es.isEmpty) = true then unsupported "set:maker-not-led" else pure ()) >>= fun _ => _) _ _ s from ?_)
  rw [X.led hb, if_neg (by simp)]
  refine wpAny_bind (wpAny_pure (wpAny_pure ?_))
  rw [below_slot X.up (by omega)]
  cases e : es[i]? with
  | none => rw [e] at h; exact h
  | some y =>
    have lt : i < t.place.size := by have := (Array.getElem?_eq_some_iff.mp e).1; omega
    rw [e] at h
    rw [Array.getElem?_eq_getElem lt]
    have : slotOf t (i + 1) = t.place[i] + 1 := by simp [slotOf, Array.getD, lt]
    rw [this] at h
    exact h
end
end KSs
namespace KSs
open PySem PyProof.Rows
section
variable {prog : Program} {w : World} {A : Around} {E : Value → Shared → Prop} {s : Shared} {a I T : Addr} {es : Array (Int × Value)} {ep : Nat} {t : SetTable}
theorem it_iter {first : Value} {i n : Nat} {Q : Value → Shared → Prop} (hit : s.heap.get? I = some (itAt first i a n ep)) (h : Q (.ref I) s) : wpAny (model prog w) A (pyIter (.ref I)) Q E s :=
  have hT : s.TypeIs (.ref I) "set_iterator" := ⟨_, hit, rfl⟩
  wpAny_pyIter_slot hT sItI (wpAny_call_entry sItI hT eItI (wpAny_pure ⟨_, rfl, "set_iterator", _, hT, sNext.lookup, h⟩) (aItI _))
/-- the next item, the place of the table known by a number -/
theorem it_next {sl i sl' : Nat} {x : Value} {Q : Option Value → Shared → Prop} (hne : a ≠ I) (hit : s.heap.get? I = some (itAt (rawInt sl) i a es.size ep)) (X : SW w s.heap a es ep t)
    (hN : ∀ (A : Around) (E : Value → Shared → Prop) (Q : Option (Value × Nat) → Shared → Prop), Q (some (x, sl')) s → wpAny (model prog w) A (setNext a sl i ep) Q E s)
    (hQ : ∀ h', h'.get? I = some (itAt (rawInt sl') (i + 1) a es.size ep) → Heap.SameBut I s.heap h' → Q (some x) { s with heap := h' }) : wpAny (model prog w) A (pyNext (.ref I)) Q E s := by
  have hT : s.TypeIs (.ref I) "set_iterator" := ⟨_, hit, rfl⟩
  unfold pyNext
  refine wpAny_bind (wpAny_attempt (wpAny_callSpecial?_slot hT sNext (wpAny_call_entry sNext hT eNext ?_ (aNext _))))
  refine (show wpAny (model prog w) A.in1 (fieldsOf (.ref I) >>= _) _ _ s from wpAny_bind (wpAny_fieldsOf hit rfl ?_))
  refine (show wpAny (model prog w) A.in1 (setEntries a >>= _) _ _ s from wpAny_bind (wpAny_setEntries_of X.at_ rfl X.fits ?_))
  rw [if_neg (by simp)]
  refine (show wpAny (model prog w) A.in1 (setNext a ((sl : Int)).toNat ((i : Int)).toNat ((ep : Int)).toNat >>= _) _ _ s from wpAny_bind ?_)
  rw [Int.toNat_natCast, Int.toNat_natCast, Int.toNat_natCast]
  refine hN _ _ _ ?_
  refine (show wpAny (model prog w) A.in1 (setField (.ref I) 0 (rawInt sl') >>= _) _ _ s from wpAny_bind (wpAny_setField hit rfl (by simp) ?_))
  have e1 := Heap.get?_update_self (Obj.mapFields (·.setIfInBounds 0 (rawInt sl'))) hit rfl
  refine wpAny_bind (wpAny_setField e1 rfl (by simp [Obj.mapFields]) (wpAny_pure ⟨x, rfl, wpAny_pure (hQ _ ?_ ((Heap.SameBut.update ..).trans (Heap.SameBut.update ..)))⟩))
  exact Heap.get?_update_self (Obj.mapFields (·.setIfInBounds 1 (rawInt ((i : Int) + 1)))) e1 rfl
theorem it_end {sl i : Nat} {Q : Option Value → Shared → Prop} (hh : A.handled = none) (hit : s.heap.get? I = some (itAt (rawInt sl) i a es.size ep)) (X : SW w s.heap a es ep t)
    (hN : ∀ (A : Around) (E : Value → Shared → Prop) (Q : Option (Value × Nat) → Shared → Prop), Q none s → wpAny (model prog w) A (setNext a sl i ep) Q E s)
    (hQ : ∀ h', Heap.ExtBut I s.heap h' → Q none { s with heap := h' }) : wpAny (model prog w) A (pyNext (.ref I)) Q E s := by
  have hT : s.TypeIs (.ref I) "set_iterator" := ⟨_, hit, rfl⟩
  unfold pyNext
  refine wpAny_bind (wpAny_attempt (wpAny_callSpecial?_slot hT sNext (wpAny_call_entry sNext hT eNext ?_ (aNext _))))
  refine (show wpAny (model prog w) A.in1 (fieldsOf (.ref I) >>= _) _ _ s from wpAny_bind (wpAny_fieldsOf hit rfl ?_))
  refine (show wpAny (model prog w) A.in1 (setEntries a >>= _) _ _ s from wpAny_bind (wpAny_setEntries_of X.at_ rfl X.fits ?_))
  rw [if_neg (by simp)]
  refine (show wpAny (model prog w) A.in1 (setNext a ((sl : Int)).toNat ((i : Int)).toNat ((ep : Int)).toNat >>= _) _ _ s from wpAny_bind ?_)
  rw [Int.toNat_natCast, Int.toNat_natCast, Int.toNat_natCast]
  refine hN _ _ _ ?_
  refine (show wpAny (model prog w) A.in1 (setField (.ref I) 2 .none >>= _) _ _ s from wpAny_bind (wpAny_setField hit rfl (by simp) ?_))
  refine (show wpAny (model prog w) A.in1 (Builtin.SmallTypes.stopIteration) _ _ _ from KRv.stops (A := A.in1) hh fun h' e kk hs => ?_)
  refine wpAny_bind (wpAny_isInstance (T := "StopIteration") (b := true) hs isSubtype_stop (wpAny_pure (hQ _ fun b o hb e => kk b o ?_)))
  exact (Heap.SameBut.update ..).extBut b o hb e
/-- the walk, the place known by a number -/
theorem walkN (hh : A.handled = none) (hne : a ≠ I) (sl : Nat → Nat) (xs : Array Value) (hx : xs.size = es.size)
    (hN : ∀ (s : Shared), SW w s.heap a es ep t → ∀ (A : Around) (E : Value → Shared → Prop) (Q : Option (Value × Nat) → Shared → Prop) (i : Nat), i ≤ es.size → Q ((xs[i]?).map fun x => (x, sl (i + 1))) s → wpAny (model prog w) A (setNext a (sl i) i ep) Q E s) (X : SW w s.heap a es ep t) :
    Walks prog w A I [I, a] [I] es.size (fun i v => xs[i]? = some v) (fun i h => h.get? I = some (itAt (rawInt (sl i)) i a es.size ep) ∧ h.get? a = some (setAt es ep t)) where
  sub := fun b hb => by rw [List.mem_singleton.mp hb]; exact List.mem_cons_self
  frame := fun _ _ _ st hk => ⟨hk I (by simp) _ st.1, hk a (by simp) _ st.2⟩
  item := fun i s' Q E hi st hQ => by
    have lt : i < xs.size := by omega
    have X' : SW w s'.heap a es ep t := ⟨st.2, X.fits, X.few, X.led, X.up⟩
    refine it_next (x := xs[i]) (sl' := sl (i + 1)) hne st.1 X' (fun A E Q q => hN s' X' A E Q i (by omega) (by rw [Array.getElem?_eq_getElem lt]; exact q)) fun h' e1 sb => ?_
    exact hQ _ h' s'.toks (Array.getElem?_eq_getElem lt) ⟨e1, by rw [sb.2 a hne]; exact st.2⟩ fun b o hb e => by rw [sb.2 b (fun z => hb (List.mem_singleton.mpr z))]; exact e
  done := fun s' Q E st hQ => by
    have X' : SW w s'.heap a es ep t := ⟨st.2, X.fits, X.few, X.led, X.up⟩
    exact it_end hh st.1 X' (fun A E Q q => hN s' X' A E Q es.size (Nat.le_refl _) (by rw [Array.getElem?_eq_none (by omega)]; exact q)) fun h' he => hQ h' s'.toks fun b o hb e => he b o (fun z => hb (List.mem_singleton.mpr z)) e
  self := fun i s' Q E st h => it_iter st.1 h
end
end KSs
namespace KSs
open PySem PyProof.Rows
section
variable {prog : Program} {w : World} {A : Around} {E : Value → Shared → Prop} {s : Shared} {a I T : Addr} {es : Array (Int × Value)} {ep : Nat} {t : SetTable}
abbrev tupAt (ps : List Nat) : Obj := { cls := .type "tuple", dict := none, data := .seq (ps.map fun (p : Nat) => rawInt (p : Int)).toArray 0, slots := #[] }
theorem it_nextD {i p : Nat} {ps : List Nat} {k : Int} {x : Value} {Q : Option Value → Shared → Prop} (hit : s.heap.get? I = some (itAt (.ref T) i a es.size ep)) (hT0 : s.heap.get? T = some (tupAt ps)) (X : SW w s.heap a es ep t) (hp : ps[i]? = some p) (hx : es[p]? = some (k, x))
    (hQ : ∀ h', h'.get? I = some (itAt (.ref T) (i + 1) a es.size ep) → Heap.SameBut I s.heap h' → Q (some x) { s with heap := h' }) : wpAny (model prog w) A (pyNext (.ref I)) Q E s := by
  have hT : s.TypeIs (.ref I) "set_iterator" := ⟨_, hit, rfl⟩
  unfold pyNext
  refine wpAny_bind (wpAny_attempt (wpAny_callSpecial?_slot hT sNext (wpAny_call_entry sNext hT eNext ?_ (aNext _))))
  refine (show wpAny (model prog w) A.in1 (fieldsOf (.ref I) >>= _) _ _ s from wpAny_bind (wpAny_fieldsOf hit rfl ?_))
  refine (show wpAny (model prog w) A.in1 (setEntries a >>= _) _ _ s from wpAny_bind (wpAny_setEntries_of X.at_ rfl X.fits ?_))
  rw [if_neg (by simp)]
  refine (show wpAny (model prog w) A.in1 (seqItems? (.ref T) >>= _) _ _ s from wpAny_bind ?_)
  unfold seqItems?
  refine (show wpAny (model prog w) A.in1 (load T >>= _) _ _ s from wpAny_bind (wpAny_load hT0 (wpAny_pure ?_)))
  have e0 : ((ps.map fun (p : Nat) => rawInt (p : Int)).toArray)[((i : Int)).toNat]? = some (rawInt p) := by
    rw [Int.toNat_natCast, List.getElem?_toArray, List.getElem?_map, hp]; rfl
  dsimp only
  rw [e0]
  refine (show wpAny (model prog w) A.in1 (setNextDrawn a ((p : Int)).toNat ((ep : Int)).toNat >>= _) _ _ s from wpAny_bind ?_)
  rw [Int.toNat_natCast, Int.toNat_natCast]
  unfold setNextDrawn
  refine wpAny_bind (wpAny_setState_of X.at_ rfl X.fits ?_)
  dsimp only
  rw [if_neg (by simp), hx]
  refine wpAny_pure ?_
  refine wpAny_bind (wpAny_setField hit rfl (by simp) (wpAny_pure ⟨x, rfl, wpAny_pure (hQ _ ?_ (Heap.SameBut.update ..))⟩))
  exact Heap.get?_update_self (Obj.mapFields (·.setIfInBounds 1 (rawInt ((i : Int) + 1)))) hit rfl
theorem it_endD {i : Nat} {ps : List Nat} {Q : Option Value → Shared → Prop} (hh : A.handled = none) (hit : s.heap.get? I = some (itAt (.ref T) i a es.size ep)) (hT0 : s.heap.get? T = some (tupAt ps)) (X : SW w s.heap a es ep t) (hp : ps[i]? = none)
    (hQ : ∀ h', Heap.ExtBut I s.heap h' → Q none { s with heap := h' }) : wpAny (model prog w) A (pyNext (.ref I)) Q E s := by
  have hT : s.TypeIs (.ref I) "set_iterator" := ⟨_, hit, rfl⟩
  unfold pyNext
  refine wpAny_bind (wpAny_attempt (wpAny_callSpecial?_slot hT sNext (wpAny_call_entry sNext hT eNext ?_ (aNext _))))
  refine (show wpAny (model prog w) A.in1 (fieldsOf (.ref I) >>= _) _ _ s from wpAny_bind (wpAny_fieldsOf hit rfl ?_))
  refine (show wpAny (model prog w) A.in1 (setEntries a >>= _) _ _ s from wpAny_bind (wpAny_setEntries_of X.at_ rfl X.fits ?_))
  rw [if_neg (by simp)]
  refine (show wpAny (model prog w) A.in1 (seqItems? (.ref T) >>= _) _ _ s from wpAny_bind ?_)
  unfold seqItems?
  refine (show wpAny (model prog w) A.in1 (load T >>= _) _ _ s from wpAny_bind (wpAny_load hT0 (wpAny_pure ?_)))
  have e0 : ((ps.map fun (p : Nat) => rawInt (p : Int)).toArray)[((i : Int)).toNat]? = none := by
    rw [Int.toNat_natCast, List.getElem?_toArray, List.getElem?_map, hp]; rfl
  dsimp only
  rw [e0]
  refine wpAny_bind (wpAny_setField hit rfl (by simp) ?_)
  have e1 := Heap.get?_update_self (Obj.mapFields (·.setIfInBounds 0 (rawInt 0))) hit rfl
  refine wpAny_bind (wpAny_setField e1 rfl (by simp [Obj.mapFields]) ?_)
  refine (show wpAny (model prog w) A.in1 (Builtin.SmallTypes.stopIteration) _ _ _ from KRv.stops (A := A.in1) hh fun h' e kk hs => ?_)
  refine wpAny_bind (wpAny_isInstance (T := "StopIteration") (b := true) hs isSubtype_stop (wpAny_pure (hQ _ fun b o hb e => kk b o ?_)))
  exact ((Heap.SameBut.update ..).trans (Heap.SameBut.update ..)).extBut b o hb e
theorem walkD (hh : A.handled = none) (hne : a ≠ I) (hnT : T ≠ I) (ps : List Nat) (hps : ps.length = es.size) (hb : ∀ p ∈ ps, p < es.size) (X : SW w s.heap a es ep t) :
    Walks prog w A I [I, a, T] [I] es.size (fun i v => ((ps.map fun p => (es.getD p (0, .none)).2).toArray)[i]? = some v) (fun i h => h.get? I = some (itAt (.ref T) i a es.size ep) ∧ h.get? a = some (setAt es ep t) ∧ h.get? T = some (tupAt ps)) where
  sub := fun b hb => by rw [List.mem_singleton.mp hb]; exact List.mem_cons_self
  frame := fun _ _ _ st hk => ⟨hk I (by simp) _ st.1, hk a (by simp) _ st.2.1, hk T (by simp) _ st.2.2⟩
  item := fun i s' Q E hi st hQ => by
    have lt : i < ps.length := by omega
    have X' : SW w s'.heap a es ep t := ⟨st.2.1, X.fits, X.few, X.led, X.up⟩
    have hp := hb ps[i] (List.getElem_mem lt)
    refine it_nextD (p := ps[i]) (k := (es.getD ps[i] (0, .none)).1) (x := (es.getD ps[i] (0, .none)).2) st.1 st.2.2 X' (List.getElem?_eq_getElem lt) (by rw [Array.getElem?_eq_getElem hp]; simp [Array.getD, hp]) fun h' e1 sb => ?_
    exact hQ _ h' s'.toks (by simp [lt]) ⟨e1, by rw [sb.2 a hne]; exact st.2.1, by rw [sb.2 T hnT]; exact st.2.2⟩ fun b o hb e => by rw [sb.2 b (fun z => hb (List.mem_singleton.mpr z))]; exact e
  done := fun s' Q E st hQ => by
    have X' : SW w s'.heap a es ep t := ⟨st.2.1, X.fits, X.few, X.led, X.up⟩
    exact it_endD hh st.1 st.2.2 X' (List.getElem?_eq_none (by omega)) fun h' he => hQ h' s'.toks fun b o hb e => he b o (fun z => hb (List.mem_singleton.mpr z)) e
  self := fun i s' Q E st h => it_iter st.1 h
theorem tyS (X : SW w s.heap a es ep t) : s.TypeIs (.ref a) "set" := ⟨_, X.at_, rfl⟩
/-- iter(set) -/
theorem iterS {Q : Value → Shared → Prop} (X : SW w s.heap a es ep t)
    (h1 : (!byT w && (!t.plain && decide (es.size > 1))) = false → Q (.ref s.heap.objs.size) { s with heap := s.heap.push (itAt (rawInt 0) 0 a es.size ep) })
    (h2 : (!byT w && (!t.plain && decide (es.size > 1))) = true → ∀ ps d, ps.Perm (List.range es.size) → Q (.ref (s.heap.push (tupAt ps)).objs.size) { s with heap := (s.heap.push (tupAt ps)).push (itAt (.ref s.heap.objs.size) 0 a es.size ep), drawn := d }) :
    wpAny (model prog w) A (pyIter (.ref a)) Q E s := by
  have hl := sizeLine_eq
  have hf := X.few
  refine wpAny_pyIter_slot (tyS X) sIter (wpAny_call_entry sIter (tyS X) eIter ?_ (aIter _))
  refine (show wpAny (model prog w) A.in1 (Builtin.Frozenset.sizeOf a >>= _) _ _ s from wpAny_bind ?_)
  unfold Builtin.Frozenset.sizeOf
  refine wpAny_bind (wpAny_setEntries_of X.at_ rfl X.fits (wpAny_pure ?_))
  refine wpAny_bind ?_
  unfold setDrawn
  refine wpAny_bind (wpAny_setState_of X.at_ rfl X.fits (wpAny_bind (text _ (wpAny_pure ?_))))
  cases c : (!byT w && (!t.plain && decide (es.size > 1))) with
  | false =>
    refine (show wpAny (model prog w) A.in1 (if (!byT w && (!t.plain && decide (es.size > 1))) = true then _ else _) _ _ s from ?_)
    rw [c, if_neg (by simp)]
    refine wpAny_bind (wpAny_pure (wpAny_bind (wpAny_setEpoch_of X.at_ rfl X.fits ?_)))
    unfold newFields
    refine wpAny_bind (wpAny_newObj_type ?_ (by size_fits))
    exact wpAny_pure ⟨_, rfl, "set_iterator", _, ⟨_, Heap.get?_push_size _ rfl, rfl⟩, sNext.lookup, h1 c⟩
  | true =>
    refine (show wpAny (model prog w) A.in1 (if (!byT w && (!t.plain && decide (es.size > 1))) = true then _ else _) _ _ s from ?_)
    rw [c, if_pos rfl]
    refine wpAny_bind (draw _ _ _ _ List.length_range fun ps d hp => ?_)
    have hpl := hp.length_eq
    rw [List.length_range] at hpl
    refine wpAny_bind (wpAny_newTuple ?_ (by rw [List.length_map]; omega))
    have X' : (s.heap.push (tupAt ps)).get? a = some (setAt es ep t) := Heap.get?_push_of_some _ X.at_
    refine wpAny_bind (wpAny_setEpoch_of X' rfl X.fits ?_)
    unfold newFields
    refine wpAny_bind (wpAny_newObj_type ?_ (by size_fits))
    exact wpAny_pure ⟨_, rfl, "set_iterator", _, ⟨_, Heap.get?_push_size _ rfl, rfl⟩, sNext.lookup, h2 c ps d hp⟩
end
end KSs
namespace KSs
open PySem PyProof.Rows
section
variable {prog : Program} {w : World} {A : Around} {E : Value → Shared → Prop} {s : Shared} {a : Addr} {es : Array (Int × Value)} {ep : Nat} {t : SetTable}
theorem hintS (X : SW w s.heap a es ep t) {Q : Bool → Shared → Prop} (h : Q false s) : wpAny (model prog w) A (Builtin.List.listLengthHint (.ref a)) Q E s := by
  unfold Builtin.List.listLengthHint
  refine wpAny_bind (wpAny_specialOf (tyS X) sLen.lookup ?_)
  (generalize hid : ("set.__len__" : String) = id0; (fail_if_success (clear hid id0)); wp_delta; rw [show splitId id0 = some ("set", "__len__") from by subst hid; decide +kernel]; subst hid)
  exact wpAny_bind (wpAny_isInstance (b := true) (tyS X) (by rw [isSubtype_type]; kernel_rfl) (wpAny_bind (wpAny_typeOf (tyS X) (wpAny_pure h))))
theorem acc_perm {xs acc : Array Value} {n : Nat} (hn : xs.size = n) (h : ItemsOf (fun i v => xs[i]? = some v) acc n) : acc = xs := by
  obtain ⟨h1, h2⟩ := h
  apply Array.ext_getElem?
  intro i
  by_cases c : i < acc.size
  · rw [Array.getElem?_eq_getElem c, h2 i _ (Array.getElem?_eq_getElem c)]
  · rw [Array.getElem?_eq_none (by omega), Array.getElem?_eq_none (by omega)]
/-- from here the list at S takes all that the iterator tells -/
theorem intoL {S I : Addr} {fp : List Addr} {n c : Nat} {P : Nat → Value → Prop} {St : Nat → Heap → Prop} {res : Value} {R : Result → Shared → Prop} (W : Walks prog w A.in1 I fp [I] n P St) (hn : n ≤ sizeLine) (hSf : S ∉ fp) (st : St 0 s.heap) (hS : s.heap.get? S = some (KRv.listAt #[] c))
    (h : ∀ h' tk acc c', ItemsOf P acc n → h'.get? S = some (KRv.listAt acc c') → (∀ b o, b ≠ S → b ≠ I → s.heap.get? b = some o → h'.get? b = some o) → R (.ok (.ret res)) { s with heap := h', toks := tk }) : codeAny (model prog w) A (.builtin "list.extend.loop" ⟨[.ref S, .ref I, res], []⟩) R s :=
  codeAny_extend_loopS W.toS hn S hSf res n 0 s #[] c rfl (Nat.zero_le _) st hS (ItemsOf.nil P) fun s' acc c' hm hS' hacc => by
    rw [KRv.moved_eq hm]
    exact h s'.heap s'.toks acc c' hacc hS' fun b o h1 h2 e => hm.heap b o (by simp [h1, h2]) e
theorem map_getD (es : Array (Int × Value)) : ∀ (ps : List Nat), ps.Perm (List.range es.size) → (ps.map fun p => (es.getD p (0, .none)).2).Perm (es.toList.map (·.2)) := fun ps hp => by
  refine (hp.map _).trans ?_
  have e : (List.range es.size).map (fun p => (es.getD p (0, .none)).2) = es.toList.map (·.2) := by
    apply List.ext_getElem?
    intro i
    rw [List.getElem?_map, List.getElem?_map]
    by_cases c : i < es.size
    · rw [List.getElem?_range c, Array.getElem?_toList, Array.getElem?_eq_getElem c]; simp [Array.getD, c]
    · rw [List.getElem?_eq_none (by simpa using c), List.getElem?_eq_none (by simpa using c)]; rfl
  rw [e]
theorem touch {M : Model} {S : Addr} {c : Nat} {Q : Unit → Shared → Prop} (hS : s.heap.get? S = some (KRv.listAt #[] c)) (h : ∀ g c', g.get? S = some (KRv.listAt #[] c') → (∀ b o, b ≠ S → s.heap.get? b = some o → g.get? b = some o) → Q () { s with heap := g }) : wpAny M A (Builtin.List.listTouch (.ref S)) Q E s := by
  refine (show wpAny M A (updateSeq S (·.push .none) >>= fun _ => updateSeq S (·.pop)) _ _ _ from wpAny_bind (wpAny_updateSeq hS rfl ?_))
  have e2 := Heap.get?_update_self (Obj.mapSeq (·.push Value.none)) hS rfl
  refine wpAny_updateSeq (hz := by seq_fits) e2 rfl (h _ _ (Heap.get?_update_self (Obj.mapSeq (·.pop)) e2 rfl) fun b o hb e => ?_)
  exact (Heap.get?_update_other _ _ (Ne.symm hb)).trans ((Heap.get?_update_other _ _ (Ne.symm hb)).trans e)
/-- the empty list at S takes all items of the set -/
theorem takeS {S : Addr} {c : Nat} {res : Value} {R : Result → Shared → Prop} (hh : A.handled = none) (X : SW w s.heap a es ep t) (hS : s.heap.get? S = some (KRv.listAt #[] c)) (hSa : S ≠ a)
    (h : ∀ h' tk d acc c', acc.toList.Perm (es.toList.map (·.2)) → h'.get? S = some (KRv.listAt acc c') → (∀ b o, b ≠ S → s.heap.get? b = some o → h'.get? b = some o) → R (.ok (.ret res)) { s with heap := h', toks := tk, drawn := d }) :
    wpAny (model prog w) A.in1 (Builtin.List.listExtendWith (.ref S) (.ref a) res)
      (fun fin s' => match fin with | .done f => R (.ok f) s' | .again c' => c'.quiet = true ∧ codeAny (model prog w) A c' R s') (fun e s' => R (.error e) s') s := by
  have hl := sizeLine_eq
  have hf := X.few
  have alt := Heap.lt_size X.at_
  have slt := Heap.lt_size hS
  unfold Builtin.List.listExtendWith
  refine wpAny_bind (wpAny_typeOf (tyS X) ?_)
  have h1 : Builtin.List.listSameRef (.ref S) (.ref a) = false := by simp [Builtin.List.listSameRef, hSa]
  rw [h1, show (Value.type "set" == Value.type "list") = false by decide, show (Value.type "set" == Value.type "tuple") = false by decide, Bool.or_false, Bool.or_false, if_neg Bool.false_ne_true]
  refine wpAny_bind (iterS X (fun c => ?_) fun c ps d hp => ?_)
  · have e1 : (s.heap.push (itAt (rawInt 0) 0 a es.size ep)).get? a = some (setAt es ep t) := Heap.get?_push_of_some _ X.at_
    have X1 : SW w (s.heap.push (itAt (rawInt 0) 0 a es.size ep)) a es ep t := ⟨e1, X.fits, X.few, X.led, X.up⟩
    refine wpAny_bind (wpAny_holding (hintS (s := { s with heap := s.heap.push (itAt (rawInt 0) 0 a es.size ep) }) X1 ?_))
    rw [if_pos (by simp; decide)]
    refine wpAny_bind (wpAny_rule (wpAny_bind (touch (s := { s with heap := s.heap.push (itAt (rawInt 0) 0 a es.size ep) }) (Heap.get?_push_of_some _ hS) fun g c2 eS kg => ?_)))
    have nIS : s.heap.objs.size ≠ S := Nat.ne_of_gt slt
    have e2 := kg a _ (Ne.symm hSa) e1
    have X2 : SW w g a es ep t := ⟨e2, X.fits, X.few, X.led, X.up⟩
    have go : ∀ (sl : Nat → Nat) (xs : Array Value), sl 0 = 0 → xs.size = es.size → xs.toList.Perm (es.toList.map (·.2)) → (∀ (s : Shared), SW w s.heap a es ep t → ∀ (A : Around) (E : Value → Shared → Prop) (Q : Option (Value × Nat) → Shared → Prop) (i : Nat), i ≤ es.size → Q ((xs[i]?).map fun x => (x, sl (i + 1))) s → wpAny (model prog w) A (setNext a (sl i) i ep) Q E s) →
        codeAny (model prog w) A (.builtin "list.extend.loop" ⟨[.ref S, .ref s.heap.objs.size, res], []⟩) R { s with heap := g } := fun sl xs h0 hx hp hN => by
      refine intoL (s := { s with heap := g }) (walkN (s := { s with heap := g }) (show A.in1.handled = none from hh) (Nat.ne_of_lt alt) sl xs hx hN X2) (by omega) ?_ ⟨by rw [h0]; exact kg _ _ nIS (Heap.get?_push_size _ rfl), e2⟩ eS fun h' tk acc c' hI hS' kk => h h' tk s.drawn acc c' (by rw [acc_perm hx hI]; exact hp) hS' fun b o hb e => kk b o hb (Nat.ne_of_lt (Heap.lt_size e)) (kg b o hb (Heap.get?_push_of_some _ e))
      simp only [List.mem_cons, List.not_mem_nil, or_false, not_or]
      exact ⟨Nat.ne_of_lt slt, hSa⟩
    refine wpAny_pure ⟨plainId_quiet F.plain_extend_loop _, ?_⟩
    cases hb : byT w with
    | true =>
      have pm := pick_perm (w.params.setOrder a ep) es
      refine go (fun _ => 0) ((pickOrder (w.params.setOrder a ep) es).map (·.2)) rfl (by rw [Array.size_map, ← Array.length_toList, pm.length_eq, Array.length_toList]) (by rw [Array.toList_map]; exact pm.map _) fun s' X' A' E' Q' i _ q => nextW hb X' ?_
      rw [Array.getElem?_map, Option.map_map] at q
      exact q
    | false =>
      rw [hb] at c
      refine go (slotOf t) (es.map (·.2)) rfl (by rw [Array.size_map]) (by rw [Array.toList_map]) fun s' X' A' E' Q' i hi q => nextP hb (by simpa using c) X' hi ?_
      rw [Array.getElem?_map, Option.map_map] at q
      exact q
  · have hpl := hp.length_eq
    rw [List.length_range] at hpl
    have sz : (s.heap.push (tupAt ps)).objs.size = s.heap.objs.size + 1 := Heap.size_push ..
    have e1 : ((s.heap.push (tupAt ps)).push (itAt (.ref s.heap.objs.size) 0 a es.size ep)).get? a = some (setAt es ep t) := Heap.get?_push_of_some _ (Heap.get?_push_of_some _ X.at_)
    have X1 : SW w ((s.heap.push (tupAt ps)).push (itAt (.ref s.heap.objs.size) 0 a es.size ep)) a es ep t := ⟨e1, X.fits, X.few, X.led, X.up⟩
    refine wpAny_bind (wpAny_holding (hintS (s := { s with heap := (s.heap.push (tupAt ps)).push (itAt (.ref s.heap.objs.size) 0 a es.size ep), drawn := d }) X1 ?_))
    rw [if_pos (by simp; decide)]
    refine wpAny_bind (wpAny_rule (wpAny_bind (touch (s := { s with heap := (s.heap.push (tupAt ps)).push (itAt (.ref s.heap.objs.size) 0 a es.size ep), drawn := d }) (Heap.get?_push_of_some _ (Heap.get?_push_of_some _ hS)) fun g c2 eS kg => ?_)))
    refine wpAny_pure ⟨plainId_quiet F.plain_extend_loop _, ?_⟩
    have lt1 : a < (s.heap.push (tupAt ps)).objs.size := by rw [sz]; exact Nat.lt_succ_of_lt alt
    have lt2 : S < (s.heap.push (tupAt ps)).objs.size := by rw [sz]; exact Nat.lt_succ_of_lt slt
    have lt3 : s.heap.objs.size < (s.heap.push (tupAt ps)).objs.size := by rw [sz]; exact Nat.lt_succ_self _
    have e2 := kg a _ (Ne.symm hSa) e1
    have X2 : SW w g a es ep t := ⟨e2, X.fits, X.few, X.led, X.up⟩
    refine intoL (s := { s with heap := g, drawn := d }) (walkD (T := s.heap.objs.size) (s := { s with heap := g, drawn := d }) (show A.in1.handled = none from hh) (Nat.ne_of_lt lt1) (Nat.ne_of_lt lt3) ps hpl (fun p hp' => List.mem_range.mp (hp.mem_iff.mp hp')) X2) (by omega) ?_ ⟨kg _ _ (Nat.ne_of_gt lt2) (Heap.get?_push_size _ rfl), e2, kg _ _ (Nat.ne_of_gt slt) (Heap.get?_push_of_some _ (Heap.get?_push_size _ rfl))⟩ eS fun h' tk acc c' hI hS' kk => h h' tk d acc c' ?_ hS' fun b o hb e => kk b o hb ?_ (kg b o hb (Heap.get?_push_of_some _ (Heap.get?_push_of_some _ e)))
    · simp only [List.mem_cons, List.not_mem_nil, or_false, not_or]
      exact ⟨Nat.ne_of_lt lt2, hSa, Nat.ne_of_lt slt⟩
    · rw [acc_perm (by rw [List.size_toArray, List.length_map]; exact hpl) hI, List.toList_toArray]
      exact map_getD es ps hp
    · exact Nat.ne_of_lt (Nat.lt_trans (Heap.lt_size e) lt3)
theorem collectS {Q : List Value → Shared → Prop} (hh : A.handled = none) (X : SW w s.heap a es ep t)
    (h : ∀ h' tk d (vs : List Value), vs.Perm (es.toList.map (·.2)) → (∀ b o, s.heap.get? b = some o → h'.get? b = some o) → Q vs { s with heap := h', toks := tk, drawn := d }) : wpAny (model prog w) A (collect (.ref a)) Q E s := by
  unfold collect
  refine wpAny_bind (wpAny_runValue (codeAny_builtin F.entry_proto_collect ?_))
  rw [Around.under_plainId F.plain_proto_collect _]
  refine (show wpAny (model prog w) A.in1 (newList [] >>= fun l => again (.builtin "list.__iadd__" ⟨[l, .ref a], []⟩)) _ _ s from wpAny_bind (wpAny_newObj_type (wpAny_pure ⟨plainId_quiet F.plain_list_iadd _, codeAny_builtin F.entry_list_iadd ?_⟩)))
  rw [Around.under_plainId F.plain_list_iadd _]
  have X1 : SW w (s.heap.push (KRv.listAt #[] 0)) a es ep t := ⟨Heap.get?_push_of_some _ X.at_, X.fits, X.few, X.led, X.up⟩
  have fin : ∀ s', (∃ h' tk d acc c', s' = { s with heap := h', toks := tk, drawn := d } ∧ acc.toList.Perm (es.toList.map (·.2)) ∧ h'.get? s.heap.objs.size = some (KRv.listAt acc c') ∧ ∀ b o, s.heap.get? b = some o → h'.get? b = some o) →
      wpAny (model prog w) A (do
        match (← load s.heap.objs.size).data with
        | .seq xs _ => pure xs.toList
        | _ => unsupported "internal:collect") Q E s' := by
    rintro s' ⟨h', tk, d, acc, c', rfl, hp, e, k⟩
    exact wpAny_bind (wpAny_load e (wpAny_pure (h h' tk d acc.toList hp k)))
  refine (show wpAny (model prog w) A.in1 (Builtin.List.listExtendWith (.ref s.heap.objs.size) (.ref a) (.ref s.heap.objs.size)) _ _ _ from ?_)
  refine wpAny_mono (takeS (s := { s with heap := s.heap.push (KRv.listAt #[] 0) }) (R := fun r s' => r = .ok (.ret (.ref s.heap.objs.size)) ∧ ∃ h' tk d acc c', s' = { s with heap := h', toks := tk, drawn := d } ∧ acc.toList.Perm (es.toList.map (·.2)) ∧ h'.get? s.heap.objs.size = some (KRv.listAt acc c') ∧ ∀ b o, s.heap.get? b = some o → h'.get? b = some o) hh X1 (Heap.get?_push_size _ rfl) (Nat.ne_of_gt (Heap.lt_size X.at_))
    (fun h' tk d acc c' hp e k => ⟨rfl, h', tk, d, acc, c', rfl, hp, e, fun b o eb => k b o (Nat.ne_of_lt (Heap.lt_size eb)) (Heap.get?_push_of_some _ eb)⟩)) (fun fn s' h => ?_) (fun e s' h => absurd h.1 (by simp))
  cases fn with
  | done f =>
    obtain ⟨e, h⟩ := h
    cases e
    exact fin s' h
  | again c' => exact ⟨h.1, codeAny_mono h.2 fun r s'' hr => by obtain ⟨rfl, hr⟩ := hr; exact fin s'' hr⟩
end
end KSs
namespace KSs
open PySem PyProof.Rows
section
variable {prog : Program} {w : World} {A : Around} {E : Value → Shared → Prop} {s : Shared} {a : Addr} {es : Array (Int × Value)} {ep : Nat} {t : SetTable}
theorem ints_of : ∀ {vs : List Value}, (∀ v ∈ vs, ∃ u, v = .int (keyOf v) u) → IntsAre vs (vs.map keyOf)
  | [], _ => IntsAre.nil
  | v :: vs, h => by
    obtain ⟨u, e⟩ := h v (List.mem_cons_self ..)
    rw [List.map_cons, e]
    exact IntsAre.cons _ _ (ints_of fun x hx => h x (List.mem_cons_of_mem _ hx))
theorem sortedS {Q : Value → Shared → Prop} (hh : A.handled = none) (X : SW w s.heap a es ep t) (hall : AllI es.toList) (h64 : es.size < 64)
    (h : ∀ (h1 h' : Heap) (tk : Nat) (d : Drawn) (out : Array Value) (c : Nat) (ns' : List Int), IntsAre out.toList ns' → ns'.Perm (keys es) → ns'.Pairwise (· ≤ ·) → (∀ b o, s.heap.get? b = some o → h1.get? b = some o) → (∀ b o, h1.get? b = some o → h'.get? b = some o) → h'.get? h1.objs.size = some (KRv.listAt out c) → Q (.ref h1.objs.size) { s with heap := h', toks := tk, drawn := d }) :
    wpAny (model prog w) A (call (.builtin "sorted") [.ref a]) Q E s := by
  refine Calls.call_function_entry kind_sorted plain_sorted entry_sorted (args_sorted1 _) ?_
  unfold Builtin.«sorted»
  refine wpAny_bind (m := checkCount "sorted" 1 1 _) (wpAny_pure (wpAny_bind (collectS (show A.in1.handled = none from hh) X fun h' tk d vs hp k => ?_)))
  have hl := sizeLine_eq
  have hlen : vs.length = es.size := by have z := hp.length_eq; simpa using z
  have hi : IntsAre vs (vs.map keyOf) := ints_of fun v hv => by
    obtain ⟨e, he, rfl⟩ := List.mem_map.mp (hp.mem_iff.mp hv)
    exact (hall e he).1
  have hks : (vs.map keyOf).Perm (keys es) := by
    have z := hp.map keyOf
    rwa [List.map_map] at z
  have hO : (h'.push (KRv.listAt vs.toArray 0)).get? h'.objs.size = some (KRv.listAt vs.toArray 0) := Heap.get?_push_size _ rfl
  refine wpAny_bind (wpAny_newObj_type ?_ (by show vs.toArray.size ≤ sizeLine; rw [List.size_toArray]; omega))
  refine wpAny_bind (wpAny_holding (wpAny_call_entry slot_list_sort ⟨_, hO, rfl⟩ entry_list_sort (list_sort_tree hO hi (by omega) fun out ns' a1 a2 a3 => ⟨_, rfl, ?_⟩) (args_list_sort _)))
  obtain ⟨c, hc⟩ := sortedHeap_at (out := out) hO
  refine wpAny_pure ⟨_, rfl, h h' _ _ _ out c ns' a1 (a2.trans hks) a3 k (fun b o z => ?_) hc⟩
  rw [sortedHeap_old (Nat.ne_of_lt (Heap.lt_size z)) (by rw [Heap.size_push]; exact Nat.lt_succ_of_lt (Heap.lt_size z))]
  exact Heap.get?_push_of_some _ z
end
end KSs
namespace L2
open PySem PySem.Spec PyProof.Rows
section
variable {X : Cx} {e : Expr} {te : TE} {p p2 pos pos2 : Pos}
theorem Inv.drew {pins : List (Addr × Obj)} {σ : St} {H : Hp} {s : Shared} {d : Drawn} (I : Inv X pins σ H s) : Inv X pins σ H { s with drawn := d } := ⟨I.ok, I.os, I.bare, I.base, I.loc, I.cell, I.free, I.freeC, I.pin, I.hok, I.len⟩
theorem ints_vals : ∀ {ns : List Int} {us : List Value}, Vals (ns.map V.int) us → IntsAre us ns
  | [], _, h => by cases h; exact IntsAre.nil
  | n :: ns, _, h => by
    cases h with
    | cons r rr =>
      obtain ⟨t, rfl⟩ := r
      exact IntsAre.cons _ _ (ints_vals rr)
/-- rising, the same members -/
def Srt (ns ms : List Int) : Prop := ms.Pairwise (· < ·) ∧ ∀ j, j ∈ ms ↔ j ∈ ns
theorem srt_of {ns ms ks : List Int} (hnd : ks.Nodup) (hm : ∀ j, j ∈ ks ↔ j ∈ ns) (hp : ms.Perm ks) (hs : ms.Pairwise (· ≤ ·)) : Srt ns ms := by
  have nd : ms.Nodup := hp.nodup_iff.mpr hnd
  refine ⟨?_, fun j => by rw [hp.mem_iff, hm]⟩
  have z : ms.Pairwise fun a b => a ≤ b ∧ a ≠ b := List.pairwise_and_iff.mpr ⟨hs, nd⟩
  exact z.imp fun h => by omega
/-- sorted(set(e)) -/
def tSS (K : PySem.W.Frag) (te : TE) : TE := fun σ H Q => te σ H fun x H1 => ∃ (l : Addr) (ns : List Int), x = .ref l ∧ SqL K H1 l (ns.map V.int) ∧ ns.length < 64 ∧ ∀ ms, Srt ns ms → ∀ l', H1 l' = none → Q (.ref l') (upd H1 l' (.lst (ms.map V.int)))
theorem sorted_end {pins : List (Addr × Obj)} {σ : St} {H : Hp} {s : Shared} {a : Addr} {es : Array (Int × Value)} {ep : Nat} {t : SetTable} {Q : VK} {ns : List Int} (hc : X.calm = true) (I : Inv X pins σ H s) (W : KSs.SW X.w s.heap a es ep t) (hall : KSs.AllI es.toList) (hnd : (KSs.keys es).Nodup) (h64 : es.size < 64) (hm : ∀ j, j ∈ KSs.keys es ↔ j ∈ ns)
    (q : ∀ ms, Srt ns ms → ∀ l', H l' = none → Q (.ref l') (upd H l' (.lst (ms.map V.int)))) : wpAny (model X.prog X.w) X.A (call (.builtin "sorted") [.ref a]) (EP X pins σ Q) X.xe s := by
  have hl := sizeLine_eq
  refine KSs.sortedS (I.ok.hd hc) W hall h64 fun h1 h' tk d out c ms a1 a2 a3 k1 k2 e => ?_
  have I1 : Inv X pins σ H { s with heap := h1 } := I.kept (t' := s.toks) k1
  have len : ms.length ≤ sizeLine := by
    have z := a2.length_eq
    have z2 : (KSs.keys es).length = es.size := by simp [KSs.keys]
    omega
  have I2 : Inv X pins σ (upd H h1.objs.size (.lst (ms.map V.int))) { s with heap := h', toks := tk } :=
    I1.laid (t' := tk) k2 (Nat.le_refl _) (show ObjOk X.prog X.w _ h' _ (.lst (ms.map V.int)) from ⟨by rw [List.length_map]; exact len, out.toList, c, vals_ints a1, by simpa using e⟩)
  exact ⟨.ref h1.objs.size, _, I2.drew (d := d), rfl, q ms (srt_of hnd hm a2 a3) _ (I1.hok.fresh (Nat.le_refl _))⟩
/-- set(e): the set itself is nobody's -/
theorem ev_set {pins : List (Addr × Obj)} {s : Shared} {σ : St} {H : Hp} {R : Addr → List Int → Hp → Prop} (hc : X.calm = true) (hg : Gl X "set") (hm : X.mg "set" = none) (he : PE X e te) (hs : unstar e = true) (I : Inv X pins σ H s)
    (h : te σ H fun x H1 => ∃ (l : Addr) (ns : List Int), x = .ref l ∧ SqL X.K H1 l (ns.map V.int) ∧ ns.length < 64 ∧ R l ns H1) :
    wpAny (model X.prog X.w) X.A (eval (.Call (.Name "set" p2) [e] [] pos2) X.env) (fun v s' => ∃ (l S : Addr) (ns : List Int) (H1 : Hp) (es : Array (Int × Value)) (ep : Nat) (t : SetTable), v = .ref S ∧ Inv X pins σ H1 s' ∧ KSs.SX X.w s'.heap S es ep t ∧ H1 S = none ∧ es.size ≤ ns.length ∧ ns.length < 64 ∧ (∀ j, j ∈ KSs.keys es ↔ j ∈ ns) ∧ R l ns H1) X.xe s := by
  refine wpAny_Call_Name_kw (ld_blt I hg hm PyProof.Rows.boot_set ?_)
  refine PyProof.Rows.callWith_type1 ?_ (starEach_one hs) rfl
  rw [starEach_one hs]
  show wpAny _ _ (spliced ((false, eval e X.env) :: backTo pos2 (starEach [] X.env))) _ _ s
  refine Calls.spliced_cons (thn (he pins s σ H _ I h) fun u s1 ⟨x, H1, I1, r1, l, ns, ex, hq, hl, q⟩ => Calls.spliced_nil ?_)
  subst ex
  cases r1
  obtain ⟨its, rv, pl, hz⟩ := I1.list hq
  have hlen := rv.length
  rw [List.length_map] at hlen
  refine KSs.ofList (items := its.toArray) (ns := ns) (I1.ok.hd hc) pl.isList (by simpa using ints_vals rv) (by rw [List.size_toArray]; omega) fun h' tk es ep t SX z m k => ?_
  exact ⟨l, s1.heap.objs.size, ns, H1, es, ep, t, rfl, I1.kept (t' := tk) k, SX, I1.hok.fresh (Nat.le_refl _), by have y : its.toArray.size = its.length := List.size_toArray; omega, hl, m, q⟩
theorem pe_sortedSet (hc : X.calm = true) (hgs : Gl X "sorted") (hms : X.mg "sorted" = none) (hg : Gl X "set") (hm : X.mg "set" = none) (he : PE X e te) (hs : unstar e = true) : PE X (.Call (.Name "sorted" p) [.Call (.Name "set" p2) [e] [] pos2] [] pos) (tSS X.K te) := by
  intro pins s σ H Q I h
  refine wpAny_Call_Name_kw (ld_blt I hgs hms PyProof.Rows.boot_sorted ?_)
  refine PyProof.Rows.callWith_builtin1 ?_ (starEach_one rfl) rfl
  rw [starEach_one rfl]
  show wpAny _ _ (spliced ((false, eval (.Call (.Name "set" p2) [e] [] pos2) X.env) :: backTo pos (starEach [] X.env))) _ _ s
  refine Calls.spliced_cons (thn (ev_set (R := fun _ ns H1 => ∀ ms, Srt ns ms → ∀ l', H1 l' = none → Q (.ref l') (upd H1 l' (.lst (ms.map V.int)))) hc hg hm he hs I h) fun v s1 h1 => Calls.spliced_nil ?_)
  obtain ⟨l, S, ns, H1, es, ep, t, rfl, I1, SX, _, z, hl, m, q⟩ := h1
  exact sorted_end hc I1 SX.sw SX.all SX.nd (by omega) m q
end
end L2
namespace L3
open PySem PyProof L2
section
variable {X : Cx} {e : Expr} {te : DTE} {p p2 pos pos2 : Pos}
abbrev dSS (te : DTE) : DTE := fun ρ G Q => te ρ G fun x G1 => match x with
  | .ref l => onL G1 l fun ds => ∃ ns, asInts ds = some ns ∧ ns.length < 64 ∧ ∀ ms, Srt ns ms → ∀ l', G1 l' = none → Q (.ref l') (up G1 l' (.lst (ms.map D.int)))
  | _ => False
theorem ae_sortedSet (hgs : Gl X "sorted") (hms : X.mg "sorted" = none) (hg : Gl X "set") (hm : X.mg "set" = none) (he : AE X e te) (hc : X.calm = true := by rfl) (hs : unstar e = true := by rfl) : AE X (.Call (.Name "sorted" p) [.Call (.Name "set" p2) [e] [] pos2] [] pos) (dSS te) := by
  obtain ⟨ce, je, re⟩ := he.run
  refine ⟨_, ⟨pe_sortedSet hc hgs hms hg hm je.run hs⟩, fun ρ G DQ σ H Q B q F => re ρ G _ σ H _ B q fun x G1 v H1 g1 ax q1 => ?_⟩
  cases x with
  | ref l =>
    cases ax
    obtain ⟨ds, vs, ⟨ns, e1, hl, k⟩, s, rl⟩ := onL_get g1.vw q1
    rw [asInts_eq e1] at rl
    rw [rl.ints] at s
    exact ⟨l, ns, rfl, s, hl, fun ms hs l' hl' => F (.ref l') _ _ _ (g1.trans (Go.newL g1.vw hl' (AbsL.of_ints ms))) rfl (k ms hs l' (g1.vw.none hl'))⟩
  | _ => exact (show False from q1).elim
end
end L3
namespace L2
open PySem PySem.Spec PyProof.Rows
section
variable {X : Cx}
end
end L2
namespace L3
open PySem PyProof L2
section
variable {X : Cx}
end
end L3
namespace KSs
open PySem PyProof.Rows
section
variable {prog : Program} {w : World} {A : Around} {E : Value → Shared → Prop} {s : Shared} {a : Addr} {es : Array (Int × Value)} {ep : Nat} {t : SetTable}
/-- a set of ints, to be read -/
structure SR (w : World) (h : Heap) (a : Addr) (es : Array (Int × Value)) (ep : Nat) (t : SetTable) : Prop extends SW w h a es ep t where
  all : AllI es.toList
theorem SX.sr {h : Heap} (X : SX w h a es ep t) : SR w h a es ep t := ⟨X.sw, X.all⟩
theorem SX.mono {h h' : Heap} (X : SX w h a es ep t) (e : h'.get? a = some (setAt es ep t)) : SX w h' a es ep t := ⟨e, X.all, X.nd, X.fits, X.few, X.cl⟩
theorem findS {k : Int} {u : Tok} {Q : Option Nat → Shared → Prop} (X : SR w s.heap a es ep t) (h : Q (es.toList.findIdx? fun e => (intKind prog w).is k e.2) s) : wpAny (model prog w) A (setFind a (.int k u) (hashInt k)) Q E s := by
  have els := X.all.elems (prog := prog) (w := w)
  have sb : es.size < scanBound := by have := X.few; unfold scanBound; omega
  unfold setFind setFindIn
  refine wpAny_bind (wpAny_setState_of X.at_ rfl X.fits ?_)
  dsimp only
  rw [byScan_of (knd := intKind prog w) (x := .int k u) rfl sb els, if_pos rfl]
  refine wpAny_bind (wpAny_rule (wpAny_bind (wpAny_setScan_of (knd := intKind prog w) (k := k) (intKind_is _ _ _ _) X.at_ rfl X.fits els ?_)))
  cases hi : List.findIdx? (fun e => (intKind prog w).is k e.2) es.toList with
  | some j => rw [hi] at h; dsimp only; rw [Nat.zero_add]; exact wpAny_pure h
  | none => rw [hi] at h; exact wpAny_pure h
theorem found_iff (hall : AllI es.toList) (k : Int) : (es.toList.findIdx? fun e => (intKind prog w).is k e.2).isSome = decide (k ∈ keys es) := by
  rw [Bool.eq_iff_iff, decide_eq_true_eq]
  have z : (es.toList.findIdx? fun e => (intKind prog w).is k e.2).isSome = true ↔ ∃ e ∈ es.toList, (intKind prog w).is k e.2 = true := by
    rw [List.findIdx?_isSome, List.any_eq_true]
  rw [z, hall.met]
theorem walkA {Q : Array (Int × Value) → Shared → Prop} (X : SW w s.heap a es ep t) (h : ∀ (xs : Array (Int × Value)) (d : Drawn), xs.toList.Perm es.toList → Q xs { s with drawn := d }) : wpAny (model prog w) A (setWalk a) Q E s := by
  unfold setWalk
  refine wpAny_bind (wpAny_setState_of X.at_ rfl X.fits (wpAny_bind (text _ ?_)))
  cases hb : byT w with
  | true => rw [if_pos rfl]; exact wpAny_bind (wpAny_askSetting (wpAny_pure (h _ s.drawn (pick_perm _ es))))
  | false =>
    rw [if_neg (by simp)]
    refine (show wpAny (model prog w) A (if (!t.plain && decide (es.size > 1)) = true then _ else _) _ _ s from ?_)
    split
    · exact wpAny_bind (draw _ _ _ _ (by simp) fun ys d hp => wpAny_pure (h ys.toArray d (by simpa using hp)))
    · refine (show wpAny (model prog w) A ((if (!t.led && decide (es.size > 1)) = true then unsupported "set:maker-not-led" else pure ()) >>= fun _ => _) _ _ s from ?_)
      rw [X.led hb, if_neg (by simp)]
      exact wpAny_bind (wpAny_pure (wpAny_pure (h es s.drawn (.refl _))))
/-- none of these sets' elements can be seen -/
theorem quietS : ∀ (as : List Addr) (s : Shared) (Q : Bool → Shared → Prop), (∀ b ∈ as, ∃ es ep t, SR w s.heap b es ep t) → Q true s → wpAny (model prog w) A (setsQuiet as) Q E s := by
  intro as s Q hs q
  unfold setsQuiet
  refine wpAny_bind (wpAny_forIn_list _ (fun rest r s' => r = (none, PUnit.unit) ∧ s' = s ∧ ∀ b ∈ rest, ∃ es ep t, SR w s.heap b es ep t) _ ?_ ?_ _ _ ⟨rfl, rfl, hs⟩)
  · rintro b rest r s' ⟨rfl, rfl, hr⟩
    obtain ⟨es, ep, t, X⟩ := hr b (List.mem_cons_self ..)
    refine wpAny_bind (wpAny_setEntries_of X.at_ rfl X.fits ?_)
    refine wpAny_bind (wpAny_mono (MeetsSeq2.wpAny_forIn_array _ (fun rs r s2 => r = (none, PUnit.unit) ∧ s2 = s' ∧ ∀ e ∈ rs, ∃ u, e.2 = .int (keyOf e.2) u) (fun r s2 => r = (none, PUnit.unit) ∧ s2 = s') ?zt (fun r s2 h => ⟨h.1, h.2.1⟩) es _ ⟨rfl, rfl, fun e he => (X.all e he).1⟩) ?zp fun _ _ h => h)
    case zt =>
      rintro e rs r s2 ⟨rfl, rfl, h2⟩
      obtain ⟨e1, e2⟩ := e
      obtain ⟨u, hu⟩ := h2 (e1, e2) (List.mem_cons_self ..)
      dsimp only at hu ⊢
      rw [hu]
      exact wpAny_pure ⟨rfl, rfl, fun e he => h2 e (List.mem_cons_of_mem _ he)⟩
    case zp =>
      rintro r s2 ⟨rfl, rfl⟩
      exact wpAny_pure ⟨rfl, rfl, fun b hb => hr b (List.mem_cons_of_mem _ hb)⟩
  · rintro r s' ⟨rfl, rfl, _⟩
    exact wpAny_pure q
/-- the walk that nobody sees, of a filled into f -/
theorem walkF {f : Addr} {os : List Addr} {ef : Array (Int × Value)} {pf : Nat} {tf : SetTable} {Q : Array (Int × Value) → Shared → Prop} (X : SR w s.heap a es ep t) (hos : ∀ b ∈ os, ∃ es ep t, SR w s.heap b es ep t) (Y : SX w s.heap f ef pf tf)
    (h : ∀ (xs : Array (Int × Value)) (h' : Heap) (d : Drawn) (pf' : Nat) (tf' : SetTable), xs.toList.Perm es.toList → Heap.SameBut f s.heap h' → SX w h' f ef pf' tf' → Q xs { s with heap := h', drawn := d }) : wpAny (model prog w) A (setWalkUnseen a os (some f)) Q E s := by
  unfold setWalkUnseen
  refine wpAny_bind (wpAny_setState_of X.at_ rfl X.fits (wpAny_bind (text _ ?_)))
  have byWalk : wpAny (model prog w) A (setWalk a) Q E s := walkA X.toSW fun xs d hp => h xs s.heap d pf tf hp (Heap.SameBut.refl f _) Y
  split
  · exact byWalk
  · next c =>
    have hb : byT w = false := by
      cases e : byT w with
      | false => rfl
      | true => rw [e] at c; exact absurd rfl c
    refine wpAny_bind (quietS _ s _ (fun b hb => ?_) ?_)
    · rcases List.mem_cons.mp hb with rfl | hb
      · exact ⟨es, ep, t, X⟩
      · exact hos b hb
    rw [if_neg (by simp)]
    refine wpAny_bind (wpAny_rule ?_)
    refine wpAny_bind (wpAny_setState_of Y.at_ rfl Y.fits ?_)
    dsimp only
    split
    · refine wpAny_bind (wpAny_storeSet_of Y.at_ rfl (wpAny_pure ?_) (few_line Y.few))
      refine h es _ s.drawn (pf + 1) _ (.refl _) (Heap.SameBut.update s.heap f _) ⟨put_get Y.at_ _ _, Y.all, Y.nd, Y.fits, Y.few, Y.cl.up, fun z => ?_, Y.cl.nod⟩
      show (tf.led && t.led) = true
      rw [Y.cl.led z, X.led z]; rfl
    · exact wpAny_pure (h es s.heap s.drawn pf tf (.refl _) (Heap.SameBut.refl f _) Y)
theorem baseS (X : SW w s.heap a es ep t) {Q : Value → Shared → Prop} (h : Q (.type "set") s) : wpAny (model prog w) A (Builtin.Frozenset.baseOf a) Q E s := by
  unfold Builtin.Frozenset.baseOf
  refine wpAny_bind (wpAny_isInstance (tyS X) sub_set_self (wpAny_pure ?_))
  rw [if_pos rfl]; exact h
theorem newSetS {Q : Value → Shared → Prop} (h : Q (.ref s.heap.objs.size) { s with heap := s.heap.push (set0 w) }) : wpAny (model prog w) A (newSet (.type "set")) Q E s := by
  unfold newSet
  refine wpAny_bind (text _ ?_)
  unfold newObj
  exact wpAny_bind (wpAny_alloc (wpAny_pure h))
theorem anyS (X : SW w s.heap a es ep t) {Q : Bool → Shared → Prop} (h : Q true s) : wpAny (model prog w) A (Builtin.Frozenset.isAnySet (.ref a)) Q E s := by
  unfold Builtin.Frozenset.isAnySet
  refine (show wpAny (model prog w) A (isInstance (.ref a) (.type "set") >>= fun (b : Bool) => _) _ _ s from wpAny_bind (wpAny_isInstance (tyS X) sub_set_self ?_))
  exact wpAny_pure h
theorem unchS {id : String} (X : SW w s.heap a es ep t) {Q : Unit → Shared → Prop} (h : Q () s) : wpAny (model prog w) A (Builtin.Frozenset.unchanged id a ep) Q E s := by
  unfold Builtin.Frozenset.unchanged
  refine wpAny_bind (wpAny_setEpoch_of X.at_ rfl X.fits ?_)
  rw [if_neg (by simp)]
  exact wpAny_pure h
theorem sizeS (X : SW w s.heap a es ep t) {Q : Nat → Shared → Prop} (h : Q es.size s) : wpAny (model prog w) A (Builtin.Frozenset.sizeOf a) Q E s := by
  unfold Builtin.Frozenset.sizeOf
  exact wpAny_bind (wpAny_setEntries_of X.at_ rfl X.fits (wpAny_pure h))
end
end KSs
namespace KSs
open PySem PyProof.Rows
def nx (S i : Nat) : Nat := (i * 5 + 1) % S
def orb (S : Nat) : Nat → Nat → List Nat
  | 0, _ => []
  | n + 1, i => i :: orb S n (nx S i)
def itn (S : Nat) : Nat → Nat → Nat
  | 0, i => i
  | n + 1, i => itn S n (nx S i)
theorem orb_get (S : Nat) : ∀ (n i b : Nat), b < n → (orb S n i)[b]? = some (itn S b i)
  | 0, _, _, h => by omega
  | n + 1, i, 0, _ => rfl
  | n + 1, i, b + 1, h => by rw [orb, List.getElem?_cons_succ, orb_get S n _ b (by omega)]; rfl
theorem orb_len (S : Nat) : ∀ n i, (orb S n i).length = n
  | 0, _ => rfl
  | n + 1, i => by rw [orb, List.length_cons, orb_len S n]
theorem itn_add (S : Nat) : ∀ (a b i : Nat), itn S (a + b) i = itn S b (itn S a i)
  | 0, b, i => by rw [Nat.zero_add]; rfl
  | a + 1, b, i => by rw [show a + 1 + b = (a + b) + 1 by omega, itn, itn_add S a b]; rfl
def fullB (S : Nat) : Bool := ((List.range S).all fun f => (orb S S 0).contains f) && itn S S 0 == 0
theorem full_reach {S : Nat} (h : fullB S = true) {i f : Nat} (hi : i < S) (hf : f < S) : ∃ m, m < S ∧ itn S m i = f := by
  unfold fullB at h
  rw [Bool.and_eq_true, List.all_eq_true, beq_iff_eq] at h
  have at_ : ∀ x, x < S → ∃ b, b < S ∧ itn S b 0 = x := fun x hx => by
    have z := h.1 x (List.mem_range.mpr hx)
    have z2 : x ∈ orb S S 0 := by simpa using z
    obtain ⟨b, hb, e⟩ := List.getElem_of_mem z2
    rw [orb_len] at hb
    refine ⟨b, hb, ?_⟩
    have e2 := orb_get S S 0 b hb
    rw [List.getElem?_eq_getElem (by rw [orb_len]; exact hb), e] at e2
    exact (Option.some.inj e2).symm
  obtain ⟨a, ha, rfl⟩ := at_ i hi
  obtain ⟨b, hb, rfl⟩ := at_ f hf
  rcases Nat.lt_or_ge b a with c | c
  · refine ⟨S - a + b, by omega, ?_⟩
    rw [← itn_add, show a + (S - a + b) = S + b by omega, itn_add, h.2]
  · exact ⟨b - a, by omega, by rw [← itn_add, show a + (b - a) = b by omega]⟩
theorem full32 : fullB 32 = true := by decide +kernel
theorem full64 : fullB 64 = true := by decide +kernel
theorem full128 : fullB 128 = true := by decide +kernel
/-- a slot that is free is found where the row comes to one -/
theorem free_now {mask : Nat} {ow : Array (Option Nat)} {i p fuel : Nat} (h : ow.getD i (some 0) = none) : ∃ j, SetTable.layClean.free mask ow (fuel + 1) i p = some j := by
  unfold SetTable.layClean.free
  have z : ((List.range (SetTable.runEnd mask i + 1 - i)).find? fun k => (ow.getD (i + k) (some 0)).isNone).isSome = true := by
    rw [List.find?_isSome]
    refine ⟨0, List.mem_range.mpr ?_, by rw [Nat.add_zero, h]; rfl⟩
    unfold SetTable.runEnd; split <;> omega
  cases e : (List.range (SetTable.runEnd mask i + 1 - i)).find? fun k => (ow.getD (i + k) (some 0)).isNone with
  | none => rw [e] at z; cases z
  | some k => exact ⟨i + k, rfl⟩
theorem free_later {mask : Nat} {ow : Array (Option Nat)} {i p fuel : Nat} (h : ∃ j, SetTable.layClean.free mask ow fuel (SetTable.leap mask i p).1 (SetTable.leap mask i p).2 = some j) : ∃ j, SetTable.layClean.free mask ow (fuel + 1) i p = some j := by
  rw [SetTable.layClean.free]
  cases e : (List.range (SetTable.runEnd mask i + 1 - i)).find? fun k => (ow.getD (i + k) (some 0)).isNone with
  | none => exact h
  | some k => exact ⟨i + k, rfl⟩
theorem free_itn {mask : Nat} {ow : Array (Option Nat)} : ∀ (m i fuel : Nat), m < fuel → ow.getD (itn (mask + 1) m i) (some 0) = none → ∃ j, SetTable.layClean.free mask ow fuel i 0 = some j
  | 0, i, fuel + 1, _, h => free_now h
  | m + 1, i, fuel + 1, hm, h => by
    refine free_later ?_
    have e : SetTable.leap mask i 0 = (nx (mask + 1) i, 0) := by unfold SetTable.leap nx; simp
    rw [e]
    exact free_itn m _ fuel (by omega) h
theorem free_far {mask : Nat} {ow : Array (Option Nat)} (hS : fullB (mask + 1) = true) {f : Nat} (hf : f ≤ mask) (hfr : ow.getD f (some 0) = none) : ∀ (n i p fuel : Nat), p < 32 ^ n → i ≤ mask → n + mask + 1 ≤ fuel → ∃ j, SetTable.layClean.free mask ow fuel i p = some j
  | 0, i, p, fuel, hp, hi, hfu => by
    have : p = 0 := by simp at hp; exact hp
    subst this
    obtain ⟨m, hm, e⟩ := full_reach hS (i := i) (f := f) (by omega) (by omega)
    exact free_itn m i fuel (by omega) (by rw [e]; exact hfr)
  | n + 1, i, p, fuel, hp, hi, hfu => by
    obtain ⟨k, rfl⟩ : ∃ k, fuel = k + 1 := ⟨fuel - 1, by omega⟩
    refine free_later (free_far hS hf hfr n _ _ k ?_ ?_ (by omega))
    · show p / 32 < 32 ^ n
      rw [Nat.div_lt_iff_lt_mul (by decide)]
      rw [Nat.pow_succ] at hp; exact hp
    · show (i * 5 + 1 + p / 32) % (mask + 1) ≤ mask
      have := Nat.mod_lt (i * 5 + 1 + p / 32) (show 0 < mask + 1 by omega)
      omega
theorem free_is {mask : Nat} {ow : Array (Option Nat)} : ∀ (fuel i p j : Nat), SetTable.layClean.free mask ow fuel i p = some j → ow.getD j (some 0) = none
  | 0, _, _, _, h => by cases h
  | fuel + 1, i, p, j, h => by
    rw [SetTable.layClean.free] at h
    cases e : (List.range (SetTable.runEnd mask i + 1 - i)).find? fun k => (ow.getD (i + k) (some 0)).isNone with
    | none => rw [e] at h; exact free_is fuel _ _ j h
    | some k =>
      rw [e] at h
      cases h
      have z := List.find?_some e
      cases q : ow.getD (i + k) (some 0) with
      | none => rfl
      | some y => rw [q] at z; cases z
def live (ow : Array (Option Nat)) : List Nat := ow.toList.filterMap id
theorem live_set {ow : Array (Option Nat)} {j k : Nat} (h : ow.getD j (some 0) = none) : (live (ow.setIfInBounds j (some k))).Perm (k :: live ow) ∧ j < ow.size := by
  have lt : j < ow.size := by
    rcases Nat.lt_or_ge j ow.size with z | z
    · exact z
    · simp [Array.getD, Nat.not_lt.mpr z] at h
  have hj : ow[j] = none := by simpa [Array.getD, lt] using h
  refine ⟨?_, lt⟩
  unfold live
  have e0 : ow.toList = ow.toList.take j ++ ow.toList[j]'(by simpa using lt) :: ow.toList.drop (j + 1) := by
    rw [← List.drop_eq_getElem_cons (by simpa using lt), List.take_append_drop]
  have e1 : (ow.setIfInBounds j (some k)).toList = ow.toList.take j ++ some k :: ow.toList.drop (j + 1) := by
    rw [Array.toList_setIfInBounds, List.set_eq_take_append_cons_drop, if_pos (by simpa using lt)]
  have hj2 : ow.toList[j]'(by simpa using lt) = none := by simpa using hj
  rw [hj2] at e0
  rw [e1]
  conv => rhs; rw [e0]
  simp only [List.filterMap_append, List.filterMap_cons, id]
  exact List.perm_middle
theorem live_len (ow : Array (Option Nat)) (h : ∀ f, f < ow.size → ow.getD f (some 0) ≠ none) : (live ow).length = ow.size := by
  unfold live
  rw [← Array.length_toList]
  have : ∀ l : List (Option Nat), (∀ x ∈ l, x ≠ none) → (l.filterMap id).length = l.length := fun l => by
    induction l with
    | nil => intro _; rfl
    | cons x l ih =>
      intro hx
      cases x with
      | none => exact absurd rfl (hx none (List.mem_cons_self ..))
      | some y => simp only [List.filterMap_cons, id, List.length_cons]; rw [ih fun z hz => hx z (List.mem_cons_of_mem _ hz)]
  refine this _ fun x hx => ?_
  obtain ⟨i, hi, e⟩ := List.getElem_of_mem hx
  have hi2 : i < ow.size := by simpa using hi
  have z := h i hi2
  rw [← e]
  simpa [Array.getD, hi2] using z
theorem lay_all {mask : Nat} (hS : fullB (mask + 1) = true) : ∀ (hs : List Int) (ow : Array (Option Nat)) (k : Nat), ow.size = mask + 1 → (live ow).Perm (List.range k) → k + hs.length ≤ mask →
    ∃ ow', (hs.foldl (fun acc h => do let (owner, k) ← acc; let j ← SetTable.layClean.free mask owner (SetTable.turns mask) (SetTable.bits h % (mask + 1)) (SetTable.bits h); pure (owner.setIfInBounds j (some k), k + 1)) (some (ow, k))) = some (ow', k + hs.length) ∧ ow'.size = mask + 1 ∧ (live ow').Perm (List.range (k + hs.length))
  | [], ow, k, h1, h2, _ => ⟨ow, rfl, h1, h2⟩
  | h :: hs, ow, k, h1, h2, h3 => by
    have ex : ∃ f, f ≤ mask ∧ ow.getD f (some 0) = none := by
      apply Classical.byContradiction
      intro c
      have z := live_len ow fun f hf q => c ⟨f, by omega, q⟩
      rw [h2.length_eq, List.length_range] at z
      simp only [List.length_cons] at h3
      omega
    obtain ⟨f, hf, hfr⟩ := ex
    have hb : SetTable.bits h < 32 ^ 13 := by
      unfold SetTable.bits
      have z : (h % (2 ^ 64 : Int)).toNat < 2 ^ 64 := by
        have := Int.emod_lt_of_pos h (show (0 : Int) < 2 ^ 64 by decide)
        have := Int.emod_nonneg h (show (2 ^ 64 : Int) ≠ 0 by decide)
        omega
      exact Nat.lt_of_lt_of_le z (by decide)
    obtain ⟨j, hj⟩ := free_far hS hf hfr 13 (SetTable.bits h % (mask + 1)) (SetTable.bits h) (SetTable.turns mask) hb (by have := Nat.mod_lt (SetTable.bits h) (show 0 < mask + 1 by omega); omega) (by unfold SetTable.turns; omega)
    obtain ⟨lp, _⟩ := live_set (k := k) (free_is _ _ _ _ hj)
    have step : ((do let (owner, k) ← some (ow, k); let j ← SetTable.layClean.free mask owner (SetTable.turns mask) (SetTable.bits h % (mask + 1)) (SetTable.bits h); pure (owner.setIfInBounds j (some k), k + 1)) : Option (Array (Option Nat) × Nat)) = some (ow.setIfInBounds j (some k), k + 1) := by
      show (SetTable.layClean.free mask ow (SetTable.turns mask) (SetTable.bits h % (mask + 1)) (SetTable.bits h) >>= fun j => pure (ow.setIfInBounds j (some k), k + 1)) = _
      rw [hj]; rfl
    rw [List.foldl_cons, step]
    obtain ⟨ow', e1, e2, e3⟩ := lay_all hS hs (ow.setIfInBounds j (some k)) (k + 1) (by rw [Array.size_setIfInBounds]; exact h1) (by rw [List.range_succ]; exact lp.trans ((h2.cons k).trans (List.perm_append_singleton k (List.range k)).symm)) (by simp only [List.length_cons] at h3; omega)
    exact ⟨ow', by rw [e1, List.length_cons]; congr 2; omega, e2, by rw [List.length_cons, show k + (hs.length + 1) = k + 1 + hs.length by omega]; exact e3⟩
end KSs
namespace KSs
open PySem PyProof.Rows
theorem live_snd {mask : Nat} {ow : Array (Option Nat)} (h : ow.size = mask + 1) : (((List.range (mask + 1)).filterMap fun j => (ow.getD j none).map (j, ·)).map (·.2)) = live ow := by
  rw [List.map_filterMap]
  have e : (fun j => Option.map (fun (x : Nat × Nat) => x.2) ((ow.getD j none).map (j, ·))) = fun j => ow.getD j none := by
    funext j; cases ow.getD j none <;> rfl
  rw [e]
  unfold live
  rw [← h]
  have e2 : ow.toList = (List.range ow.size).map fun j => ow.getD j none := by
    apply List.ext_getElem?
    intro i
    rw [List.getElem?_map]
    by_cases c : i < ow.size
    · rw [List.getElem?_range c, Array.getElem?_toList, Array.getElem?_eq_getElem c]; simp [Array.getD, c]
    · rw [List.getElem?_eq_none (by simpa using c), List.getElem?_eq_none (by simpa using c)]; rfl
  rw [e2, List.filterMap_map]
  rfl
theorem laid_ok {mask finger moves : Nat} {led plain : Bool} (hS : fullB (mask + 1) = true) (hs : Array Int) (hn : hs.size ≤ mask) : ∃ t' order, SetTable.laid mask finger moves led plain hs = some (t', order) ∧ order.toList.Perm (List.range hs.size) ∧ t'.place.size = hs.size ∧ t'.mask = mask ∧ t'.dummies = #[] ∧ t'.led = led ∧ Up t'.place := by
  have l0 : (live (Array.replicate (mask + 1) none)).Perm (List.range 0) := by simp [live]
  obtain ⟨ow, e1, e2, e3⟩ := lay_all hS hs.toList (Array.replicate (mask + 1) none) 0 (by simp) l0 (by simpa using hn)
  have ec : SetTable.layClean mask hs = some ow := by
    unfold SetTable.layClean
    rw [← Array.foldl_toList, e1]; rfl
  unfold SetTable.laid
  rw [ec]
  simp only [Option.pure_def, Option.bind_eq_bind, Option.bind_some]
  rw [Nat.zero_add, Array.length_toList] at e3
  refine ⟨_, _, rfl, ?_, ?_, rfl, rfl, rfl, ?_⟩
  · rw [List.toList_toArray, live_snd e2]; exact e3
  · show (List.toArray _).size = _
    have z := congrArg List.length (live_snd e2)
    rw [List.length_map] at z
    rw [List.size_toArray, List.length_map, z, e3.length_eq, List.length_range]
  · show ((List.map _ _).toArray.toList).Pairwise _
    rw [List.toList_toArray]
    exact (List.pairwise_lt_range (n := mask + 1)).sublist (filt_sub (fun j => ow.getD j none) _)
theorem size_pow : ∀ n, n < 64 → 8 ≤ n → (SetTable.sizeAbove (n * 2) = 32 ∨ SetTable.sizeAbove (n * 2) = 64 ∨ SetTable.sizeAbove (n * 2) = 128) ∧ n < SetTable.sizeAbove (n * 2) := by decide +kernel
theorem size_full {n : Nat} (h1 : n < 64) (h2 : 8 ≤ n) : fullB (SetTable.sizeAbove (n * 2) - 1 + 1) = true ∧ 31 ≤ SetTable.sizeAbove (n * 2) - 1 ∧ n ≤ SetTable.sizeAbove (n * 2) - 1 ∧ SetTable.sizeAbove (n * 2) ≤ 128 := by
  obtain ⟨h | h | h, z⟩ := size_pow n h1 h2 <;> rw [h] at z ⊢
  · exact ⟨full32, by omega, by omega, by omega⟩
  · exact ⟨full64, by omega, by omega, by omega⟩
  · exact ⟨full128, by omega, by omega, by omega⟩
theorem perm_order {es : Array (Int × Value)} {order : Array Nat} (h : order.toList.Perm (List.range es.size)) : (order.filterMap (es[·]?)).toList.Perm es.toList := by
  rw [Array.toList_filterMap]
  refine (h.filterMap _).trans ?_
  rw [filterMap_getElem?_range]
section
variable {prog : Program} {w : World} {A : Around} {E : Value → Shared → Prop} {s : Shared} {a : Addr} {es : Array (Int × Value)} {ep : Nat} {t : SetTable}
theorem copyS {Q : Value → Shared → Prop} (X : SX w s.heap a es ep t) (h8 : 8 ≤ es.size) (h64 : es.size < 64)
    (h : ∀ h' er pr tr, SX w h' s.heap.objs.size er pr tr → er.toList.Perm es.toList → 4 ≤ tr.mask → (∀ b o, s.heap.get? b = some o → h'.get? b = some o) → Q (.ref s.heap.objs.size) { s with heap := h' }) : wpAny (model prog w) A (Builtin.Frozenset.copyOf a) Q E s := by
  have hl := sizeLine_eq
  obtain ⟨f1, f2, f3, f4⟩ := size_full h64 h8
  have alt := Heap.lt_size X.at_
  unfold Builtin.Frozenset.copyOf
  refine wpAny_bind (baseS X.sw (wpAny_bind (newSetS ?_)))
  have eR : (s.heap.push (set0 w)).get? s.heap.objs.size = some (set0 w) := Heap.get?_push_size _ rfl
  have eA : (s.heap.push (set0 w)).get? a = some (setAt es ep t) := Heap.get?_push_of_some _ X.at_
  refine (show wpAny (model prog w) A (setMerge s.heap.objs.size a >>= _) _ _ _ from wpAny_bind ?_)
  unfold setMerge
  rw [if_neg (by simpa using Nat.ne_of_gt alt)]
  refine wpAny_bind (wpAny_setState_of eA rfl X.fits ?_)
  have hne : es.isEmpty = false := by rw [Array.isEmpty_eq_false_iff]; intro z; rw [z] at h8; simp at h8
  dsimp only
  rw [hne, if_neg (by simp)]
  -- room
  refine wpAny_bind ?_
  unfold setRoomFor
  refine wpAny_bind (wpAny_setState_of eR rfl rfl ?_)
  have er : (SetTable.fresh 0 0 (!byT w)).roomFor es.size = some (es.size * 2) := by
    unfold SetTable.roomFor SetTable.fill SetTable.fresh
    rw [if_pos (by simp; omega)]; simp
  rw [er]
  dsimp only
  unfold setRelay
  refine wpAny_bind (wpAny_setState_of eR rfl rfl ?_)
  dsimp only
  rw [if_neg (by omega)]
  obtain ⟨t0, o0, l1, l2, l3, l4, l5, l6, l7⟩ := laid_ok (finger := 0) (moves := SetTable.movedTo (.fresh 0 0 (!byT w)) (SetTable.sizeAbove (es.size * 2) - 1)) (led := !byT w) (plain := true) f1 #[] (Nat.zero_le _)
  have ho0 : o0 = #[] := by
    have : o0.toList = [] := by simpa using l2
    exact Array.toList_eq_nil_iff.mp this
  have rl : SetTable.relaid (.fresh 0 0 (!byT w)) ((#[] : Array (Int × Value)).map (·.1)) (es.size * 2) = some (t0, #[]) := by
    rw [← ho0, show ((#[] : Array (Int × Value)).map (·.1)) = #[] by simp]; exact l1
  rw [rl]
  refine (show wpAny (model prog w) A (pure ((#[] : Array (Int × Value)), t0) >>= fun x => storeSet s.heap.objs.size x.1 x.2) _ _ _ from wpAny_bind (wpAny_pure (wpAny_storeSet_of eR rfl ?_ (by simp))))
  have e1 := put_get eR #[] t0
  have t0f : t0.fits 0 = true := by unfold SetTable.fits SetTable.fill; rw [l3, l5, l4]; simp
  have k1 : ∀ b o, s.heap.get? b = some o → ((s.heap.push (set0 w)).update s.heap.objs.size (Obj.putSet #[] t0)).get? b = some o := fun b o e => (Heap.get?_update_other _ _ (Nat.ne_of_gt (Heap.lt_size e))).trans (Heap.get?_push_of_some _ e)
  refine wpAny_bind (wpAny_setState_of e1 rfl t0f ?_)
  dsimp only
  have fill0 : t0.fill = 0 := by unfold SetTable.fill; rw [l3, l5]; simp
  have fin : ∀ er tr, AllI er.toList → er.toList.Perm es.toList → tr.fits er.size = true → Cl (byT w) tr → 4 ≤ tr.mask → wpAny (model prog w) A (storeSet s.heap.objs.size er tr) (fun _ s' => wpAny (model prog w) A (pure (Value.ref s.heap.objs.size)) Q E s') E { s with heap := (s.heap.push (set0 w)).update s.heap.objs.size (Obj.putSet #[] t0) } := fun er tr h1 h2 h3 h4 h5 => by
    have sz : er.size = es.size := by rw [← Array.length_toList, h2.length_eq, Array.length_toList]
    refine wpAny_storeSet_of e1 rfl (wpAny_pure (h _ er _ tr ⟨put_get e1 er tr, h1, (h2.map fun e => keyOf e.2).nodup_iff.mpr X.nd, h3, by omega, h4⟩ h2 h5 fun b o e => (Heap.get?_update_other _ _ (Nat.ne_of_gt (Heap.lt_size e))).trans (k1 b o e))) (by omega)
  have led1 : byT w = false → (t0.led && t.led) = true := fun z => by rw [l6, X.cl.led z, z]; rfl
  unfold SetTable.road
  rw [fill0, if_neg (by simp)]
  by_cases c : (t0.mask == t.mask && t.dummies.isEmpty) = true
  · rw [if_pos c]
    rw [Bool.and_eq_true, beq_iff_eq] at c
    exact fin es _ X.all (.refl _) X.fits ⟨X.cl.up, led1, X.cl.nod⟩ (by show 4 ≤ t.mask; rw [← c.1, l4]; omega)
  · rw [if_neg c]
    dsimp only
    rw [l4]
    obtain ⟨t1, o1, m1, m2, m3, m4, m5, m6, m7⟩ := laid_ok (finger := t0.finger) (moves := t0.moves) (led := t0.led && t.led) (plain := t0.plain && t.plain) f1 (es.map (·.1)) (by rw [Array.size_map]; exact f3)
    rw [Array.size_map] at m2 m3
    have pm := perm_order m2
    have sz : (o1.filterMap (es[·]?)).size = es.size := by rw [← Array.length_toList, pm.length_eq, Array.length_toList]
    rw [m1]
    refine wpAny_bind (show wpAny (model prog w) A (if ((o1.filterMap (es[·]?)).size != es.size) = true then _ else pure (o1.filterMap (es[·]?), t1)) _ _ _ from ?_)
    rw [if_neg (by simp [sz])]
    refine wpAny_pure (fin _ t1 (X.all.perm pm) pm ?_ ⟨m7, fun z => by rw [m6]; exact led1 z, m5⟩ (by rw [m4]; omega))
    unfold SetTable.fits SetTable.fill
    rw [m3, m5, m4, sz]
    simp
    omega
end
end KSs
namespace KSs
open PySem PyProof.Rows
theorem eraseAt_toList {α : Type} (xs : Array α) (i : Nat) : (SetTable.eraseAt xs i).toList = xs.toList.take i ++ xs.toList.drop (i + 1) := by
  unfold SetTable.eraseAt
  rw [Array.toList_append, Array.toList_extract, Array.toList_extract]
  simp [List.extract_eq_take_drop]
  exact List.take_of_length_le (by simp)
theorem erase_up {xs : Array Nat} (h : Up xs) (i : Nat) : Up (SetTable.eraseAt xs i) := by
  unfold Up
  rw [eraseAt_toList]
  have z : (xs.toList.take i ++ xs.toList.drop (i + 1)).Sublist xs.toList := by
    conv => rhs; rw [← List.take_append_drop i xs.toList]
    refine List.Sublist.append (.refl _) ?_
    rw [show i + 1 = i + 1 from rfl, ← List.drop_drop]
    exact List.drop_sublist _ _
  exact h.sublist z
theorem erase_size {α : Type} {xs : Array α} {i : Nat} (h : i < xs.size) : (SetTable.eraseAt xs i).size + 1 = xs.size := by
  rw [← Array.length_toList, eraseAt_toList, List.length_append, List.length_take, List.length_drop, Array.length_toList]; omega
section
variable {prog : Program} {w : World} {A : Around} {E : Value → Shared → Prop} {s : Shared} {a o : Addr} {es eo : Array (Int × Value)} {ep po : Nat} {t to : SetTable}
theorem erase_keys {i : Nat} {z : Int} (hall : AllI es.toList) (hnd : (keys es).Nodup) (hi : es.toList.findIdx? (fun e => (intKind prog w).is z e.2) = some i) : i < es.size ∧ ∀ j, j ∈ keys (SetTable.eraseAt es i) ↔ j ∈ keys es ∧ j ≠ z := by
  obtain ⟨lt, q, _⟩ := List.findIdx?_eq_some_iff_getElem.mp hi
  have lt2 : i < es.size := by simpa using lt
  have hz : keyOf (es.toList[i]).2 = z := by
    obtain ⟨⟨u, e⟩, _⟩ := hall _ (List.getElem_mem lt)
    rw [e] at q
    exact (intKind prog w).inj _ _ _ (intKind_is prog w _ u) q
  refine ⟨lt2, fun j => ?_⟩
  have e0 : es.toList = es.toList.take i ++ es.toList[i] :: es.toList.drop (i + 1) := by rw [← List.drop_eq_getElem_cons lt, List.take_append_drop]
  have k0 : keys es = (es.toList.take i).map (fun e => keyOf e.2) ++ z :: (es.toList.drop (i + 1)).map fun e => keyOf e.2 := by
    conv => lhs; unfold keys; rw [e0, List.map_append, List.map_cons, hz]
  have k1 : keys (SetTable.eraseAt es i) = (es.toList.take i).map (fun e => keyOf e.2) ++ (es.toList.drop (i + 1)).map fun e => keyOf e.2 := by unfold keys; rw [eraseAt_toList, List.map_append]
  rw [k0] at hnd
  rw [k0, k1]
  have nd := List.perm_middle.nodup_iff.mp hnd
  rw [List.nodup_cons] at nd
  simp only [List.mem_append, List.mem_cons] at nd ⊢
  constructor
  · intro h
    exact ⟨h.elim .inl fun z => .inr (.inr z), by rintro rfl; exact nd.1 h⟩
  · rintro ⟨h | h | h, n⟩
    · exact .inl h
    · exact absurd h n
    · exact .inr h
theorem discS {z : Int} {u : Tok} {Q : Bool → Shared → Prop} (X : SX w s.heap a es ep t)
    (h : ∀ b h' er pr tr, Heap.SameBut a s.heap h' → SR w h' a er pr tr → (keys er).Nodup → er.size ≤ es.size → (∀ j, j ∈ keys er ↔ j ∈ keys es ∧ j ≠ z) → tr.mask = t.mask → tr.dummies.size ≤ 1 → Q b { s with heap := h' }) : wpAny (model prog w) A (setDiscardHashed a (.int z u) (hashInt z)) Q E s := by
  unfold setDiscardHashed
  refine wpAny_bind (findS X.sr ?_)
  cases hi : List.findIdx? (fun e => (intKind prog w).is z e.2) es.toList with
  | none =>
    refine wpAny_pure (h false s.heap es ep t (Heap.SameBut.refl a _) X.sr X.nd (Nat.le_refl _) (fun j => ⟨fun hj => ⟨hj, ?_⟩, fun hj => hj.1⟩) rfl (by rw [X.cl.nod]; simp))
    rintro rfl
    obtain ⟨e, he, q⟩ := (X.all.met (prog := prog) (w := w)).mpr hj
    have := List.findIdx?_eq_none_iff.mp hi e he
    rw [q] at this; cases this
  | some i =>
    obtain ⟨lt, hk⟩ := erase_keys X.all X.nd hi
    dsimp only
    refine wpAny_bind (wpAny_setState_of X.at_ rfl X.fits ?_)
    dsimp only
    have ez := erase_size lt
    have few := X.few
    refine wpAny_bind (wpAny_storeSet_of X.at_ rfl (wpAny_bind (wpAny_point (wpAny_pure ?_))) (few_line (by omega)))
    have pz := place_size X.sw
    have ltp : i < t.place.size := by omega
    have hf := X.fits
    unfold SetTable.fits SetTable.fill at hf
    rw [Bool.and_eq_true, beq_iff_eq, decide_eq_true_eq, X.cl.nod] at hf
    have sub : (es.toList.take i ++ es.toList.drop (i + 1)).Sublist es.toList := by
      conv => rhs; rw [← List.take_append_drop i es.toList]
      refine List.Sublist.append (.refl _) ?_
      rw [← List.drop_drop]
      exact List.drop_sublist _ _
    have dr : t.drop i = { t with place := SetTable.eraseAt t.place i, dummies := SetTable.insertAt t.dummies (SetTable.below t.dummies t.place[i]) t.place[i] } := by
      unfold SetTable.drop; rw [Array.getElem?_eq_getElem ltp]
    have pz2 := erase_size ltp
    have ds : (SetTable.insertAt t.dummies (SetTable.below t.dummies t.place[i]) t.place[i]).size = 1 := by rw [X.cl.nod]; simp [SetTable.insertAt]
    refine h true _ (SetTable.eraseAt es i) (ep + 1) (t.drop i) (Heap.SameBut.update s.heap a _) ⟨⟨put_get X.at_ _ _, ?_, by omega, fun z => ?_, ?_⟩, fun e he => X.all e ?_⟩ ?_ (by omega) hk (by rw [dr]) (by rw [dr]; show Array.size _ ≤ 1; rw [ds]; exact Nat.le_refl _)
    · rw [dr]
      unfold SetTable.fits SetTable.fill
      show (_ == _ && decide (_ + _ ≤ t.mask)) = true
      rw [Bool.and_eq_true, beq_iff_eq, decide_eq_true_eq]
      dsimp only
      rw [ds]
      simp at hf
      omega
    · rw [dr]; exact X.cl.led z
    · rw [dr]; exact erase_up X.cl.up i
    · rw [eraseAt_toList] at he; exact sub.subset he
    · unfold keys; rw [eraseAt_toList]; exact X.nd.sublist (sub.map _)
/-- a - o, o of one element -/
theorem diffS {id : String} {z : Int} {u : Tok} {Q : Value → Shared → Prop} (hne : o ≠ a) (X : SX w s.heap a es ep t) (Y : SX w s.heap o eo po to) (hY : eo.toList = [(hashInt z, .int z u)]) (h64 : es.size < 64)
    (h : ∀ r h' d er pr tr, SR w h' r er pr tr → (keys er).Nodup → er.size ≤ es.size → (∀ j, j ∈ keys er ↔ j ∈ keys es ∧ j ≠ z) → (∀ b o, s.heap.get? b = some o → h'.get? b = some o) → Q (.ref r) { s with heap := h', drawn := d }) :
    wpAny (model prog w) A (Builtin.Frozenset.difference id a (.ref o)) Q E s := by
  have eo1 : eo.size = 1 := by rw [← Array.length_toList, hY]; rfl
  have one : ∀ {xs : Array (Int × Value)}, xs.toList.Perm eo.toList → xs.toList = [(hashInt z, .int z u)] := fun hp => by rw [hY] at hp; exact List.perm_singleton.mp hp
  have kz : keys eo = [z] := by unfold keys; rw [hY]; rfl
  unfold Builtin.Frozenset.difference
  refine wpAny_bind (anyS Y.sw ?_)
  dsimp only
  rw [if_neg (by simp)]
  refine (show wpAny (model prog w) A (pure o >>= _) _ _ s from wpAny_bind (wpAny_pure ?_))
  rw [if_neg (by simp), if_pos rfl]
  refine wpAny_bind (sizeS Y.sw (wpAny_bind (sizeS X.sw ?_)))
  rw [eo1]
  by_cases c : es.size / 4 > 1
  · rw [if_pos c]
    refine wpAny_bind (wpAny_rule ?_)
    refine wpAny_bind (copyS X (by omega) h64 fun h1 er pr tr X1 hp hm k1 => ?_)
    have Y1 := Y.mono (k1 o _ Y.at_)
    have nro : s.heap.objs.size ≠ o := Nat.ne_of_gt (Heap.lt_size Y.at_)
    have sz1 : er.size = es.size := by rw [← Array.length_toList, hp.length_eq, Array.length_toList]
    have km : ∀ j, j ∈ keys er ↔ j ∈ keys es := fun j => (hp.map fun e => keyOf e.2).mem_iff
    refine (show wpAny (model prog w) A (holding [.ref s.heap.objs.size] (Builtin.Frozenset.differenceUpdate id s.heap.objs.size (.ref o)) >>= _) _ _ _ from wpAny_bind (wpAny_holding ?_))
    unfold Builtin.Frozenset.differenceUpdate
    rw [if_neg (by simpa using Ne.symm nro)]
    refine wpAny_bind (anyS (s := { s with heap := h1 }) Y1.sw ?_)
    rw [if_pos rfl]
    refine (show wpAny (model prog w) A (pure o >>= _) _ _ _ from wpAny_bind (wpAny_pure ?_))
    refine wpAny_bind (sizeS (s := { s with heap := h1 }) Y1.sw (wpAny_bind (sizeS (s := { s with heap := h1 }) X1.sw ?_)))
    rw [if_neg (by omega)]
    refine wpAny_bind (wpAny_setEpoch_of Y1.at_ rfl Y1.fits ?_)
    refine wpAny_bind (wpAny_holding ?_)
    refine wpAny_bind (show wpAny (model prog w) A (setWalkUnseen o [s.heap.objs.size] none) _ _ _ from ?_)
    unfold setWalkUnseen
    refine wpAny_bind (wpAny_setState_of Y1.at_ rfl Y1.fits (wpAny_bind (text _ ?_)))
    rw [if_pos (by rw [eo1]; simp)]
    refine walkA (s := { s with heap := h1 }) Y1.sw fun xs d hx => ?_
    have hx1 := one hx
    refine wpAny_bind (MeetsSeq2.wpAny_forIn_array _ (fun rest _ s' => (rest = [(hashInt z, .int z u)] ∧ s' = { s with heap := h1, drawn := d }) ∨ (rest = [] ∧ ∃ h2 er2 pr2 tr2, s' = { s with heap := h2, drawn := d } ∧ Heap.SameBut s.heap.objs.size h1 h2 ∧ SR w h2 s.heap.objs.size er2 pr2 tr2 ∧ (keys er2).Nodup ∧ er2.size ≤ er.size ∧ (∀ j, j ∈ keys er2 ↔ j ∈ keys er ∧ j ≠ z) ∧ tr2.mask = tr.mask ∧ tr2.dummies.size ≤ 1)) _ ?_ ?_ xs _ (.inl ⟨hx1, rfl⟩))
    · rintro e rest b s' (⟨he, rfl⟩ | ⟨he, _⟩)
      · cases he
        refine wpAny_bind (wpAny_holding (discS (s := { s with heap := h1, drawn := d }) X1 fun b h2 er2 pr2 tr2 sb R2 nd2 sz2 km2 mk2 dm2 => ?_))
        have Y2 : SW w h2 o eo po to := ⟨by rw [sb.2 o (Ne.symm nro)]; exact Y1.at_, Y1.fits, Y1.few, Y1.cl.led, Y1.cl.up⟩
        refine wpAny_bind (unchS (s := { s with heap := h2, drawn := d }) Y2 (wpAny_pure (.inr ⟨rfl, h2, er2, pr2, tr2, rfl, sb, R2, nd2, sz2, km2, mk2, dm2⟩)))
      · cases he
    · rintro b s' (⟨he, _⟩ | ⟨_, h2, er2, pr2, tr2, rfl, sb, R2, nd2, sz2, km2, mk2, dm2⟩)
      · cases he
      · refine wpAny_pure ?_
        unfold setTidy
        refine wpAny_bind (wpAny_setState_of R2.at_ rfl R2.fits ?_)
        dsimp only
        have nt : tr2.tooManyDummies = false := by unfold SetTable.tooManyDummies; rw [mk2]; simp; omega
        rw [nt, if_neg (by simp)]
        refine wpAny_pure (wpAny_pure (h s.heap.objs.size h2 d er2 pr2 tr2 R2 nd2 (by omega) (fun j => by rw [km2, km]) fun b o' e => ?_))
        rw [sb.2 b (Nat.ne_of_lt (Heap.lt_size e))]; exact k1 b o' e
  · rw [if_neg c]
    refine wpAny_bind (baseS X.sw (wpAny_bind (newSetS ?_)))
    have eR : (s.heap.push (set0 w)).get? s.heap.objs.size = some (set0 w) := Heap.get?_push_size _ rfl
    have k0 : ∀ b o', s.heap.get? b = some o' → (s.heap.push (set0 w)).get? b = some o' := fun b o' e => Heap.get?_push_of_some _ e
    have X1 := X.mono (k0 a _ X.at_)
    have Y1 := Y.mono (k0 o _ Y.at_)
    have R1 := SX.fresh eR
    have nra : s.heap.objs.size ≠ a := Nat.ne_of_gt (Heap.lt_size X.at_)
    have nro : s.heap.objs.size ≠ o := Nat.ne_of_gt (Heap.lt_size Y.at_)
    refine (show wpAny (model prog w) A (pure s.heap.objs.size >>= _) _ _ _ from wpAny_bind (wpAny_pure ?_))
    refine wpAny_bind (wpAny_setEpoch_of X1.at_ rfl X1.fits ?_)
    refine wpAny_bind (wpAny_holding ?_)
    rw [if_pos rfl]
    refine wpAny_bind (walkF (s := { s with heap := s.heap.push (set0 w) }) X1.sr (fun b hb => ?_) R1 fun xs h2 d pf tf hx sb R2 => ?_)
    · rcases List.mem_cons.mp hb with rfl | hb
      · exact ⟨_, _, _, Y1.sr⟩
      · rw [List.mem_singleton.mp hb]; exact ⟨_, _, _, R1.sr⟩
    have k2 : ∀ b o', s.heap.get? b = some o' → h2.get? b = some o' := fun b o' e => by rw [sb.2 b (Nat.ne_of_lt (Heap.lt_size e))]; exact k0 b o' e
    have few := X.few
    refine wpAny_bind (MeetsSeq2.wpAny_forIn_array _ (fun rest _ s' => ∃ done h3 er pr tr, xs.toList = done ++ rest ∧ s' = { s with heap := h3, drawn := d } ∧ (∀ b o', s.heap.get? b = some o' → h3.get? b = some o') ∧ SX w h3 s.heap.objs.size er pr tr ∧ er.size ≤ done.length ∧ ∀ j, j ∈ keys er ↔ j ∈ done.map (fun e => keyOf e.2) ∧ j ≠ z) _ ?_ ?_ xs _ ⟨[], h2, _, _, _, rfl, rfl, k2, R2, Nat.le_refl _, by simp [keys]⟩)
    · rintro e rest b s' ⟨done, h3, er, pr, tr, hd, rfl, k3, R3, z3, m3⟩
      have hme : e ∈ es.toList := hx.mem_iff.mp (by rw [hd]; simp)
      obtain ⟨⟨v, hv⟩, hh⟩ := X.all e hme
      obtain ⟨e1, e2⟩ := e
      dsimp only at hv hh ⊢
      generalize hkk : keyOf e2 = k at hv hh
      subst hv hh
      have Y3 := Y.mono (k3 o _ Y.at_)
      have X3 := X.mono (k3 a _ X.at_)
      have dl : done.length < es.size := by
        have := congrArg List.length hd
        rw [hx.length_eq, Array.length_toList] at this
        simp at this; omega
      refine wpAny_bind (wpAny_holding ?_)
      rw [if_pos rfl]
      refine wpAny_bind (findS (s := { s with heap := h3, drawn := d }) Y3.sr (wpAny_bind (wpAny_pure ?_)))
      rw [found_iff Y.all, kz]
      by_cases cz : k = z
      · subst cz
        rw [if_neg (by simp)]
        refine wpAny_pure (wpAny_bind (unchS (s := { s with heap := h3, drawn := d }) X3.sw (wpAny_pure ⟨done ++ [(hashInt k, .int k v)], h3, er, pr, tr, by rw [hd]; simp, rfl, k3, R3, by simp; omega, fun j => ?_⟩)))
        rw [m3, List.map_append, List.mem_append]
        simp only [List.map_cons, List.map_nil, List.mem_singleton, keyOf]
        constructor
        · rintro ⟨x, y⟩; exact ⟨.inl x, y⟩
        · rintro ⟨x | x, y⟩
          · exact ⟨x, y⟩
          · exact absurd x y
      · rw [if_pos (by simp [cz])]
        refine wpAny_bind (add (s := { s with heap := h3, drawn := d }) R3 (by omega) fun bb h4 er4 pr4 tr4 sb4 R4 m4 z4 => wpAny_pure ?_)
        have k4 : ∀ b o', s.heap.get? b = some o' → h4.get? b = some o' := fun b o' e => by rw [sb4.2 b (Nat.ne_of_lt (Heap.lt_size e))]; exact k3 b o' e
        have X4 := X.mono (k4 a _ X.at_)
        refine wpAny_bind (unchS (s := { s with heap := h4, drawn := d }) X4.sw (wpAny_pure ⟨done ++ [(hashInt k, .int k v)], h4, er4, pr4, tr4, by rw [hd]; simp, rfl, k4, R4, by simp; omega, fun j => ?_⟩))
        rw [m4, m3, List.map_append, List.mem_append]
        simp only [List.map_cons, List.map_nil, List.mem_singleton, keyOf]
        constructor
        · rintro (⟨x, y⟩ | x)
          · exact ⟨.inl x, y⟩
          · exact ⟨.inr x, by rw [x]; exact cz⟩
        · rintro ⟨x | x, y⟩
          · exact .inl ⟨x, y⟩
          · exact .inr x
    · rintro b s' ⟨done, h3, er, pr, tr, hd, rfl, k3, R3, z3, m3⟩
      rw [List.append_nil] at hd
      refine wpAny_pure (wpAny_pure (h s.heap.objs.size h3 d er pr tr R3.sr R3.nd ?_ (fun j => ?_) k3))
      · have := congrArg List.length hd
        rw [hx.length_eq, Array.length_toList] at this
        omega
      · rw [m3, ← hd, (hx.map fun e => keyOf e.2).mem_iff]
end
end KSs
namespace KSs
open PySem PyProof.Rows
theorem eSub : entryFor table "set.__sub__" = some Builtin.«frozenset.__sub__» := entryFor_alias (id' := "frozenset.__sub__") (by kernel_rfl) (by first | rfl | decide +kernel | (unfold String.splitOn; simp +decide [String.splitOnAux])) (by decide +kernel) (by kernel_rfl)
section
variable {prog : Program} {w : World} {A : Around} {E : Value → Shared → Prop} {s : Shared} {a o : Addr} {es eo : Array (Int × Value)} {ep po : Nat} {t to : SetTable}
theorem subS {z : Int} {u : Tok} {Q : Value → Shared → Prop} (hne : o ≠ a) (X : SX w s.heap a es ep t) (Y : SX w s.heap o eo po to) (hY : eo.toList = [(hashInt z, .int z u)]) (h64 : es.size < 64)
    (h : ∀ r h' d er pr tr, SR w h' r er pr tr → (keys er).Nodup → er.size ≤ es.size → (∀ j, j ∈ keys er ↔ j ∈ keys es ∧ j ≠ z) → (∀ b o, s.heap.get? b = some o → h'.get? b = some o) → Q (.ref r) { s with heap := h', drawn := d }) :
    wpAny (model prog w) A (binaryOp .Sub (.ref a) (.ref o)) Q E s := by
  refine wpAny_binaryOp_same (T := "set") (id := "set.__sub__") (tyS X.sw) (tyS Y.sw) F.fills_set_sub F.slot_set_sub ?_
  refine wpAny_call_entry F.slot_set_sub (tyS X.sw) eSub ?_ (F.args_set_sub_2 _ _)
  refine (show wpAny (model prog w) A.in1 ((Builtin.Frozenset.isAnySet (.ref a) <&&> Builtin.Frozenset.isAnySet (.ref o)) >>= fun (b : Bool) => _) _ _ s from wpAny_bind ?_)
  unfold andM
  refine wpAny_bind (anyS X.sw (anyS Y.sw ?_))
  refine (show wpAny (model prog w) A.in1 (Builtin.Frozenset.difference _ a (.ref o) >>= _) _ _ s from wpAny_bind (diffS hne X Y hY h64 fun r h' d er pr tr R nd sz km k => ?_))
  exact wpAny_pure ⟨_, rfl, by simp, h r h' d er pr tr R nd sz km k⟩
theorem one_of (hall : AllI eo.toList) (hs : eo.size ≤ 1) {z : Int} (hz : ∀ j, j ∈ keys eo ↔ j ∈ [z]) : ∃ u, eo.toList = [(hashInt z, .int z u)] := by
  have hm := (hz z).mpr (List.mem_singleton.mpr rfl)
  obtain ⟨e, he, hk⟩ := List.mem_map.mp hm
  have hl : eo.toList.length ≤ 1 := by rw [Array.length_toList]; exact hs
  match hL : eo.toList, hl, he with
  | [x], _, he =>
    obtain rfl : e = x := List.mem_singleton.mp he
    obtain ⟨⟨u, e1⟩, e2⟩ := hall e (by rw [hL]; exact he)
    rw [hk] at e1 e2
    exact ⟨u, by obtain ⟨p, q⟩ := e; simp only at e1 e2; rw [e1, e2]⟩
  | _ :: _ :: _, h, _ => simp at h
end
end KSs
namespace L2
open PySem PySem.Spec PyProof.Rows
section
variable {X : Cx} {e e2 : Expr} {te te2 : TE} {p p2 p3 pos pos2 pos3 bpos : Pos}
theorem ev_setP {pins : List (Addr × Obj)} {s : Shared} {σ : St} {H : Hp} {R : Addr → List Int → Hp → Prop} (hc : X.calm = true) (hg : Gl X "set") (hm : X.mg "set" = none) (he : PE X e te) (hs : unstar e = true) (I : Inv X pins σ H s)
    (h : te σ H fun x H1 => ∃ (l : Addr) (ns : List Int), x = .ref l ∧ SqL X.K H1 l (ns.map V.int) ∧ ns.length < 64 ∧ R l ns H1) :
    wpAny (model X.prog X.w) X.A (eval (.Call (.Name "set" p2) [e] [] pos2) X.env) (fun v s' => ∃ (l S : Addr) (ns : List Int) (H1 : Hp) (es : Array (Int × Value)) (ep : Nat) (t : SetTable), v = .ref S ∧ Inv X pins σ H1 s' ∧ KSs.SX X.w s'.heap S es ep t ∧ FpOk X pins H1 S ∧ es.size ≤ ns.length ∧ ns.length < 64 ∧ (∀ j, j ∈ KSs.keys es ↔ j ∈ ns) ∧ R l ns H1) X.xe s := by
  refine wpAny_Call_Name_kw (ld_blt I hg hm PyProof.Rows.boot_set ?_)
  refine PyProof.Rows.callWith_type1 ?_ (starEach_one hs) rfl
  rw [starEach_one hs]
  show wpAny _ _ (spliced ((false, eval e X.env) :: backTo pos2 (starEach [] X.env))) _ _ s
  refine Calls.spliced_cons (thn (he pins s σ H _ I h) fun u s1 ⟨x, H1, I1, r1, l, ns, ex, hq, hl, q⟩ => Calls.spliced_nil ?_)
  subst ex
  cases r1
  obtain ⟨its, rv, pl, hz⟩ := I1.list hq
  have hlen := rv.length
  rw [List.length_map] at hlen
  refine KSs.ofList (items := its.toArray) (ns := ns) (I1.ok.hd hc) pl.isList (by simpa using ints_vals rv) (by rw [List.size_toArray]; omega) fun h' tk es ep t SX z m k => ?_
  exact ⟨l, s1.heap.objs.size, ns, H1, es, ep, t, rfl, I1.kept (t' := tk) k, SX, I1.fpOk (Nat.le_refl _) (I1.hok.fresh (Nat.le_refl _)), by have y : its.toArray.size = its.length := List.size_toArray; omega, hl, m, q⟩
/-- sorted(set(e) - set(e2)), e2 of one item -/
def tSD (K : PySem.W.Frag) (te te2 : TE) : TE := fun σ H Q => te σ H fun x H1 => ∃ (l : Addr) (ns : List Int), x = .ref l ∧ SqL K H1 l (ns.map V.int) ∧ ns.length < 64 ∧ te2 σ H1 fun y H2 => ∃ (l2 : Addr) (ns2 : List Int), y = .ref l2 ∧ SqL K H2 l2 (ns2.map V.int) ∧ ns2.length < 64 ∧ ∃ z, ns2 = [z] ∧
  ∀ ms, Srt (ns.filter fun j => decide (j ≠ z)) ms → ∀ l', H2 l' = none → Q (.ref l') (upd H2 l' (.lst (ms.map V.int)))
theorem pe_sortedDiff (hc : X.calm = true) (hgs : Gl X "sorted") (hms : X.mg "sorted" = none) (hg : Gl X "set") (hm : X.mg "set" = none) (he : PE X e te) (hs : unstar e = true) (he2 : PE X e2 te2) (hs2 : unstar e2 = true) :
    PE X (.Call (.Name "sorted" p) [.BinOp (.Call (.Name "set" p2) [e] [] pos2) .Sub (.Call (.Name "set" p3) [e2] [] pos3) bpos] [] pos) (tSD X.K te te2) := by
  intro pins s σ H Q I h
  refine wpAny_Call_Name_kw (ld_blt I hgs hms PyProof.Rows.boot_sorted ?_)
  refine PyProof.Rows.callWith_builtin1 ?_ (starEach_one rfl) rfl
  rw [starEach_one rfl]
  show wpAny _ _ (spliced ((false, eval (.BinOp (.Call (.Name "set" p2) [e] [] pos2) .Sub (.Call (.Name "set" p3) [e2] [] pos3) bpos) X.env) :: backTo pos (starEach [] X.env))) _ _ s
  refine Calls.spliced_cons (wpAny_BinOp (thn (ev_setP (R := fun _ ns H1 => te2 σ H1 fun y H2 => ∃ (l2 : Addr) (ns2 : List Int), y = .ref l2 ∧ SqL X.K H2 l2 (ns2.map V.int) ∧ ns2.length < 64 ∧ ∃ z, ns2 = [z] ∧ ∀ ms, Srt (ns.filter fun j => decide (j ≠ z)) ms → ∀ l', H2 l' = none → Q (.ref l') (upd H2 l' (.lst (ms.map V.int)))) hc hg hm he hs I h) fun v s1 h1 => ?_))
  obtain ⟨l, S, ns, H1, es, ep, t, rfl, I1, SX1, fp1, z1, hl, m1, q⟩ := h1
  have hob : ∀ b ∈ [S], ∃ o, s1.heap.get? b = some o ∧ ∀ v, o.data ≠ .cell v := fun b hb => by
    rw [List.mem_singleton.mp hb]; exact ⟨_, SX1.at_, fun _ => nofun⟩
  have I1p := I1.pinned (fp := [S]) (fun b hb => by rw [List.mem_singleton.mp hb]; exact fp1) hob
  refine thn (ev_setP (R := fun _ ns2 H2 => ∃ z, ns2 = [z] ∧ ∀ ms, Srt (ns.filter fun j => decide (j ≠ z)) ms → ∀ l', H2 l' = none → Q (.ref l') (upd H2 l' (.lst (ms.map V.int)))) hc hg hm he2 hs2 I1p q) fun v2 s2 h2 => ?_
  obtain ⟨l2, S2, ns2, H2, es2, ep2, t2, rfl, I2, SX2, fp2, z2, hl2, m2, z, rfl, q2⟩ := h2
  have pin : (S, KSs.setAt es ep t) ∈ pins ++ pinsAt [S] s1.heap := List.mem_append_right _ (List.mem_filterMap.mpr ⟨S, List.mem_singleton.mpr rfl, by rw [SX1.at_]; rfl⟩)
  have eS := (I2.pin _ (List.mem_append_right _ pin)).1
  have nS : S2 ≠ S := fun y => fp2.2.2.2.2.2 _ (List.mem_append_right _ pin) y.symm
  have X2 := SX1.mono eS
  obtain ⟨u, hY⟩ := KSs.one_of SX2.all (by simpa using z2) m2
  refine KSs.subS nS X2 SX2 hY (by omega) fun r h' d er pr tr R nd sz km k => Calls.spliced_nil ?_
  have I3 : Inv X pins σ H2 { s2 with heap := h', drawn := d } := ((I2.unpinned).kept (t' := s2.toks) k).drew
  refine sorted_end hc I3 R.toSW R.all nd (by omega) (fun j => ?_) q2
  rw [km, m1, List.mem_filter, decide_eq_true_eq]
end
end L2
namespace L3
open PySem PyProof L2
section
variable {X : Cx} {e e2 : Expr} {te te2 : DTE} {p p2 p3 pos pos2 pos3 bpos : Pos}
abbrev dSD (te te2 : DTE) : DTE := fun ρ G Q => te ρ G fun x G1 => match x with
  | .ref l => onL G1 l fun ds => ∃ ns, asInts ds = some ns ∧ ns.length < 64 ∧ te2 ρ G1 fun y G2 => match y with
    | .ref l2 => onL G2 l2 fun ds2 => ∃ z, ds2 = [.int z] ∧ ∀ ms, Srt (ns.filter fun j => decide (j ≠ z)) ms → ∀ l', G2 l' = none → Q (.ref l') (up G2 l' (.lst (ms.map D.int)))
    | _ => False
  | _ => False
theorem ae_sortedDiff (hgs : Gl X "sorted") (hms : X.mg "sorted" = none) (hg : Gl X "set") (hm : X.mg "set" = none) (he : AE X e te) (he2 : AE X e2 te2) (hc : X.calm = true := by rfl) (hs : unstar e = true := by rfl) (hs2 : unstar e2 = true := by rfl) :
    AE X (.Call (.Name "sorted" p) [.BinOp (.Call (.Name "set" p2) [e] [] pos2) .Sub (.Call (.Name "set" p3) [e2] [] pos3) bpos] [] pos) (dSD te te2) := by
  obtain ⟨ce, je, re⟩ := he.run
  obtain ⟨ce2, je2, re2⟩ := he2.run
  refine ⟨_, ⟨pe_sortedDiff hc hgs hms hg hm je.run hs je2.run hs2⟩, fun ρ G DQ σ H Q B q F => re ρ G _ σ H _ B q fun x G1 v H1 g1 ax q1 => ?_⟩
  cases x with
  | ref l =>
    cases ax
    obtain ⟨ds, vs, ⟨ns, e1, hl, k⟩, s, rl⟩ := onL_get g1.vw q1
    rw [asInts_eq e1] at rl
    rw [rl.ints] at s
    refine ⟨l, ns, rfl, s, hl, re2 ρ G1 _ σ H1 _ (B.go g1) k fun y G2 u H2 g2 ay q2 => ?_⟩
    cases y with
    | ref l2 =>
      cases ay
      obtain ⟨ds2, vs2, ⟨z, rfl, k2⟩, s2, rl2⟩ := onL_get g2.vw q2
      obtain ⟨v2, r2, rfl, a2, rl2⟩ := rl2
      cases rl2
      cases a2
      exact ⟨l2, [z], rfl, s2, by simp, z, rfl, fun ms hs l' hl' => F (.ref l') _ _ _ ((g1.trans g2).trans (Go.newL g2.vw hl' (AbsL.of_ints ms))) rfl (k2 ms hs l' (g2.vw.none hl'))⟩
    | _ => exact (show False from q2).elim
  | _ => exact (show False from q1).elim
end
end L3
namespace L2
open PySem PySem.Spec PyProof.Rows
end L2
namespace L3
open PySem L2
end L3
namespace L3
open PySem L2
def Tm.wbl : Tm → Nat → Nat
  | .way _, w => w + 1
  | _, w => w
def Tm.mapN (φ : Nat → Nat → Tm) : Nat → Tm → Tm
  | w, .name n => φ n w
  | _, .whole k => .whole k
  | w, .way t => .way (t.mapN φ (w + 1))
  | w, .give t u => .give (t.mapN φ w) (u.mapN φ w)
  | w, .pair t u => .pair (t.mapN φ w) (u.mapN φ w)
  | w, .first t => .first (t.mapN φ w)
  | w, .second t => .second (t.mapN φ w)
  | w, .plus t u => .plus (t.mapN φ w) (u.mapN φ w)
  | w, .look t u v => .look (t.mapN φ w) (u.mapN φ w) (v.mapN φ w)
/-- each name with the ways around it, as the walk comes to them -/
def Tm.nmsR : Nat → Tm → List (Nat × Nat)
  | w, .name n => [(n, w)]
  | _, .whole _ => []
  | w, .way t => t.nmsR (w + 1)
  | w, .give t u => u.nmsR w ++ t.nmsR w
  | w, .pair t u => u.nmsR w ++ t.nmsR w
  | w, .first t => t.nmsR w
  | w, .second t => t.nmsR w
  | w, .plus t u => u.nmsR w ++ t.nmsR w
  | w, .look t u v => v.nmsR w ++ (u.nmsR w ++ t.nmsR w)
def Tm.leaf : Tm → Bool
  | .name _ => true
  | .whole _ => true
  | _ => false
theorem Tm.nmsR_inn {t : Tm} (h : t.leaf = false) (w : Nat) : t.nmsR w = t.inn.reverse.flatMap (fun u => u.nmsR (t.wbl w)) := by
  cases t <;> simp [Tm.nmsR, Tm.inn, Tm.wbl, Tm.leaf] at h ⊢
theorem Tm.nmsR_mem {t u : Tm} (h : t.leaf = false) (hu : u ∈ t.inn) {w : Nat} {z : Nat × Nat} (hz : z ∈ u.nmsR (t.wbl w)) : z ∈ t.nmsR w := by
  rw [Tm.nmsR_inn h]
  exact List.mem_flatMap.mpr ⟨u, List.mem_reverse.mpr hu, hz⟩
theorem Tm.nmsR_len (t : Tm) : ∀ w, (t.nmsR w).length ≤ t.sz := by
  induction t <;> intro w <;> simp only [Tm.nmsR, Tm.sz, List.length_append, List.length_cons, List.length_nil] <;> first | omega | skip
  case way t ih => have := ih (w + 1); omega
  case give t u i1 i2 => have := i1 w; have := i2 w; omega
  case pair t u i1 i2 => have := i1 w; have := i2 w; omega
  case first t ih => have := ih w; omega
  case second t ih => have := ih w; omega
  case plus t u i1 i2 => have := i1 w; have := i2 w; omega
  case look t u v i1 i2 i3 => have := i1 w; have := i2 w; have := i3 w; omega
def Tm.rebuild : Tm → List Tm → Tm
  | .way _, [a] => .way a
  | .give _ _, [a, b] => .give a b
  | .pair _ _, [a, b] => .pair a b
  | .first _, [a] => .first a
  | .second _, [a] => .second a
  | .plus _ _, [a, b] => .plus a b
  | .look _ _ _, [a, b, c] => .look a b c
  | t, _ => t
theorem Tm.mapN_eq {φ : Nat → Nat → Tm} {t : Tm} (h : t.leaf = false) (w : Nat) : t.mapN φ w = t.rebuild (t.inn.map fun u => u.mapN φ (t.wbl w)) := by
  cases t <;> first | rfl | cases h
theorem Tm.enc_rebuild {t : Tm} {cs : List Tm} (h : t.leaf = false) (hl : cs.length = t.inn.length) : (t.rebuild cs).enc = .tup (.str t.word :: cs.map Tm.enc) := by
  cases t <;> simp only [Tm.leaf, reduceCtorEq] at h <;> simp only [Tm.inn, List.length_cons, List.length_nil] at hl
  all_goals (rcases cs with _ | ⟨a, _ | ⟨b, _ | ⟨c, _ | ⟨d, r⟩⟩⟩⟩ <;> simp at hl <;> rfl)
abbrev Ent := Tm × Nat × Bool
def encE (z : Ent) : D := .tup [z.1.enc, .int z.2.1, .bl z.2.2]
def eff (φ : Nat → Nat → Tm) (z : Ent) (m : List Tm) : Option (List Tm) := match z.1 with
  | .name n => some (φ n z.2.1 :: m)
  | .whole k => some (.whole k :: m)
  | t => if z.2.2 then (if t.inn.length ≤ m.length then some (t.rebuild (m.take t.inn.length) :: m.drop t.inn.length) else none) else some (t.mapN φ z.2.1 :: m)
def effs (φ : Nat → Nat → Tm) : List Ent → List Tm → Option (List Tm)
  | [], m => some m
  | z :: zs, m => match eff φ z m with
    | some m' => effs φ zs m'
    | none => none
theorem eff_false {φ : Nat → Nat → Tm} (t : Tm) (w : Nat) (m : List Tm) : eff φ (t, w, false) m = some (t.mapN φ w :: m) := by cases t <;> rfl
theorem eff_true {φ : Nat → Nat → Tm} {t : Tm} (h : t.leaf = false) (w : Nat) (m : List Tm) : eff φ (t, w, true) m = if t.inn.length ≤ m.length then some (t.rebuild (m.take t.inn.length) :: m.drop t.inn.length) else none := by
  cases t <;> first | rfl | cases h
theorem effs_row {φ : Nat → Nat → Tm} {w : Nat} {zs : List Ent} : ∀ (xs : List Tm) (m : List Tm), effs φ (xs.map (fun u => (u, w, false)) ++ zs) m = effs φ zs ((xs.map fun u => u.mapN φ w).reverse ++ m)
  | [], m => rfl
  | x :: xs, m => by
    rw [List.map_cons, List.cons_append, effs, eff_false]
    simp only []
    rw [effs_row xs]
    simp
theorem effs_open {φ : Nat → Nat → Tm} {t : Tm} (h : t.leaf = false) (w : Nat) (zs : List Ent) (m : List Tm) : effs φ ((t.inn.map fun u => ((u, t.wbl w, false) : Ent)).reverse ++ (t, w, true) :: zs) m = effs φ ((t, w, false) :: zs) m := by
  rw [← List.map_reverse, effs_row, effs, effs, eff_false, eff_true h]
  rw [List.map_reverse, List.reverse_reverse, if_pos (by simp)]
  simp only [List.length_map, List.take_left', List.drop_left', Tm.mapN_eq h]
def wtE (z : Ent) : Nat := if z.2.2 then 1 else 2 * z.1.sz
def wtS (zs : List Ent) : Nat := (zs.map wtE).sum
theorem wtS_cons (z : Ent) (zs : List Ent) : wtS (z :: zs) = wtE z + wtS zs := by simp [wtS]
theorem wtS_row (w : Nat) (zs : List Ent) : ∀ xs : List Tm, wtS (xs.map (fun u => ((u, w, false) : Ent)) ++ zs) = 2 * (xs.map Tm.sz).sum + wtS zs
  | [] => by simp
  | x :: xs => by rw [List.map_cons, List.cons_append, wtS_cons, wtS_row w zs xs, List.map_cons, List.sum_cons]; simp only [wtE]; simp; omega
theorem wtS_len : ∀ zs : List Ent, zs.length ≤ wtS zs
  | [] => Nat.zero_le _
  | z :: zs => by
    have := wtS_len zs
    have := z.1.sz_pos
    have h : 1 ≤ wtE z := by unfold wtE; split <;> omega
    rw [wtS_cons, List.length_cons]; omega
theorem Tm.sz_sum {t : Tm} (h : t.leaf = false) : (t.inn.map Tm.sz).sum + 1 = t.sz := by
  cases t <;> simp [Tm.inn, Tm.sz, Tm.leaf] at h ⊢ <;> omega
def spBelow : DSp := fun ds G Q => ∃ (t : Tm) (w : Nat), ds = [t.enc, .int w] ∧ Q (.int (t.wbl w : Nat)) G
def prD (z : Nat × Nat) : D := .tup [.int z.1, .int z.2]
def spNamesIn : DSp := fun ds G Q => ∃ t : Tm, ds = [t.enc] ∧ t.sz ≤ 10000 ∧ ∀ l, G l = none → Q (.ref l) (up G l (.lst ((t.nmsR 0).map prD)))
/-- a def that tells what stands for a name -/
def clD (φ : Nat → Nat → Tm) (C : Nat → Nat → Prop) (L : List (Addr × DO)) : DSp := fun ds G Q => ∃ n w : Nat, ds = [.int n, .int w] ∧ C n w ∧ (∀ q ∈ L, G q.1 = some q.2) ∧ Q (φ n w).enc G
def spWith (P : Program) (w : World) (K : PySem.W.Frag) (mg : Str → Option Value) (base : Heap) (k : Nat) : DSp := fun ds G Q => ∃ (t : Tm) (f : Addr) (name qual : Str) (st : Stmt) (fr : List Str) (vals : List D) (ps : List Str) (φ : Nat → Nat → Tm) (C : Nat → Nat → Prop) (L : List (Addr × DO)),
  ds = [t.enc, .ref f] ∧ G f = some (.clo name qual st fr vals) ∧ CloD P w K mg base k name qual st fr vals ps (clD φ C L) ∧ (∀ q ∈ L, G q.1 = some q.2) ∧ t.sz ≤ 10000 ∧ (∀ z ∈ t.nmsR 0, C z.1 z.2) ∧ Q (t.mapN φ 0).enc G
def defPos : Stmt → Pos
  | .FunctionDef _ _ _ _ _ _ _ _ _ p => p
  | _ => ⟨0, 0, 0, 0⟩
def cLift (m l : Nat) : Nat → Nat → Tm := fun n w => .name (if n ≥ w + l then n + m else n)
def spLift (T : Addr) (pos : Pos) : DSp := fun ds G Q => ∃ (t : Tm) (m l : Nat), ds = [t.enc, .int m, .int l] ∧ G T = some (.tab pos "lifted.<locals>.moved") ∧ t.sz ≤ 10000 ∧ Q (t.mapN (cLift m l) 0).enc G
def e2D (z : Tm × Nat) : D := .tup [z.1.enc, .int z.2]
def sz2 (zs : List (Tm × Nat)) : Nat := (zs.map fun z => z.1.sz).sum
theorem sz2_cons (z : Tm × Nat) (zs : List (Tm × Nat)) : sz2 (z :: zs) = z.1.sz + sz2 zs := by simp [sz2]
theorem sz2_row (w : Nat) (zs : List (Tm × Nat)) : ∀ xs : List Tm, sz2 (xs.map (fun u => (u, w)) ++ zs) = (xs.map Tm.sz).sum + sz2 zs
  | [] => by simp
  | x :: xs => by rw [List.map_cons, List.cons_append, sz2_cons, sz2_row w zs xs, List.map_cons, List.sum_cons]; simp only []; omega
theorem sz2_len : ∀ zs : List (Tm × Nat), zs.length ≤ sz2 zs
  | [] => Nat.zero_le _
  | z :: zs => by
    have := sz2_len zs
    have := z.1.sz_pos
    rw [sz2_cons, List.length_cons]; omega
theorem Tm.sz_inns (t : Tm) : (t.inn.map Tm.sz).sum + 1 ≤ t.sz := by cases t <;> simp [Tm.inn, Tm.sz] <;> omega
end L3
namespace L3
open PySem L2
theorem at0 {α : Type} (x : α) (xs : List α) : atI (x :: xs) 0 = some x := atI_nat (j := 0) rfl
theorem Tm.enc_node {t : Tm} (h : t.leaf = false) : t.enc = .tup (.str t.word :: t.inn.map Tm.enc) := by cases t <;> first | rfl | cases h
theorem word_leaf {t : Tm} (h : t.leaf = false) : inL (.str t.word) [.str "name", .str "whole"] = false := by
  cases t <;> first | (simp [inL, eqF, Tm.word, ofStr_eq, ofStr_beq]; done) | cases h
theorem word_way (t : Tm) (w : Nat) : ((w : Int) + (if eqD (.str t.word) (.str "way") = true then 1 else 0)) = ((t.wbl w : Nat) : Int) := by
  cases t <;> simp [Tm.word, Tm.wbl, eqD, ofStr_eq, ofStr_beq]
/-- a third of the parts and more are no leaves -/
theorem Tm.nmsR_few (t : Tm) : ∀ w, 3 * (t.nmsR w).length ≤ 2 * t.sz + 1 := by
  induction t <;> intro w <;> simp only [Tm.nmsR, Tm.sz, List.length_append, List.length_cons, List.length_nil] <;> first | omega | skip
  case way t ih => have := ih (w + 1); omega
  case give t u i1 i2 => have := i1 w; have := i2 w; omega
  case pair t u i1 i2 => have := i1 w; have := i2 w; omega
  case first t ih => have := ih w; omega
  case second t ih => have := ih w; omega
  case plus t u i1 i2 => have := i1 w; have := i2 w; omega
  case look t u v i1 i2 i3 => have := i1 w; have := i2 w; have := i3 w; omega
/-- open names, as they are come to -/
def opnOf (zs : List (Nat × Nat)) : List Int := zs.filterMap fun z => if z.2 ≤ z.1 then some ((z.1 : Int) - z.2) else none
def Tm.opn (t : Tm) : List Int := opnOf (t.nmsR 0)
theorem Tm.opn_len (t : Tm) : t.opn.length ≤ (t.nmsR 0).length := List.length_filterMap_le _ _
def spOpen : DSp := fun ds G Q => ∃ t : Tm, ds = [t.enc] ∧ t.sz ≤ 10000 ∧ (t.nmsR 0).length < 64 ∧ ∀ ms, Srt t.opn ms → ∀ l, G l = none → Q (.ref l) (up G l (.lst (ms.map D.int)))
abbrev Spot := List Int × Nat × Tm
def Tm.spots : Tm → List Int → Nat → List Spot
  | .name n, pl, w => [(pl, w, .name n)]
  | .whole k, pl, w => [(pl, w, .whole k)]
  | .way t, pl, w => t.spots (pl ++ [0]) (w + 1)
  | .give t u, pl, w => t.spots (pl ++ [0]) w ++ u.spots (pl ++ [1]) w
  | .pair t u, pl, w => t.spots (pl ++ [0]) w ++ u.spots (pl ++ [1]) w
  | .first t, pl, w => t.spots (pl ++ [0]) w
  | .second t, pl, w => t.spots (pl ++ [0]) w
  | .plus t u, pl, w => t.spots (pl ++ [0]) w ++ u.spots (pl ++ [1]) w
  | .look t u v, pl, w => t.spots (pl ++ [0]) w ++ (u.spots (pl ++ [1]) w ++ v.spots (pl ++ [2]) w)
def spotsL : List Tm → Nat → List Int → Nat → List Spot
  | [], _, _, _ => []
  | t :: ts, i, pl, w => t.spots (pl ++ [(i : Int)]) w ++ spotsL ts (i + 1) pl w
theorem Tm.spots_node {t : Tm} (h : t.leaf = false) (pl : List Int) (w : Nat) : t.spots pl w = spotsL t.inn 0 pl (t.wbl w) := by
  cases t <;> first | (simp [Tm.spots, spotsL, Tm.inn, Tm.wbl]; done) | cases h
theorem spotsL_snoc (x : Tm) (pl : List Int) (w : Nat) : ∀ (ts : List Tm) (i : Nat), spotsL (ts ++ [x]) i pl w = spotsL ts i pl w ++ x.spots (pl ++ [((i + ts.length : Nat) : Int)]) w
  | [], i => by simp [spotsL]
  | t :: ts, i => by rw [List.cons_append, spotsL, spotsL_snoc x pl w ts (i + 1), spotsL, List.append_assoc, List.length_cons]; congr 5; omega
theorem Tm.spots_len (t : Tm) : ∀ pl w, (t.spots pl w).length ≤ t.sz := by
  induction t <;> intro pl w <;> simp only [Tm.spots, Tm.sz, List.length_append, List.length_cons, List.length_nil] <;> first | omega | skip
  case way t ih => have := ih (pl ++ [0]) (w + 1); omega
  case give t u i1 i2 => have := i1 (pl ++ [0]) w; have := i2 (pl ++ [1]) w; omega
  case pair t u i1 i2 => have := i1 (pl ++ [0]) w; have := i2 (pl ++ [1]) w; omega
  case first t ih => have := ih (pl ++ [0]) w; omega
  case second t ih => have := ih (pl ++ [0]) w; omega
  case plus t u i1 i2 => have := i1 (pl ++ [0]) w; have := i2 (pl ++ [1]) w; omega
  case look t u v i1 i2 i3 => have := i1 (pl ++ [0]) w; have := i2 (pl ++ [1]) w; have := i3 (pl ++ [2]) w; omega
theorem spotsL_len : ∀ (ts : List Tm) (i : Nat) (pl : List Int) (w : Nat), (spotsL ts i pl w).length ≤ (ts.map Tm.sz).sum
  | [], _, _, _ => Nat.zero_le _
  | t :: ts, i, pl, w => by
    have := t.spots_len (pl ++ [(i : Int)]) w
    have := spotsL_len ts (i + 1) pl w
    simp only [spotsL, List.length_append, List.map_cons, List.sum_cons]; omega
/-- the names among the spots -/
def nmSpot (z : Spot) : Option (Nat × Nat) := match z.2.2 with
  | .name n => some (n, z.2.1)
  | _ => none
theorem Tm.spots_mem (t : Tm) : ∀ (pl : List Int) (w : Nat) (y : Nat × Nat), y ∈ (t.spots pl w).filterMap nmSpot ↔ y ∈ t.nmsR w := by
  induction t <;> intro pl w y <;> simp only [Tm.spots, Tm.nmsR, List.filterMap_append, List.mem_append, List.filterMap_cons, List.filterMap_nil, nmSpot]
  case way t ih => exact ih _ _ _
  case give t u i1 i2 => rw [i1, i2]; exact Or.comm
  case pair t u i1 i2 => rw [i1, i2]; exact Or.comm
  case first t ih => exact ih _ _ _
  case second t ih => exact ih _ _ _
  case plus t u i1 i2 => rw [i1, i2]; exact Or.comm
  case look t u v i1 i2 i3 => rw [i1, i2, i3]; constructor <;> (intro h; rcases h with h | h | h <;> simp [h])
def spD (z : Spot) : D := .tup [plD z.1, .int z.2.1, z.2.2.enc]
def spSpots (n : Nat) : DSp := fun ds G Q => ∃ (t : Tm) (pl : List Int) (w : Nat), ds = [t.enc, plD pl, .int w] ∧ t.dp < n ∧ t.sz ≤ 1000 ∧ pl.length + t.dp ≤ 1000 ∧ ∀ l, G l = none → Q (.ref l) (up G l (.lst ((t.spots pl w).map spD)))
def spLLift (n : Nat) : DSp := fun ds G Q => ∃ (t : Tm) (m l w : Nat), ds = [t.enc, .int m, .int l, .int w] ∧ t.dp < n ∧ Q (t.mapN (cLift m l) w).enc G
theorem mapN_sz (m l : Nat) (t : Tm) : ∀ w, (t.mapN (cLift m l) w).sz = t.sz := by
  induction t <;> intro w <;> simp_all [Tm.mapN, Tm.sz, cLift]
theorem mapN_dp (m l : Nat) (t : Tm) : ∀ w, (t.mapN (cLift m l) w).dp = t.dp := by
  induction t <;> intro w <;> simp_all [Tm.mapN, Tm.dp, cLift]
theorem mapN_zero (l : Nat) (t : Tm) : ∀ w, t.mapN (cLift 0 l) w = t := by
  induction t <;> intro w <;> simp_all [Tm.mapN, cLift]
theorem mapN_nms (m l : Nat) (t : Tm) : ∀ w, (t.mapN (cLift m l) w).nmsR w = (t.nmsR w).map fun z => (if z.1 ≥ z.2 + l then z.1 + m else z.1, z.2) := by
  induction t <;> intro w <;> simp_all [Tm.mapN, Tm.nmsR, cLift]
theorem spots_leaf (t : Tm) : ∀ (pl : List Int) (w : Nat), ∀ z ∈ t.spots pl w, (∃ n, z.2.2 = .name n) ∨ ∃ k, z.2.2 = .whole k := by
  induction t <;> intro pl w z hz <;> simp only [Tm.spots, List.mem_append, List.mem_cons, List.not_mem_nil, or_false] at hz
  case name n => subst hz; exact .inl ⟨_, rfl⟩
  case whole n => subst hz; exact .inr ⟨_, rfl⟩
  case way t ih => exact ih _ _ z hz
  case first t ih => exact ih _ _ z hz
  case second t ih => exact ih _ _ z hz
  case give t u i1 i2 => rcases hz with h | h; exact i1 _ _ z h; exact i2 _ _ z h
  case pair t u i1 i2 => rcases hz with h | h; exact i1 _ _ z h; exact i2 _ _ z h
  case plus t u i1 i2 => rcases hz with h | h; exact i1 _ _ z h; exact i2 _ _ z h
  case look t u v i1 i2 i3 => rcases hz with h | h | h; exact i1 _ _ z h; exact i2 _ _ z h; exact i3 _ _ z h
theorem nd_len : ∀ {xs ys : List Int}, xs.Nodup → (∀ j ∈ xs, j ∈ ys) → xs.length ≤ ys.length
  | [], _, _, _ => Nat.zero_le _
  | x :: xs, ys, h, hs => by
    rw [List.nodup_cons] at h
    have hx := hs x (List.mem_cons_self ..)
    have ih := nd_len (ys := ys.erase x) h.2 fun j hj => (List.mem_erase_of_ne (by rintro rfl; exact h.1 hj)).mpr (hs j (List.mem_cons_of_mem _ hj))
    rw [List.length_erase_of_mem hx] at ih
    have : 0 < ys.length := List.length_pos_of_mem hx
    rw [List.length_cons]; omega
theorem kp {G : DV} {l b : Addr} {o u : DO} (h : G l = none) (e : G b = some u) : up G l o b = some u := Sub.new (Sub.refl _) h b u e
theorem Fx.kp {a b : Addr} {G G' : DV} {u : DO} (h : Fx a G G') (n : b ≠ a) (e : G b = some u) : G' b = some u := by rw [h.other n]; exact e
theorem eqR_same {x : D} {G : DV} {Q : DK} (hx : x.data = true) (hd : x.dp ≤ 150) (q : Q (.bl false) G) : eqR (!·) x x G Q := eqR_of hx hx hd (by rw [eqD_refl hx]; exact q)
def spDeeper : DSp := fun ds G Q => ∃ (a : Addr) (t : Tm), ds = [.ref a, t.enc] ∧ Fd G a ∧ ∀ (u : Tm) G', Fx a G G' → u.sz ≤ t.sz + 36 → u.dp ≤ t.dp + 18 → Q u.enc G'
end L3
namespace L3
open PySem L2
/-- a program without open names is the same, lifted -/
theorem lift_closed (m : Nat) (t : Tm) : ∀ w, (∀ z ∈ t.nmsR w, z.1 < z.2) → t.mapN (cLift m 0) w = t := by
  induction t with
  | name n => intro w h; have := h (n, w) (List.mem_cons_self ..); simp only [Tm.mapN, cLift]; rw [if_neg (by omega)]
  | whole k => intro w _; rfl
  | way t ih => intro w h; simp only [Tm.mapN]; rw [ih (w + 1) h]
  | first t ih => intro w h; simp only [Tm.mapN]; rw [ih w h]
  | second t ih => intro w h; simp only [Tm.mapN]; rw [ih w h]
  | give t u i1 i2 => intro w h; simp only [Tm.mapN]; rw [i1 w fun z hz => h z (List.mem_append_right _ hz), i2 w fun z hz => h z (List.mem_append_left _ hz)]
  | pair t u i1 i2 => intro w h; simp only [Tm.mapN]; rw [i1 w fun z hz => h z (List.mem_append_right _ hz), i2 w fun z hz => h z (List.mem_append_left _ hz)]
  | plus t u i1 i2 => intro w h; simp only [Tm.mapN]; rw [i1 w fun z hz => h z (List.mem_append_right _ hz), i2 w fun z hz => h z (List.mem_append_left _ hz)]
  | look t u v i1 i2 i3 => intro w h; simp only [Tm.mapN]; rw [i1 w fun z hz => h z (List.mem_append_right _ (List.mem_append_right _ hz)), i2 w fun z hz => h z (List.mem_append_right _ (List.mem_append_left _ hz)), i3 w fun z hz => h z (List.mem_append_left _ hz)]
theorem opn_nil {t : Tm} (h : t.opn = []) : ∀ z ∈ t.nmsR 0, z.1 < z.2 := fun z hz => by
  rcases Nat.lt_or_ge z.1 z.2 with c | c
  · exact c
  · have : ((z.1 : Int) - z.2) ∈ t.opn := List.mem_filterMap.mpr ⟨z, hz, by rw [if_pos c]⟩
    rw [h] at this; cases this
/-- what stands for a name when u is put in -/
def cPut (u : Tm) : Nat → Nat → Tm := fun n w => if n = w then u.mapN (cLift w 0) 0 else .name (if w < n then n - 1 else n)
theorem put_lift (u t : Tm) : ∀ w, (t.mapN (cLift 1 0) w).mapN (cPut u) w = t := by
  induction t <;> intro w <;> simp_all [Tm.mapN]
  case name n =>
    simp only [cLift]
    by_cases c : n ≥ w + 0
    · rw [if_pos c]; simp only [Tm.mapN, cPut]; rw [if_neg (by omega), if_pos (by omega)]; rfl
    · rw [if_neg c]; simp only [Tm.mapN, cPut]; rw [if_neg (by omega), if_neg (by omega)]
def wsOf (t : Tm) : List Nat := ((t.nmsR 0).filter fun z => decide (z.1 = z.2)).map (·.2)
theorem wsOf_mem {t : Tm} {n : Nat} (h : (n, n) ∈ t.nmsR 0) : n ∈ wsOf t := List.mem_map.mpr ⟨(n, n), List.mem_filter.mpr ⟨h, by simp⟩, rfl⟩
theorem wsOf_len (t : Tm) : (wsOf t).length ≤ (t.nmsR 0).length := by unfold wsOf; rw [List.length_map]; exact List.length_filter_le _ _
/-- copies by how many ways are around -/
def Cop (kvs : List (Key × D)) (u : Tm) (ws : List Nat) : Prop := ∀ w ∈ ws, valD kvs (.inl w) = some (u.mapN (cLift w 0) 0).enc
def spCopies (T : Addr) (pos : Pos) : DSp := fun ds G Q => ∃ (u : Tm) (l : Addr) (ws : List Nat), ds = [u.enc, .ref l] ∧ G l = some (.lst (ws.map fun (w : Nat) => D.int (w : Int))) ∧ ws.length < 64 ∧ u.sz ≤ 10000 ∧ (u.nmsR 0).length < 64 ∧ G T = some (.tab pos "lifted.<locals>.moved") ∧ ∀ d kvs, G d = none → Cop kvs u ws → Q (.ref d) (up G d (.dK kvs))
def spPut (T : Addr) (pos : Pos) (T2 : Addr) (pos2 : Pos) : DSp := fun ds G Q => ∃ t u : Tm, ds = [t.enc, u.enc] ∧ t.sz ≤ 10000 ∧ u.sz ≤ 10000 ∧ (t.nmsR 0).length < 64 ∧ (u.nmsR 0).length < 64 ∧ G T = some (.tab pos "lifted.<locals>.moved") ∧ G T2 = some (.tab pos2 "put_in.<locals>.taken") ∧ Q (t.mapN (cPut u) 0).enc G
def Tm.wds : Tm → List Int → List (List Int × Str)
  | .name _, _ => []
  | .whole _, _ => []
  | .way t, pl => (pl, "way") :: t.wds (pl ++ [0])
  | .give t u, pl => (pl, "give") :: (t.wds (pl ++ [0]) ++ u.wds (pl ++ [1]))
  | .pair t u, pl => (pl, "pair") :: (t.wds (pl ++ [0]) ++ u.wds (pl ++ [1]))
  | .first t, pl => (pl, "first") :: t.wds (pl ++ [0])
  | .second t, pl => (pl, "second") :: t.wds (pl ++ [0])
  | .plus t u, pl => (pl, "plus") :: (t.wds (pl ++ [0]) ++ u.wds (pl ++ [1]))
  | .look t u v, pl => (pl, "look") :: (t.wds (pl ++ [0]) ++ (u.wds (pl ++ [1]) ++ v.wds (pl ++ [2])))
def wdsL : List Tm → Nat → List Int → List (List Int × Str)
  | [], _, _ => []
  | t :: ts, i, pl => t.wds (pl ++ [(i : Int)]) ++ wdsL ts (i + 1) pl
theorem Tm.wds_node {t : Tm} (h : t.leaf = false) (pl : List Int) : t.wds pl = (pl, t.word) :: wdsL t.inn 0 pl := by
  cases t <;> first | (simp [Tm.wds, wdsL, Tm.inn, Tm.word]; done) | cases h
theorem wdsL_snoc (x : Tm) (pl : List Int) : ∀ (ts : List Tm) (i : Nat), wdsL (ts ++ [x]) i pl = wdsL ts i pl ++ x.wds (pl ++ [((i + ts.length : Nat) : Int)])
  | [], i => by simp [wdsL]
  | t :: ts, i => by rw [List.cons_append, wdsL, wdsL_snoc x pl ts (i + 1), wdsL, List.append_assoc, List.length_cons]; congr 5; omega
theorem Tm.wds_len (t : Tm) : ∀ pl, (t.wds pl).length ≤ t.sz := by
  induction t <;> intro pl <;> simp only [Tm.wds, Tm.sz, List.length_append, List.length_cons, List.length_nil] <;> first | omega | skip
  case way t ih => have := ih (pl ++ [0]); omega
  case give t u i1 i2 => have := i1 (pl ++ [0]); have := i2 (pl ++ [1]); omega
  case pair t u i1 i2 => have := i1 (pl ++ [0]); have := i2 (pl ++ [1]); omega
  case first t ih => have := ih (pl ++ [0]); omega
  case second t ih => have := ih (pl ++ [0]); omega
  case plus t u i1 i2 => have := i1 (pl ++ [0]); have := i2 (pl ++ [1]); omega
  case look t u v i1 i2 i3 => have := i1 (pl ++ [0]); have := i2 (pl ++ [1]); have := i3 (pl ++ [2]); omega
theorem wdsL_len : ∀ (ts : List Tm) (i : Nat) (pl : List Int), (wdsL ts i pl).length ≤ (ts.map Tm.sz).sum
  | [], _, _ => Nat.zero_le _
  | t :: ts, i, pl => by
    have := t.wds_len (pl ++ [(i : Int)])
    have := wdsL_len ts (i + 1) pl
    simp only [wdsL, List.length_append, List.map_cons, List.sum_cons]; omega
def wdD (z : List Int × Str) : D := .tup [plD z.1, .str z.2]
def spWords (n : Nat) : DSp := fun ds G Q => ∃ (t : Tm) (pl : List Int), ds = [t.enc, plD pl] ∧ t.dp < n ∧ t.sz ≤ 1000 ∧ pl.length + t.dp ≤ 1000 ∧ ∀ l, G l = none → Q (.ref l) (up G l (.lst ((t.wds pl).map wdD)))
theorem spotsL_mem {pl : List Int} {w : Nat} {z : Spot} : ∀ {ts : List Tm} {i : Nat}, z ∈ spotsL ts i pl w → ∃ (j : Nat) (u : Tm), ts[j]? = some u ∧ z ∈ u.spots (pl ++ [((i + j : Nat) : Int)]) w
  | [], _, h => by cases h
  | t :: ts, i, h => by
    rcases List.mem_append.mp h with h | h
    · exact ⟨0, t, rfl, h⟩
    · obtain ⟨j, u, e, hz⟩ := spotsL_mem h
      exact ⟨j + 1, u, by simpa using e, by rw [show i + (j + 1) = i + 1 + j by omega]; exact hz⟩
theorem wdsL_mem {pl : List Int} {z : List Int × Str} : ∀ {ts : List Tm} {i : Nat}, z ∈ wdsL ts i pl → ∃ (j : Nat) (u : Tm), ts[j]? = some u ∧ z ∈ u.wds (pl ++ [((i + j : Nat) : Int)])
  | [], _, h => by cases h
  | t :: ts, i, h => by
    rcases List.mem_append.mp h with h | h
    · exact ⟨0, t, rfl, h⟩
    · obtain ⟨j, u, e, hz⟩ := wdsL_mem h
      exact ⟨j + 1, u, by simpa using e, by rw [show i + (j + 1) = i + 1 + j by omega]; exact hz⟩
theorem mapN_inn {φ : Nat → Nat → Tm} {t : Tm} (h : t.leaf = false) (w : Nat) : (t.mapN φ w).inn = t.inn.map (fun u => u.mapN φ (t.wbl w)) ∧ (t.mapN φ w).word = t.word := by
  cases t <;> first | exact ⟨rfl, rfl⟩ | cases h
theorem at_spot (φ : Nat → Nat → Tm) (t : Tm) (w : Nat) (pl : List Int) (z : Spot) (hz : z ∈ t.spots pl w) : ∃ r, z.1 = pl ++ r ∧ (t.mapN φ w).at r = some (z.2.2.mapN φ z.2.1) := by
  by_cases hl : t.leaf = true
  · cases t with
    | name n => obtain rfl := List.mem_singleton.mp hz; exact ⟨[], by simp, by rw [Tm.at]⟩
    | whole n => obtain rfl := List.mem_singleton.mp hz; exact ⟨[], by simp, by rw [Tm.at]⟩
    | _ => cases hl
  · have hf : t.leaf = false := by simpa using hl
    rw [Tm.spots_node hf] at hz
    obtain ⟨j, u, e, hz⟩ := spotsL_mem hz
    rw [Nat.zero_add] at hz
    have := Tm.sz_mem (List.mem_of_getElem? e)
    obtain ⟨r, h1, h2⟩ := at_spot φ u (t.wbl w) (pl ++ [(j : Int)]) z hz
    refine ⟨(j : Int) :: r, by rw [h1]; simp, ?_⟩
    rw [Tm.at_go (by omega) (by rw [(mapN_inn hf w).1, Int.toNat_natCast, List.getElem?_map, e]; rfl)]
    exact h2
termination_by t.sz
theorem at_word (φ : Nat → Nat → Tm) (t : Tm) (w : Nat) (pl : List Int) (z : List Int × Str) (hz : z ∈ t.wds pl) : ∃ r x, z.1 = pl ++ r ∧ (t.mapN φ w).at r = some x ∧ x.word = z.2 := by
  by_cases hl : t.leaf = true
  · cases t with
    | name n => cases hz
    | whole n => cases hz
    | _ => cases hl
  · have hf : t.leaf = false := by simpa using hl
    rw [Tm.wds_node hf] at hz
    rcases List.mem_cons.mp hz with rfl | hz
    · exact ⟨[], t.mapN φ w, by simp, by rw [Tm.at], (mapN_inn hf w).2⟩
    · obtain ⟨j, u, e, hz⟩ := wdsL_mem hz
      rw [Nat.zero_add] at hz
      have := Tm.sz_mem (List.mem_of_getElem? e)
      obtain ⟨r, x, h1, h2, h3⟩ := at_word φ u (t.wbl w) (pl ++ [(j : Int)]) z hz
      refine ⟨(j : Int) :: r, x, by rw [h1]; simp, ?_, h3⟩
      rw [Tm.at_go (by omega) (by rw [(mapN_inn hf w).1, Int.toNat_natCast, List.getElem?_map, e]; rfl)]
      exact h2
termination_by t.sz
theorem mapN_dpB {φ : Nat → Nat → Tm} {Bd : Nat} (hφ : ∀ n w, (φ n w).dp ≤ Bd) (t : Tm) : ∀ w, (t.mapN φ w).dp ≤ t.dp + Bd := by
  induction t with
  | name k => intro w; have := hφ k w; simp only [Tm.mapN, Tm.dp]; omega
  | whole k => intro w; simp only [Tm.mapN, Tm.dp]; omega
  | way t ih => intro w; have := ih (w + 1); simp only [Tm.mapN, Tm.dp]; omega
  | first t ih => intro w; have := ih w; simp only [Tm.mapN, Tm.dp]; omega
  | second t ih => intro w; have := ih w; simp only [Tm.mapN, Tm.dp]; omega
  | give t u i1 i2 => intro w; have := i1 w; have := i2 w; simp only [Tm.mapN, Tm.dp]; omega
  | pair t u i1 i2 => intro w; have := i1 w; have := i2 w; simp only [Tm.mapN, Tm.dp]; omega
  | plus t u i1 i2 => intro w; have := i1 w; have := i2 w; simp only [Tm.mapN, Tm.dp]; omega
  | look t u v i1 i2 i3 => intro w; have := i1 w; have := i2 w; have := i3 w; simp only [Tm.mapN, Tm.dp]; omega
def spPutR : DSp := fun ds G Q => ∃ t u : Tm, ds = [t.enc, u.enc, (t.mapN (cPut u) 0).enc] ∧ t.sz ≤ 200 ∧ t.dp ≤ 35 ∧ u.dp ≤ 35 ∧ Q (.bl true) G
theorem cPut_dp {u : Tm} (n w : Nat) : (cPut u n w).dp ≤ u.dp := by
  unfold cPut; split
  · rw [mapN_dp]; exact Nat.le_refl _
  · exact Nat.zero_le _
end L3
namespace KB
open PySem L2
def top (i : Nat) : Stmt := PySem.Challenge.pw_kindbags_k04_put_in.main.body.getD i (.Pass ⟨0, 0, 0, 0⟩)
structure Blt (mg : Str → Option Value) : Prop where
  len : mg "len" = none
  isinstance : mg "isinstance" = none
  range : mg "range" = none
  int : mg "int" = none
  bool : mg "bool" = none
  str : mg "str" = none
  tuple : mg "tuple" = none
  list : mg "list" = none
  zip : mg "zip" = none
  sorted : mg "sorted" = none
  set : mg "set" = none
  max : mg "max" = none
end KB
namespace KB
open PySem
abbrev sc_inner_ps : List Str := ["program"]
abbrev sc_opn_ps : List Str := ["program"]
abbrev sc_namesin_ps : List Str := ["program"]
abbrev sc_wbelow_ps : List Str := ["program", "ways"]
abbrev sc_lifted_ps : List Str := ["program", "many", "least"]
abbrev sc_putin_ps : List Str := ["program", "other"]
abbrev sc_copies_ps : List Str := ["program", "depths"]
abbrev sc_withn_ps : List Str := ["program", "change"]
abbrev sc_atp_ps : List Str := ["program", "place"]
abbrev sc_feed_ps : List Str := ["_law_script", "_law_k"]
abbrev sc_take_ps : List Str := ["_law_feed_here", "_law_many"]
abbrev sc_whole_ps : List Str := ["_law_feed_here"]
abbrev sc_wild_ps : List Str := ["_law_feed_here", "_law_many", "_law_room", "_law_deep"]
abbrev sc_spots_ps : List Str := ["_law_program", "_law_place", "_law_ways"]
abbrev sc_llift_ps : List Str := ["_law_program", "_law_many", "_law_least", "_law_ways"]
abbrev sc_words_ps : List Str := ["_law_program", "_law_place"]
abbrev sc_lright_ps : List Str := ["_law_program", "_law_other", "_law_found"]
abbrev sc_deeper_ps : List Str := ["_law_feed_here", "_law_program"]
end KB
namespace KB
open PySem L2 L3
section
variable {P : Program} {w : World} {K : PySem.W.Frag} {mg : Str → Option Value} {base : Heap} {f : Addr} {fd : FuncData}
set_option maxHeartbeats 4000000
abbrev st_take : Stmt := top 14
theorem sc_take : FnScope ["_law_feed_here", "_law_many", "_law_digit", "_law_one"] ["_law_feed_here", "_law_many"] (defScope st_take) := ⟨rfl, rfl, rfl, by decide +kernel, rfl, by decide +kernel, by decide +kernel⟩
theorem ok_take (F : Fun K "_law_take" "_law_take" st_take f fd) : FnOk P w K mg base CX0 1 f fd ["_law_feed_here", "_law_many"] (conc K spTake) := by
  refine okD (k := 0) F sc_take (fun ds G DQ h => ?_) (fun cdv A outer s H E hr ds G DQ h => ?_)
  · unfold spTake at h; split at h
    · rfl
    · exact h.elim
  unfold spTake at h; split at h
  case h_2 => exact h.elim
  next a m =>
  obtain ⟨⟨x, y, hF⟩, h0, h1, q⟩ := h
  refine ⟨_, (ab_cons (as_if (at_cmp aop_gt (ae_ix aix (ae_var 0) ae_int (fun _ _ => rfl)) ae_int (nomark _)) (ab_cons (as_set (k := 2) sc_take.nd rfl (Or.inl rfl) (ae_op aop_mod (ae_ix aix (ae_var 0) ae_int (fun _ _ => rfl)) (ae_var 1)))
      (ab_cons (as_asg (ae_op aop_fdiv (ae_ix aix (ae_var 0) ae_int (fun _ _ => rfl)) (ae_var 1)) (ag_sub (ae_var 0) ae_int))
      (ab_one (as_ret (ae_var 2))))) ab_nil)
      (ab_cons (as_set (k := 3) sc_take.nd rfl (Or.inl rfl) (ae_op aop_mod (ae_op aop_mul (ae_ix aix (ae_var 0) ae_int (fun _ _ => rfl)) ae_int) ae_int))
      (ab_cons (as_asg (ae_op aop_add (ae_op aop_mod (ae_op aop_add (ae_op aop_mul (ae_var 3) ae_int) ae_int) ae_int) ae_int) (ag_sub (ae_var 0) ae_int))
      (ab_one (as_ret (ae_op aop_mod (ae_op aop_fdiv (ae_op aop_add (ae_op aop_mul (ae_var 3) ae_int) (ae_ix aix (ae_var 0) ae_int (fun _ _ => rfl))) ae_int) (ae_var 1))))))), ?_⟩
  refine onL_of hF ⟨fun c => ?_, fun c => ?_⟩
  · refine onL_of hF ⟨h0, onL_of hF ⟨⟨h0, by omega⟩, onM_of hF ⟨0, rfl, Dr.of (q _ _ .mk (Int.emod_nonneg _ (by omega)) (Int.emod_lt_of_pos _ h0))⟩⟩⟩
  · refine onL_of hF ⟨.inr ⟨by decide, by decide⟩, by simp, .inr ⟨by decide, by decide⟩, by simp, onM_of hF ⟨1, rfl, .inr ⟨by decide, by decide⟩, onL_of up_same ⟨⟨by decide, by decide⟩, h0, Dr.of (q _ _ .mk (Int.emod_nonneg _ (by omega)) (Int.emod_lt_of_pos _ h0))⟩⟩⟩
end
end KB
namespace KB
open PySem L2 L3
section
variable {P : Program} {w : World} {K : PySem.W.Frag} {mg : Str → Option Value} {base : Heap} {f : Addr} {fd : FuncData}
set_option maxHeartbeats 4000000
abbrev st_feed : Stmt := top 13
theorem sc_feed : FnScope ["_law_script", "_law_k", "_law_cell", "_law_own"] ["_law_script", "_law_k"] (defScope st_feed) := ⟨rfl, rfl, rfl, by decide +kernel, rfl, by decide +kernel, by decide +kernel⟩
theorem ok_feed (B : Blt mg) (F : Fun K "_law_feed" "_law_feed" st_feed f fd) : FnOk P w K mg base CX0 1 f fd ["_law_script", "_law_k"] (conc K spFeed) := by
  refine okD (k := 0) F sc_feed (fun ds G DQ h => ?_) (fun cdv A outer s H E hr ds G DQ h => ?_)
  · unfold spFeed at h; split at h
    · rfl
    · exact h.elim
  unfold spFeed at h; split at h
  case h_2 => exact h.elim
  next ss k =>
  obtain ⟨ns, rfl, hl, h0, h1, q⟩ := h
  have fin : ∀ x y : Int, ∀ p, G p = none → Dr DQ (.ref p) (up G p (fed x y)) := fun x y p hp => Dr.of (q p x y hp)
  have at_ok : ∀ j : Int, 0 ≤ j → j < ns.length → ∃ v, atI (ns.map D.int) j = some (.int v) := fun j j0 j1 => by
    refine ⟨ns[j.toNat], ?_⟩
    have e := atI_nat (xs := ns.map D.int) (j := j.toNat) (v := D.int ns[j.toNat]) (by simp [show j.toNat < ns.length by omega])
    rwa [show ((j.toNat : Nat) : Int) = j by omega] at e
  refine ⟨_, (ab_cons (as_set (k := 2) sc_feed.nd rfl (Or.inl rfl) (ae_op aop_add (ae_op aop_mul ae_int (ae_var 1)) ae_int))
      (ab_cons (as_if (at_cmp aop_lt (ae_var 1) (ae_callB acall_len rfl B.len PySem.boot_len (aa_cons (ae_var 0) aa_nil)) (nomark _)) (ab_one (as_set (k := 2) sc_feed.nd rfl (Or.inl rfl) (ae_ix aix (ae_var 0) (ae_var 1) (fun _ _ => rfl)))) (ab_one (as_if (at_cmp aop_gt (ae_callB acall_len rfl B.len PySem.boot_len (aa_cons (ae_var 0) aa_nil)) ae_int (nomark _)) (ab_one (as_set (k := 2) sc_feed.nd rfl (Or.inl rfl) (ae_op aop_add (ae_op aop_mul (ae_op aop_mod (ae_ix aix (ae_var 0) (ae_op aop_mod (ae_var 1) (ae_callB acall_len rfl B.len PySem.boot_len (aa_cons (ae_var 0) aa_nil))) (fun _ _ => rfl)) ae_int) ae_int) (ae_op aop_mul ae_int (ae_var 1))))) ab_nil)))
      (ab_cons (as_set (k := 3) sc_feed.nd rfl (Or.inl rfl) ae_int)
      (ab_cons (as_if (at_cmp aop_ge (ae_var 2) (ae_op aop_pow ae_int ae_int) (nomark _)) (ab_one (as_set (k := 3) sc_feed.nd rfl (Or.inl rfl) (ae_var 2))) ab_nil)
      (ab_one (as_ret (ae_lst (aa_cons (ae_var 3) (aa_cons (ae_op aop_add (ae_op aop_mod (ae_op aop_add (ae_op aop_mul (ae_op aop_mod (ae_var 2) ae_int) ae_int) (ae_op aop_mul ae_int (ae_var 1))) ae_int) ae_int) aa_nil))))))))), ?_⟩
  refine ⟨.inl ⟨by decide, by decide⟩, ⟨fun c => ?_, fun c => ?_⟩⟩
  · have c' : k < ns.length := by simpa using c
    obtain ⟨v, hv⟩ := at_ok k h0 c'
    refine (ixF_of hv ⟨⟨by decide, by decide, by decide⟩, fun c => ?_, fun c => ?_⟩)
    · exact ⟨by simp, .inr ⟨by decide, by decide⟩, .inl ⟨by decide, by decide⟩, by simp, fun p hp => fin _ _ p hp⟩
    · exact ⟨by simp, .inr ⟨by decide, by decide⟩, .inl ⟨by decide, by decide⟩, by simp, fun p hp => fin _ _ p hp⟩
  · refine ⟨fun c => ?_, fun c => ?_⟩
    · have c' : 0 < ns.length := by
        have : (0 : Int) < (ns.map D.int).length := by simpa using c
        simpa using this
      obtain ⟨v, hv⟩ := at_ok (k % (ns.map D.int).length) (Int.emod_nonneg _ (show ((ns.map D.int).length : Int) ≠ 0 by rw [List.length_map]; omega)) (by have := Int.emod_lt_of_pos k (show (0 : Int) < (ns.map D.int).length by simpa using c'); simpa using this)
      refine ⟨by simpa using c', ?_⟩
      refine (ixF_of hv ⟨by simp, .inr ⟨by decide, by decide⟩, .inl ⟨by decide, by decide⟩, ⟨by decide, by decide, by decide⟩, fun c => ?_, fun c => ?_⟩)
      · exact ⟨by simp, .inr ⟨by decide, by decide⟩, .inl ⟨by decide, by decide⟩, by simp, fun p hp => fin _ _ p hp⟩
      · exact ⟨by simp, .inr ⟨by decide, by decide⟩, .inl ⟨by decide, by decide⟩, by simp, fun p hp => fin _ _ p hp⟩
    · refine ⟨⟨by decide, by decide, by decide⟩, fun c => ?_, fun c => ?_⟩
      · exact ⟨by simp, .inr ⟨by decide, by decide⟩, .inl ⟨by decide, by decide⟩, by simp, fun p hp => fin _ _ p hp⟩
      · exact ⟨by simp, .inr ⟨by decide, by decide⟩, .inl ⟨by decide, by decide⟩, by simp, fun p hp => fin _ _ p hp⟩
end
end KB
namespace KB
open PySem L2 L3
section
variable {P : Program} {w : World} {K : PySem.W.Frag} {mg : Str → Option Value} {base : Heap} {f : Addr} {fd : FuncData}
set_option maxHeartbeats 4000000
abbrev st_whole : Stmt := top 15
theorem sc_whole : FnScope ["_law_feed_here", "_law_form"] ["_law_feed_here"] (defScope st_whole) := ⟨rfl, rfl, rfl, by decide +kernel, rfl, by decide +kernel, by decide +kernel⟩
theorem ok_whole (g_take : Got P w K mg base 1 "_law_take" ["_law_feed_here", "_law_many"] (conc K spTake)) (F : Fun K "_law_whole" "_law_whole" st_whole f fd) : FnOk P w K mg base CX0 2 f fd ["_law_feed_here"] (conc K spWhole) := by
  refine okD (k := 1) F sc_whole (fun ds G DQ h => ?_) (fun cdv A outer s H E hr ds G DQ h => ?_)
  · unfold spWhole at h; split at h
    · rfl
    · exact h.elim
  unfold spWhole at h; split at h
  case h_2 => exact h.elim
  next a =>
  obtain ⟨hF, q⟩ := h
  refine ⟨_, (ab_cons (as_set (k := 1) sc_whole.nd rfl (Or.inl rfl) (ae_call g_take hr (by omega) rfl (aa_cons (ae_var 0) (aa_cons ae_int aa_nil))))
      (ab_cons (as_if (at_cmp aop_lt (ae_var 1) ae_int (nomark _)) (ab_one (as_ret (ae_tup (aa_cons ae_str (aa_cons (ae_ixDisp (aa_cons ae_int (aa_cons ae_int (aa_cons (ae_un aun_neg ae_int) (aa_cons ae_int aa_nil)))) (ae_var 1) (fun _ _ => rfl)) aa_nil))))) ab_nil)
      (ab_cons (as_if (at_cmp aop_lt (ae_var 1) ae_int (nomark _)) (ab_one (as_ret (ae_tup (aa_cons ae_str (aa_cons (ae_op aop_sub (ae_call g_take hr (by omega) rfl (aa_cons (ae_var 0) (aa_cons ae_int aa_nil))) ae_int) aa_nil))))) ab_nil)
      (ab_one (as_ret (ae_tup (aa_cons ae_str (aa_cons (ae_op aop_sub (ae_call g_take hr (by omega) rfl (aa_cons (ae_var 0) (aa_cons ae_int aa_nil))) ae_int) aa_nil)))))))), ?_⟩
  refine ⟨hF, by decide, by decide, fun d G1 u1 d0 d1 => ⟨fun c => ?_, fun c => ⟨fun c2 => ?_, fun c2 => ?_⟩⟩⟩
  · exact at4 d0 (by simpa using c) (fun _ => Dr.of (q 0 _ u1 (by decide) (by decide))) (fun _ => Dr.of (q 1 _ u1 (by decide) (by decide))) (fun _ => Dr.of (q (-1) _ u1 (by decide) (by decide))) (fun _ => Dr.of (q 2 _ u1 (by decide) (by decide)))
  · exact ⟨u1.fd, by decide, by decide, fun e G2 u2 e0 e1 => Dr.of (q (e - 5) _ (u1.trans u2) (by omega) (by omega))⟩
  · exact ⟨u1.fd, by decide, by decide, fun e G2 u2 e0 e1 => Dr.of (q (e - 999999999) _ (u1.trans u2) (by omega) (by omega))⟩
end
end KB
namespace KB
open PySem L2 L3
section
variable {P : Program} {w : World} {K : PySem.W.Frag} {mg : Str → Option Value} {base : Heap} {f : Addr} {fd : FuncData}
set_option maxHeartbeats 4000000
abbrev st_wild : Stmt := top 16
theorem sc_wild : FnScope ["_law_feed_here", "_law_many", "_law_room", "_law_deep", "_law_form", "_law_half", "_law_third", "_law_asked", "_law_one"] ["_law_feed_here", "_law_many", "_law_room", "_law_deep"] (defScope st_wild) := ⟨rfl, rfl, rfl, by decide +kernel, rfl, by decide +kernel, by decide +kernel⟩
theorem no_wild : FnOk P w K mg base CX0 2 f fd ["_law_feed_here", "_law_many", "_law_room", "_law_deep"] (conc K (spWild 0)) := okNo fun ds G DQ h => by
  unfold spWild at h; split at h
  · obtain ⟨_, _, _, _, h1, h2, _⟩ := h; omega
  · exact h
theorem ok_wild {n : Nat} (g_take : Got P w K mg base 1 "_law_take" ["_law_feed_here", "_law_many"] (conc K spTake)) (g_whole : Got P w K mg base 2 "_law_whole" ["_law_feed_here"] (conc K spWhole)) (g_wild : Got P w K mg base (n + 2) "_law_wild" ["_law_feed_here", "_law_many", "_law_room", "_law_deep"] (conc K (spWild n)))
    (F : Fun K "_law_wild" "_law_wild" st_wild f fd) : FnOk P w K mg base CX0 (n + 3) f fd ["_law_feed_here", "_law_many", "_law_room", "_law_deep"] (conc K (spWild (n + 1))) := by
  refine okD (k := n + 2) F sc_wild (fun ds G DQ h => ?_) (fun cdv A outer s H E hr ds G DQ h => ?_)
  · unfold spWild at h; split at h
    · rfl
    · exact h.elim
  unfold spWild at h; split at h
  case h_2 => exact h.elim
  next a many room deep =>
  obtain ⟨hF, m0, m1, r1, dp0, dp1, q⟩ := h
  have fin : ∀ (p : Tm) (G' : DV), Fx a G G' → Fit p (3 * max room 0 + 1) deep → Dr DQ p.enc G' := fun p G' u z => Dr.of (q p G' u z)
  refine ⟨_, (ab_cons (as_set (k := 4) sc_wild.nd rfl (Or.inl rfl) (ae_call g_take hr (by omega) rfl (aa_cons (ae_var 0) (aa_cons ae_int aa_nil))))
      (ab_cons (as_set (k := 5) sc_wild.nd rfl (Or.inl rfl) (ae_op aop_fdiv (ae_op aop_sub (ae_var 2) ae_int) ae_int))
      (ab_cons (as_if (AW.at (aw_or (at_cmp aop_lt (ae_var 2) ae_int (nomark _)) (aw_or (at_cmp aop_lt (ae_var 3) ae_int (nomark _)) (aw_or1 (at_cmp aop_lt (ae_var 4) ae_int (nomark _)))))) (ab_cons (as_if (AW.at (aw_and (at_cmp aop_gt (ae_var 1) ae_int (nomark _)) (aw_and1 (at_cmp aop_gt (ae_call g_take hr (by omega) rfl (aa_cons (ae_var 0) (aa_cons ae_int aa_nil))) ae_int (nomark _))))) (ab_one (as_ret (ae_tup (aa_cons ae_str (aa_cons (ae_call g_take hr (by omega) rfl (aa_cons (ae_var 0) (aa_cons (ae_var 1) aa_nil))) aa_nil))))) ab_nil)
      (ab_one (as_ret (ae_call g_whole hr (by omega) rfl (aa_cons (ae_var 0) aa_nil))))) ab_nil)
      (ab_cons (as_if (at_cmp aop_lt (ae_var 4) ae_int (nomark _)) (ab_one (as_ret (ae_tup (aa_cons ae_str (aa_cons (ae_call g_wild hr (by omega) rfl (aa_cons (ae_var 0) (aa_cons (ae_op aop_add (ae_var 1) ae_int) (aa_cons (ae_op aop_sub (ae_var 2) ae_int) (aa_cons (ae_op aop_sub (ae_var 3) ae_int) aa_nil))))) aa_nil))))) ab_nil)
      (ab_cons (as_if (at_cmp aop_lt (ae_var 4) ae_int (nomark _)) (ab_one (as_ret (ae_tup (aa_cons (ae_ixDisp (aa_cons ae_str (aa_cons ae_str aa_nil)) (ae_op aop_sub (ae_var 4) ae_int) (fun _ _ => rfl)) (aa_cons (ae_call g_wild hr (by omega) rfl (aa_cons (ae_var 0) (aa_cons (ae_var 1) (aa_cons (ae_op aop_sub (ae_var 2) ae_int) (aa_cons (ae_op aop_sub (ae_var 3) ae_int) aa_nil))))) aa_nil))))) ab_nil)
      (ab_cons (as_if (at_cmp (aop_eq (hu200 hr)) (ae_var 4) ae_int (nomark _)) (ab_cons (as_set (k := 6) sc_wild.nd rfl (Or.inl rfl) (ae_op aop_fdiv (ae_op aop_sub (ae_var 2) ae_int) ae_int))
      (ab_cons (as_set (k := 7) sc_wild.nd rfl (Or.inl rfl) (ae_call g_wild hr (by omega) rfl (aa_cons (ae_var 0) (aa_cons (ae_var 1) (aa_cons (ae_var 6) (aa_cons (ae_op aop_sub (ae_var 3) ae_int) aa_nil))))))
      (ab_cons (as_set (k := 8) sc_wild.nd rfl (Or.inl rfl) (ae_call g_wild hr (by omega) rfl (aa_cons (ae_var 0) (aa_cons (ae_var 1) (aa_cons (ae_var 6) (aa_cons (ae_op aop_sub (ae_var 3) ae_int) aa_nil))))))
      (ab_one (as_ret (ae_tup (aa_cons ae_str (aa_cons (ae_var 7) (aa_cons (ae_var 8) (aa_cons (ae_call g_wild hr (by omega) rfl (aa_cons (ae_var 0) (aa_cons (ae_var 1) (aa_cons (ae_var 6) (aa_cons (ae_op aop_sub (ae_var 3) ae_int) aa_nil))))) aa_nil)))))))))) ab_nil)
      (ab_cons (as_set (k := 8) sc_wild.nd rfl (Or.inl rfl) (ae_call g_wild hr (by omega) rfl (aa_cons (ae_var 0) (aa_cons (ae_var 1) (aa_cons (ae_var 5) (aa_cons (ae_op aop_sub (ae_var 3) ae_int) aa_nil))))))
      (ab_one (as_ret (ae_tup (aa_cons (ae_ixDisp (aa_cons ae_str (aa_cons ae_str (aa_cons ae_str (aa_cons ae_str (aa_cons ae_str aa_nil))))) (ae_op aop_sub (ae_var 4) ae_int) (fun _ _ => rfl)) (aa_cons (ae_var 8) (aa_cons (ae_call g_wild hr (by omega) rfl (aa_cons (ae_var 0) (aa_cons (ae_var 1) (aa_cons (ae_var 5) (aa_cons (ae_op aop_sub (ae_var 3) ae_int) aa_nil))))) aa_nil))))))))))))), ?_⟩
  refine ⟨hF, by decide, by decide, fun form G1 u1 f0 f1 => ⟨⟨by decide, by decide⟩, fun c1 => ⟨fun _ => ?leaf1, nofun⟩, fun c1 => ⟨fun c2 => ⟨fun _ => ?leaf2, nofun⟩, fun c2 => ⟨fun c3 => ?leaf3, fun c3 => ?rest⟩⟩⟩⟩
  case leaf1 | leaf2 | leaf3 =>
    have wh : ∀ G2, Fx a G G2 → spWhole [.ref a] G2 (Dr DQ) := fun G2 u2 => ⟨u2.fd, fun k G3 u3 _ _ => fin (.whole k) G3 (u2.trans u3) ⟨by simp [Tm.sz]; omega, by simp [Tm.dp]; omega⟩⟩
    refine ⟨fun m => ⟨u1.fd, by decide, by decide, fun e G2 u2 e0 e1 => ⟨fun e2 => ?_, fun e2 => wh G2 (u1.trans u2)⟩⟩, fun m => ⟨nofun, fun _ => wh G1 u1⟩⟩
    refine ⟨(u1.trans u2).fd, by simpa using m, by omega, fun k G3 u3 k0 k1 => ?_⟩
    have z := fin (.name k.toNat) G3 ((u1.trans u2).trans u3) ⟨by simp [Tm.sz]; omega, by simp [Tm.dp]; omega⟩
    rwa [Tm.enc, show ((k.toNat : Nat) : Int) = k by omega] at z
  have d2 : ¬ deep < 1 := by simpa using c2
  have d1 : ¬ room < 2 := by simpa using c1
  have d3 : ¬ form < 2 := by simpa using c3
  refine ⟨fun c4 => ?_, fun c4 => ⟨fun c5 => ?_, fun c5 => ⟨fun c6 => ?_, fun c6 => ?_⟩⟩⟩
  · refine ⟨u1.fd, by omega, by omega, by omega, by omega, by omega, fun p G2 u2 z => fin (.way p) G2 (u1.trans u2) ?_⟩
    obtain ⟨z1, z2⟩ := z
    exact ⟨by simp only [Tm.sz]; omega, by simp only [Tm.dp]; omega⟩
  · have e4 : ¬ form < 4 := by simpa using c4
    have e5 : form < 6 := by simpa using c5
    refine at2 (i := form - 4) (by omega) (by omega) (fun _ => ?_) (fun _ => ?_)
    · refine ⟨u1.fd, by omega, by omega, by omega, by omega, by omega, fun p G2 u2 z => fin (.first p) G2 (u1.trans u2) ?_⟩
      obtain ⟨z1, z2⟩ := z
      exact ⟨by simp only [Tm.sz]; omega, by simp only [Tm.dp]; omega⟩
    · refine ⟨u1.fd, by omega, by omega, by omega, by omega, by omega, fun p G2 u2 z => fin (.second p) G2 (u1.trans u2) ?_⟩
      obtain ⟨z1, z2⟩ := z
      exact ⟨by simp only [Tm.sz]; omega, by simp only [Tm.dp]; omega⟩
  · refine ⟨⟨by decide, by decide⟩, u1.fd, by omega, by omega, by omega, by omega, by omega, fun p G2 u2 z => ⟨(u1.trans u2).fd, by omega, by omega, by omega, by omega, by omega, fun p2 G3 u3 z2 => ⟨((u1.trans u2).trans u3).fd, by omega, by omega, by omega, by omega, by omega, fun p3 G4 u4 z3 => fin (.look p p2 p3) G4 (((u1.trans u2).trans u3).trans u4) ?_⟩⟩⟩
    obtain ⟨z1, y1⟩ := z
    obtain ⟨z2, y2⟩ := z2
    obtain ⟨z3, y3⟩ := z3
    exact ⟨by simp only [Tm.sz]; omega, by simp only [Tm.dp]; omega⟩
  · have e5 : ¬ form < 6 := by simpa using c5
    have e6 : form ≠ 6 := by simpa using c6
    refine ⟨u1.fd, by omega, by omega, by omega, by omega, by omega, fun p G2 u2 z => ?_⟩
    have two : ∀ (wd : Str) (t : Tm → Tm → Tm), (∀ x y, (t x y).enc = .tup [.str wd, x.enc, y.enc]) → (∀ x y, (t x y).sz = 1 + x.sz + y.sz) → (∀ x y, (t x y).dp = 1 + max x.dp y.dp) → spWild n [.ref a, .int many, .int ((room - 1) / 2), .int (deep - 1)] G2 (fun d G' => Dr DQ (.tup [.str wd, p.enc, d]) G') := fun wd t he h1 h2 => by
      refine ⟨(u1.trans u2).fd, by omega, by omega, by omega, by omega, by omega, fun p2 G3 u3 z2 => ?_⟩
      show Dr DQ (.tup [.str wd, p.enc, p2.enc]) G3
      rw [← he]
      refine fin (t p p2) G3 ((u1.trans u2).trans u3) ?_
      obtain ⟨z1, y1⟩ := z
      obtain ⟨z2, y2⟩ := z2
      exact ⟨by rw [h1]; omega, by rw [h2]; omega⟩
    refine at5 (i := form - 7) (by omega) (by omega) (fun _ => ?_) (fun _ => ?_) (fun _ => ?_) (fun _ => ?_) (fun _ => ?_)
    · exact two _ .give (fun _ _ => rfl) (fun _ _ => rfl) (fun _ _ => rfl)
    · exact two _ .give (fun _ _ => rfl) (fun _ _ => rfl) (fun _ _ => rfl)
    · exact two _ .give (fun _ _ => rfl) (fun _ _ => rfl) (fun _ _ => rfl)
    · exact two _ .plus (fun _ _ => rfl) (fun _ _ => rfl) (fun _ _ => rfl)
    · exact two _ .pair (fun _ _ => rfl) (fun _ _ => rfl) (fun _ _ => rfl)
end
end KB
namespace KB
open PySem L2 L3
section
variable {P : Program} {w : World} {K : PySem.W.Frag} {mg : Str → Option Value} {base : Heap} {f : Addr} {fd : FuncData}
set_option maxHeartbeats 4000000
abbrev st_inner : Stmt := top 1
theorem sc_inner : FnScope ["program"] ["program"] (defScope st_inner) := ⟨rfl, rfl, rfl, by decide +kernel, rfl, by decide +kernel, by decide +kernel⟩
theorem ok_inner (F : Fun K "inner" "inner" st_inner f fd) : FnOk P w K mg base CX0 1 f fd ["program"] (conc K (spInn Tm.enc Tm.inn)) := by
  refine okD (k := 0) F sc_inner (fun ds G DQ h => ?_) (fun cdv A outer s H E hr ds G DQ h => ?_)
  · obtain ⟨t, rfl, _⟩ := h; rfl
  obtain ⟨t, rfl, q⟩ := h
  refine ⟨_, (ab_cons (as_if (AW.at (aw_or (at_cmp (aop_eq (hu200 hr)) (ae_ix aix (ae_var 0) ae_int (fun _ _ => rfl)) ae_str (nomark _)) (aw_or1 (at_cmp (aop_eq (hu200 hr)) (ae_ix aix (ae_var 0) ae_int (fun _ _ => rfl)) ae_str (nomark _))))) (ab_one (as_ret (ae_tup aa_nil))) ab_nil)
      (ab_one (as_ret (ae_slice asl (ae_var 0) (ao_some ae_int) ao_none)))), ?_⟩
  cases t with
  | name k => exact ⟨fun _ => ⟨fun _ => Dr.of q, nofun⟩, fun c => absurd c (by decide)⟩
  | whole k => exact ⟨fun c => absurd c (by decide), fun _ => ⟨fun _ => Dr.of q, fun c => absurd c (by decide)⟩⟩
  | _ => exact ⟨fun c => absurd c (by decide), fun _ => ⟨fun c => absurd c (by decide), fun _ => Dr.of q⟩⟩
end
end KB
namespace KB
open PySem L2 L3
section
variable {P : Program} {w : World} {K : PySem.W.Frag} {mg : Str → Option Value} {base : Heap} {f : Addr} {fd : FuncData}
set_option maxHeartbeats 4000000
abbrev st_wbelow : Stmt := top 5
theorem sc_wbelow : FnScope ["program", "ways"] ["program", "ways"] (defScope st_wbelow) := ⟨rfl, rfl, rfl, by decide +kernel, rfl, by decide +kernel, by decide +kernel⟩
theorem ok_wbelow (F : Fun K "ways_below" "ways_below" st_wbelow f fd) : FnOk P w K mg base CX0 1 f fd ["program", "ways"] (conc K spBelow) := by
  refine okD (k := 0) F sc_wbelow (fun ds G DQ h => ?_) (fun cdv A outer s H E hr ds G DQ h => ?_)
  · obtain ⟨_, _, rfl, _⟩ := h; rfl
  obtain ⟨t, w, rfl, q⟩ := h
  refine ⟨_, (ab_one (as_ret (ae_ifExp (at_cmp (aop_eq (hu200 hr)) (ae_ix aix (ae_var 0) ae_int (fun _ _ => rfl)) ae_str (nomark _)) (ae_op aop_add (ae_var 1) ae_int) (ae_var 1)))), ?_⟩
  cases t with
  | way a => exact ⟨fun _ => Dr.of (by simpa [Tm.wbl] using q), fun c => absurd c (by decide)⟩
  | _ => exact ⟨fun c => absurd c (by decide), fun _ => Dr.of q⟩
end
end KB
namespace KB
open PySem L2 L3
section
variable {P : Program} {w : World} {K : PySem.W.Frag} {mg : Str → Option Value} {base : Heap} {f : Addr} {fd : FuncData}
set_option maxHeartbeats 4000000
abbrev st_namesin : Stmt := top 4
theorem sc_namesin : FnScope ["program", "found", "pending", "entry", "one", "below"] ["program"] (defScope st_namesin) := ⟨rfl, rfl, rfl, by decide +kernel, rfl, by decide +kernel, by decide +kernel⟩
theorem ok_namesin (B : Blt mg) (g_inner : Got P w K mg base 1 "inner" ["program"] (conc K (spInn Tm.enc Tm.inn))) (g_wbelow : Got P w K mg base 1 "ways_below" ["program", "ways"] (conc K spBelow)) (F : Fun K "names_in" "names_in" st_namesin f fd) : FnOk P w K mg base CX0 2 f fd ["program"] (conc K spNamesIn) := by
  refine okD (k := 1) F sc_namesin (fun ds G DQ h => ?_) (fun cdv A outer s H E hr ds G DQ h => ?_)
  · obtain ⟨_, rfl, _⟩ := h; rfl
  obtain ⟨t, rfl, hz, q⟩ := h
  refine ⟨_, (ab_cons (as_set (k := 1) sc_namesin.nd rfl (Or.inl rfl) (ae_lst aa_nil))
      (ab_cons (as_set (k := 2) sc_namesin.nd rfl (Or.inl rfl) (ae_lst (aa_cons (ae_tup (aa_cons (ae_var 0) (aa_cons ae_int aa_nil))) aa_nil)))
      (ab_cons (as_while PassesOwn.never (at_truth (ae_var 2)) (ab_cons (as_set (k := 3) sc_namesin.nd rfl (Or.inl rfl) (ae_bm0 PySem.F.plainAttrs_list PySem.F.slot_list_pop PySem.F.type_list_pop amt_pop (ae_var 2)))
      (ab_cons (as_set (k := 4) sc_namesin.nd rfl (Or.inl rfl) (ae_ix aix (ae_var 3) ae_int (fun _ _ => rfl)))
      (ab_cons (as_if (at_cmp (aop_eq (hu200 hr)) (ae_ix aix (ae_var 4) ae_int (fun _ _ => rfl)) ae_str (nomark _)) (ab_one (as_expr (ae_bm PySem.F.plainAttrs_list PySem.F.slot_list_append PySem.F.type_list_append amt_append (ae_var 1) (aa_cons (ae_tup (aa_cons (ae_ix aix (ae_var 4) ae_int (fun _ _ => rfl)) (aa_cons (ae_ix aix (ae_var 3) ae_int (fun _ _ => rfl)) aa_nil))) aa_nil)))) ab_nil)
      (ab_cons (as_set (k := 5) sc_namesin.nd rfl (Or.inr rfl) (ae_call g_wbelow hr (by omega) rfl (aa_cons (ae_var 4) (aa_cons (ae_ix aix (ae_var 3) ae_int (fun _ _ => rfl)) aa_nil))))
      (ab_one (as_expr (ae_bm PySem.F.plainAttrs_list PySem.F.slot_list_extend PySem.F.type_list_extend amt_extend (ae_var 2) (aa_cons (ae_comp rfl (CompOk.of (N' := ["part", "below"]) (nt := 1) (cap := [5]) rfl (by kernel_rfl)) (keeps_name (k := 0) (by decide)) (ai_seq (ae_call g_inner hr (by omega) rfl (aa_cons (ae_var 4) aa_nil))) (fun _ _ _ _ => (ag_name (k := 0) (show List.Nodup (["part", "below"] : List Str) by decide +kernel) rfl (Or.inl rfl))) (fun _ _ _ _ => (ae_tup (aa_cons (ae_var 0) (aa_cons (ae_var 1) aa_nil))))) aa_nil)))))))))
      (ab_one (as_ret (ae_var 1)))))), ?_⟩
  intro a ha b hb
  obtain ⟨-, hb0, hne⟩ := up_new (o := .lst []) hb
  refine ⟨fun m ρ G' => ∃ (ps : List (Tm × Nat)) (fs : List (Nat × Nat)) (o3 o4 o5 : Option D), ρ = [some t.enc, some (.ref a), some (.ref b), o3, o4, o5] ∧ G' = up (up G a (.lst (fs.map prD))) b (.lst (ps.reverse.map e2D)) ∧ fs ++ ps.flatMap (fun z => z.1.nmsR z.2) = t.nmsR 0 ∧ sz2 ps ≤ t.sz ∧ m = sz2 ps, ⟨_, [(t, 0)], [], _, _, _, rfl, rfl, by simp, by simp [sz2], rfl⟩, ?_⟩
  rintro m ρ G' ⟨ps, fs, o3, o4, o5, rfl, rfl, hfs, hsz, rfl⟩
  have hlen := t.nmsR_len 0
  have hfl : fs.length ≤ t.sz := by rw [← hfs, List.length_append] at hlen; omega
  refine onL_of up_same ⟨fun c => ?_, fun c => ?_⟩
  · obtain ⟨u, w, qs, rfl⟩ : ∃ u w qs, ps = (u, w) :: qs := by
      cases ps with
      | nil => simp at c
      | cons z qs => exact ⟨z.1, z.2, qs, rfl⟩
    rw [sz2_cons] at hsz ⊢
    rw [List.flatMap_cons] at hfs
    have hql := sz2_len qs
    have hu := u.sz_pos
    refine ⟨onL_of up_same trivial, onM_of up_same ⟨qs.reverse.map e2D, e2D (u, w), by simp, ?_⟩⟩
    rw [up_up]
    have ha1 : ∀ o, up (up G a (.lst (fs.map prD))) b o a = some (.lst (fs.map prD)) := fun o => by rw [up_ne (Ne.symm hne)]; exact up_same
    cases u with
    | name k =>
      refine ⟨fun _ => ?_, fun c => absurd c (by decide)⟩
      refine ⟨onL_of (ha1 _) trivial, onM_of (ha1 _) ⟨smaller (by rw [List.length_map]; omega), ?_⟩⟩
      rw [up3 hne]
      refine ⟨(.name k : Tm), w, rfl, onL_of up_same trivial, (.name k : Tm), rfl, ?_⟩
      refine comp_map (Tm.inn (.name k : Tm)) Tm.enc (fun x => e2D (x, Tm.wbl (.name k : Tm) w)) rfl (smaller (by have := Tm.inn_len (.name k : Tm); omega)) trivial (fun x _ R hR => hR) (fun p hp => ?_)
      have np : b ≠ p := by rintro rfl; rw [up_same] at hp; cases hp
      refine onM_of (by rw [up_ne np]; exact up_same) (onM_of up_same ⟨small (by have := Tm.inn_len (.name k : Tm); simp only [List.length_map, List.length_reverse]; omega), ?_⟩)
      refine ⟨_, up (up G a (.lst (fs.map prD ++ [.tup [.int k, .int w]]))) b (.lst (qs.reverse.map e2D ++ (Tm.inn (.name k : Tm)).map fun x => e2D (x, Tm.wbl (.name k : Tm) w))), .refl _, Sub.put (Sub.trans (Sub.new (Sub.refl _) (by rw [up_ne hne]; exact hb0)) (Sub.new (Sub.refl _) hp)), sz2 (((Tm.inn (.name k : Tm)).map fun x => (x, Tm.wbl (.name k : Tm) w)).reverse ++ qs), ?_, ((Tm.inn (.name k : Tm)).map fun x => (x, Tm.wbl (.name k : Tm) w)).reverse ++ qs, fs ++ [(k, w)], _, _, _, rfl, ?_, ?_, ?_, rfl⟩
      · have := Tm.sz_inns (.name k : Tm)
        rw [← List.map_reverse, sz2_row, List.map_reverse, List.sum_reverse]; simp only []; omega
      · congr 2
        · simp [prD]
        · simp [List.map_map, Function.comp_def]
      · rw [← hfs]; simp [Tm.inn, Tm.nmsR]
      · have := Tm.sz_inns (.name k : Tm)
        rw [← List.map_reverse, sz2_row, List.map_reverse, List.sum_reverse]; simp only [] at hsz; omega
    | whole k =>
      refine ⟨fun c => absurd c (by decide), fun _ => ?_⟩
      refine ⟨(.whole k : Tm), w, rfl, onL_of up_same trivial, (.whole k : Tm), rfl, ?_⟩
      refine comp_map (Tm.inn (.whole k : Tm)) Tm.enc (fun x => e2D (x, Tm.wbl (.whole k : Tm) w)) rfl (smaller (by have := Tm.inn_len (.whole k : Tm); omega)) trivial (fun x _ R hR => hR) (fun p hp => ?_)
      have np : b ≠ p := by rintro rfl; rw [up_same] at hp; cases hp
      refine onM_of (by rw [up_ne np]; exact up_same) (onM_of up_same ⟨small (by have := Tm.inn_len (.whole k : Tm); simp only [List.length_map, List.length_reverse]; omega), ?_⟩)
      refine ⟨_, up (up G a (.lst (fs.map prD))) b (.lst (qs.reverse.map e2D ++ (Tm.inn (.whole k : Tm)).map fun x => e2D (x, Tm.wbl (.whole k : Tm) w))), .refl _, Sub.put (Sub.trans (Sub.new (Sub.refl _) (by rw [up_ne hne]; exact hb0)) (Sub.new (Sub.refl _) hp)), sz2 (((Tm.inn (.whole k : Tm)).map fun x => (x, Tm.wbl (.whole k : Tm) w)).reverse ++ qs), ?_, ((Tm.inn (.whole k : Tm)).map fun x => (x, Tm.wbl (.whole k : Tm) w)).reverse ++ qs, fs, _, _, _, rfl, ?_, ?_, ?_, rfl⟩
      · have := Tm.sz_inns (.whole k : Tm)
        rw [← List.map_reverse, sz2_row, List.map_reverse, List.sum_reverse]; simp only []; omega
      · congr 2
        simp [List.map_map, Function.comp_def]
      · rw [← hfs]; simp [Tm.inn, Tm.nmsR]
      · have := Tm.sz_inns (.whole k : Tm)
        rw [← List.map_reverse, sz2_row, List.map_reverse, List.sum_reverse]; simp only [] at hsz; omega
    | way x1 =>
      refine ⟨fun c => absurd c (by decide), fun _ => ?_⟩
      refine ⟨(.way x1 : Tm), w, rfl, onL_of up_same trivial, (.way x1 : Tm), rfl, ?_⟩
      refine comp_map (Tm.inn (.way x1 : Tm)) Tm.enc (fun x => e2D (x, Tm.wbl (.way x1 : Tm) w)) rfl (smaller (by have := Tm.inn_len (.way x1 : Tm); omega)) trivial (fun x _ R hR => hR) (fun p hp => ?_)
      have np : b ≠ p := by rintro rfl; rw [up_same] at hp; cases hp
      refine onM_of (by rw [up_ne np]; exact up_same) (onM_of up_same ⟨small (by have := Tm.inn_len (.way x1 : Tm); simp only [List.length_map, List.length_reverse]; omega), ?_⟩)
      refine ⟨_, up (up G a (.lst (fs.map prD))) b (.lst (qs.reverse.map e2D ++ (Tm.inn (.way x1 : Tm)).map fun x => e2D (x, Tm.wbl (.way x1 : Tm) w))), .refl _, Sub.put (Sub.trans (Sub.new (Sub.refl _) (by rw [up_ne hne]; exact hb0)) (Sub.new (Sub.refl _) hp)), sz2 (((Tm.inn (.way x1 : Tm)).map fun x => (x, Tm.wbl (.way x1 : Tm) w)).reverse ++ qs), ?_, ((Tm.inn (.way x1 : Tm)).map fun x => (x, Tm.wbl (.way x1 : Tm) w)).reverse ++ qs, fs, _, _, _, rfl, ?_, ?_, ?_, rfl⟩
      · have := Tm.sz_inns (.way x1 : Tm)
        rw [← List.map_reverse, sz2_row, List.map_reverse, List.sum_reverse]; simp only []; omega
      · congr 2
        simp [List.map_map, Function.comp_def]
      · rw [← hfs, List.flatMap_append, ← List.map_reverse, List.flatMap_map]; congr 2; exact (Tm.nmsR_inn (t := (.way x1 : Tm)) rfl w).symm
      · have := Tm.sz_inns (.way x1 : Tm)
        rw [← List.map_reverse, sz2_row, List.map_reverse, List.sum_reverse]; simp only [] at hsz; omega
    | give x1 x2 =>
      refine ⟨fun c => absurd c (by decide), fun _ => ?_⟩
      refine ⟨(.give x1 x2 : Tm), w, rfl, onL_of up_same trivial, (.give x1 x2 : Tm), rfl, ?_⟩
      refine comp_map (Tm.inn (.give x1 x2 : Tm)) Tm.enc (fun x => e2D (x, Tm.wbl (.give x1 x2 : Tm) w)) rfl (smaller (by have := Tm.inn_len (.give x1 x2 : Tm); omega)) trivial (fun x _ R hR => hR) (fun p hp => ?_)
      have np : b ≠ p := by rintro rfl; rw [up_same] at hp; cases hp
      refine onM_of (by rw [up_ne np]; exact up_same) (onM_of up_same ⟨small (by have := Tm.inn_len (.give x1 x2 : Tm); simp only [List.length_map, List.length_reverse]; omega), ?_⟩)
      refine ⟨_, up (up G a (.lst (fs.map prD))) b (.lst (qs.reverse.map e2D ++ (Tm.inn (.give x1 x2 : Tm)).map fun x => e2D (x, Tm.wbl (.give x1 x2 : Tm) w))), .refl _, Sub.put (Sub.trans (Sub.new (Sub.refl _) (by rw [up_ne hne]; exact hb0)) (Sub.new (Sub.refl _) hp)), sz2 (((Tm.inn (.give x1 x2 : Tm)).map fun x => (x, Tm.wbl (.give x1 x2 : Tm) w)).reverse ++ qs), ?_, ((Tm.inn (.give x1 x2 : Tm)).map fun x => (x, Tm.wbl (.give x1 x2 : Tm) w)).reverse ++ qs, fs, _, _, _, rfl, ?_, ?_, ?_, rfl⟩
      · have := Tm.sz_inns (.give x1 x2 : Tm)
        rw [← List.map_reverse, sz2_row, List.map_reverse, List.sum_reverse]; simp only []; omega
      · congr 2
        simp [List.map_map, Function.comp_def]
      · rw [← hfs, List.flatMap_append, ← List.map_reverse, List.flatMap_map]; congr 2; exact (Tm.nmsR_inn (t := (.give x1 x2 : Tm)) rfl w).symm
      · have := Tm.sz_inns (.give x1 x2 : Tm)
        rw [← List.map_reverse, sz2_row, List.map_reverse, List.sum_reverse]; simp only [] at hsz; omega
    | pair x1 x2 =>
      refine ⟨fun c => absurd c (by decide), fun _ => ?_⟩
      refine ⟨(.pair x1 x2 : Tm), w, rfl, onL_of up_same trivial, (.pair x1 x2 : Tm), rfl, ?_⟩
      refine comp_map (Tm.inn (.pair x1 x2 : Tm)) Tm.enc (fun x => e2D (x, Tm.wbl (.pair x1 x2 : Tm) w)) rfl (smaller (by have := Tm.inn_len (.pair x1 x2 : Tm); omega)) trivial (fun x _ R hR => hR) (fun p hp => ?_)
      have np : b ≠ p := by rintro rfl; rw [up_same] at hp; cases hp
      refine onM_of (by rw [up_ne np]; exact up_same) (onM_of up_same ⟨small (by have := Tm.inn_len (.pair x1 x2 : Tm); simp only [List.length_map, List.length_reverse]; omega), ?_⟩)
      refine ⟨_, up (up G a (.lst (fs.map prD))) b (.lst (qs.reverse.map e2D ++ (Tm.inn (.pair x1 x2 : Tm)).map fun x => e2D (x, Tm.wbl (.pair x1 x2 : Tm) w))), .refl _, Sub.put (Sub.trans (Sub.new (Sub.refl _) (by rw [up_ne hne]; exact hb0)) (Sub.new (Sub.refl _) hp)), sz2 (((Tm.inn (.pair x1 x2 : Tm)).map fun x => (x, Tm.wbl (.pair x1 x2 : Tm) w)).reverse ++ qs), ?_, ((Tm.inn (.pair x1 x2 : Tm)).map fun x => (x, Tm.wbl (.pair x1 x2 : Tm) w)).reverse ++ qs, fs, _, _, _, rfl, ?_, ?_, ?_, rfl⟩
      · have := Tm.sz_inns (.pair x1 x2 : Tm)
        rw [← List.map_reverse, sz2_row, List.map_reverse, List.sum_reverse]; simp only []; omega
      · congr 2
        simp [List.map_map, Function.comp_def]
      · rw [← hfs, List.flatMap_append, ← List.map_reverse, List.flatMap_map]; congr 2; exact (Tm.nmsR_inn (t := (.pair x1 x2 : Tm)) rfl w).symm
      · have := Tm.sz_inns (.pair x1 x2 : Tm)
        rw [← List.map_reverse, sz2_row, List.map_reverse, List.sum_reverse]; simp only [] at hsz; omega
    | first x1 =>
      refine ⟨fun c => absurd c (by decide), fun _ => ?_⟩
      refine ⟨(.first x1 : Tm), w, rfl, onL_of up_same trivial, (.first x1 : Tm), rfl, ?_⟩
      refine comp_map (Tm.inn (.first x1 : Tm)) Tm.enc (fun x => e2D (x, Tm.wbl (.first x1 : Tm) w)) rfl (smaller (by have := Tm.inn_len (.first x1 : Tm); omega)) trivial (fun x _ R hR => hR) (fun p hp => ?_)
      have np : b ≠ p := by rintro rfl; rw [up_same] at hp; cases hp
      refine onM_of (by rw [up_ne np]; exact up_same) (onM_of up_same ⟨small (by have := Tm.inn_len (.first x1 : Tm); simp only [List.length_map, List.length_reverse]; omega), ?_⟩)
      refine ⟨_, up (up G a (.lst (fs.map prD))) b (.lst (qs.reverse.map e2D ++ (Tm.inn (.first x1 : Tm)).map fun x => e2D (x, Tm.wbl (.first x1 : Tm) w))), .refl _, Sub.put (Sub.trans (Sub.new (Sub.refl _) (by rw [up_ne hne]; exact hb0)) (Sub.new (Sub.refl _) hp)), sz2 (((Tm.inn (.first x1 : Tm)).map fun x => (x, Tm.wbl (.first x1 : Tm) w)).reverse ++ qs), ?_, ((Tm.inn (.first x1 : Tm)).map fun x => (x, Tm.wbl (.first x1 : Tm) w)).reverse ++ qs, fs, _, _, _, rfl, ?_, ?_, ?_, rfl⟩
      · have := Tm.sz_inns (.first x1 : Tm)
        rw [← List.map_reverse, sz2_row, List.map_reverse, List.sum_reverse]; simp only []; omega
      · congr 2
        simp [List.map_map, Function.comp_def]
      · rw [← hfs, List.flatMap_append, ← List.map_reverse, List.flatMap_map]; congr 2; exact (Tm.nmsR_inn (t := (.first x1 : Tm)) rfl w).symm
      · have := Tm.sz_inns (.first x1 : Tm)
        rw [← List.map_reverse, sz2_row, List.map_reverse, List.sum_reverse]; simp only [] at hsz; omega
    | second x1 =>
      refine ⟨fun c => absurd c (by decide), fun _ => ?_⟩
      refine ⟨(.second x1 : Tm), w, rfl, onL_of up_same trivial, (.second x1 : Tm), rfl, ?_⟩
      refine comp_map (Tm.inn (.second x1 : Tm)) Tm.enc (fun x => e2D (x, Tm.wbl (.second x1 : Tm) w)) rfl (smaller (by have := Tm.inn_len (.second x1 : Tm); omega)) trivial (fun x _ R hR => hR) (fun p hp => ?_)
      have np : b ≠ p := by rintro rfl; rw [up_same] at hp; cases hp
      refine onM_of (by rw [up_ne np]; exact up_same) (onM_of up_same ⟨small (by have := Tm.inn_len (.second x1 : Tm); simp only [List.length_map, List.length_reverse]; omega), ?_⟩)
      refine ⟨_, up (up G a (.lst (fs.map prD))) b (.lst (qs.reverse.map e2D ++ (Tm.inn (.second x1 : Tm)).map fun x => e2D (x, Tm.wbl (.second x1 : Tm) w))), .refl _, Sub.put (Sub.trans (Sub.new (Sub.refl _) (by rw [up_ne hne]; exact hb0)) (Sub.new (Sub.refl _) hp)), sz2 (((Tm.inn (.second x1 : Tm)).map fun x => (x, Tm.wbl (.second x1 : Tm) w)).reverse ++ qs), ?_, ((Tm.inn (.second x1 : Tm)).map fun x => (x, Tm.wbl (.second x1 : Tm) w)).reverse ++ qs, fs, _, _, _, rfl, ?_, ?_, ?_, rfl⟩
      · have := Tm.sz_inns (.second x1 : Tm)
        rw [← List.map_reverse, sz2_row, List.map_reverse, List.sum_reverse]; simp only []; omega
      · congr 2
        simp [List.map_map, Function.comp_def]
      · rw [← hfs, List.flatMap_append, ← List.map_reverse, List.flatMap_map]; congr 2; exact (Tm.nmsR_inn (t := (.second x1 : Tm)) rfl w).symm
      · have := Tm.sz_inns (.second x1 : Tm)
        rw [← List.map_reverse, sz2_row, List.map_reverse, List.sum_reverse]; simp only [] at hsz; omega
    | plus x1 x2 =>
      refine ⟨fun c => absurd c (by decide), fun _ => ?_⟩
      refine ⟨(.plus x1 x2 : Tm), w, rfl, onL_of up_same trivial, (.plus x1 x2 : Tm), rfl, ?_⟩
      refine comp_map (Tm.inn (.plus x1 x2 : Tm)) Tm.enc (fun x => e2D (x, Tm.wbl (.plus x1 x2 : Tm) w)) rfl (smaller (by have := Tm.inn_len (.plus x1 x2 : Tm); omega)) trivial (fun x _ R hR => hR) (fun p hp => ?_)
      have np : b ≠ p := by rintro rfl; rw [up_same] at hp; cases hp
      refine onM_of (by rw [up_ne np]; exact up_same) (onM_of up_same ⟨small (by have := Tm.inn_len (.plus x1 x2 : Tm); simp only [List.length_map, List.length_reverse]; omega), ?_⟩)
      refine ⟨_, up (up G a (.lst (fs.map prD))) b (.lst (qs.reverse.map e2D ++ (Tm.inn (.plus x1 x2 : Tm)).map fun x => e2D (x, Tm.wbl (.plus x1 x2 : Tm) w))), .refl _, Sub.put (Sub.trans (Sub.new (Sub.refl _) (by rw [up_ne hne]; exact hb0)) (Sub.new (Sub.refl _) hp)), sz2 (((Tm.inn (.plus x1 x2 : Tm)).map fun x => (x, Tm.wbl (.plus x1 x2 : Tm) w)).reverse ++ qs), ?_, ((Tm.inn (.plus x1 x2 : Tm)).map fun x => (x, Tm.wbl (.plus x1 x2 : Tm) w)).reverse ++ qs, fs, _, _, _, rfl, ?_, ?_, ?_, rfl⟩
      · have := Tm.sz_inns (.plus x1 x2 : Tm)
        rw [← List.map_reverse, sz2_row, List.map_reverse, List.sum_reverse]; simp only []; omega
      · congr 2
        simp [List.map_map, Function.comp_def]
      · rw [← hfs, List.flatMap_append, ← List.map_reverse, List.flatMap_map]; congr 2; exact (Tm.nmsR_inn (t := (.plus x1 x2 : Tm)) rfl w).symm
      · have := Tm.sz_inns (.plus x1 x2 : Tm)
        rw [← List.map_reverse, sz2_row, List.map_reverse, List.sum_reverse]; simp only [] at hsz; omega
    | look x1 x2 x3 =>
      refine ⟨fun c => absurd c (by decide), fun _ => ?_⟩
      refine ⟨(.look x1 x2 x3 : Tm), w, rfl, onL_of up_same trivial, (.look x1 x2 x3 : Tm), rfl, ?_⟩
      refine comp_map (Tm.inn (.look x1 x2 x3 : Tm)) Tm.enc (fun x => e2D (x, Tm.wbl (.look x1 x2 x3 : Tm) w)) rfl (smaller (by have := Tm.inn_len (.look x1 x2 x3 : Tm); omega)) trivial (fun x _ R hR => hR) (fun p hp => ?_)
      have np : b ≠ p := by rintro rfl; rw [up_same] at hp; cases hp
      refine onM_of (by rw [up_ne np]; exact up_same) (onM_of up_same ⟨small (by have := Tm.inn_len (.look x1 x2 x3 : Tm); simp only [List.length_map, List.length_reverse]; omega), ?_⟩)
      refine ⟨_, up (up G a (.lst (fs.map prD))) b (.lst (qs.reverse.map e2D ++ (Tm.inn (.look x1 x2 x3 : Tm)).map fun x => e2D (x, Tm.wbl (.look x1 x2 x3 : Tm) w))), .refl _, Sub.put (Sub.trans (Sub.new (Sub.refl _) (by rw [up_ne hne]; exact hb0)) (Sub.new (Sub.refl _) hp)), sz2 (((Tm.inn (.look x1 x2 x3 : Tm)).map fun x => (x, Tm.wbl (.look x1 x2 x3 : Tm) w)).reverse ++ qs), ?_, ((Tm.inn (.look x1 x2 x3 : Tm)).map fun x => (x, Tm.wbl (.look x1 x2 x3 : Tm) w)).reverse ++ qs, fs, _, _, _, rfl, ?_, ?_, ?_, rfl⟩
      · have := Tm.sz_inns (.look x1 x2 x3 : Tm)
        rw [← List.map_reverse, sz2_row, List.map_reverse, List.sum_reverse]; simp only []; omega
      · congr 2
        simp [List.map_map, Function.comp_def]
      · rw [← hfs, List.flatMap_append, ← List.map_reverse, List.flatMap_map]; congr 2; exact (Tm.nmsR_inn (t := (.look x1 x2 x3 : Tm)) rfl w).symm
      · have := Tm.sz_inns (.look x1 x2 x3 : Tm)
        rw [← List.map_reverse, sz2_row, List.map_reverse, List.sum_reverse]; simp only [] at hsz; omega
  · have e : ps = [] := by
      cases ps with
      | nil => rfl
      | cons _ _ => simp at c
    subst e
    have e2 : fs = t.nmsR 0 := by simpa using hfs
    subst e2
    exact ⟨up G a (.lst ((t.nmsR 0).map prD)), Sub.new (Sub.refl _) (by rw [up_ne hne]; exact hb0), q a ha⟩
end
end KB
namespace KB
open PySem L2 L3
section
variable {P : Program} {w : World} {K : PySem.W.Frag} {mg : Str → Option Value} {base : Heap} {f : Addr} {fd : FuncData}
set_option maxHeartbeats 4000000
abbrev st_withn : Stmt := top 9
theorem sc_withn : FnScope ["program", "change", "made", "pending", "entry", "one", "inners", "below"] ["program", "change"] (defScope st_withn) := ⟨rfl, rfl, rfl, by decide +kernel, rfl, by decide +kernel, by decide +kernel⟩
theorem ok_withn {k0 : Nat} (B : Blt mg) (g_inner : Got P w K mg base 1 "inner" ["program"] (conc K (spInn Tm.enc Tm.inn))) (g_wbelow : Got P w K mg base 1 "ways_below" ["program", "ways"] (conc K spBelow)) (F : Fun K "with_names" "with_names" st_withn f fd) : FnOk P w K mg base CX0 (k0 + 2) f fd ["program", "change"] (conc K (spWith P w K mg base k0)) := by
  refine okD (k := k0 + 1) F sc_withn (fun ds G DQ h => ?_) (fun cdv A outer s H E hr ds G DQ h => ?_)
  · obtain ⟨_, _, _, _, _, _, _, _, _, _, _, rfl, _⟩ := h; rfl
  obtain ⟨t, fc, name, qual, st0, fr, vals, ps, φ, C, L, rfl, hf, C_change, hL, hz, hC, q⟩ := h
  refine ⟨_, (ab_cons (as_set (k := 2) sc_withn.nd rfl (Or.inr rfl) (ae_lst aa_nil))
      (ab_cons (as_set (k := 3) sc_withn.nd rfl (Or.inl rfl) (ae_lst (aa_cons (ae_tup (aa_cons (ae_var 0) (aa_cons ae_int (aa_cons ae_bl aa_nil)))) aa_nil)))
      (ab_cons (as_while PassesOwn.never (at_truth (ae_var 3)) (ab_cons (as_set (k := 4) sc_withn.nd rfl (Or.inl rfl) (ae_bm0 PySem.F.plainAttrs_list PySem.F.slot_list_pop PySem.F.type_list_pop amt_pop (ae_var 3)))
      (ab_cons (as_set (k := 5) sc_withn.nd rfl (Or.inl rfl) (ae_ix aix (ae_var 4) ae_int (fun _ _ => rfl)))
      (ab_one (as_if (at_cmp (aop_eq (hu200 hr)) (ae_ix aix (ae_var 5) ae_int (fun _ _ => rfl)) ae_str (nomark _)) (ab_one (as_expr (ae_bm PySem.F.plainAttrs_list PySem.F.slot_list_append PySem.F.type_list_append amt_append (ae_var 2) (aa_cons (ae_cc 1 C_change hr (by omega) (aa_cons (ae_ix aix (ae_var 5) ae_int (fun _ _ => rfl)) (aa_cons (ae_ix aix (ae_var 4) ae_int (fun _ _ => rfl)) aa_nil))) aa_nil)))) (ab_one (as_if (at_cmp (aop_eq (hu200 hr)) (ae_ix aix (ae_var 5) ae_int (fun _ _ => rfl)) ae_str (nomark _)) (ab_one (as_expr (ae_bm PySem.F.plainAttrs_list PySem.F.slot_list_append PySem.F.type_list_append amt_append (ae_var 2) (aa_cons (ae_var 5) aa_nil)))) (ab_one (as_if (at_truth (ae_ix aix (ae_var 4) ae_int (fun _ _ => rfl))) (ab_cons (as_setComp (k := 6) rfl sc_withn.nd rfl (Or.inl rfl) (CompOk.of (N' := ["part", "made"]) (nt := 1) (cap := [2]) rfl (by kernel_rfl)) (keeps_name (k := 0) (by decide)) (ai_seq (ae_call g_inner hr (by omega) rfl (aa_cons (ae_var 5) aa_nil))) (fun _ _ _ _ => (ag_name (k := 0) (show List.Nodup (["part", "made"] : List Str) by decide +kernel) rfl (Or.inl rfl)))  (fun _ _ _ _ => (ae_bm0 PySem.F.plainAttrs_list PySem.F.slot_list_pop PySem.F.type_list_pop amt_pop (ae_var 1))))
      (ab_one (as_expr (ae_bm PySem.F.plainAttrs_list PySem.F.slot_list_append PySem.F.type_list_append amt_append (ae_var 2) (aa_cons (ae_op aop_add (ae_tup (aa_cons (ae_ix aix (ae_var 5) ae_int (fun _ _ => rfl)) aa_nil)) (ae_callTy acall_tuple rfl B.tuple PyProof.Rows.boot_tuple (aa_cons (ae_var 6) aa_nil))) aa_nil))))) (ab_cons (as_expr (ae_bm PySem.F.plainAttrs_list PySem.F.slot_list_append PySem.F.type_list_append amt_append (ae_var 3) (aa_cons (ae_tup (aa_cons (ae_var 5) (aa_cons (ae_ix aix (ae_var 4) ae_int (fun _ _ => rfl)) (aa_cons ae_bl aa_nil)))) aa_nil)))
      (ab_cons (as_set (k := 7) sc_withn.nd rfl (Or.inr rfl) (ae_call g_wbelow hr (by omega) rfl (aa_cons (ae_var 5) (aa_cons (ae_ix aix (ae_var 4) ae_int (fun _ _ => rfl)) aa_nil))))
      (ab_one (as_expr (ae_bm PySem.F.plainAttrs_list PySem.F.slot_list_extend PySem.F.type_list_extend amt_extend (ae_var 3) (aa_cons (ae_comp rfl (CompOk.of (N' := ["part", "below"]) (nt := 1) (cap := [7]) rfl (by kernel_rfl)) (keeps_name (k := 0) (by decide)) (ai_seq (ae_call g_inner hr (by omega) rfl (aa_cons (ae_var 5) aa_nil))) (fun _ _ _ _ => (ag_name (k := 0) (show List.Nodup (["part", "below"] : List Str) by decide +kernel) rfl (Or.inl rfl))) (fun _ _ _ _ => (ae_tup (aa_cons (ae_var 0) (aa_cons (ae_var 1) (aa_cons ae_bl aa_nil)))))) aa_nil)))))))))))))))
      (ab_one (as_ret (ae_bm0 PySem.F.plainAttrs_list PySem.F.slot_list_pop PySem.F.type_list_pop amt_pop (ae_var 2))))))), ?_⟩
  intro a ha b hb
  obtain ⟨-, hb0, hne⟩ := up_new (o := .lst []) hb
  have nfa : fc ≠ a := by rintro rfl; rw [hf] at ha; cases ha
  have nfb : fc ≠ b := by rintro rfl; rw [hf] at hb0; cases hb0
  refine ⟨fun μ ρ G' => ∃ (st : List Ent) (m : List Tm) (o4 o5 o6 o7 : Option D), ρ = [some t.enc, some (.ref fc), some (.ref a), some (.ref b), o4, o5, o6, o7] ∧ G' = up (up G a (.lst (m.reverse.map Tm.enc))) b (.lst (st.reverse.map encE)) ∧ effs φ st m = some [t.mapN φ 0] ∧ (∀ z ∈ st, (z.2.2 = false ∨ z.1.leaf = true) → ∀ y ∈ z.1.nmsR z.2.1, C y.1 y.2) ∧ m.length + wtS st ≤ 2 * t.sz ∧ μ = wtS st,
    ⟨_, [(t, 0, false)], [], _, _, _, _, rfl, rfl, by simp [effs, eff_false], by intro z hz _; simp at hz; subst hz; exact hC, by simp [wtS, wtE], rfl⟩, ?_⟩
  rintro μ ρ G' ⟨st, m, o4, o5, o6, o7, rfl, rfl, heff, hnm, hsz, rfl⟩
  refine onL_of up_same ⟨fun c => ?_, fun c => ?_⟩
  · obtain ⟨u, w, fl, qs, rfl⟩ : ∃ u w fl qs, st = (u, w, fl) :: qs := by
      cases st with
      | nil => simp at c
      | cons z qs => exact ⟨z.1, z.2.1, z.2.2, qs, rfl⟩
    rw [wtS_cons] at hsz ⊢
    have hql := wtS_len qs
    have hnq : ∀ z ∈ qs, (z.2.2 = false ∨ z.1.leaf = true) → ∀ y ∈ z.1.nmsR z.2.1, C y.1 y.2 := fun z hz => hnm z (List.mem_cons_of_mem _ hz)
    have hnu := hnm (u, w, fl) (List.mem_cons_self ..)
    refine ⟨onL_of up_same trivial, onM_of up_same ⟨qs.reverse.map encE, encE (u, w, fl), by simp, ?_⟩⟩
    rw [up_up]
    have ha1 : ∀ (o : DO) (ds : List D), up (up G a (.lst ds)) b o a = some (.lst ds) := fun o ds => by rw [up_ne (Ne.symm hne)]; exact up_same
    have hf1 : ∀ (o p : DO), up (up G a o) b p fc = some (.clo name qual st0 fr vals) := fun o p => by rw [up_ne nfb, up_ne nfa]; exact hf
    have hL1 : ∀ (o p : DO), ∀ q ∈ L, up (up G a o) b p q.1 = some q.2 := fun o p q hq => by
      rw [up_ne (by rintro e; rw [← e, hL q hq] at hb0; cases hb0), up_ne (by rintro e; rw [← e, hL q hq] at ha; cases ha)]; exact hL q hq
    have hw1 : 1 ≤ wtE (u, w, fl) := by have := u.sz_pos; show 1 ≤ (if fl = true then 1 else 2 * u.sz); split <;> omega
    cases u with
    | name k =>
      refine ⟨fun _ => ?_, fun c => absurd c (by decide)⟩
      have hfl : m.length + 1 ≤ 2 * t.sz := by omega
      refine ⟨onL_of (ha1 _ _) trivial, fc, rfl, hf1 _ _, hf1 _ _, k, w, rfl, ?_, hL1 _ _, onM_of (ha1 _ _) ⟨smaller (by simp only [List.length_map, List.length_reverse]; omega), ?_⟩⟩
      · exact hnu (.inr rfl) (k, w) (List.mem_cons_self ..)
      rw [up3 hne]
      exact Wk.of ⟨wtS qs, by omega, qs, φ k w :: m, _, _, _, _, rfl, by simp, heff, hnq, by simp only [List.length_cons]; omega, rfl⟩
    | whole k =>
      refine ⟨fun c => absurd c (by decide), fun _ => ⟨fun _ => ?_, fun c => absurd c (by decide)⟩⟩
      refine ⟨onL_of (ha1 _ _) trivial, onM_of (ha1 _ _) ⟨smaller (by simp only [List.length_map, List.length_reverse]; omega), ?_⟩⟩
      rw [up3 hne]
      exact Wk.of ⟨wtS qs, by omega, qs, .whole k :: m, _, _, _, _, rfl, by simp, heff, hnq, by simp only [List.length_cons]; omega, rfl⟩
    | way x1 =>
      refine ⟨fun c => absurd c (by decide), fun _ => ⟨fun c => absurd c (by decide), fun _ => ?_⟩⟩
      have hil := Tm.inn_len (.way x1 : Tm)
      cases fl with
      | true =>
        refine ⟨fun _ => ?_, nofun⟩
        rw [effs, eff_true (t := (.way x1 : Tm)) rfl] at heff
        have hk : (Tm.inn (.way x1 : Tm)).length ≤ m.length := by
          rcases Nat.lt_or_ge m.length (Tm.inn (.way x1 : Tm)).length with z | z
          · rw [if_neg (by omega)] at heff; cases heff
          · exact z
        rw [if_pos hk] at heff
        simp only [] at heff
        generalize hkk : (Tm.inn (.way x1 : Tm)).length = kk at hk heff hil
        refine ⟨(.way x1 : Tm), rfl, compB_of (fun i ds G' => ds = (m.take i).map Tm.enc ∧ i ≤ kk ∧ G' = up (up G a (.lst ((m.drop i).reverse.map Tm.enc))) b (.lst (qs.reverse.map encE))) ?_ ⟨rfl, Nat.zero_le _, by rw [List.drop_zero]⟩ (fun _ _ _ _ _ => trivial) ?_ ?_⟩
        · show ((Tm.inn (.way x1 : Tm)).map Tm.enc).length < sizeLine
          rw [List.length_map, hkk]; exact smaller (by omega)
        · rintro i d ds G' hd ⟨rfl, hi, rfl⟩
          have hi' : i < kk := by
            have z := (List.getElem?_eq_some_iff.mp hd).1
            have z' : i < ((Tm.inn (.way x1 : Tm)).map Tm.enc).length := z
            rw [List.length_map, hkk] at z'; exact z'
          have hx : m.drop i = m[i] :: m.drop (i + 1) := List.drop_eq_getElem_cons (by omega)
          refine ⟨onL_of (ha1 _ _) trivial, onM_of (ha1 _ _) ⟨(m.drop (i + 1)).reverse.map Tm.enc, (m[i]'(by omega)).enc, by rw [hx, List.reverse_cons, List.map_append]; rfl, ?_⟩⟩
          rw [up3 hne]
          refine WkV.of ⟨?_, by omega, rfl⟩
          rw [List.take_add_one, List.getElem?_eq_getElem (by omega), Option.toList_some, List.map_append]; rfl
        · rintro ds G' ⟨rfl, _, rfl⟩ p hp
          have eL : List.length (List.map Tm.enc (Tm.inn (.way x1 : Tm))) = kk := by rw [List.length_map]; exact hkk
          rw [show (⟨List.map Tm.enc (Tm.inn (.way x1 : Tm)), _⟩ : DIt).items.length = kk from eL] at hp ⊢
          have npa : a ≠ p := by rintro rfl; rw [ha1] at hp; cases hp
          refine ⟨onL_of (by rw [up_ne npa]; exact ha1 _ _) trivial, onL_of up_same ⟨small (by simp only [List.length_map, List.length_take, List.length_cons, List.length_nil]; omega), onM_of (by rw [up_ne npa]; exact ha1 _ _) ⟨smaller (by simp only [List.length_map, List.length_reverse, List.length_drop]; omega), ?_⟩⟩⟩
          refine ⟨_, up (up G a (.lst ((m.drop kk).reverse.map Tm.enc ++ [.tup (.str (Tm.word (.way x1 : Tm)) :: (m.take kk).map Tm.enc)]))) b (.lst (qs.reverse.map encE)), .refl _, ?_, wtS qs, by omega, qs, Tm.rebuild (.way x1 : Tm) (m.take kk) :: m.drop kk, _, _, _, _, rfl, ?_, heff, hnq, ?_, rfl⟩
          · rw [← up3 (x := .lst ((m.drop kk).reverse.map Tm.enc)) hne]
            exact Sub.put (Sub.new (Sub.refl _) hp)
          · congr 2
            rw [List.reverse_cons, List.map_append, List.map_cons, List.map_nil, Tm.enc_rebuild (t := (.way x1 : Tm)) rfl (by rw [List.length_take, hkk]; omega)]
          · simp only [List.length_cons, List.length_drop]; omega
      | false =>
        refine ⟨nofun, fun _ => ?_⟩
        have hss := Tm.sz_sum (t := (.way x1 : Tm)) rfl
        simp only [wtE, Bool.false_eq_true, if_false] at hsz
        refine ⟨onL_of up_same trivial, onM_of up_same ⟨smaller (by simp only [List.length_map, List.length_reverse]; omega), ?_⟩⟩
        rw [up_up]
        refine ⟨(.way x1 : Tm), w, rfl, onL_of up_same trivial, (.way x1 : Tm), rfl, ?_⟩
        refine comp_map (Tm.inn (.way x1 : Tm)) Tm.enc (fun x => encE (x, Tm.wbl (.way x1 : Tm) w, false)) rfl (smaller (by omega)) trivial (fun x _ R hR => hR) (fun p hp => ?_)
        have np : b ≠ p := by rintro rfl; rw [up_same] at hp; cases hp
        refine onM_of (by rw [up_ne np]; exact up_same) (onM_of up_same ⟨small (by simp only [List.length_map, List.length_reverse, List.length_append, List.length_cons, List.length_nil]; omega), ?_⟩)
        have hwt : wtS ((Tm.inn (.way x1 : Tm) |>.map fun x => ((x, Tm.wbl (.way x1 : Tm) w, false) : Ent)).reverse ++ ((.way x1 : Tm), w, true) :: qs) + 1 = 2 * Tm.sz (.way x1 : Tm) + wtS qs := by
          rw [← List.map_reverse, wtS_row, List.map_reverse, List.sum_reverse, wtS_cons]
          simp only [wtE, if_true]; omega
        refine ⟨_, up (up G a (.lst (m.reverse.map Tm.enc))) b (.lst (qs.reverse.map encE ++ [encE ((.way x1 : Tm), w, true)] ++ (Tm.inn (.way x1 : Tm)).map fun x => encE (x, Tm.wbl (.way x1 : Tm) w, false))), .refl _, Sub.put (Sub.trans (Sub.new (Sub.refl _) (by rw [up_ne hne]; exact hb0)) (Sub.new (Sub.refl _) hp)), _, ?_, (Tm.inn (.way x1 : Tm) |>.map fun x => ((x, Tm.wbl (.way x1 : Tm) w, false) : Ent)).reverse ++ ((.way x1 : Tm), w, true) :: qs, m, _, _, _, _, rfl, ?_, ?_, ?_, ?_, rfl⟩
        · simp only [wtE, Bool.false_eq_true, if_false]; omega
        · congr 2
          simp [List.map_map, Function.comp_def]
        · rw [effs_open (t := (.way x1 : Tm)) rfl]; exact heff
        · intro z hz hz2 y hy
          rcases List.mem_append.mp hz with hz | hz
          · obtain ⟨x, hx, rfl⟩ := List.mem_map.mp (List.mem_reverse.mp hz)
            exact hnu (.inl rfl) y (Tm.nmsR_mem (t := (.way x1 : Tm)) rfl hx hy)
          · rcases List.mem_cons.mp hz with rfl | hz
            · rcases hz2 with z | z <;> cases z
            · exact hnq z hz hz2 y hy
        · omega
    | give x1 x2 =>
      refine ⟨fun c => absurd c (by decide), fun _ => ⟨fun c => absurd c (by decide), fun _ => ?_⟩⟩
      have hil := Tm.inn_len (.give x1 x2 : Tm)
      cases fl with
      | true =>
        refine ⟨fun _ => ?_, nofun⟩
        rw [effs, eff_true (t := (.give x1 x2 : Tm)) rfl] at heff
        have hk : (Tm.inn (.give x1 x2 : Tm)).length ≤ m.length := by
          rcases Nat.lt_or_ge m.length (Tm.inn (.give x1 x2 : Tm)).length with z | z
          · rw [if_neg (by omega)] at heff; cases heff
          · exact z
        rw [if_pos hk] at heff
        simp only [] at heff
        generalize hkk : (Tm.inn (.give x1 x2 : Tm)).length = kk at hk heff hil
        refine ⟨(.give x1 x2 : Tm), rfl, compB_of (fun i ds G' => ds = (m.take i).map Tm.enc ∧ i ≤ kk ∧ G' = up (up G a (.lst ((m.drop i).reverse.map Tm.enc))) b (.lst (qs.reverse.map encE))) ?_ ⟨rfl, Nat.zero_le _, by rw [List.drop_zero]⟩ (fun _ _ _ _ _ => trivial) ?_ ?_⟩
        · show ((Tm.inn (.give x1 x2 : Tm)).map Tm.enc).length < sizeLine
          rw [List.length_map, hkk]; exact smaller (by omega)
        · rintro i d ds G' hd ⟨rfl, hi, rfl⟩
          have hi' : i < kk := by
            have z := (List.getElem?_eq_some_iff.mp hd).1
            have z' : i < ((Tm.inn (.give x1 x2 : Tm)).map Tm.enc).length := z
            rw [List.length_map, hkk] at z'; exact z'
          have hx : m.drop i = m[i] :: m.drop (i + 1) := List.drop_eq_getElem_cons (by omega)
          refine ⟨onL_of (ha1 _ _) trivial, onM_of (ha1 _ _) ⟨(m.drop (i + 1)).reverse.map Tm.enc, (m[i]'(by omega)).enc, by rw [hx, List.reverse_cons, List.map_append]; rfl, ?_⟩⟩
          rw [up3 hne]
          refine WkV.of ⟨?_, by omega, rfl⟩
          rw [List.take_add_one, List.getElem?_eq_getElem (by omega), Option.toList_some, List.map_append]; rfl
        · rintro ds G' ⟨rfl, _, rfl⟩ p hp
          have eL : List.length (List.map Tm.enc (Tm.inn (.give x1 x2 : Tm))) = kk := by rw [List.length_map]; exact hkk
          rw [show (⟨List.map Tm.enc (Tm.inn (.give x1 x2 : Tm)), _⟩ : DIt).items.length = kk from eL] at hp ⊢
          have npa : a ≠ p := by rintro rfl; rw [ha1] at hp; cases hp
          refine ⟨onL_of (by rw [up_ne npa]; exact ha1 _ _) trivial, onL_of up_same ⟨small (by simp only [List.length_map, List.length_take, List.length_cons, List.length_nil]; omega), onM_of (by rw [up_ne npa]; exact ha1 _ _) ⟨smaller (by simp only [List.length_map, List.length_reverse, List.length_drop]; omega), ?_⟩⟩⟩
          refine ⟨_, up (up G a (.lst ((m.drop kk).reverse.map Tm.enc ++ [.tup (.str (Tm.word (.give x1 x2 : Tm)) :: (m.take kk).map Tm.enc)]))) b (.lst (qs.reverse.map encE)), .refl _, ?_, wtS qs, by omega, qs, Tm.rebuild (.give x1 x2 : Tm) (m.take kk) :: m.drop kk, _, _, _, _, rfl, ?_, heff, hnq, ?_, rfl⟩
          · rw [← up3 (x := .lst ((m.drop kk).reverse.map Tm.enc)) hne]
            exact Sub.put (Sub.new (Sub.refl _) hp)
          · congr 2
            rw [List.reverse_cons, List.map_append, List.map_cons, List.map_nil, Tm.enc_rebuild (t := (.give x1 x2 : Tm)) rfl (by rw [List.length_take, hkk]; omega)]
          · simp only [List.length_cons, List.length_drop]; omega
      | false =>
        refine ⟨nofun, fun _ => ?_⟩
        have hss := Tm.sz_sum (t := (.give x1 x2 : Tm)) rfl
        simp only [wtE, Bool.false_eq_true, if_false] at hsz
        refine ⟨onL_of up_same trivial, onM_of up_same ⟨smaller (by simp only [List.length_map, List.length_reverse]; omega), ?_⟩⟩
        rw [up_up]
        refine ⟨(.give x1 x2 : Tm), w, rfl, onL_of up_same trivial, (.give x1 x2 : Tm), rfl, ?_⟩
        refine comp_map (Tm.inn (.give x1 x2 : Tm)) Tm.enc (fun x => encE (x, Tm.wbl (.give x1 x2 : Tm) w, false)) rfl (smaller (by omega)) trivial (fun x _ R hR => hR) (fun p hp => ?_)
        have np : b ≠ p := by rintro rfl; rw [up_same] at hp; cases hp
        refine onM_of (by rw [up_ne np]; exact up_same) (onM_of up_same ⟨small (by simp only [List.length_map, List.length_reverse, List.length_append, List.length_cons, List.length_nil]; omega), ?_⟩)
        have hwt : wtS ((Tm.inn (.give x1 x2 : Tm) |>.map fun x => ((x, Tm.wbl (.give x1 x2 : Tm) w, false) : Ent)).reverse ++ ((.give x1 x2 : Tm), w, true) :: qs) + 1 = 2 * Tm.sz (.give x1 x2 : Tm) + wtS qs := by
          rw [← List.map_reverse, wtS_row, List.map_reverse, List.sum_reverse, wtS_cons]
          simp only [wtE, if_true]; omega
        refine ⟨_, up (up G a (.lst (m.reverse.map Tm.enc))) b (.lst (qs.reverse.map encE ++ [encE ((.give x1 x2 : Tm), w, true)] ++ (Tm.inn (.give x1 x2 : Tm)).map fun x => encE (x, Tm.wbl (.give x1 x2 : Tm) w, false))), .refl _, Sub.put (Sub.trans (Sub.new (Sub.refl _) (by rw [up_ne hne]; exact hb0)) (Sub.new (Sub.refl _) hp)), _, ?_, (Tm.inn (.give x1 x2 : Tm) |>.map fun x => ((x, Tm.wbl (.give x1 x2 : Tm) w, false) : Ent)).reverse ++ ((.give x1 x2 : Tm), w, true) :: qs, m, _, _, _, _, rfl, ?_, ?_, ?_, ?_, rfl⟩
        · simp only [wtE, Bool.false_eq_true, if_false]; omega
        · congr 2
          simp [List.map_map, Function.comp_def]
        · rw [effs_open (t := (.give x1 x2 : Tm)) rfl]; exact heff
        · intro z hz hz2 y hy
          rcases List.mem_append.mp hz with hz | hz
          · obtain ⟨x, hx, rfl⟩ := List.mem_map.mp (List.mem_reverse.mp hz)
            exact hnu (.inl rfl) y (Tm.nmsR_mem (t := (.give x1 x2 : Tm)) rfl hx hy)
          · rcases List.mem_cons.mp hz with rfl | hz
            · rcases hz2 with z | z <;> cases z
            · exact hnq z hz hz2 y hy
        · omega
    | pair x1 x2 =>
      refine ⟨fun c => absurd c (by decide), fun _ => ⟨fun c => absurd c (by decide), fun _ => ?_⟩⟩
      have hil := Tm.inn_len (.pair x1 x2 : Tm)
      cases fl with
      | true =>
        refine ⟨fun _ => ?_, nofun⟩
        rw [effs, eff_true (t := (.pair x1 x2 : Tm)) rfl] at heff
        have hk : (Tm.inn (.pair x1 x2 : Tm)).length ≤ m.length := by
          rcases Nat.lt_or_ge m.length (Tm.inn (.pair x1 x2 : Tm)).length with z | z
          · rw [if_neg (by omega)] at heff; cases heff
          · exact z
        rw [if_pos hk] at heff
        simp only [] at heff
        generalize hkk : (Tm.inn (.pair x1 x2 : Tm)).length = kk at hk heff hil
        refine ⟨(.pair x1 x2 : Tm), rfl, compB_of (fun i ds G' => ds = (m.take i).map Tm.enc ∧ i ≤ kk ∧ G' = up (up G a (.lst ((m.drop i).reverse.map Tm.enc))) b (.lst (qs.reverse.map encE))) ?_ ⟨rfl, Nat.zero_le _, by rw [List.drop_zero]⟩ (fun _ _ _ _ _ => trivial) ?_ ?_⟩
        · show ((Tm.inn (.pair x1 x2 : Tm)).map Tm.enc).length < sizeLine
          rw [List.length_map, hkk]; exact smaller (by omega)
        · rintro i d ds G' hd ⟨rfl, hi, rfl⟩
          have hi' : i < kk := by
            have z := (List.getElem?_eq_some_iff.mp hd).1
            have z' : i < ((Tm.inn (.pair x1 x2 : Tm)).map Tm.enc).length := z
            rw [List.length_map, hkk] at z'; exact z'
          have hx : m.drop i = m[i] :: m.drop (i + 1) := List.drop_eq_getElem_cons (by omega)
          refine ⟨onL_of (ha1 _ _) trivial, onM_of (ha1 _ _) ⟨(m.drop (i + 1)).reverse.map Tm.enc, (m[i]'(by omega)).enc, by rw [hx, List.reverse_cons, List.map_append]; rfl, ?_⟩⟩
          rw [up3 hne]
          refine WkV.of ⟨?_, by omega, rfl⟩
          rw [List.take_add_one, List.getElem?_eq_getElem (by omega), Option.toList_some, List.map_append]; rfl
        · rintro ds G' ⟨rfl, _, rfl⟩ p hp
          have eL : List.length (List.map Tm.enc (Tm.inn (.pair x1 x2 : Tm))) = kk := by rw [List.length_map]; exact hkk
          rw [show (⟨List.map Tm.enc (Tm.inn (.pair x1 x2 : Tm)), _⟩ : DIt).items.length = kk from eL] at hp ⊢
          have npa : a ≠ p := by rintro rfl; rw [ha1] at hp; cases hp
          refine ⟨onL_of (by rw [up_ne npa]; exact ha1 _ _) trivial, onL_of up_same ⟨small (by simp only [List.length_map, List.length_take, List.length_cons, List.length_nil]; omega), onM_of (by rw [up_ne npa]; exact ha1 _ _) ⟨smaller (by simp only [List.length_map, List.length_reverse, List.length_drop]; omega), ?_⟩⟩⟩
          refine ⟨_, up (up G a (.lst ((m.drop kk).reverse.map Tm.enc ++ [.tup (.str (Tm.word (.pair x1 x2 : Tm)) :: (m.take kk).map Tm.enc)]))) b (.lst (qs.reverse.map encE)), .refl _, ?_, wtS qs, by omega, qs, Tm.rebuild (.pair x1 x2 : Tm) (m.take kk) :: m.drop kk, _, _, _, _, rfl, ?_, heff, hnq, ?_, rfl⟩
          · rw [← up3 (x := .lst ((m.drop kk).reverse.map Tm.enc)) hne]
            exact Sub.put (Sub.new (Sub.refl _) hp)
          · congr 2
            rw [List.reverse_cons, List.map_append, List.map_cons, List.map_nil, Tm.enc_rebuild (t := (.pair x1 x2 : Tm)) rfl (by rw [List.length_take, hkk]; omega)]
          · simp only [List.length_cons, List.length_drop]; omega
      | false =>
        refine ⟨nofun, fun _ => ?_⟩
        have hss := Tm.sz_sum (t := (.pair x1 x2 : Tm)) rfl
        simp only [wtE, Bool.false_eq_true, if_false] at hsz
        refine ⟨onL_of up_same trivial, onM_of up_same ⟨smaller (by simp only [List.length_map, List.length_reverse]; omega), ?_⟩⟩
        rw [up_up]
        refine ⟨(.pair x1 x2 : Tm), w, rfl, onL_of up_same trivial, (.pair x1 x2 : Tm), rfl, ?_⟩
        refine comp_map (Tm.inn (.pair x1 x2 : Tm)) Tm.enc (fun x => encE (x, Tm.wbl (.pair x1 x2 : Tm) w, false)) rfl (smaller (by omega)) trivial (fun x _ R hR => hR) (fun p hp => ?_)
        have np : b ≠ p := by rintro rfl; rw [up_same] at hp; cases hp
        refine onM_of (by rw [up_ne np]; exact up_same) (onM_of up_same ⟨small (by simp only [List.length_map, List.length_reverse, List.length_append, List.length_cons, List.length_nil]; omega), ?_⟩)
        have hwt : wtS ((Tm.inn (.pair x1 x2 : Tm) |>.map fun x => ((x, Tm.wbl (.pair x1 x2 : Tm) w, false) : Ent)).reverse ++ ((.pair x1 x2 : Tm), w, true) :: qs) + 1 = 2 * Tm.sz (.pair x1 x2 : Tm) + wtS qs := by
          rw [← List.map_reverse, wtS_row, List.map_reverse, List.sum_reverse, wtS_cons]
          simp only [wtE, if_true]; omega
        refine ⟨_, up (up G a (.lst (m.reverse.map Tm.enc))) b (.lst (qs.reverse.map encE ++ [encE ((.pair x1 x2 : Tm), w, true)] ++ (Tm.inn (.pair x1 x2 : Tm)).map fun x => encE (x, Tm.wbl (.pair x1 x2 : Tm) w, false))), .refl _, Sub.put (Sub.trans (Sub.new (Sub.refl _) (by rw [up_ne hne]; exact hb0)) (Sub.new (Sub.refl _) hp)), _, ?_, (Tm.inn (.pair x1 x2 : Tm) |>.map fun x => ((x, Tm.wbl (.pair x1 x2 : Tm) w, false) : Ent)).reverse ++ ((.pair x1 x2 : Tm), w, true) :: qs, m, _, _, _, _, rfl, ?_, ?_, ?_, ?_, rfl⟩
        · simp only [wtE, Bool.false_eq_true, if_false]; omega
        · congr 2
          simp [List.map_map, Function.comp_def]
        · rw [effs_open (t := (.pair x1 x2 : Tm)) rfl]; exact heff
        · intro z hz hz2 y hy
          rcases List.mem_append.mp hz with hz | hz
          · obtain ⟨x, hx, rfl⟩ := List.mem_map.mp (List.mem_reverse.mp hz)
            exact hnu (.inl rfl) y (Tm.nmsR_mem (t := (.pair x1 x2 : Tm)) rfl hx hy)
          · rcases List.mem_cons.mp hz with rfl | hz
            · rcases hz2 with z | z <;> cases z
            · exact hnq z hz hz2 y hy
        · omega
    | first x1 =>
      refine ⟨fun c => absurd c (by decide), fun _ => ⟨fun c => absurd c (by decide), fun _ => ?_⟩⟩
      have hil := Tm.inn_len (.first x1 : Tm)
      cases fl with
      | true =>
        refine ⟨fun _ => ?_, nofun⟩
        rw [effs, eff_true (t := (.first x1 : Tm)) rfl] at heff
        have hk : (Tm.inn (.first x1 : Tm)).length ≤ m.length := by
          rcases Nat.lt_or_ge m.length (Tm.inn (.first x1 : Tm)).length with z | z
          · rw [if_neg (by omega)] at heff; cases heff
          · exact z
        rw [if_pos hk] at heff
        simp only [] at heff
        generalize hkk : (Tm.inn (.first x1 : Tm)).length = kk at hk heff hil
        refine ⟨(.first x1 : Tm), rfl, compB_of (fun i ds G' => ds = (m.take i).map Tm.enc ∧ i ≤ kk ∧ G' = up (up G a (.lst ((m.drop i).reverse.map Tm.enc))) b (.lst (qs.reverse.map encE))) ?_ ⟨rfl, Nat.zero_le _, by rw [List.drop_zero]⟩ (fun _ _ _ _ _ => trivial) ?_ ?_⟩
        · show ((Tm.inn (.first x1 : Tm)).map Tm.enc).length < sizeLine
          rw [List.length_map, hkk]; exact smaller (by omega)
        · rintro i d ds G' hd ⟨rfl, hi, rfl⟩
          have hi' : i < kk := by
            have z := (List.getElem?_eq_some_iff.mp hd).1
            have z' : i < ((Tm.inn (.first x1 : Tm)).map Tm.enc).length := z
            rw [List.length_map, hkk] at z'; exact z'
          have hx : m.drop i = m[i] :: m.drop (i + 1) := List.drop_eq_getElem_cons (by omega)
          refine ⟨onL_of (ha1 _ _) trivial, onM_of (ha1 _ _) ⟨(m.drop (i + 1)).reverse.map Tm.enc, (m[i]'(by omega)).enc, by rw [hx, List.reverse_cons, List.map_append]; rfl, ?_⟩⟩
          rw [up3 hne]
          refine WkV.of ⟨?_, by omega, rfl⟩
          rw [List.take_add_one, List.getElem?_eq_getElem (by omega), Option.toList_some, List.map_append]; rfl
        · rintro ds G' ⟨rfl, _, rfl⟩ p hp
          have eL : List.length (List.map Tm.enc (Tm.inn (.first x1 : Tm))) = kk := by rw [List.length_map]; exact hkk
          rw [show (⟨List.map Tm.enc (Tm.inn (.first x1 : Tm)), _⟩ : DIt).items.length = kk from eL] at hp ⊢
          have npa : a ≠ p := by rintro rfl; rw [ha1] at hp; cases hp
          refine ⟨onL_of (by rw [up_ne npa]; exact ha1 _ _) trivial, onL_of up_same ⟨small (by simp only [List.length_map, List.length_take, List.length_cons, List.length_nil]; omega), onM_of (by rw [up_ne npa]; exact ha1 _ _) ⟨smaller (by simp only [List.length_map, List.length_reverse, List.length_drop]; omega), ?_⟩⟩⟩
          refine ⟨_, up (up G a (.lst ((m.drop kk).reverse.map Tm.enc ++ [.tup (.str (Tm.word (.first x1 : Tm)) :: (m.take kk).map Tm.enc)]))) b (.lst (qs.reverse.map encE)), .refl _, ?_, wtS qs, by omega, qs, Tm.rebuild (.first x1 : Tm) (m.take kk) :: m.drop kk, _, _, _, _, rfl, ?_, heff, hnq, ?_, rfl⟩
          · rw [← up3 (x := .lst ((m.drop kk).reverse.map Tm.enc)) hne]
            exact Sub.put (Sub.new (Sub.refl _) hp)
          · congr 2
            rw [List.reverse_cons, List.map_append, List.map_cons, List.map_nil, Tm.enc_rebuild (t := (.first x1 : Tm)) rfl (by rw [List.length_take, hkk]; omega)]
          · simp only [List.length_cons, List.length_drop]; omega
      | false =>
        refine ⟨nofun, fun _ => ?_⟩
        have hss := Tm.sz_sum (t := (.first x1 : Tm)) rfl
        simp only [wtE, Bool.false_eq_true, if_false] at hsz
        refine ⟨onL_of up_same trivial, onM_of up_same ⟨smaller (by simp only [List.length_map, List.length_reverse]; omega), ?_⟩⟩
        rw [up_up]
        refine ⟨(.first x1 : Tm), w, rfl, onL_of up_same trivial, (.first x1 : Tm), rfl, ?_⟩
        refine comp_map (Tm.inn (.first x1 : Tm)) Tm.enc (fun x => encE (x, Tm.wbl (.first x1 : Tm) w, false)) rfl (smaller (by omega)) trivial (fun x _ R hR => hR) (fun p hp => ?_)
        have np : b ≠ p := by rintro rfl; rw [up_same] at hp; cases hp
        refine onM_of (by rw [up_ne np]; exact up_same) (onM_of up_same ⟨small (by simp only [List.length_map, List.length_reverse, List.length_append, List.length_cons, List.length_nil]; omega), ?_⟩)
        have hwt : wtS ((Tm.inn (.first x1 : Tm) |>.map fun x => ((x, Tm.wbl (.first x1 : Tm) w, false) : Ent)).reverse ++ ((.first x1 : Tm), w, true) :: qs) + 1 = 2 * Tm.sz (.first x1 : Tm) + wtS qs := by
          rw [← List.map_reverse, wtS_row, List.map_reverse, List.sum_reverse, wtS_cons]
          simp only [wtE, if_true]; omega
        refine ⟨_, up (up G a (.lst (m.reverse.map Tm.enc))) b (.lst (qs.reverse.map encE ++ [encE ((.first x1 : Tm), w, true)] ++ (Tm.inn (.first x1 : Tm)).map fun x => encE (x, Tm.wbl (.first x1 : Tm) w, false))), .refl _, Sub.put (Sub.trans (Sub.new (Sub.refl _) (by rw [up_ne hne]; exact hb0)) (Sub.new (Sub.refl _) hp)), _, ?_, (Tm.inn (.first x1 : Tm) |>.map fun x => ((x, Tm.wbl (.first x1 : Tm) w, false) : Ent)).reverse ++ ((.first x1 : Tm), w, true) :: qs, m, _, _, _, _, rfl, ?_, ?_, ?_, ?_, rfl⟩
        · simp only [wtE, Bool.false_eq_true, if_false]; omega
        · congr 2
          simp [List.map_map, Function.comp_def]
        · rw [effs_open (t := (.first x1 : Tm)) rfl]; exact heff
        · intro z hz hz2 y hy
          rcases List.mem_append.mp hz with hz | hz
          · obtain ⟨x, hx, rfl⟩ := List.mem_map.mp (List.mem_reverse.mp hz)
            exact hnu (.inl rfl) y (Tm.nmsR_mem (t := (.first x1 : Tm)) rfl hx hy)
          · rcases List.mem_cons.mp hz with rfl | hz
            · rcases hz2 with z | z <;> cases z
            · exact hnq z hz hz2 y hy
        · omega
    | second x1 =>
      refine ⟨fun c => absurd c (by decide), fun _ => ⟨fun c => absurd c (by decide), fun _ => ?_⟩⟩
      have hil := Tm.inn_len (.second x1 : Tm)
      cases fl with
      | true =>
        refine ⟨fun _ => ?_, nofun⟩
        rw [effs, eff_true (t := (.second x1 : Tm)) rfl] at heff
        have hk : (Tm.inn (.second x1 : Tm)).length ≤ m.length := by
          rcases Nat.lt_or_ge m.length (Tm.inn (.second x1 : Tm)).length with z | z
          · rw [if_neg (by omega)] at heff; cases heff
          · exact z
        rw [if_pos hk] at heff
        simp only [] at heff
        generalize hkk : (Tm.inn (.second x1 : Tm)).length = kk at hk heff hil
        refine ⟨(.second x1 : Tm), rfl, compB_of (fun i ds G' => ds = (m.take i).map Tm.enc ∧ i ≤ kk ∧ G' = up (up G a (.lst ((m.drop i).reverse.map Tm.enc))) b (.lst (qs.reverse.map encE))) ?_ ⟨rfl, Nat.zero_le _, by rw [List.drop_zero]⟩ (fun _ _ _ _ _ => trivial) ?_ ?_⟩
        · show ((Tm.inn (.second x1 : Tm)).map Tm.enc).length < sizeLine
          rw [List.length_map, hkk]; exact smaller (by omega)
        · rintro i d ds G' hd ⟨rfl, hi, rfl⟩
          have hi' : i < kk := by
            have z := (List.getElem?_eq_some_iff.mp hd).1
            have z' : i < ((Tm.inn (.second x1 : Tm)).map Tm.enc).length := z
            rw [List.length_map, hkk] at z'; exact z'
          have hx : m.drop i = m[i] :: m.drop (i + 1) := List.drop_eq_getElem_cons (by omega)
          refine ⟨onL_of (ha1 _ _) trivial, onM_of (ha1 _ _) ⟨(m.drop (i + 1)).reverse.map Tm.enc, (m[i]'(by omega)).enc, by rw [hx, List.reverse_cons, List.map_append]; rfl, ?_⟩⟩
          rw [up3 hne]
          refine WkV.of ⟨?_, by omega, rfl⟩
          rw [List.take_add_one, List.getElem?_eq_getElem (by omega), Option.toList_some, List.map_append]; rfl
        · rintro ds G' ⟨rfl, _, rfl⟩ p hp
          have eL : List.length (List.map Tm.enc (Tm.inn (.second x1 : Tm))) = kk := by rw [List.length_map]; exact hkk
          rw [show (⟨List.map Tm.enc (Tm.inn (.second x1 : Tm)), _⟩ : DIt).items.length = kk from eL] at hp ⊢
          have npa : a ≠ p := by rintro rfl; rw [ha1] at hp; cases hp
          refine ⟨onL_of (by rw [up_ne npa]; exact ha1 _ _) trivial, onL_of up_same ⟨small (by simp only [List.length_map, List.length_take, List.length_cons, List.length_nil]; omega), onM_of (by rw [up_ne npa]; exact ha1 _ _) ⟨smaller (by simp only [List.length_map, List.length_reverse, List.length_drop]; omega), ?_⟩⟩⟩
          refine ⟨_, up (up G a (.lst ((m.drop kk).reverse.map Tm.enc ++ [.tup (.str (Tm.word (.second x1 : Tm)) :: (m.take kk).map Tm.enc)]))) b (.lst (qs.reverse.map encE)), .refl _, ?_, wtS qs, by omega, qs, Tm.rebuild (.second x1 : Tm) (m.take kk) :: m.drop kk, _, _, _, _, rfl, ?_, heff, hnq, ?_, rfl⟩
          · rw [← up3 (x := .lst ((m.drop kk).reverse.map Tm.enc)) hne]
            exact Sub.put (Sub.new (Sub.refl _) hp)
          · congr 2
            rw [List.reverse_cons, List.map_append, List.map_cons, List.map_nil, Tm.enc_rebuild (t := (.second x1 : Tm)) rfl (by rw [List.length_take, hkk]; omega)]
          · simp only [List.length_cons, List.length_drop]; omega
      | false =>
        refine ⟨nofun, fun _ => ?_⟩
        have hss := Tm.sz_sum (t := (.second x1 : Tm)) rfl
        simp only [wtE, Bool.false_eq_true, if_false] at hsz
        refine ⟨onL_of up_same trivial, onM_of up_same ⟨smaller (by simp only [List.length_map, List.length_reverse]; omega), ?_⟩⟩
        rw [up_up]
        refine ⟨(.second x1 : Tm), w, rfl, onL_of up_same trivial, (.second x1 : Tm), rfl, ?_⟩
        refine comp_map (Tm.inn (.second x1 : Tm)) Tm.enc (fun x => encE (x, Tm.wbl (.second x1 : Tm) w, false)) rfl (smaller (by omega)) trivial (fun x _ R hR => hR) (fun p hp => ?_)
        have np : b ≠ p := by rintro rfl; rw [up_same] at hp; cases hp
        refine onM_of (by rw [up_ne np]; exact up_same) (onM_of up_same ⟨small (by simp only [List.length_map, List.length_reverse, List.length_append, List.length_cons, List.length_nil]; omega), ?_⟩)
        have hwt : wtS ((Tm.inn (.second x1 : Tm) |>.map fun x => ((x, Tm.wbl (.second x1 : Tm) w, false) : Ent)).reverse ++ ((.second x1 : Tm), w, true) :: qs) + 1 = 2 * Tm.sz (.second x1 : Tm) + wtS qs := by
          rw [← List.map_reverse, wtS_row, List.map_reverse, List.sum_reverse, wtS_cons]
          simp only [wtE, if_true]; omega
        refine ⟨_, up (up G a (.lst (m.reverse.map Tm.enc))) b (.lst (qs.reverse.map encE ++ [encE ((.second x1 : Tm), w, true)] ++ (Tm.inn (.second x1 : Tm)).map fun x => encE (x, Tm.wbl (.second x1 : Tm) w, false))), .refl _, Sub.put (Sub.trans (Sub.new (Sub.refl _) (by rw [up_ne hne]; exact hb0)) (Sub.new (Sub.refl _) hp)), _, ?_, (Tm.inn (.second x1 : Tm) |>.map fun x => ((x, Tm.wbl (.second x1 : Tm) w, false) : Ent)).reverse ++ ((.second x1 : Tm), w, true) :: qs, m, _, _, _, _, rfl, ?_, ?_, ?_, ?_, rfl⟩
        · simp only [wtE, Bool.false_eq_true, if_false]; omega
        · congr 2
          simp [List.map_map, Function.comp_def]
        · rw [effs_open (t := (.second x1 : Tm)) rfl]; exact heff
        · intro z hz hz2 y hy
          rcases List.mem_append.mp hz with hz | hz
          · obtain ⟨x, hx, rfl⟩ := List.mem_map.mp (List.mem_reverse.mp hz)
            exact hnu (.inl rfl) y (Tm.nmsR_mem (t := (.second x1 : Tm)) rfl hx hy)
          · rcases List.mem_cons.mp hz with rfl | hz
            · rcases hz2 with z | z <;> cases z
            · exact hnq z hz hz2 y hy
        · omega
    | plus x1 x2 =>
      refine ⟨fun c => absurd c (by decide), fun _ => ⟨fun c => absurd c (by decide), fun _ => ?_⟩⟩
      have hil := Tm.inn_len (.plus x1 x2 : Tm)
      cases fl with
      | true =>
        refine ⟨fun _ => ?_, nofun⟩
        rw [effs, eff_true (t := (.plus x1 x2 : Tm)) rfl] at heff
        have hk : (Tm.inn (.plus x1 x2 : Tm)).length ≤ m.length := by
          rcases Nat.lt_or_ge m.length (Tm.inn (.plus x1 x2 : Tm)).length with z | z
          · rw [if_neg (by omega)] at heff; cases heff
          · exact z
        rw [if_pos hk] at heff
        simp only [] at heff
        generalize hkk : (Tm.inn (.plus x1 x2 : Tm)).length = kk at hk heff hil
        refine ⟨(.plus x1 x2 : Tm), rfl, compB_of (fun i ds G' => ds = (m.take i).map Tm.enc ∧ i ≤ kk ∧ G' = up (up G a (.lst ((m.drop i).reverse.map Tm.enc))) b (.lst (qs.reverse.map encE))) ?_ ⟨rfl, Nat.zero_le _, by rw [List.drop_zero]⟩ (fun _ _ _ _ _ => trivial) ?_ ?_⟩
        · show ((Tm.inn (.plus x1 x2 : Tm)).map Tm.enc).length < sizeLine
          rw [List.length_map, hkk]; exact smaller (by omega)
        · rintro i d ds G' hd ⟨rfl, hi, rfl⟩
          have hi' : i < kk := by
            have z := (List.getElem?_eq_some_iff.mp hd).1
            have z' : i < ((Tm.inn (.plus x1 x2 : Tm)).map Tm.enc).length := z
            rw [List.length_map, hkk] at z'; exact z'
          have hx : m.drop i = m[i] :: m.drop (i + 1) := List.drop_eq_getElem_cons (by omega)
          refine ⟨onL_of (ha1 _ _) trivial, onM_of (ha1 _ _) ⟨(m.drop (i + 1)).reverse.map Tm.enc, (m[i]'(by omega)).enc, by rw [hx, List.reverse_cons, List.map_append]; rfl, ?_⟩⟩
          rw [up3 hne]
          refine WkV.of ⟨?_, by omega, rfl⟩
          rw [List.take_add_one, List.getElem?_eq_getElem (by omega), Option.toList_some, List.map_append]; rfl
        · rintro ds G' ⟨rfl, _, rfl⟩ p hp
          have eL : List.length (List.map Tm.enc (Tm.inn (.plus x1 x2 : Tm))) = kk := by rw [List.length_map]; exact hkk
          rw [show (⟨List.map Tm.enc (Tm.inn (.plus x1 x2 : Tm)), _⟩ : DIt).items.length = kk from eL] at hp ⊢
          have npa : a ≠ p := by rintro rfl; rw [ha1] at hp; cases hp
          refine ⟨onL_of (by rw [up_ne npa]; exact ha1 _ _) trivial, onL_of up_same ⟨small (by simp only [List.length_map, List.length_take, List.length_cons, List.length_nil]; omega), onM_of (by rw [up_ne npa]; exact ha1 _ _) ⟨smaller (by simp only [List.length_map, List.length_reverse, List.length_drop]; omega), ?_⟩⟩⟩
          refine ⟨_, up (up G a (.lst ((m.drop kk).reverse.map Tm.enc ++ [.tup (.str (Tm.word (.plus x1 x2 : Tm)) :: (m.take kk).map Tm.enc)]))) b (.lst (qs.reverse.map encE)), .refl _, ?_, wtS qs, by omega, qs, Tm.rebuild (.plus x1 x2 : Tm) (m.take kk) :: m.drop kk, _, _, _, _, rfl, ?_, heff, hnq, ?_, rfl⟩
          · rw [← up3 (x := .lst ((m.drop kk).reverse.map Tm.enc)) hne]
            exact Sub.put (Sub.new (Sub.refl _) hp)
          · congr 2
            rw [List.reverse_cons, List.map_append, List.map_cons, List.map_nil, Tm.enc_rebuild (t := (.plus x1 x2 : Tm)) rfl (by rw [List.length_take, hkk]; omega)]
          · simp only [List.length_cons, List.length_drop]; omega
      | false =>
        refine ⟨nofun, fun _ => ?_⟩
        have hss := Tm.sz_sum (t := (.plus x1 x2 : Tm)) rfl
        simp only [wtE, Bool.false_eq_true, if_false] at hsz
        refine ⟨onL_of up_same trivial, onM_of up_same ⟨smaller (by simp only [List.length_map, List.length_reverse]; omega), ?_⟩⟩
        rw [up_up]
        refine ⟨(.plus x1 x2 : Tm), w, rfl, onL_of up_same trivial, (.plus x1 x2 : Tm), rfl, ?_⟩
        refine comp_map (Tm.inn (.plus x1 x2 : Tm)) Tm.enc (fun x => encE (x, Tm.wbl (.plus x1 x2 : Tm) w, false)) rfl (smaller (by omega)) trivial (fun x _ R hR => hR) (fun p hp => ?_)
        have np : b ≠ p := by rintro rfl; rw [up_same] at hp; cases hp
        refine onM_of (by rw [up_ne np]; exact up_same) (onM_of up_same ⟨small (by simp only [List.length_map, List.length_reverse, List.length_append, List.length_cons, List.length_nil]; omega), ?_⟩)
        have hwt : wtS ((Tm.inn (.plus x1 x2 : Tm) |>.map fun x => ((x, Tm.wbl (.plus x1 x2 : Tm) w, false) : Ent)).reverse ++ ((.plus x1 x2 : Tm), w, true) :: qs) + 1 = 2 * Tm.sz (.plus x1 x2 : Tm) + wtS qs := by
          rw [← List.map_reverse, wtS_row, List.map_reverse, List.sum_reverse, wtS_cons]
          simp only [wtE, if_true]; omega
        refine ⟨_, up (up G a (.lst (m.reverse.map Tm.enc))) b (.lst (qs.reverse.map encE ++ [encE ((.plus x1 x2 : Tm), w, true)] ++ (Tm.inn (.plus x1 x2 : Tm)).map fun x => encE (x, Tm.wbl (.plus x1 x2 : Tm) w, false))), .refl _, Sub.put (Sub.trans (Sub.new (Sub.refl _) (by rw [up_ne hne]; exact hb0)) (Sub.new (Sub.refl _) hp)), _, ?_, (Tm.inn (.plus x1 x2 : Tm) |>.map fun x => ((x, Tm.wbl (.plus x1 x2 : Tm) w, false) : Ent)).reverse ++ ((.plus x1 x2 : Tm), w, true) :: qs, m, _, _, _, _, rfl, ?_, ?_, ?_, ?_, rfl⟩
        · simp only [wtE, Bool.false_eq_true, if_false]; omega
        · congr 2
          simp [List.map_map, Function.comp_def]
        · rw [effs_open (t := (.plus x1 x2 : Tm)) rfl]; exact heff
        · intro z hz hz2 y hy
          rcases List.mem_append.mp hz with hz | hz
          · obtain ⟨x, hx, rfl⟩ := List.mem_map.mp (List.mem_reverse.mp hz)
            exact hnu (.inl rfl) y (Tm.nmsR_mem (t := (.plus x1 x2 : Tm)) rfl hx hy)
          · rcases List.mem_cons.mp hz with rfl | hz
            · rcases hz2 with z | z <;> cases z
            · exact hnq z hz hz2 y hy
        · omega
    | look x1 x2 x3 =>
      refine ⟨fun c => absurd c (by decide), fun _ => ⟨fun c => absurd c (by decide), fun _ => ?_⟩⟩
      have hil := Tm.inn_len (.look x1 x2 x3 : Tm)
      cases fl with
      | true =>
        refine ⟨fun _ => ?_, nofun⟩
        rw [effs, eff_true (t := (.look x1 x2 x3 : Tm)) rfl] at heff
        have hk : (Tm.inn (.look x1 x2 x3 : Tm)).length ≤ m.length := by
          rcases Nat.lt_or_ge m.length (Tm.inn (.look x1 x2 x3 : Tm)).length with z | z
          · rw [if_neg (by omega)] at heff; cases heff
          · exact z
        rw [if_pos hk] at heff
        simp only [] at heff
        generalize hkk : (Tm.inn (.look x1 x2 x3 : Tm)).length = kk at hk heff hil
        refine ⟨(.look x1 x2 x3 : Tm), rfl, compB_of (fun i ds G' => ds = (m.take i).map Tm.enc ∧ i ≤ kk ∧ G' = up (up G a (.lst ((m.drop i).reverse.map Tm.enc))) b (.lst (qs.reverse.map encE))) ?_ ⟨rfl, Nat.zero_le _, by rw [List.drop_zero]⟩ (fun _ _ _ _ _ => trivial) ?_ ?_⟩
        · show ((Tm.inn (.look x1 x2 x3 : Tm)).map Tm.enc).length < sizeLine
          rw [List.length_map, hkk]; exact smaller (by omega)
        · rintro i d ds G' hd ⟨rfl, hi, rfl⟩
          have hi' : i < kk := by
            have z := (List.getElem?_eq_some_iff.mp hd).1
            have z' : i < ((Tm.inn (.look x1 x2 x3 : Tm)).map Tm.enc).length := z
            rw [List.length_map, hkk] at z'; exact z'
          have hx : m.drop i = m[i] :: m.drop (i + 1) := List.drop_eq_getElem_cons (by omega)
          refine ⟨onL_of (ha1 _ _) trivial, onM_of (ha1 _ _) ⟨(m.drop (i + 1)).reverse.map Tm.enc, (m[i]'(by omega)).enc, by rw [hx, List.reverse_cons, List.map_append]; rfl, ?_⟩⟩
          rw [up3 hne]
          refine WkV.of ⟨?_, by omega, rfl⟩
          rw [List.take_add_one, List.getElem?_eq_getElem (by omega), Option.toList_some, List.map_append]; rfl
        · rintro ds G' ⟨rfl, _, rfl⟩ p hp
          have eL : List.length (List.map Tm.enc (Tm.inn (.look x1 x2 x3 : Tm))) = kk := by rw [List.length_map]; exact hkk
          rw [show (⟨List.map Tm.enc (Tm.inn (.look x1 x2 x3 : Tm)), _⟩ : DIt).items.length = kk from eL] at hp ⊢
          have npa : a ≠ p := by rintro rfl; rw [ha1] at hp; cases hp
          refine ⟨onL_of (by rw [up_ne npa]; exact ha1 _ _) trivial, onL_of up_same ⟨small (by simp only [List.length_map, List.length_take, List.length_cons, List.length_nil]; omega), onM_of (by rw [up_ne npa]; exact ha1 _ _) ⟨smaller (by simp only [List.length_map, List.length_reverse, List.length_drop]; omega), ?_⟩⟩⟩
          refine ⟨_, up (up G a (.lst ((m.drop kk).reverse.map Tm.enc ++ [.tup (.str (Tm.word (.look x1 x2 x3 : Tm)) :: (m.take kk).map Tm.enc)]))) b (.lst (qs.reverse.map encE)), .refl _, ?_, wtS qs, by omega, qs, Tm.rebuild (.look x1 x2 x3 : Tm) (m.take kk) :: m.drop kk, _, _, _, _, rfl, ?_, heff, hnq, ?_, rfl⟩
          · rw [← up3 (x := .lst ((m.drop kk).reverse.map Tm.enc)) hne]
            exact Sub.put (Sub.new (Sub.refl _) hp)
          · congr 2
            rw [List.reverse_cons, List.map_append, List.map_cons, List.map_nil, Tm.enc_rebuild (t := (.look x1 x2 x3 : Tm)) rfl (by rw [List.length_take, hkk]; omega)]
          · simp only [List.length_cons, List.length_drop]; omega
      | false =>
        refine ⟨nofun, fun _ => ?_⟩
        have hss := Tm.sz_sum (t := (.look x1 x2 x3 : Tm)) rfl
        simp only [wtE, Bool.false_eq_true, if_false] at hsz
        refine ⟨onL_of up_same trivial, onM_of up_same ⟨smaller (by simp only [List.length_map, List.length_reverse]; omega), ?_⟩⟩
        rw [up_up]
        refine ⟨(.look x1 x2 x3 : Tm), w, rfl, onL_of up_same trivial, (.look x1 x2 x3 : Tm), rfl, ?_⟩
        refine comp_map (Tm.inn (.look x1 x2 x3 : Tm)) Tm.enc (fun x => encE (x, Tm.wbl (.look x1 x2 x3 : Tm) w, false)) rfl (smaller (by omega)) trivial (fun x _ R hR => hR) (fun p hp => ?_)
        have np : b ≠ p := by rintro rfl; rw [up_same] at hp; cases hp
        refine onM_of (by rw [up_ne np]; exact up_same) (onM_of up_same ⟨small (by simp only [List.length_map, List.length_reverse, List.length_append, List.length_cons, List.length_nil]; omega), ?_⟩)
        have hwt : wtS ((Tm.inn (.look x1 x2 x3 : Tm) |>.map fun x => ((x, Tm.wbl (.look x1 x2 x3 : Tm) w, false) : Ent)).reverse ++ ((.look x1 x2 x3 : Tm), w, true) :: qs) + 1 = 2 * Tm.sz (.look x1 x2 x3 : Tm) + wtS qs := by
          rw [← List.map_reverse, wtS_row, List.map_reverse, List.sum_reverse, wtS_cons]
          simp only [wtE, if_true]; omega
        refine ⟨_, up (up G a (.lst (m.reverse.map Tm.enc))) b (.lst (qs.reverse.map encE ++ [encE ((.look x1 x2 x3 : Tm), w, true)] ++ (Tm.inn (.look x1 x2 x3 : Tm)).map fun x => encE (x, Tm.wbl (.look x1 x2 x3 : Tm) w, false))), .refl _, Sub.put (Sub.trans (Sub.new (Sub.refl _) (by rw [up_ne hne]; exact hb0)) (Sub.new (Sub.refl _) hp)), _, ?_, (Tm.inn (.look x1 x2 x3 : Tm) |>.map fun x => ((x, Tm.wbl (.look x1 x2 x3 : Tm) w, false) : Ent)).reverse ++ ((.look x1 x2 x3 : Tm), w, true) :: qs, m, _, _, _, _, rfl, ?_, ?_, ?_, ?_, rfl⟩
        · simp only [wtE, Bool.false_eq_true, if_false]; omega
        · congr 2
          simp [List.map_map, Function.comp_def]
        · rw [effs_open (t := (.look x1 x2 x3 : Tm)) rfl]; exact heff
        · intro z hz hz2 y hy
          rcases List.mem_append.mp hz with hz | hz
          · obtain ⟨x, hx, rfl⟩ := List.mem_map.mp (List.mem_reverse.mp hz)
            exact hnu (.inl rfl) y (Tm.nmsR_mem (t := (.look x1 x2 x3 : Tm)) rfl hx hy)
          · rcases List.mem_cons.mp hz with rfl | hz
            · rcases hz2 with z | z <;> cases z
            · exact hnq z hz hz2 y hy
        · omega
  · have e : st = [] := by
      cases st with
      | nil => rfl
      | cons _ _ => simp at c
    subst e
    have e2 : m = [t.mapN φ 0] := Option.some.inj heff
    subst e2
    have ha1 : ∀ (o : DO) (ds : List D), up (up G a (.lst ds)) b o a = some (.lst ds) := fun o ds => by rw [up_ne (Ne.symm hne)]; exact up_same
    refine ⟨onL_of (ha1 _ _) trivial, onM_of (ha1 _ _) ⟨[], (t.mapN φ 0).enc, rfl, ?_⟩⟩
    rw [up3 hne]
    exact ⟨G, Sub.trans (Sub.new (Sub.refl _) ha) (Sub.new (Sub.refl _) (by rw [up_ne hne]; exact hb0)), q⟩
end
end KB
namespace KB
open PySem L2 L3
section
variable {P : Program} {w : World} {K : PySem.W.Frag} {mg : Str → Option Value} {base : Heap} {f : Addr} {fd : FuncData}
set_option maxHeartbeats 4000000
abbrev st_lifted : Stmt := top 6
theorem sc_lifted : FnScope ["program", "many", "least", "moved"] ["program", "many", "least"] (defScope st_lifted) := ⟨rfl, rfl, rfl, by decide +kernel, rfl, by decide +kernel, by decide +kernel⟩
abbrev st_lifted_moved : Stmt := (defBody st_lifted).getD 0 (.Pass ⟨0, 0, 0, 0⟩)
theorem sc_lifted_moved : CloScope ["number", "ways", "many", "least"] ["number", "ways"] ["many", "least"] (defScope st_lifted_moved) := ⟨rfl, rfl, rfl, by decide +kernel, rfl, rfl, by decide +kernel, by decide +kernel, by decide +kernel, by decide +kernel, by decide +kernel⟩
theorem ok_lifted_moved {m l : Nat} : CloD P w K mg base 1 "moved" "lifted.<locals>.moved" st_lifted_moved ["many", "least"] [.int m, .int l] ["number", "ways"] (clD (cLift m l) (fun _ _ => True) []) := by
  refine okClo (k := 0) sc_lifted_moved (fun ds G DQ h => ?_) (fun _ _ _ _ _ us hl => match us, hl with | [_, _], _ => rfl) (fun f cdv cl A outer s H hr ds G DQ h => ?_)
  · obtain ⟨_, _, rfl, _⟩ := h; rfl
  obtain ⟨n, w, rfl, _, _, q⟩ := h
  refine ⟨_, (ab_one (as_ret (ae_tup (aa_cons ae_str (aa_cons (ae_ifExp (at_cmp aop_ge (ae_var 0) (ae_op aop_add (ae_var 1) (ae_var 3)) (nomark _)) (ae_op aop_add (ae_var 0) (ae_var 2)) (ae_var 0)) aa_nil))))), ?_⟩
  refine ⟨fun c => ⟨Sub.refl _, ?_⟩, fun c => ⟨Sub.refl _, ?_⟩⟩
  · have c' : (w : Int) + l ≤ n := by simpa using c
    rw [cLift, if_pos (by omega), Tm.enc, Int.natCast_add] at q
    exact q
  · have c' : ¬ (w : Int) + l ≤ n := by simpa using c
    rw [cLift, if_neg (by omega), Tm.enc] at q
    exact q
theorem ok_lifted {c T_lifted : Addr} (hC : PySem.W.CodeHd base c T_lifted) (hB : BltIn mg base) (g_withn : Got P w K mg base 3 "with_names" ["program", "change"] (conc K (spWith P w K mg base 1))) (F : FunC K "lifted" "lifted" st_lifted f fd c) : FnOk P w K mg base CX0 4 f fd ["program", "many", "least"] (conc K (spLift T_lifted (defPos st_lifted_moved))) := by
  refine okDc (k := 3) F sc_lifted (fun ds G DQ h => ?_) (fun A outer s H E hr ds G DQ h => ?_)
  · obtain ⟨_, _, _, rfl, _⟩ := h; rfl
  obtain ⟨t, m, l, rfl, hT, hz, q⟩ := h
  refine ⟨_, (ab_cons (as_def (i := 3) (T := T_lifted) (fr := ["many", "least"]) sc_lifted.nd rfl (Or.inl rfl) rfl hC hB (by kernel_rfl) rfl rfl rfl)
      (ab_one (as_ret (ae_callX (name := "moved") (qual := "lifted.<locals>.moved") (st := st_lifted_moved) (fr := ["many", "least"]) (ix := [1, 2]) g_withn hr (by omega) rfl (by decide +kernel) (by kernel_rfl) (aa_cons (ae_var 0) (aa_cons (ae_var 3) aa_nil)))))), ?_⟩
  refine ⟨hT, fun f hf => ⟨f, [.int m, .int l], up_same, rfl, fun i j h => ?_, t, f, _, _, _, _, _, _, cLift m l, fun _ _ => True, [], rfl, up_same, ok_lifted_moved, fun y hy => absurd hy (List.not_mem_nil), hz, fun _ _ => trivial, rfl, G, Sub.new (Sub.refl _) hf, q⟩⟩
  rcases i with _ | _ | i
  · cases h; exact ⟨_, rfl, rfl⟩
  · cases h; exact ⟨_, rfl, rfl⟩
  · cases h
end
end KB
namespace KB
open PySem L2 L3
section
variable {P : Program} {w : World} {K : PySem.W.Frag} {mg : Str → Option Value} {base : Heap} {f : Addr} {fd : FuncData}
set_option maxHeartbeats 4000000
abbrev st_atp : Stmt := top 11
theorem sc_atp : FnScope ["program", "place", "one", "k", "inners"] ["program", "place"] (defScope st_atp) := ⟨rfl, rfl, rfl, by decide +kernel, rfl, by decide +kernel, by decide +kernel⟩
theorem ok_atp (B : Blt mg) (g_inner : Got P w K mg base 1 "inner" ["program"] (conc K (spInn Tm.enc Tm.inn))) (F : Fun K "at_place" "at_place" st_atp f fd) : FnOk P w K mg base CX0 2 f fd ["program", "place"] (conc K spAt) := by
  refine okD (k := 1) F sc_atp (fun ds G DQ h => ?_) (fun cdv A outer s H E hr ds G DQ h => ?_)
  · obtain ⟨_, _, _, rfl, _⟩ := h; rfl
  obtain ⟨t, ns, u, rfl, hu, q⟩ := h
  refine ⟨_, (ab_cons (as_set (k := 2) sc_atp.nd rfl (Or.inl rfl) (ae_var 0))
      (ab_cons (as_for PassesOwn.never rfl (ai_seq (ae_var 1)) (ag_name (k := 3) sc_atp.nd rfl (Or.inl rfl)) (ab_cons (as_set (k := 4) sc_atp.nd rfl (Or.inl rfl) (ae_call g_inner hr (by omega) rfl (aa_cons (ae_var 2) aa_nil)))
      (ab_cons (as_if (AW.at (aw_or (at_cmp aop_lt (ae_var 3) ae_int (nomark _)) (aw_or1 (at_cmp aop_ge (ae_var 3) (ae_callB acall_len rfl B.len PySem.boot_len (aa_cons (ae_var 4) aa_nil)) (nomark _))))) (ab_one (as_ret ae_non)) ab_nil)
      (ab_one (as_set (k := 2) sc_atp.nd rfl (Or.inl rfl) (ae_ix aix (ae_var 4) (ae_var 3) (fun _ _ => rfl)))))))
      (ab_one (as_ret (ae_var 2))))), ?_⟩
  refine ⟨fun i ρ G' => ∃ v o p, ρ = [some (Tm.enc t), some (plD ns), some (Tm.enc v), o, p] ∧ G' = G ∧ t.at (ns.take i) = some v, ⟨t, _, _, rfl, rfl, rfl⟩, fun _ _ _ _ _ => trivial, ?_, ?_⟩
  · rintro i d ρ G' hd ⟨v, o, p, rfl, rfl, hv⟩
    have hd' : (ns.map D.int)[i]? = some d := hd
    rw [List.getElem?_map] at hd'
    cases e : ns[i]? with
    | none => rw [e] at hd'; cases hd'
    | some k =>
      rw [e] at hd'; cases hd'
      obtain ⟨v', x, h1, h2, h3, h4⟩ := Tm.at_take hu e
      rw [hv] at h1; cases h1
      have hk : k.toNat < v.inn.length := (List.getElem?_eq_some_iff.mp h3).1
      refine ⟨v, rfl, ⟨fun c => absurd (show k < 0 by simpa using c) (by omega), fun _ => ⟨fun c => ?_, fun _ => ?_⟩⟩⟩
      · have c' : (v.inn.map Tm.enc).length ≤ k := by simpa using c
        rw [List.length_map] at c'; omega
      · refine ixT_of (d := x.enc) ?_ (Wk.of ⟨x, _, _, rfl, rfl, h4⟩)
        have z := atI_nat (xs := v.inn.map Tm.enc) (j := k.toNat) (v := x.enc) (by rw [List.getElem?_map, h3]; rfl)
        rwa [show ((k.toNat : Nat) : Int) = k by omega] at z
  · rintro ρ G' ⟨v, o, p, rfl, rfl, hv⟩
    have e : (ns.map D.int).length = ns.length := List.length_map ..
    have hv' : t.at (ns.take (ns.map D.int).length) = some v := hv
    rw [e, List.take_length, hu] at hv'
    cases hv'
    exact Dr.of q
end
end KB
namespace KB
open PySem L2 L3
section
variable {P : Program} {w : World} {K : PySem.W.Frag} {mg : Str → Option Value} {base : Heap} {f : Addr} {fd : FuncData}
set_option maxHeartbeats 4000000
abbrev st_opn : Stmt := top 3
theorem sc_opn : FnScope ["program"] ["program"] (defScope st_opn) := ⟨rfl, rfl, rfl, by decide +kernel, rfl, by decide +kernel, by decide +kernel⟩
theorem ok_opn (B : Blt mg) (g_namesin : Got P w K mg base 2 "names_in" ["program"] (conc K spNamesIn)) (F : Fun K "open_names" "open_names" st_opn f fd) : FnOk P w K mg base CX0 3 f fd ["program"] (conc K spOpen) := by
  refine okD (k := 2) F sc_opn (fun ds G DQ h => ?_) (fun cdv A outer s H E hr ds G DQ h => ?_)
  · obtain ⟨_, rfl, _⟩ := h; rfl
  obtain ⟨t, rfl, hz, hn, q⟩ := h
  refine ⟨_, (ab_one (as_ret (ae_sortedSet rfl B.sorted rfl B.set (ae_compIf rfl (CompOk.of (N' := ["number", "ways"]) (nt := 2) (cap := []) rfl (by kernel_rfl)) (keeps_tup (keepsL_cons mon_name (monL_cons mon_name monL_nil) (keeps_name (k := 0) (by decide)) (keepsL_cons mon_name monL_nil (keeps_name (k := 1) (by decide)) keepsL_nil))) (ai_seq (ae_call g_namesin hr (by omega) rfl (aa_cons (ae_var 0) aa_nil))) (fun _ _ _ _ => (ag_tup (n := 2) rfl (ags_cons (ag_name (k := 0) (show List.Nodup (["number", "ways"] : List Str) by decide +kernel) rfl (Or.inl rfl)) (ags_cons (ag_name (k := 1) (show List.Nodup (["number", "ways"] : List Str) by decide +kernel) rfl (Or.inl rfl)) ags_nil)))) (fun _ _ _ _ => (at_cmp aop_ge (ae_var 0) (ae_var 1) (nomark _))) (fun _ _ _ _ => (ae_op aop_sub (ae_var 0) (ae_var 1))))))), ?_⟩
  refine ⟨t, rfl, hz, fun l1 h1 => onIt_of up_same ?_⟩
  refine compIf_map (t.nmsR 0) prD (fun z => if z.2 ≤ z.1 then some (.int ((z.1 : Int) - z.2)) else none) rfl (smaller (by have := t.nmsR_len 0; omega)) up_same ?_ ?_
  · intro z hz' R S hR hS
    refine ⟨fun c => ?_, fun c => ?_⟩
    · have c' : (z.2 : Int) ≤ z.1 := by simpa using c
      exact hR _ (by rw [if_pos (by omega)])
    · have c' : ¬ (z.2 : Int) ≤ z.1 := by simpa using c
      exact hS (by rw [if_neg (by omega)])
  · intro p hp
    have e : ((t.nmsR 0).filterMap fun z => if z.2 ≤ z.1 then some (D.int ((z.1 : Int) - z.2)) else none) = t.opn.map D.int := by
      unfold Tm.opn opnOf
      rw [List.map_filterMap]
      congr 1
      funext z
      split <;> rfl
    rw [e]
    have hol := t.opn_len
    refine onL_of up_same ⟨t.opn, asInts_map _, by omega, fun ms hs l' hl' => ?_⟩
    obtain ⟨_, n1, _⟩ := up_new (o := .lst []) hl'
    obtain ⟨_, n2, _⟩ := up_new (o := .lst []) n1
    exact ⟨up G l' (.lst (ms.map D.int)), Sub.put (Sub.trans (Sub.new (Sub.refl _) h1) (Sub.new (Sub.refl _) hp)), q ms hs l' n2⟩
end
end KB
namespace KB
open PySem L2 L3
section
variable {P : Program} {w : World} {K : PySem.W.Frag} {mg : Str → Option Value} {base : Heap} {f : Addr} {fd : FuncData}
set_option maxHeartbeats 4000000
abbrev st_spots : Stmt := top 17
theorem sc_spots : FnScope ["_law_program", "_law_place", "_law_ways", "_law_found", "_law_k"] ["_law_program", "_law_place", "_law_ways"] (defScope st_spots) := ⟨rfl, rfl, rfl, by decide +kernel, rfl, by decide +kernel, by decide +kernel⟩
theorem no_spots : FnOk P w K mg base CX0 1 f fd ["_law_program", "_law_place", "_law_ways"] (conc K (spSpots 0)) := okNo fun ds G DQ h => by
  obtain ⟨_, _, _, _, h, _⟩ := h; omega
theorem ok_spots {n : Nat} (B : Blt mg) (g_spots : Got P w K mg base (n + 1) "_law_spots" ["_law_program", "_law_place", "_law_ways"] (conc K (spSpots n))) (F : Fun K "_law_spots" "_law_spots" st_spots f fd) : FnOk P w K mg base CX0 (n + 2) f fd ["_law_program", "_law_place", "_law_ways"] (conc K (spSpots (n + 1))) := by
  refine okD (k := n + 1) F sc_spots (fun ds G DQ h => ?_) (fun cdv A outer s H E hr ds G DQ h => ?_)
  · obtain ⟨_, _, _, rfl, _⟩ := h; rfl
  obtain ⟨t, pl, w, rfl, hd, hz, hp, q⟩ := h
  refine ⟨_, (ab_cons (as_if (at_cmp aop_in (ae_ix aix (ae_var 0) ae_int (fun _ _ => rfl)) (ae_tup (aa_cons ae_str (aa_cons ae_str aa_nil))) (by with_unfolding_all rfl)) (ab_one (as_ret (ae_lst (aa_cons (ae_tup (aa_cons (ae_var 1) (aa_cons (ae_var 2) (aa_cons (ae_var 0) aa_nil)))) aa_nil)))) ab_nil)
      (ab_cons (as_set (k := 3) sc_spots.nd rfl (Or.inl rfl) (ae_lst aa_nil))
      (ab_cons (as_for PassesOwn.never rfl (ai_range2 rfl B.range (aa_cons ae_int (aa_cons (ae_callB acall_len rfl B.len PySem.boot_len (aa_cons (ae_var 0) aa_nil)) aa_nil))) (ag_name (k := 4) sc_spots.nd rfl (Or.inl rfl)) (ab_one (as_set (k := 3) sc_spots.nd rfl (Or.inl rfl) (ae_op aop_add (ae_var 3) (ae_call g_spots hr (by omega) rfl (aa_cons (ae_ix aix (ae_var 0) (ae_var 4) (fun _ _ => rfl)) (aa_cons (ae_op aop_add (ae_var 1) (ae_tup (aa_cons (ae_op aop_sub (ae_var 4) ae_int) aa_nil))) (aa_cons (ae_op aop_add (ae_var 2) (ae_callTy acall_int rfl B.int PyProof.Rows.boot_int (aa_cons (ae_cmp (aop_eq (hu200 hr)) (ae_ix aix (ae_var 0) ae_int (fun _ _ => rfl)) ae_str (nomark _)) aa_nil))) aa_nil))))))))
      (ab_one (as_ret (ae_var 3)))))), ?_⟩
  by_cases hl : t.leaf = true
  · cases t with
    | name k => exact ⟨rfl, rfl, fun _ l hl' => Dr.of (q l hl'), fun c => absurd c (by decide)⟩
    | whole k => exact ⟨rfl, rfl, fun _ l hl' => Dr.of (q l hl'), fun c => absurd c (by decide)⟩
    | _ => cases hl
  · have hlf : t.leaf = false := by simpa using hl
    have hin := t.inn_len
    have hss := Tm.sz_sum hlf
    rw [Tm.spots_node hlf] at q
    rw [Tm.enc_node hlf]
    refine ixT_of (at0 _ _) ⟨rfl, rfl, fun c => absurd c (by rw [word_leaf hlf]; decide), fun _ => ?_⟩
    intro l0 h0
    refine onR2_of (by decide) (by rw [List.length_cons, List.length_map]; omega) ?_
    refine ⟨fun i ρ G' => ∃ (l : Addr) (o4 : Option D), ρ = [some (.tup (.str t.word :: t.inn.map Tm.enc)), some (plD pl), some (.int w), some (.ref l), o4] ∧ G l = none ∧ G' = up G l (.lst ((spotsL (t.inn.take i) 0 pl (t.wbl w)).map spD)), ⟨l0, _, rfl, h0, rfl⟩, fun _ _ _ _ _ => trivial, ?_, ?_⟩
    · rintro i d ρ G' hgi ⟨l, o4, rfl, hln, rfl⟩
      obtain ⟨hi, rfl⟩ := rangeD_get hgi
      have hi' : i < t.inn.length := by rw [List.length_cons, List.length_map] at hi; omega
      have ei : t.inn[i]? = some t.inn[i] := List.getElem?_eq_getElem hi'
      have hm := List.mem_of_getElem? ei
      have h1 := Tm.dp_inn hm
      have h2 := Tm.sz_mem hm
      generalize hu : t.inn[i] = u at ei hm h1 h2
      have e1 : (1 : Int) + (i : Int) = ((i + 1 : Nat) : Int) := by omega
      refine ixT_of (d := u.enc) (by rw [e1]; exact atI_nat (by rw [List.getElem?_cons_succ, List.getElem?_map, ei]; rfl)) ?_
      refine ⟨small (by simp only [List.length_map, List.length_cons, List.length_nil]; omega), ixT_of (at0 _ _) ?_⟩
      refine ⟨u, pl ++ [(i : Int)], t.wbl w, ?_, by omega, by omega, by rw [List.length_append, List.length_singleton]; omega, fun m hm => ?_⟩
      · have e2 : plD (pl ++ [(i : Int)]) = .tup (pl.map D.int ++ [.int (1 + (i : Int) - 1)]) := by
          unfold plD; rw [List.map_append]; rw [show (1 + (i : Int) - 1) = i by omega]; rfl
        rw [e2, ← word_way]; rfl
      · obtain ⟨_, n1, nml⟩ := up_new (o := .lst []) hm
        have ht : t.inn.take (i + 1) = t.inn.take i ++ [u] := by rw [List.take_add_one, ei]; rfl
        have b1 := spotsL_len (t.inn.take i) 0 pl (t.wbl w)
        have b2 : ((t.inn.take i).map Tm.sz).sum ≤ (t.inn.map Tm.sz).sum := by
          conv => rhs; rw [← List.take_append_drop i t.inn, List.map_append, List.sum_append]
          omega
        have b3 := u.spots_len (pl ++ [(i : Int)]) (t.wbl w)
        refine onM_of (by rw [up_ne (Ne.symm nml)]; exact up_same) (onM_of up_same ⟨small (by simp only [List.length_map]; omega), fun p hp => ?_⟩)
        obtain ⟨_, n2, npm⟩ := up_new (o := .lst []) hp
        obtain ⟨_, n3, npl⟩ := up_new (o := .lst []) n2
        refine ⟨_, up G p (.lst ((spotsL (t.inn.take (i + 1)) 0 pl (t.wbl w)).map spD)), .refl _, ?_, p, _, rfl, n3, rfl⟩
        rw [ht, spotsL_snoc, List.map_append, List.length_take, Nat.min_eq_left (Nat.le_of_lt hi'), Nat.zero_add]
        exact Sub.put (Sub.trans (Sub.new (Sub.refl _) hln) (Sub.new (Sub.refl _) hm))
    · rintro ρ G' ⟨l, o4, rfl, hln, rfl⟩
      have e : (rangeD 1 ((((D.str t.word :: t.inn.map Tm.enc).length : Nat) : Int) - 1).toNat).length = t.inn.length := by rw [rangeD_len, List.length_cons, List.length_map]; omega
      have e' : t.inn.take (rangeD 1 ((((D.str t.word :: t.inn.map Tm.enc).length : Nat) : Int) - 1).toNat).length = t.inn := by rw [e]; exact List.take_length ..
      exact ⟨up G l (.lst ((spotsL t.inn 0 pl (t.wbl w)).map spD)), by
        show Sub _ (up G l (.lst ((spotsL (t.inn.take (rangeD 1 ((((D.str t.word :: t.inn.map Tm.enc).length : Nat) : Int) - 1).toNat).length) 0 pl (t.wbl w)).map spD)))
        rw [e']; exact Sub.refl _, q l hln⟩
end
end KB
namespace KB
open PySem L2 L3
section
variable {P : Program} {w : World} {K : PySem.W.Frag} {mg : Str → Option Value} {base : Heap} {f : Addr} {fd : FuncData}
set_option maxHeartbeats 4000000
abbrev st_llift : Stmt := top 19
theorem sc_llift : FnScope ["_law_program", "_law_many", "_law_least", "_law_ways", "_law_around"] ["_law_program", "_law_many", "_law_least", "_law_ways"] (defScope st_llift) := ⟨rfl, rfl, rfl, by decide +kernel, rfl, by decide +kernel, by decide +kernel⟩
theorem no_llift : FnOk P w K mg base CX0 1 f fd ["_law_program", "_law_many", "_law_least", "_law_ways"] (conc K (spLLift 0)) := okNo fun ds G DQ h => by
  obtain ⟨_, _, _, _, _, h, _⟩ := h; omega
theorem ok_llift {n : Nat} (B : Blt mg) (g_llift : Got P w K mg base (n + 1) "_law_lift" ["_law_program", "_law_many", "_law_least", "_law_ways"] (conc K (spLLift n))) (F : Fun K "_law_lift" "_law_lift" st_llift f fd) : FnOk P w K mg base CX0 (n + 2) f fd ["_law_program", "_law_many", "_law_least", "_law_ways"] (conc K (spLLift (n + 1))) := by
  refine okD (k := n + 1) F sc_llift (fun ds G DQ h => ?_) (fun cdv A outer s H E hr ds G DQ h => ?_)
  · obtain ⟨_, _, _, _, rfl, _⟩ := h; rfl
  obtain ⟨t, m, l, w, rfl, hd, q⟩ := h
  refine ⟨_, (ab_cons (as_if (at_cmp (aop_eq (hu200 hr)) (ae_ix aix (ae_var 0) ae_int (fun _ _ => rfl)) ae_str (nomark _)) (ab_one (as_ret (ae_var 0))) ab_nil)
      (ab_cons (as_if (at_cmp (aop_eq (hu200 hr)) (ae_ix aix (ae_var 0) ae_int (fun _ _ => rfl)) ae_str (nomark _)) (ab_one (as_ret (ae_tup (aa_cons ae_str (aa_cons (ae_op aop_add (ae_ix aix (ae_var 0) ae_int (fun _ _ => rfl)) (ae_op aop_mul (ae_var 1) (ae_callTy acall_int rfl B.int PyProof.Rows.boot_int (aa_cons (ae_cmp aop_ge (ae_op aop_sub (ae_ix aix (ae_var 0) ae_int (fun _ _ => rfl)) (ae_var 3)) (ae_var 2) (nomark _)) aa_nil)))) aa_nil))))) ab_nil)
      (ab_cons (as_set (k := 4) sc_llift.nd rfl (Or.inr rfl) (ae_op aop_add (ae_var 3) (ae_callTy acall_int rfl B.int PyProof.Rows.boot_int (aa_cons (ae_cmp (aop_eq (hu200 hr)) (ae_ix aix (ae_var 0) ae_int (fun _ _ => rfl)) ae_str (nomark _)) aa_nil))))
      (ab_one (as_ret (ae_op aop_add (ae_slice asl (ae_var 0) ao_none (ao_some ae_int)) (ae_clean (ae_callTy acall_tuple rfl B.tuple PyProof.Rows.boot_tuple (aa_cons (ae_comp rfl (CompOk.of (N' := ["_law_part", "_law_many", "_law_least", "_law_around"]) (nt := 1) (cap := [1, 2, 4]) rfl (by kernel_rfl)) (keeps_name (k := 0) (by decide)) (ai_seq (ae_slice asl (ae_var 0) (ao_some ae_int) ao_none)) (fun _ _ _ _ => (ag_name (k := 0) (show List.Nodup (["_law_part", "_law_many", "_law_least", "_law_around"] : List Str) by decide +kernel) rfl (Or.inl rfl))) (fun _ _ _ _ => (ae_call g_llift hr (by omega) rfl (aa_cons (ae_var 0) (aa_cons (ae_var 1) (aa_cons (ae_var 2) (aa_cons (ae_var 3) aa_nil))))))) aa_nil))))))))), ?_⟩
  cases t with
  | whole k => exact ⟨fun _ => Dr.of q, fun c => absurd c (by decide)⟩
  | name k =>
    refine ⟨fun c => absurd c (by decide), fun _ => ⟨fun _ => ⟨.inr ⟨?_, ?_⟩, Dr.of ?_⟩, fun c => absurd c (by decide)⟩⟩
    · split <;> decide
    · split <;> decide
    · have e : (Tm.mapN (cLift m l) w (.name k)).enc = .tup [.str "name", .int ((k : Int) + m * (if decide ((l : Int) ≤ (k : Int) - w) = true then 1 else 0))] := by
        show (cLift m l k w).enc = _
        unfold cLift
        by_cases c : k ≥ w + l
        · rw [if_pos c, if_pos (by simp; omega)]; simp [Tm.enc]
        · rw [if_neg c, if_neg (by simp; omega)]; simp [Tm.enc]
      rw [e] at q
      exact q
  | way x1 =>
    refine ⟨fun c => absurd c (by decide), fun _ => ⟨fun c => absurd c (by decide), fun _ => ?_⟩⟩
    refine comp_map (Tm.inn (.way x1 : Tm)) Tm.enc (fun u => (u.mapN (cLift m l) (Tm.wbl (.way x1 : Tm) w)).enc) rfl (smaller (by have := Tm.inn_len (.way x1 : Tm); omega)) trivial (fun u hu R hR => ?_) (fun p hp => ?_)
    · have h1 := Tm.dp_inn hu
      exact ⟨u, m, l, Tm.wbl (.way x1 : Tm) w, by simp [Tm.wbl, ofStr_eq], by omega, hR⟩
    · refine onL_of up_same ⟨G, Sub.new (Sub.refl _) hp, small (by have := Tm.inn_len (.way x1 : Tm); simp only [List.length_map]; show 1 + _ ≤ _; omega), Dr.of ?_⟩
      have e := Tm.enc_rebuild (t := (.way x1 : Tm)) (cs := (Tm.inn (.way x1 : Tm)).map fun u => u.mapN (cLift m l) (Tm.wbl (.way x1 : Tm) w)) rfl (by rw [List.length_map])
      rw [Tm.mapN_eq (t := (.way x1 : Tm)) rfl, e, List.map_map] at q
      exact q
  | give x1 x2 =>
    refine ⟨fun c => absurd c (by decide), fun _ => ⟨fun c => absurd c (by decide), fun _ => ?_⟩⟩
    refine comp_map (Tm.inn (.give x1 x2 : Tm)) Tm.enc (fun u => (u.mapN (cLift m l) (Tm.wbl (.give x1 x2 : Tm) w)).enc) rfl (smaller (by have := Tm.inn_len (.give x1 x2 : Tm); omega)) trivial (fun u hu R hR => ?_) (fun p hp => ?_)
    · have h1 := Tm.dp_inn hu
      exact ⟨u, m, l, Tm.wbl (.give x1 x2 : Tm) w, by simp [Tm.wbl, ofStr_eq], by omega, hR⟩
    · refine onL_of up_same ⟨G, Sub.new (Sub.refl _) hp, small (by have := Tm.inn_len (.give x1 x2 : Tm); simp only [List.length_map]; show 1 + _ ≤ _; omega), Dr.of ?_⟩
      have e := Tm.enc_rebuild (t := (.give x1 x2 : Tm)) (cs := (Tm.inn (.give x1 x2 : Tm)).map fun u => u.mapN (cLift m l) (Tm.wbl (.give x1 x2 : Tm) w)) rfl (by rw [List.length_map])
      rw [Tm.mapN_eq (t := (.give x1 x2 : Tm)) rfl, e, List.map_map] at q
      exact q
  | pair x1 x2 =>
    refine ⟨fun c => absurd c (by decide), fun _ => ⟨fun c => absurd c (by decide), fun _ => ?_⟩⟩
    refine comp_map (Tm.inn (.pair x1 x2 : Tm)) Tm.enc (fun u => (u.mapN (cLift m l) (Tm.wbl (.pair x1 x2 : Tm) w)).enc) rfl (smaller (by have := Tm.inn_len (.pair x1 x2 : Tm); omega)) trivial (fun u hu R hR => ?_) (fun p hp => ?_)
    · have h1 := Tm.dp_inn hu
      exact ⟨u, m, l, Tm.wbl (.pair x1 x2 : Tm) w, by simp [Tm.wbl, ofStr_eq], by omega, hR⟩
    · refine onL_of up_same ⟨G, Sub.new (Sub.refl _) hp, small (by have := Tm.inn_len (.pair x1 x2 : Tm); simp only [List.length_map]; show 1 + _ ≤ _; omega), Dr.of ?_⟩
      have e := Tm.enc_rebuild (t := (.pair x1 x2 : Tm)) (cs := (Tm.inn (.pair x1 x2 : Tm)).map fun u => u.mapN (cLift m l) (Tm.wbl (.pair x1 x2 : Tm) w)) rfl (by rw [List.length_map])
      rw [Tm.mapN_eq (t := (.pair x1 x2 : Tm)) rfl, e, List.map_map] at q
      exact q
  | first x1 =>
    refine ⟨fun c => absurd c (by decide), fun _ => ⟨fun c => absurd c (by decide), fun _ => ?_⟩⟩
    refine comp_map (Tm.inn (.first x1 : Tm)) Tm.enc (fun u => (u.mapN (cLift m l) (Tm.wbl (.first x1 : Tm) w)).enc) rfl (smaller (by have := Tm.inn_len (.first x1 : Tm); omega)) trivial (fun u hu R hR => ?_) (fun p hp => ?_)
    · have h1 := Tm.dp_inn hu
      exact ⟨u, m, l, Tm.wbl (.first x1 : Tm) w, by simp [Tm.wbl, ofStr_eq], by omega, hR⟩
    · refine onL_of up_same ⟨G, Sub.new (Sub.refl _) hp, small (by have := Tm.inn_len (.first x1 : Tm); simp only [List.length_map]; show 1 + _ ≤ _; omega), Dr.of ?_⟩
      have e := Tm.enc_rebuild (t := (.first x1 : Tm)) (cs := (Tm.inn (.first x1 : Tm)).map fun u => u.mapN (cLift m l) (Tm.wbl (.first x1 : Tm) w)) rfl (by rw [List.length_map])
      rw [Tm.mapN_eq (t := (.first x1 : Tm)) rfl, e, List.map_map] at q
      exact q
  | second x1 =>
    refine ⟨fun c => absurd c (by decide), fun _ => ⟨fun c => absurd c (by decide), fun _ => ?_⟩⟩
    refine comp_map (Tm.inn (.second x1 : Tm)) Tm.enc (fun u => (u.mapN (cLift m l) (Tm.wbl (.second x1 : Tm) w)).enc) rfl (smaller (by have := Tm.inn_len (.second x1 : Tm); omega)) trivial (fun u hu R hR => ?_) (fun p hp => ?_)
    · have h1 := Tm.dp_inn hu
      exact ⟨u, m, l, Tm.wbl (.second x1 : Tm) w, by simp [Tm.wbl, ofStr_eq], by omega, hR⟩
    · refine onL_of up_same ⟨G, Sub.new (Sub.refl _) hp, small (by have := Tm.inn_len (.second x1 : Tm); simp only [List.length_map]; show 1 + _ ≤ _; omega), Dr.of ?_⟩
      have e := Tm.enc_rebuild (t := (.second x1 : Tm)) (cs := (Tm.inn (.second x1 : Tm)).map fun u => u.mapN (cLift m l) (Tm.wbl (.second x1 : Tm) w)) rfl (by rw [List.length_map])
      rw [Tm.mapN_eq (t := (.second x1 : Tm)) rfl, e, List.map_map] at q
      exact q
  | plus x1 x2 =>
    refine ⟨fun c => absurd c (by decide), fun _ => ⟨fun c => absurd c (by decide), fun _ => ?_⟩⟩
    refine comp_map (Tm.inn (.plus x1 x2 : Tm)) Tm.enc (fun u => (u.mapN (cLift m l) (Tm.wbl (.plus x1 x2 : Tm) w)).enc) rfl (smaller (by have := Tm.inn_len (.plus x1 x2 : Tm); omega)) trivial (fun u hu R hR => ?_) (fun p hp => ?_)
    · have h1 := Tm.dp_inn hu
      exact ⟨u, m, l, Tm.wbl (.plus x1 x2 : Tm) w, by simp [Tm.wbl, ofStr_eq], by omega, hR⟩
    · refine onL_of up_same ⟨G, Sub.new (Sub.refl _) hp, small (by have := Tm.inn_len (.plus x1 x2 : Tm); simp only [List.length_map]; show 1 + _ ≤ _; omega), Dr.of ?_⟩
      have e := Tm.enc_rebuild (t := (.plus x1 x2 : Tm)) (cs := (Tm.inn (.plus x1 x2 : Tm)).map fun u => u.mapN (cLift m l) (Tm.wbl (.plus x1 x2 : Tm) w)) rfl (by rw [List.length_map])
      rw [Tm.mapN_eq (t := (.plus x1 x2 : Tm)) rfl, e, List.map_map] at q
      exact q
  | look x1 x2 x3 =>
    refine ⟨fun c => absurd c (by decide), fun _ => ⟨fun c => absurd c (by decide), fun _ => ?_⟩⟩
    refine comp_map (Tm.inn (.look x1 x2 x3 : Tm)) Tm.enc (fun u => (u.mapN (cLift m l) (Tm.wbl (.look x1 x2 x3 : Tm) w)).enc) rfl (smaller (by have := Tm.inn_len (.look x1 x2 x3 : Tm); omega)) trivial (fun u hu R hR => ?_) (fun p hp => ?_)
    · have h1 := Tm.dp_inn hu
      exact ⟨u, m, l, Tm.wbl (.look x1 x2 x3 : Tm) w, by simp [Tm.wbl, ofStr_eq], by omega, hR⟩
    · refine onL_of up_same ⟨G, Sub.new (Sub.refl _) hp, small (by have := Tm.inn_len (.look x1 x2 x3 : Tm); simp only [List.length_map]; show 1 + _ ≤ _; omega), Dr.of ?_⟩
      have e := Tm.enc_rebuild (t := (.look x1 x2 x3 : Tm)) (cs := (Tm.inn (.look x1 x2 x3 : Tm)).map fun u => u.mapN (cLift m l) (Tm.wbl (.look x1 x2 x3 : Tm) w)) rfl (by rw [List.length_map])
      rw [Tm.mapN_eq (t := (.look x1 x2 x3 : Tm)) rfl, e, List.map_map] at q
      exact q
end
end KB
namespace KB
open PySem L2 L3
section
variable {P : Program} {w : World} {K : PySem.W.Frag} {mg : Str → Option Value} {base : Heap} {f : Addr} {fd : FuncData}
set_option maxHeartbeats 4000000
abbrev st_deeper : Stmt := top 22
theorem sc_deeper : FnScope ["_law_feed_here", "_law_program", "_law_k", "_law_word"] ["_law_feed_here", "_law_program"] (defScope st_deeper) := ⟨rfl, rfl, rfl, by decide +kernel, rfl, by decide +kernel, by decide +kernel⟩
theorem ok_deeper (B : Blt mg) (g_take : Got P w K mg base 1 "_law_take" ["_law_feed_here", "_law_many"] (conc K spTake)) (F : Fun K "_law_deeper" "_law_deeper" st_deeper f fd) : FnOk P w K mg base CX0 2 f fd ["_law_feed_here", "_law_program"] (conc K spDeeper) := by
  refine okD (k := 1) F sc_deeper (fun ds G DQ h => ?_) (fun cdv A outer s H E hr ds G DQ h => ?_)
  · obtain ⟨_, _, rfl, _⟩ := h; rfl
  obtain ⟨a, t, rfl, hF, q⟩ := h
  refine ⟨_, (ab_cons (as_for PassesOwn.never rfl (ai_range1 rfl B.range (aa_cons (ae_op aop_mul (ae_call g_take hr (by omega) rfl (aa_cons (ae_var 0) (aa_cons ae_int aa_nil))) (ae_callTy acall_int rfl B.int PyProof.Rows.boot_int (aa_cons (ae_cmp (aop_eq (hu200 hr)) (ae_call g_take hr (by omega) rfl (aa_cons (ae_var 0) (aa_cons ae_int aa_nil))) ae_int (nomark _)) aa_nil))) aa_nil)) (ag_name (k := 2) sc_deeper.nd rfl (Or.inl rfl)) (ab_cons (as_set (k := 3) sc_deeper.nd rfl (Or.inl rfl) (ae_ixDisp (aa_cons ae_str (aa_cons ae_str (aa_cons ae_str (aa_cons ae_str aa_nil)))) (ae_call g_take hr (by omega) rfl (aa_cons (ae_var 0) (aa_cons ae_int aa_nil))) (fun _ _ => rfl)))
      (ab_cons (as_set (k := 1) sc_deeper.nd rfl (Or.inl rfl) (ae_tup (aa_cons (ae_var 3) (aa_cons (ae_var 1) aa_nil))))
      (ab_one (as_if (at_cmp (aop_eq (hu200 hr)) (ae_var 3) ae_str (nomark _)) (ab_one (as_set (k := 1) sc_deeper.nd rfl (Or.inl rfl) (ae_op aop_add (ae_var 1) (ae_tup (aa_cons (ae_tup (aa_cons ae_str (aa_cons (ae_call g_take hr (by omega) rfl (aa_cons (ae_var 0) (aa_cons ae_int aa_nil))) aa_nil))) aa_nil))))) ab_nil)))))
      (ab_one (as_ret (ae_var 1)))), ?_⟩
  refine ⟨hF, by decide, by decide, fun m G1 u1 m0 m1 => ⟨u1.fd, by decide, by decide, fun c G2 u2 c0 c1 => ?_⟩⟩
  have U2 := u1.trans u2
  refine ⟨.inl ⟨by omega, by omega⟩, onR1_of (by split <;> omega) ?_⟩
  have bd : (m * (if id (c == 0) = true then 1 else 0)).toNat ≤ 18 := by split <;> omega
  refine ⟨fun i ρ G' => ∃ (u : Tm) (o2 o3 : Option D), ρ = [some (.ref a), some u.enc, o2, o3] ∧ Fx a G G' ∧ u.sz ≤ t.sz + 2 * i ∧ u.dp ≤ t.dp + i, ⟨t, _, _, rfl, U2, by omega, by omega⟩, fun _ _ _ _ _ => trivial, ?_, ?_⟩
  · rintro i d ρ G' hgi ⟨u, o2, o3, rfl, U, hsz, hdp⟩
    obtain ⟨hi, rfl⟩ := rangeD_get hgi
    refine ⟨U.fd, by decide, by decide, fun k G3 u3 k0 k1 => at4 (i := k) k0 k1 (fun _ => ?_) (fun _ => ?_) (fun _ => ?_) (fun _ => ?_)⟩
    · exact ⟨fun c => absurd c (by decide), fun _ => Wk.of ⟨.way u, _, _, rfl, U.trans u3, by simp only [Tm.sz]; omega, by simp only [Tm.dp]; omega⟩⟩
    · exact ⟨fun c => absurd c (by decide), fun _ => Wk.of ⟨.way u, _, _, rfl, U.trans u3, by simp only [Tm.sz]; omega, by simp only [Tm.dp]; omega⟩⟩
    · exact ⟨fun c => absurd c (by decide), fun _ => Wk.of ⟨.first u, _, _, rfl, U.trans u3, by simp only [Tm.sz]; omega, by simp only [Tm.dp]; omega⟩⟩
    · refine ⟨fun _ => ⟨u3.fd, by decide, by decide, fun n G4 u4 n0 n1 => ⟨small (by simp), Wk.of ⟨.give u (.name n.toNat), some (.int (0 + (i : Int))), some (.str "give"), ?_, (U.trans u3).trans u4, by simp only [Tm.sz]; omega, by simp only [Tm.dp]; omega⟩⟩⟩, fun c => absurd c (by decide)⟩
      rw [show n = ((n.toNat : Nat) : Int) by omega]; rfl
  · rintro ρ G' ⟨u, o2, o3, rfl, U, hsz, hdp⟩
    rw [rangeD_len] at hsz hdp
    exact Dr.of (q u G' U (by omega) (by omega))
end
end KB
namespace KB
open PySem L2 L3
section
variable {P : Program} {w : World} {K : PySem.W.Frag} {mg : Str → Option Value} {base : Heap} {f : Addr} {fd : FuncData}
set_option maxHeartbeats 4000000
abbrev st_copies : Stmt := top 8
theorem sc_copies : FnScope ["program", "depths", "deeper", "closed", "copies", "ways"] ["program", "depths"] (defScope st_copies) := ⟨rfl, rfl, rfl, by decide +kernel, rfl, by decide +kernel, by decide +kernel⟩
theorem ok_copies {T : Addr} {tp : Pos} (B : Blt mg) (g_opn : Got P w K mg base 3 "open_names" ["program"] (conc K spOpen)) (g_lifted : Got P w K mg base 4 "lifted" ["program", "many", "least"] (conc K (spLift T tp))) (F : Fun K "copies_for" "copies_for" st_copies f fd) : FnOk P w K mg base CX0 5 f fd ["program", "depths"] (conc K (spCopies T tp)) := by
  refine okD (k := 4) F sc_copies (fun ds G DQ h => ?_) (fun cdv A outer s H E hr ds G DQ h => ?_)
  · obtain ⟨_, _, _, rfl, _⟩ := h; rfl
  obtain ⟨u, l, ws, rfl, hl, hw, hz, hn, hT, q⟩ := h
  refine ⟨_, (ab_cons (as_set (k := 2) sc_copies.nd rfl (Or.inl rfl) (ae_sortedDiff rfl B.sorted rfl B.set (ae_var 1) (ae_lst (aa_cons ae_int aa_nil))))
      (ab_cons (as_set (k := 3) sc_copies.nd rfl (Or.inl rfl) (ae_and (ae_cmp aop_gt (ae_callB acall_len rfl B.len PySem.boot_len (aa_cons (ae_var 2) aa_nil)) ae_int (nomark _)) (ae_one (ae_notT (ae_call g_opn hr (by omega) rfl (aa_cons (ae_var 0) aa_nil))))))
      (ab_cons (as_set (k := 4) sc_copies.nd rfl (Or.inl rfl) (ae_disp1 ae_int (ae_var 0)))
      (ab_cons (as_for PassesOwn.never rfl (ai_seq (ae_var 2)) (ag_name (k := 5) sc_copies.nd rfl (Or.inl rfl)) (ab_one (as_dputK (hu200 hr) (ae_var 4) (ae_var 5) (ae_ifExp (at_truth (ae_var 3)) (ae_var 0) (ae_call g_lifted hr (by omega) rfl (aa_cons (ae_var 0) (aa_cons (ae_var 5) (aa_cons ae_int aa_nil))))))))
      (ab_one (as_ret (ae_var 4))))))), ?_⟩
  refine onL_of hl ⟨ws.map (fun (w : Nat) => (w : Int)), by rw [← asInts_map, List.map_map]; rfl, by rw [List.length_map]; exact hw, ?_⟩
  refine fun p0 hp0 => onL_of up_same ⟨0, rfl, fun ms hs l2 hl2 => ?_⟩
  have S0 : Sub G (up (up G p0 (.lst [.int 0])) l2 (.lst (ms.map D.int))) := Sub.trans (Sub.new (Sub.refl _) hp0) (Sub.new (Sub.refl _) hl2)
  have e20 : up (up G p0 (.lst [.int 0])) l2 (.lst (ms.map D.int)) l2 = some (.lst (ms.map D.int)) := up_same
  have hT0 := S0 _ _ hT
  generalize up (up G p0 (.lst [.int 0])) l2 (.lst (ms.map D.int)) = V0 at *
  refine onL_of e20 ⟨fun c => ?_, fun c => ?_⟩
  · refine ⟨u, rfl, hz, hn, fun ms' hs' l3 h3 => onL_of up_same ?_⟩
    have hGV := Sub.trans S0 (Sub.new (o := .lst (ms'.map D.int)) (Sub.refl _) h3)
    have e2 := kp (o := .lst (ms'.map D.int)) h3 e20
    have hTV := kp (o := .lst (ms'.map D.int)) h3 hT0
    have hb : (!(!(ms'.map D.int).isEmpty)) = true → u.opn = [] := fun c => by
      have : ms' = [] := by cases ms' with | nil => rfl | cons _ _ => simp at c
      subst this
      cases ho : u.opn with
      | nil => rfl
      | cons x xs => have := (hs'.2 x).mpr (by rw [ho]; exact List.mem_cons_self ..); cases this
    generalize up V0 l3 (.lst (ms'.map D.int)) = V at *
    intro d hd
    have hdl : l2 ≠ d := by rintro rfl; rw [e2] at hd; cases hd
    refine ⟨up_same, .inl 0, rfl, ?_⟩
    rw [up_up]
    refine onIt_of (by rw [up_ne hdl]; exact e2) ⟨fun i ρ G' => ∃ (kvs : List (Key × D)) (o5 : Option D), ρ = [some u.enc, some (.ref l), some (.ref l2), some (.bl (!(!(ms'.map D.int).isEmpty))), some (.ref d), o5] ∧ G' = up V d (.dK kvs) ∧ (∀ j ∈ (0 : Int) :: ms.take i, valD kvs (.inl j) = some (u.mapN (cLift j.toNat 0) 0).enc) ∧ kvs.length ≤ i + 1, ⟨[(.inl 0, u.enc)], _, rfl, rfl, ?_, Nat.le_refl _⟩, fun i ρ G' _ ⟨kvs, o5, _, h, _⟩ => (show G' l2 = some (.lst (ms.map D.int)) by rw [h, up_ne hdl]; exact e2), ?_, ?_⟩
    · intro j hj
      rw [List.take_zero] at hj
      rw [List.mem_singleton.mp hj]
      show some u.enc = some (u.mapN (cLift 0 0) 0).enc
      rw [mapN_zero]
    · rintro i x ρ G' hx ⟨kvs, o5, rfl, rfl, hk, hkl⟩
      have hx' : (ms.map D.int)[i]? = some x := hx
      rw [List.getElem?_map] at hx'
      cases ej : ms[i]? with
      | none => rw [ej] at hx'; cases hx'
      | some j =>
        rw [ej] at hx'; cases hx'
        have hjm := List.mem_of_getElem? ej
        have hjw := (hs.2 j).mp hjm
        rw [List.mem_filter, List.mem_map] at hjw
        obtain ⟨⟨w, hw1, rfl⟩, hw0⟩ := hjw
        have il : i < ms.length := (List.getElem?_eq_some_iff.mp ej).1
        have lm : ms.length ≤ 64 := by
          have nd : ms.Nodup := hs.1.imp fun h => by omega
          have := nd_len nd fun j hj => (hs.2 j).mp hj
          have := List.length_filter_le (fun j : Int => decide (j ≠ 0)) (ws.map fun (w : Nat) => (w : Int))
          rw [List.length_map] at this
          omega
        have nxt : ∀ y, y = (u.mapN (cLift w 0) 0).enc → ∀ j ∈ (0 : Int) :: ms.take (i + 1), valD (putKD kvs (.inl (w : Int)) y) (.inl j) = some (u.mapN (cLift j.toNat 0) 0).enc := fun y hy j hj => by
          rw [valD_put]
          by_cases c : (Sum.inl j : Key) = .inl (w : Int)
          · rw [if_pos c]
            obtain rfl : j = (w : Int) := Sum.inl.inj c
            rw [hy, Int.toNat_natCast]
          · rw [if_neg c]
            refine hk j ?_
            rcases List.mem_cons.mp hj with h | h
            · exact List.mem_cons.mpr (.inl h)
            · rw [List.take_add_one, ej] at h
              rcases List.mem_append.mp h with h | h
              · exact List.mem_cons.mpr (.inr h)
              · have hj2 : j = (w : Int) := by simpa using h
                exact absurd (by rw [hj2]) c
        have fin : ∀ y, y = (u.mapN (cLift w 0) 0).enc → onD (up V d (.dK kvs)) d fun kvs' => ∃ k, keyOfD (.int (w : Int)) = some k ∧ kvs'.length < sizeLine ∧ Wk (fun ρ G' => ∃ (kvs : List (Key × D)) (o5 : Option D), ρ = [some u.enc, some (.ref l), some (.ref l2), some (.bl (!(!(ms'.map D.int).isEmpty))), some (.ref d), o5] ∧ G' = up V d (.dK kvs) ∧ (∀ j ∈ (0 : Int) :: ms.take (i + 1), valD kvs (.inl j) = some (u.mapN (cLift j.toNat 0) 0).enc) ∧ kvs.length ≤ i + 1 + 1) [some u.enc, some (.ref l), some (.ref l2), some (.bl (!(!(ms'.map D.int).isEmpty))), some (.ref d), some (.int (w : Int))] (up (up V d (.dK kvs)) d (.dK (putKD kvs' k y))) := fun y hy => by
          refine onD_of up_same ⟨.inl (w : Int), rfl, smaller (by omega), Wk.of ⟨_, _, rfl, up_up, nxt y hy, ?_⟩⟩
          have := putKD_len kvs (.inl (w : Int)) y
          omega
        refine ⟨fun c => fin _ ?_, fun c => ⟨u, w, 0, rfl, by rw [up_ne (by rintro rfl; rw [hTV] at hd; cases hd)]; exact hTV, hz, fin _ rfl⟩⟩
        rw [lift_closed w u 0 (opn_nil (hb c))]
    · rintro ρ G' ⟨kvs, o5, rfl, rfl, hk, _⟩
      refine ⟨up G d (.dK kvs), Sub.put hGV, q d kvs (hGV.none hd) fun w hw1 => ?_⟩
      have z := hk (w : Int) ?_
      · rw [Int.toNat_natCast] at z; exact z
      · by_cases c : w = 0
        · rw [c]; exact List.mem_cons.mpr (.inl rfl)
        · refine List.mem_cons.mpr (.inr ?_)
          have e : ms.take (ms.map D.int).length = ms := by rw [List.length_map]; exact List.take_length ..
          show (w : Int) ∈ ms.take (ms.map D.int).length
          rw [e, hs.2, List.mem_filter]
          exact ⟨List.mem_map.mpr ⟨w, hw1, rfl⟩, by simpa using c⟩
  · have hGV := S0
    have e2 := e20
    have hTV := hT0
    have hb : false = true → u.opn = [] := nofun
    generalize V0 = V at *
    intro d hd
    have hdl : l2 ≠ d := by rintro rfl; rw [e2] at hd; cases hd
    refine ⟨up_same, .inl 0, rfl, ?_⟩
    rw [up_up]
    refine onIt_of (by rw [up_ne hdl]; exact e2) ⟨fun i ρ G' => ∃ (kvs : List (Key × D)) (o5 : Option D), ρ = [some u.enc, some (.ref l), some (.ref l2), some (.bl false), some (.ref d), o5] ∧ G' = up V d (.dK kvs) ∧ (∀ j ∈ (0 : Int) :: ms.take i, valD kvs (.inl j) = some (u.mapN (cLift j.toNat 0) 0).enc) ∧ kvs.length ≤ i + 1, ⟨[(.inl 0, u.enc)], _, rfl, rfl, ?_, Nat.le_refl _⟩, fun i ρ G' _ ⟨kvs, o5, _, h, _⟩ => (show G' l2 = some (.lst (ms.map D.int)) by rw [h, up_ne hdl]; exact e2), ?_, ?_⟩
    · intro j hj
      rw [List.take_zero] at hj
      rw [List.mem_singleton.mp hj]
      show some u.enc = some (u.mapN (cLift 0 0) 0).enc
      rw [mapN_zero]
    · rintro i x ρ G' hx ⟨kvs, o5, rfl, rfl, hk, hkl⟩
      have hx' : (ms.map D.int)[i]? = some x := hx
      rw [List.getElem?_map] at hx'
      cases ej : ms[i]? with
      | none => rw [ej] at hx'; cases hx'
      | some j =>
        rw [ej] at hx'; cases hx'
        have hjm := List.mem_of_getElem? ej
        have hjw := (hs.2 j).mp hjm
        rw [List.mem_filter, List.mem_map] at hjw
        obtain ⟨⟨w, hw1, rfl⟩, hw0⟩ := hjw
        have il : i < ms.length := (List.getElem?_eq_some_iff.mp ej).1
        have lm : ms.length ≤ 64 := by
          have nd : ms.Nodup := hs.1.imp fun h => by omega
          have := nd_len nd fun j hj => (hs.2 j).mp hj
          have := List.length_filter_le (fun j : Int => decide (j ≠ 0)) (ws.map fun (w : Nat) => (w : Int))
          rw [List.length_map] at this
          omega
        have nxt : ∀ y, y = (u.mapN (cLift w 0) 0).enc → ∀ j ∈ (0 : Int) :: ms.take (i + 1), valD (putKD kvs (.inl (w : Int)) y) (.inl j) = some (u.mapN (cLift j.toNat 0) 0).enc := fun y hy j hj => by
          rw [valD_put]
          by_cases c : (Sum.inl j : Key) = .inl (w : Int)
          · rw [if_pos c]
            obtain rfl : j = (w : Int) := Sum.inl.inj c
            rw [hy, Int.toNat_natCast]
          · rw [if_neg c]
            refine hk j ?_
            rcases List.mem_cons.mp hj with h | h
            · exact List.mem_cons.mpr (.inl h)
            · rw [List.take_add_one, ej] at h
              rcases List.mem_append.mp h with h | h
              · exact List.mem_cons.mpr (.inr h)
              · have hj2 : j = (w : Int) := by simpa using h
                exact absurd (by rw [hj2]) c
        have fin : ∀ y, y = (u.mapN (cLift w 0) 0).enc → onD (up V d (.dK kvs)) d fun kvs' => ∃ k, keyOfD (.int (w : Int)) = some k ∧ kvs'.length < sizeLine ∧ Wk (fun ρ G' => ∃ (kvs : List (Key × D)) (o5 : Option D), ρ = [some u.enc, some (.ref l), some (.ref l2), some (.bl false), some (.ref d), o5] ∧ G' = up V d (.dK kvs) ∧ (∀ j ∈ (0 : Int) :: ms.take (i + 1), valD kvs (.inl j) = some (u.mapN (cLift j.toNat 0) 0).enc) ∧ kvs.length ≤ i + 1 + 1) [some u.enc, some (.ref l), some (.ref l2), some (.bl false), some (.ref d), some (.int (w : Int))] (up (up V d (.dK kvs)) d (.dK (putKD kvs' k y))) := fun y hy => by
          refine onD_of up_same ⟨.inl (w : Int), rfl, smaller (by omega), Wk.of ⟨_, _, rfl, up_up, nxt y hy, ?_⟩⟩
          have := putKD_len kvs (.inl (w : Int)) y
          omega
        refine ⟨fun c => fin _ ?_, fun c => ⟨u, w, 0, rfl, by rw [up_ne (by rintro rfl; rw [hTV] at hd; cases hd)]; exact hTV, hz, fin _ rfl⟩⟩
        rw [lift_closed w u 0 (opn_nil (hb c))]
    · rintro ρ G' ⟨kvs, o5, rfl, rfl, hk, _⟩
      refine ⟨up G d (.dK kvs), Sub.put hGV, q d kvs (hGV.none hd) fun w hw1 => ?_⟩
      have z := hk (w : Int) ?_
      · rw [Int.toNat_natCast] at z; exact z
      · by_cases c : w = 0
        · rw [c]; exact List.mem_cons.mpr (.inl rfl)
        · refine List.mem_cons.mpr (.inr ?_)
          have e : ms.take (ms.map D.int).length = ms := by rw [List.length_map]; exact List.take_length ..
          show (w : Int) ∈ ms.take (ms.map D.int).length
          rw [e, hs.2, List.mem_filter]
          exact ⟨List.mem_map.mpr ⟨w, hw1, rfl⟩, by simpa using c⟩
end
end KB
namespace KB
open PySem L2 L3
section
variable {P : Program} {w : World} {K : PySem.W.Frag} {mg : Str → Option Value} {base : Heap} {f : Addr} {fd : FuncData}
set_option maxHeartbeats 4000000
abbrev st_putin : Stmt := top 7
theorem sc_putin : FnScope ["program", "other", "copies", "taken"] ["program", "other"] (defScope st_putin) := ⟨rfl, rfl, rfl, by decide +kernel, rfl, by decide +kernel, by decide +kernel⟩
abbrev st_putin_taken : Stmt := (defBody st_putin).getD 1 (.Pass ⟨0, 0, 0, 0⟩)
theorem sc_putin_taken : CloScope ["number", "ways", "copies"] ["number", "ways"] ["copies"] (defScope st_putin_taken) := ⟨rfl, rfl, rfl, by decide +kernel, rfl, rfl, by decide +kernel, by decide +kernel, by decide +kernel, by decide +kernel, by decide +kernel⟩
theorem ok_putin_taken {u : Tm} {d : Addr} {kvs : List (Key × D)} (C : Nat → Nat → Prop) (hC : ∀ n w : Nat, C n w → n = w → valD kvs (.inl w) = some (u.mapN (cLift w 0) 0).enc) : CloD P w K mg base 1 "taken" "put_in.<locals>.taken" st_putin_taken ["copies"] [.ref d] ["number", "ways"] (clD (cPut u) C [(d, .dK kvs)]) := by
  refine okClo (k := 0) sc_putin_taken (fun ds G DQ h => ?_) (fun _ _ _ _ _ us hl => match us, hl with | [_, _], _ => rfl) (fun f cdv cl A outer s H hr ds G DQ h => ?_)
  · obtain ⟨_, _, rfl, _⟩ := h; rfl
  obtain ⟨n, w, rfl, hc, hL, q⟩ := h
  refine ⟨_, (ab_cons (as_if (at_cmp (aop_eq (hu200 hr)) (ae_var 0) (ae_var 1) (nomark _)) (ab_one (as_ret (ae_dgetK (hu200 hr) (ae_var 2) (ae_var 1) (fun _ _ => rfl)))) ab_nil)
      (ab_one (as_ret (ae_tup (aa_cons ae_str (aa_cons (ae_ifExp (at_cmp aop_gt (ae_var 0) (ae_var 1) (nomark _)) (ae_op aop_sub (ae_var 0) ae_int) (ae_var 0)) aa_nil)))))), ?_⟩
  refine ⟨fun c => ?_, fun c => ⟨fun c2 => ⟨Sub.refl _, ?_⟩, fun c2 => ⟨Sub.refl _, ?_⟩⟩⟩
  · have c' : (n : Int) = w := by simpa using c
    obtain rfl : n = w := by omega
    have hv := hC n n hc rfl
    have e : cPut u n n = u.mapN (cLift n 0) 0 := by unfold cPut; rw [if_pos rfl]
    rw [e] at q
    exact onD_of (vry_get.mpr ⟨hL _ (List.mem_cons_self ..), rfl⟩) ⟨.inl (n : Int), _, rfl, hv, Sub.refl _, q⟩
  · have c' : ¬ (n : Int) = w := by simpa using c
    have c2' : (w : Int) < n := by simpa using c2
    have e : (cPut u n w).enc = .tup [.str "name", .int ((n : Int) - 1)] := by
      unfold cPut; rw [if_neg (by omega), if_pos (by omega)]
      show D.tup [.str "name", .int ((n - 1 : Nat) : Int)] = _
      rw [show ((n - 1 : Nat) : Int) = (n : Int) - 1 by omega]
    rw [e] at q
    exact q
  · have c' : ¬ (n : Int) = w := by simpa using c
    have c2' : ¬ (w : Int) < n := by simpa using c2
    have e : (cPut u n w).enc = .tup [.str "name", .int (n : Int)] := by
      unfold cPut; rw [if_neg (by omega), if_neg (by omega)]; rfl
    rw [e] at q
    exact q
theorem ok_putin {c T T_putin : Addr} {tp : Pos} (hC : PySem.W.CodeHd base c T_putin) (hB : BltIn mg base) (B : Blt mg) (g_namesin : Got P w K mg base 2 "names_in" ["program"] (conc K spNamesIn)) (g_copies : Got P w K mg base 5 "copies_for" ["program", "depths"] (conc K (spCopies T tp))) (g_withn : Got P w K mg base 3 "with_names" ["program", "change"] (conc K (spWith P w K mg base 1))) (F : FunC K "put_in" "put_in" st_putin f fd c) : FnOk P w K mg base CX0 6 f fd ["program", "other"] (conc K (spPut T tp T_putin (defPos st_putin_taken))) := by
  refine okDc (k := 5) F sc_putin (fun ds G DQ h => ?_) (fun A outer s H E hr ds G DQ h => ?_)
  · obtain ⟨_, _, rfl, _⟩ := h; rfl
  obtain ⟨t, u, rfl, hz, hzu, hn, hnu, hT, hT2, q⟩ := h
  refine ⟨_, (ab_cons (as_set (k := 2) sc_putin.nd rfl (Or.inr rfl) (ae_call g_copies hr (by omega) rfl (aa_cons (ae_var 1) (aa_cons (ae_compIf rfl (CompOk.of (N' := ["number", "ways"]) (nt := 2) (cap := []) rfl (by kernel_rfl)) (keeps_tup (keepsL_cons mon_name (monL_cons mon_name monL_nil) (keeps_name (k := 0) (by decide)) (keepsL_cons mon_name monL_nil (keeps_name (k := 1) (by decide)) keepsL_nil))) (ai_seq (ae_call g_namesin hr (by omega) rfl (aa_cons (ae_var 0) aa_nil))) (fun _ _ _ _ => (ag_tup (n := 2) rfl (ags_cons (ag_name (k := 0) (show List.Nodup (["number", "ways"] : List Str) by decide +kernel) rfl (Or.inl rfl)) (ags_cons (ag_name (k := 1) (show List.Nodup (["number", "ways"] : List Str) by decide +kernel) rfl (Or.inl rfl)) ags_nil)))) (fun _ _ _ _ => (at_cmp (aop_eq (hu200 hr)) (ae_var 0) (ae_var 1) (nomark _))) (fun _ _ _ _ => (ae_var 1))) aa_nil))))
      (ab_cons (as_def (i := 3) (T := T_putin) (fr := ["copies"]) sc_putin.nd rfl (Or.inl rfl) rfl hC hB (by kernel_rfl) rfl rfl rfl)
      (ab_one (as_ret (ae_callX (name := "taken") (qual := "put_in.<locals>.taken") (st := st_putin_taken) (fr := ["copies"]) (ix := [2]) g_withn hr (by omega) rfl (by decide +kernel) (by kernel_rfl) (aa_cons (ae_var 0) (aa_cons (ae_var 3) aa_nil))))))), ?_⟩
  refine ⟨t, rfl, hz, fun l1 h1 => onIt_of up_same ?_⟩
  refine compIf_map (t.nmsR 0) prD (fun z => if z.1 = z.2 then some (.int (z.2 : Int)) else none) rfl (smaller (by have := t.nmsR_len 0; omega)) up_same ?_ ?_
  · intro z hz' R S hR hS
    refine ⟨fun c => ?_, fun c => ?_⟩
    · have c' : (z.1 : Int) = z.2 := by simpa using c
      exact hR _ (by rw [if_pos (by omega)])
    · have c' : ¬ (z.1 : Int) = z.2 := by simpa using c
      exact hS (by rw [if_neg (by omega)])
  intro l2 h2
  have e : ((t.nmsR 0).filterMap fun z => if z.1 = z.2 then some (D.int (z.2 : Int)) else none) = (wsOf t).map fun (w : Nat) => D.int (w : Int) := by
    unfold wsOf
    rw [List.map_map]
    induction t.nmsR 0 with
    | nil => rfl
    | cons z zs ih => by_cases c : z.1 = z.2 <;> simp_all [List.filterMap_cons, List.filter_cons]
  rw [e]
  have hwl := wsOf_len t
  have S2 : Sub G (up (up G l1 (.lst ((t.nmsR 0).map prD))) l2 (.lst ((wsOf t).map fun (w : Nat) => D.int (w : Int)))) := Sub.trans (Sub.new (Sub.refl _) h1) (Sub.new (Sub.refl _) h2)
  refine ⟨u, l2, wsOf t, rfl, up_same, by omega, hzu, hnu, S2 _ _ hT, fun d kvs hd hcop => ?_⟩
  generalize up (up G l1 (.lst ((t.nmsR 0).map prD))) l2 (.lst ((wsOf t).map fun (w : Nat) => D.int (w : Int))) = V at *
  refine ⟨kp hd (S2 _ _ hT2), fun fc hf => ?_⟩
  obtain ⟨_, hfV, nfd⟩ := up_new (o := .lst []) hf
  refine ⟨fc, [.ref d], up_same, rfl, fun i j h => ?_, t, fc, _, _, _, _, _, _, cPut u, fun n w => (n, w) ∈ t.nmsR 0, [(d, .dK kvs)], rfl, up_same, ok_putin_taken _ (fun n w hn e => ?_), fun y hy => ?_, hz, fun z hz => hz, rfl, ?_⟩
  · match i, j, h with
    | 0, _, rfl => exact ⟨_, rfl, rfl⟩
  · subst e; exact hcop n (wsOf_mem hn)
  · rw [List.mem_singleton.mp hy, up_ne (Ne.symm nfd), up_ne (Ne.symm nfd)]; exact up_same
  · exact ⟨G, Sub.trans S2 (Sub.trans (Sub.new (Sub.refl _) hd) (Sub.new (Sub.refl _) hf)), q⟩
end
end KB
namespace KB
open PySem L2 L3
section
variable {P : Program} {w : World} {K : PySem.W.Frag} {mg : Str → Option Value} {base : Heap} {f : Addr} {fd : FuncData}
set_option maxHeartbeats 4000000
abbrev st_words : Stmt := top 20
theorem sc_words : FnScope ["_law_program", "_law_place", "_law_found", "_law_k"] ["_law_program", "_law_place"] (defScope st_words) := ⟨rfl, rfl, rfl, by decide +kernel, rfl, by decide +kernel, by decide +kernel⟩
theorem no_words : FnOk P w K mg base CX0 1 f fd ["_law_program", "_law_place"] (conc K (spWords 0)) := okNo fun ds G DQ h => by
  obtain ⟨_, _, _, h, _⟩ := h; omega
theorem ok_words {n : Nat} (B : Blt mg) (g_words : Got P w K mg base (n + 1) "_law_words" ["_law_program", "_law_place"] (conc K (spWords n))) (F : Fun K "_law_words" "_law_words" st_words f fd) : FnOk P w K mg base CX0 (n + 2) f fd ["_law_program", "_law_place"] (conc K (spWords (n + 1))) := by
  refine okD (k := n + 1) F sc_words (fun ds G DQ h => ?_) (fun cdv A outer s H E hr ds G DQ h => ?_)
  · obtain ⟨_, _, rfl, _⟩ := h; rfl
  obtain ⟨t, pl, rfl, hd, hz, hp, q⟩ := h
  refine ⟨_, (ab_cons (as_if (at_cmp aop_in (ae_ix aix (ae_var 0) ae_int (fun _ _ => rfl)) (ae_tup (aa_cons ae_str (aa_cons ae_str aa_nil))) (by with_unfolding_all rfl)) (ab_one (as_ret (ae_lst aa_nil))) ab_nil)
      (ab_cons (as_set (k := 2) sc_words.nd rfl (Or.inl rfl) (ae_lst (aa_cons (ae_tup (aa_cons (ae_var 1) (aa_cons (ae_ix aix (ae_var 0) ae_int (fun _ _ => rfl)) aa_nil))) aa_nil)))
      (ab_cons (as_for PassesOwn.never rfl (ai_range2 rfl B.range (aa_cons ae_int (aa_cons (ae_callB acall_len rfl B.len PySem.boot_len (aa_cons (ae_var 0) aa_nil)) aa_nil))) (ag_name (k := 3) sc_words.nd rfl (Or.inl rfl)) (ab_one (as_set (k := 2) sc_words.nd rfl (Or.inl rfl) (ae_op aop_add (ae_var 2) (ae_call g_words hr (by omega) rfl (aa_cons (ae_ix aix (ae_var 0) (ae_var 3) (fun _ _ => rfl)) (aa_cons (ae_op aop_add (ae_var 1) (ae_tup (aa_cons (ae_op aop_sub (ae_var 3) ae_int) aa_nil))) aa_nil)))))))
      (ab_one (as_ret (ae_var 2)))))), ?_⟩
  by_cases hl : t.leaf = true
  · cases t with
    | name k => exact ⟨rfl, rfl, fun _ l hl' => Dr.of (q l hl'), fun c => absurd c (by decide)⟩
    | whole k => exact ⟨rfl, rfl, fun _ l hl' => Dr.of (q l hl'), fun c => absurd c (by decide)⟩
    | _ => cases hl
  · have hlf : t.leaf = false := by simpa using hl
    have hin := t.inn_len
    have hss := Tm.sz_sum hlf
    rw [Tm.wds_node hlf] at q
    rw [Tm.enc_node hlf]
    refine ixT_of (at0 _ _) ⟨rfl, rfl, fun c => absurd c (by rw [word_leaf hlf]; decide), fun _ => ?_⟩
    dsimp only [dNext, dSeq, dAsg, dLst, dCons, dTup, dOp, dC, dVar]
    change ixD (D.tup (D.str t.word :: List.map Tm.enc t.inn)) (D.int 0) G _
    refine ixT_of (at0 _ _) ?_
    intro l0 h0
    refine onR2_of (by decide) (by rw [List.length_cons, List.length_map]; omega) ?_
    refine ⟨fun i ρ G' => ∃ (l : Addr) (o3 : Option D), ρ = [some (.tup (.str t.word :: t.inn.map Tm.enc)), some (plD pl), some (.ref l), o3] ∧ G l = none ∧ G' = up G l (.lst (((pl, t.word) :: wdsL (t.inn.take i) 0 pl).map wdD)), ⟨l0, _, rfl, h0, rfl⟩, fun _ _ _ _ _ => trivial, ?_, ?_⟩
    · rintro i d ρ G' hgi ⟨l, o4, rfl, hln, rfl⟩
      obtain ⟨hi, rfl⟩ := rangeD_get hgi
      have hi' : i < t.inn.length := by rw [List.length_cons, List.length_map] at hi; omega
      have ei : t.inn[i]? = some t.inn[i] := List.getElem?_eq_getElem hi'
      have hm := List.mem_of_getElem? ei
      have h1 := Tm.dp_inn hm
      have h2 := Tm.sz_mem hm
      generalize hu : t.inn[i] = u at ei hm h1 h2
      have e1 : (1 : Int) + (i : Int) = ((i + 1 : Nat) : Int) := by omega
      refine ixT_of (d := u.enc) (by rw [e1]; exact atI_nat (by rw [List.getElem?_cons_succ, List.getElem?_map, ei]; rfl)) ?_
      refine ⟨small (by simp only [List.length_map, List.length_cons, List.length_nil]; omega), ?_⟩
      refine ⟨u, pl ++ [(i : Int)], ?_, by omega, by omega, by rw [List.length_append, List.length_singleton]; omega, fun m hm => ?_⟩
      · have e2 : plD (pl ++ [(i : Int)]) = .tup (pl.map D.int ++ [.int (1 + (i : Int) - 1)]) := by
          unfold plD; rw [List.map_append]; rw [show (1 + (i : Int) - 1) = i by omega]; rfl
        rw [e2]
      · obtain ⟨_, n1, nml⟩ := up_new (o := .lst []) hm
        have ht : t.inn.take (i + 1) = t.inn.take i ++ [u] := by rw [List.take_add_one, ei]; rfl
        have b1 := wdsL_len (t.inn.take i) 0 pl
        have b2 : ((t.inn.take i).map Tm.sz).sum ≤ (t.inn.map Tm.sz).sum := by
          conv => rhs; rw [← List.take_append_drop i t.inn, List.map_append, List.sum_append]
          omega
        have b3 := u.wds_len (pl ++ [(i : Int)])
        refine onM_of (by rw [up_ne (Ne.symm nml)]; exact up_same) (onM_of up_same ⟨small (by simp only [List.length_map, List.length_cons]; omega), fun p hp => ?_⟩)
        obtain ⟨_, n2, npm⟩ := up_new (o := .lst []) hp
        obtain ⟨_, n3, npl⟩ := up_new (o := .lst []) n2
        refine ⟨_, up G p (.lst (((pl, t.word) :: wdsL (t.inn.take (i + 1)) 0 pl).map wdD)), .refl _, ?_, p, _, rfl, n3, rfl⟩
        rw [ht, wdsL_snoc, ← List.cons_append, List.map_append, List.length_take, Nat.min_eq_left (Nat.le_of_lt hi'), Nat.zero_add]
        exact Sub.put (Sub.trans (Sub.new (Sub.refl _) hln) (Sub.new (Sub.refl _) hm))
    · rintro ρ G' ⟨l, o4, rfl, hln, rfl⟩
      have e : (rangeD 1 ((((D.str t.word :: t.inn.map Tm.enc).length : Nat) : Int) - 1).toNat).length = t.inn.length := by rw [rangeD_len, List.length_cons, List.length_map]; omega
      have e' : t.inn.take (rangeD 1 ((((D.str t.word :: t.inn.map Tm.enc).length : Nat) : Int) - 1).toNat).length = t.inn := by rw [e]; exact List.take_length ..
      exact ⟨up G l (.lst (((pl, t.word) :: wdsL t.inn 0 pl).map wdD)), by
        show Sub _ (up G l (.lst (((pl, t.word) :: wdsL (t.inn.take (rangeD 1 ((((D.str t.word :: t.inn.map Tm.enc).length : Nat) : Int) - 1).toNat).length) 0 pl).map wdD)))
        rw [e']; exact Sub.refl _, q l hln⟩
end
end KB
namespace KB
open PySem L2 L3
section
variable {P : Program} {w : World} {K : PySem.W.Frag} {mg : Str → Option Value} {base : Heap} {f : Addr} {fd : FuncData}
set_option maxHeartbeats 4000000
abbrev st_lright : Stmt := top 21
theorem sc_lright : FnScope ["_law_program", "_law_other", "_law_found", "_law_place", "_law_word", "_law_ways", "_law_one", "_law_due"] ["_law_program", "_law_other", "_law_found"] (defScope st_lright) := ⟨rfl, rfl, rfl, by decide +kernel, rfl, by decide +kernel, by decide +kernel⟩
theorem ok_lright (B : Blt mg) (g_words : Got P w K mg base 41 "_law_words" ["_law_program", "_law_place"] (conc K (spWords 40))) (g_spots : Got P w K mg base 41 "_law_spots" ["_law_program", "_law_place", "_law_ways"] (conc K (spSpots 40))) (g_llift : Got P w K mg base 41 "_law_lift" ["_law_program", "_law_many", "_law_least", "_law_ways"] (conc K (spLLift 40))) (g_atp : Got P w K mg base 2 "at_place" ["program", "place"] (conc K spAt)) (F : Fun K "_law_right" "_law_right" st_lright f fd) : FnOk P w K mg base CX0 42 f fd ["_law_program", "_law_other", "_law_found"] (conc K spPutR) := by
  refine okD (k := 41) F sc_lright (fun ds G DQ h => ?_) (fun cdv A outer s H E hr ds G DQ h => ?_)
  · obtain ⟨_, _, rfl, _⟩ := h; rfl
  obtain ⟨t, u, rfl, hz, hd, hdu, q⟩ := h
  refine ⟨_, (ab_cons (as_for PassesOwn.never rfl (ai_seq (ae_call g_words hr (by omega) rfl (aa_cons (ae_var 0) (aa_cons (ae_tup aa_nil) aa_nil)))) (ag_tup (n := 2) rfl (ags_cons (ag_name (k := 3) sc_lright.nd rfl (Or.inl rfl)) (ags_cons (ag_name (k := 4) sc_lright.nd rfl (Or.inl rfl)) ags_nil))) (ab_one (as_if (at_cmp (aop_ne (hu200 hr)) (ae_ix aix (ae_call g_atp hr (by omega) rfl (aa_cons (ae_var 2) (aa_cons (ae_var 3) aa_nil))) ae_int (fun _ _ => rfl)) (ae_var 4) (nomark _)) (ab_one (as_ret ae_bl)) ab_nil)))
      (ab_cons (as_for PassesOwn.never rfl (ai_seq (ae_call g_spots hr (by omega) rfl (aa_cons (ae_var 0) (aa_cons (ae_tup aa_nil) (aa_cons ae_int aa_nil))))) (ag_tup (n := 3) rfl (ags_cons (ag_name (k := 3) sc_lright.nd rfl (Or.inl rfl)) (ags_cons (ag_name (k := 5) sc_lright.nd rfl (Or.inl rfl)) (ags_cons (ag_name (k := 6) sc_lright.nd rfl (Or.inl rfl)) ags_nil)))) (ab_cons (as_set (k := 7) sc_lright.nd rfl (Or.inl rfl) (ae_var 6))
      (ab_cons (as_if (AW.at (aw_and (at_cmp (aop_eq (hu200 hr)) (ae_ix aix (ae_var 6) ae_int (fun _ _ => rfl)) ae_str (nomark _)) (aw_and1 (at_cmp (aop_eq (hu200 hr)) (ae_ix aix (ae_var 6) ae_int (fun _ _ => rfl)) (ae_var 5) (nomark _))))) (ab_one (as_set (k := 7) sc_lright.nd rfl (Or.inl rfl) (ae_call g_llift hr (by omega) rfl (aa_cons (ae_var 1) (aa_cons (ae_var 5) (aa_cons ae_int (aa_cons ae_int aa_nil))))))) (ab_one (as_if (AW.at (aw_and (at_cmp (aop_eq (hu200 hr)) (ae_ix aix (ae_var 6) ae_int (fun _ _ => rfl)) ae_str (nomark _)) (aw_and1 (at_cmp aop_gt (ae_ix aix (ae_var 6) ae_int (fun _ _ => rfl)) (ae_var 5) (nomark _))))) (ab_one (as_set (k := 7) sc_lright.nd rfl (Or.inl rfl) (ae_tup (aa_cons ae_str (aa_cons (ae_op aop_sub (ae_ix aix (ae_var 6) ae_int (fun _ _ => rfl)) ae_int) aa_nil))))) ab_nil)))
      (ab_one (as_if (at_cmp (aop_ne (hu200 hr)) (ae_call g_atp hr (by omega) rfl (aa_cons (ae_var 2) (aa_cons (ae_var 3) aa_nil))) (ae_var 7) (nomark _)) (ab_one (as_ret ae_bl)) ab_nil)))))
      (ab_one (as_ret ae_bl)))), ?_⟩
  have hvd : ∀ (w : Nat) (x : Tm), (x.mapN (cPut u) w).dp ≤ x.dp + 35 := fun w x => mapN_dpB (Bd := 35) (fun n w => Nat.le_trans (cPut_dp n w) hdu) x w
  refine ⟨t, [], rfl, by omega, by omega, by simp; omega, fun l1 h1 => onIt_of up_same ?_⟩
  refine ⟨fun i ρ G' => ∃ (o3 o4 o5 o6 o7 : Option D), ρ = [some t.enc, some u.enc, some (t.mapN (cPut u) 0).enc, o3, o4, o5, o6, o7] ∧ G' = up G l1 (.lst ((t.wds []).map wdD)), ⟨_, _, _, _, _, rfl, rfl⟩, fun i ρ G' _ ⟨_, _, _, _, _, _, h⟩ => by rw [h]; exact up_same, ?_, ?_⟩
  · rintro i d ρ G' hd ⟨o3, o4, o5, o6, o7, rfl, rfl⟩
    have hd' : ((t.wds []).map wdD)[i]? = some d := hd
    rw [List.getElem?_map] at hd'
    cases ez : (t.wds [])[i]? with
    | none => rw [ez] at hd'; cases hd'
    | some z =>
      rw [ez] at hd'; cases hd'
      obtain ⟨r, x, h1, h2, h3⟩ := at_word (cPut u) t 0 [] z (List.mem_of_getElem? ez)
      rw [List.nil_append] at h1
      refine ⟨_, z.1, x, rfl, by rw [h1]; exact h2, ?_⟩
      rw [x.enc_eq, h3]
      refine ixT_of (at0 _ _) (eqR_same rfl (by simp [D.dp]) ⟨nofun, fun _ => Wk.of ⟨_, _, _, _, _, rfl, rfl⟩⟩)
  · rintro ρ G' ⟨o3, o4, o5, o6, o7, rfl, rfl⟩
    refine ⟨t, [], 0, rfl, by omega, by omega, by simp; omega, fun l2 h2 => onIt_of up_same ?_⟩
    refine ⟨fun i ρ G' => ∃ (o3 o4 o5 o6 o7 : Option D), ρ = [some t.enc, some u.enc, some (t.mapN (cPut u) 0).enc, o3, o4, o5, o6, o7] ∧ G' = up (up G l1 (.lst ((t.wds []).map wdD))) l2 (.lst ((t.spots [] 0).map spD)), ⟨_, _, _, _, _, rfl, rfl⟩, fun i ρ G' _ ⟨_, _, _, _, _, _, h⟩ => by rw [h]; exact up_same, ?_, ?_⟩
    · rintro i d ρ G' hd ⟨o3, o4, o5, o6, o7, rfl, rfl⟩
      have hd' : ((t.spots [] 0).map spD)[i]? = some d := hd
      rw [List.getElem?_map] at hd'
      cases ez : (t.spots [] 0)[i]? with
      | none => rw [ez] at hd'; cases hd'
      | some z =>
        rw [ez] at hd'; cases hd'
        have hm := List.mem_of_getElem? ez
        obtain ⟨r, h1, h2⟩ := at_spot (cPut u) t 0 [] z hm
        rw [List.nil_append] at h1
        obtain ⟨zp, zw, zt⟩ := z
        dsimp only at h1 h2
        have hx : zt.dp = 0 := by rcases spots_leaf t _ _ _ hm with ⟨n, e⟩ | ⟨n, e⟩ <;> (dsimp only at e; subst e; rfl)
        have bd := hvd zw zt
        have fin : ∀ (d : D) (o : Option D), d = (zt.mapN (cPut u) zw).enc → eqR (!·) (zt.mapN (cPut u) zw).enc d (up (up G l1 (.lst ((t.wds []).map wdD))) l2 (.lst ((t.spots [] 0).map spD))) (fun x G' => x = .bl false ∧ G' = up (up G l1 (.lst ((t.wds []).map wdD))) l2 (.lst ((t.spots [] 0).map spD))) := fun d o e => by
          rw [e]; exact eqR_same (Tm.enc_data _) (by rw [Tm.enc_dp]; omega) ⟨rfl, rfl⟩
        rcases spots_leaf t _ _ _ hm with ⟨n, e⟩ | ⟨n, e⟩ <;> (dsimp only at e; subst e)
        · refine ⟨fun _ => ⟨fun c => ?_, fun c => ?_⟩, fun c => absurd c (by decide)⟩
          · have c' : (n : Int) = zw := by simpa using c
            obtain rfl : n = zw := by omega
            refine ⟨u, n, 0, 0, rfl, by omega, ?_⟩
            refine ⟨_, zp, _, rfl, by rw [h1]; exact h2, ?_⟩
            have e : Tm.mapN (cPut u) n (.name n) = u.mapN (cLift n 0) 0 := by show cPut u n n = _; unfold cPut; rw [if_pos rfl]
            rw [e] at bd ⊢
            exact eqR_same (Tm.enc_data _) (by rw [Tm.enc_dp]; omega) ⟨nofun, fun _ => Wk.of ⟨_, _, _, _, _, rfl, rfl⟩⟩
          · have c' : ¬ (n : Int) = zw := by simpa using c
            refine ⟨fun _ => ⟨fun c2 => ?_, fun c2 => ?_⟩, fun c => absurd c (by decide)⟩
            · have c2' : (zw : Int) < n := by simpa using c2
              refine ⟨_, zp, _, rfl, by rw [h1]; exact h2, ?_⟩
              have e : (Tm.mapN (cPut u) zw (.name n)).enc = .tup [.str "name", .int ((n : Int) - 1)] := by
                show (cPut u n zw).enc = _
                unfold cPut; rw [if_neg (by omega), if_pos (by omega)]
                show D.tup [.str "name", .int ((n - 1 : Nat) : Int)] = _
                rw [show ((n - 1 : Nat) : Int) = (n : Int) - 1 by omega]
              rw [e]
              exact eqR_same rfl (by simp [D.dp, dpsL]) ⟨nofun, fun _ => Wk.of ⟨_, _, _, _, _, rfl, rfl⟩⟩
            · have c2' : ¬ (zw : Int) < n := by simpa using c2
              refine ⟨_, zp, _, rfl, by rw [h1]; exact h2, ?_⟩
              have e : (Tm.mapN (cPut u) zw (.name n)) = .name n := by
                show (cPut u n zw) = _
                unfold cPut; rw [if_neg (by omega), if_neg (by omega)]
              rw [e]
              exact eqR_same rfl (by simp [D.dp, dpsL, Tm.enc]) ⟨nofun, fun _ => Wk.of ⟨_, _, _, _, _, rfl, rfl⟩⟩
        · refine ⟨fun c => absurd c (by decide), fun _ => ⟨nofun, fun _ => ⟨fun c => absurd c (by decide), fun _ => ⟨nofun, fun _ => ?_⟩⟩⟩⟩
          refine ⟨_, zp, _, rfl, by rw [h1]; exact h2, ?_⟩
          refine eqR_same (x := .tup [.str "whole", .int n]) rfl (by simp [D.dp, dpsL]) ⟨nofun, fun _ => Wk.of ⟨_, _, _, _, _, rfl, rfl⟩⟩
    · rintro ρ G' ⟨o3, o4, o5, o6, o7, rfl, rfl⟩
      exact ⟨G, Sub.trans (Sub.new (Sub.refl _) h1) (Sub.new (Sub.refl _) h2), q⟩
end
end KB
namespace KB
open PySem L2 L3
section
variable {P : Program} {w : World} {K : PySem.W.Frag} {mg : Str → Option Value} {base : Heap} {f : Addr} {fd : FuncData}
set_option maxHeartbeats 4000000
abbrev st_law : Stmt := top 23
theorem sc_law : FnScope ["_law_script", "_law_k", "_law_feed_here", "_law_program", "_law_other"] ["_law_script"] (defScope st_law) := ⟨rfl, rfl, rfl, by decide +kernel, rfl, by decide +kernel, by decide +kernel⟩
theorem ok_law {T T2 : Addr} {tp tp2 : Pos} (B : Blt mg) (g_feed : Got P w K mg base 1 "_law_feed" ["_law_script", "_law_k"] (conc K spFeed)) (g_take : Got P w K mg base 1 "_law_take" ["_law_feed_here", "_law_many"] (conc K spTake)) (g_wild : Got P w K mg base 22 "_law_wild" ["_law_feed_here", "_law_many", "_law_room", "_law_deep"] (conc K (spWild 20))) (g_deeper : Got P w K mg base 2 "_law_deeper" ["_law_feed_here", "_law_program"] (conc K spDeeper))
    (g_lright : Got P w K mg base 42 "_law_right" ["_law_program", "_law_other", "_law_found"] (conc K spPutR)) (g_putin : Got P w K mg base 6 "put_in" ["program", "other"] (conc K (spPut T tp T2 tp2))) (g_lifted : Got P w K mg base 4 "lifted" ["program", "many", "least"] (conc K (spLift T tp)))
    (F : Fun K "law" "law" st_law f fd) : FnOk P w K mg base CX0 43 f fd ["_law_script"] (conc K (spLawTs [(T, tp, "lifted.<locals>.moved"), (T2, tp2, "put_in.<locals>.taken")])) := by
  refine okD (k := 42) F sc_law (fun ds G DQ h => ?_) (fun cdv A outer s H E hr ds G DQ h => ?_)
  · obtain ⟨_, rfl, _⟩ := h; rfl
  obtain ⟨ns, rfl, hl, hTs, q⟩ := h
  have hT : G T = some (.tab tp "lifted.<locals>.moved") := hTs _ (List.mem_cons_self ..)
  have hT2 : G T2 = some (.tab tp2 "put_in.<locals>.taken") := hTs _ (List.mem_cons_of_mem _ (List.mem_cons_self ..))
  refine ⟨_, (ab_cons (as_for PassesOwn.never rfl (ai_range1 rfl B.range (aa_cons (ae_callB (acall_max rfl) rfl B.max PyProof.Rows.boot_max (aa_cons ae_int (aa_cons (ae_callB acall_len rfl B.len PySem.boot_len (aa_cons (ae_slice asl (ae_var 0) ao_none (ao_some ae_int)) aa_nil)) aa_nil))) aa_nil)) (ag_name (k := 1) sc_law.nd rfl (Or.inl rfl)) (ab_cons (as_set (k := 2) sc_law.nd rfl (Or.inl rfl) (ae_call g_feed hr (by omega) rfl (aa_cons (ae_var 0) (aa_cons (ae_var 1) aa_nil))))
      (ab_cons (as_set (k := 3) sc_law.nd rfl (Or.inl rfl) (ae_call g_deeper hr (by omega) rfl (aa_cons (ae_var 2) (aa_cons (ae_call g_wild hr (by omega) rfl (aa_cons (ae_var 2) (aa_cons (ae_op aop_add ae_int (ae_call g_take hr (by omega) rfl (aa_cons (ae_var 2) (aa_cons ae_int aa_nil)))) (aa_cons (ae_op aop_add ae_int (ae_call g_take hr (by omega) rfl (aa_cons (ae_var 2) (aa_cons ae_int aa_nil)))) (aa_cons ae_int aa_nil))))) aa_nil))))
      (ab_cons (as_set (k := 4) sc_law.nd rfl (Or.inl rfl) (ae_call g_wild hr (by omega) rfl (aa_cons (ae_var 2) (aa_cons (ae_call g_take hr (by omega) rfl (aa_cons (ae_var 2) (aa_cons ae_int aa_nil))) (aa_cons (ae_op aop_add ae_int (ae_call g_take hr (by omega) rfl (aa_cons (ae_var 2) (aa_cons ae_int aa_nil)))) (aa_cons ae_int aa_nil))))))
      (ab_cons (as_if (at_not (at_truth (ae_call g_lright hr (by omega) rfl (aa_cons (ae_var 3) (aa_cons (ae_var 4) (aa_cons (ae_call g_putin hr (by omega) rfl (aa_cons (ae_var 3) (aa_cons (ae_var 4) aa_nil))) aa_nil)))))) (ab_one (as_ret ae_bl)) ab_nil)
      (ab_cons (as_if (AW.at (aw_or (at_cmp (aop_ne (hu200 hr)) (ae_call g_putin hr (by omega) rfl (aa_cons (ae_call g_lifted hr (by omega) rfl (aa_cons (ae_var 3) (aa_cons ae_int (aa_cons ae_int aa_nil)))) (aa_cons (ae_var 4) aa_nil))) (ae_var 3) (nomark _)) (aw_or1 (at_cmp (aop_ne (hu200 hr)) (ae_call g_putin hr (by omega) rfl (aa_cons (ae_tup (aa_cons ae_str (aa_cons ae_int aa_nil))) (aa_cons (ae_var 4) aa_nil))) (ae_var 4) (nomark _))))) (ab_one (as_ret ae_bl)) ab_nil)
      (ab_one (as_if (at_not (at_truth (ae_call g_lright hr (by omega) rfl (aa_cons (ae_var 3) (aa_cons (ae_var 3) (aa_cons (ae_call g_putin hr (by omega) rfl (aa_cons (ae_var 3) (aa_cons (ae_var 3) aa_nil))) aa_nil)))))) (ab_one (as_ret ae_bl)) ab_nil))))))))
      (ab_one (as_ret ae_bl))), ?_⟩
  intro p0 hp0
  have hc8 : (cut (ns.map D.int) none (some 8)).length ≤ 8 := by
    unfold cut
    rw [List.length_take]
    refine Nat.le_trans (Nat.min_le_left _ _) ?_
    rw [show (some (8 : Int)) = some ((8 : Nat) : Int) from rfl, HT.sIx_nat]
    omega
  refine onL_of up_same (onR1_of ?_ ?_)
  · dsimp only; split <;> omega
  dsimp only
  refine ⟨fun i ρ G' => ∃ (o1 o2 o3 o4 : Option D), ρ = [some (.frl (ns.map D.int)), o1, o2, o3, o4] ∧ G' T = some (.tab tp "lifted.<locals>.moved") ∧ G' T2 = some (.tab tp2 "put_in.<locals>.taken"), ⟨_, _, _, _, rfl, kp hp0 hT, kp hp0 hT2⟩, fun _ _ _ _ _ => trivial, ?_, ?_⟩
  · rintro i d ρ G0 hgi ⟨o1, o2, o3, o4, rfl, hT0, hT20⟩
    obtain ⟨hi, rfl⟩ := rangeD_get hgi
    have hi8 : i < 1000 := by
      refine Nat.lt_of_lt_of_le hi ?_
      rw [apply_ite Int.toNat]
      split <;> omega
    refine ⟨ns, rfl, hl, by omega, by omega, fun a xa ya ha => ?_⟩
    have hTa : T ≠ a := by rintro rfl; rw [ha] at hT0; cases hT0
    have hTa2 : T2 ≠ a := by rintro rfl; rw [ha] at hT20; cases hT20
    refine ⟨.up, by decide, by decide, fun m1 G1 u1 m10 m11 => ⟨u1.fd, by decide, by decide, fun r1 G2 u2 r10 r11 => ⟨(u1.trans u2).fd, by omega, by omega, by omega, by decide, by decide, fun t0 G3 u3 z => ⟨a, t0, rfl, u3.fd, fun t G4 u4 hsz hdp => ?_⟩⟩⟩⟩
    have U4 := ((u1.trans u2).trans u3).trans u4
    refine ⟨u4.fd, by decide, by decide, fun m2 G5 u5 m20 m21 => ⟨u5.fd, by decide, by decide, fun r2 G6 u6 r20 r21 => ⟨u6.fd, by omega, by omega, by omega, by decide, by decide, fun u G7 u7 zu => ?_⟩⟩⟩
    have U7 := ((U4.trans u5).trans u6).trans u7
    have hT7 := U7.kp hTa (kp (o := fed xa ya) ha hT0)
    have hT27 := U7.kp hTa2 (kp (o := fed xa ya) ha hT20)
    have hts : t.sz ≤ 91 := by have := z.sz; omega
    have htd : t.dp ≤ 28 := by have := z.dp; omega
    have hus : u.sz ≤ 40 := by have := zu.sz; omega
    have hud : u.dp ≤ 5 := by have := zu.dp; omega
    have hnl : (t.nmsR 0).length < 64 := by have := t.nmsR_few 0; omega
    have hnu : (u.nmsR 0).length < 64 := by have := u.nmsR_few 0; omega
    refine ⟨t, u, rfl, by omega, by omega, hnl, hnu, hT7, hT27, t, u, rfl, by omega, by omega, by omega, nofun, fun _ => ?_⟩
    refine ⟨t, 1, 0, rfl, hT7, by omega, _, u, rfl, by rw [mapN_sz]; omega, by omega, by rw [mapN_nms, List.length_map]; exact hnl, hnu, hT7, hT27, ?_⟩
    rw [put_lift]
    refine eqR_same (Tm.enc_data _) (by rw [Tm.enc_dp]; omega) ⟨nofun, fun _ => ?_⟩
    refine ⟨.name 0, u, rfl, by decide, by omega, by decide, hnu, hT7, hT27, ?_⟩
    rw [show Tm.mapN (cPut u) 0 (.name 0) = u from (show cPut u 0 0 = u by unfold cPut; rw [if_pos rfl, mapN_zero])]
    refine eqR_same (Tm.enc_data _) (by rw [Tm.enc_dp]; omega) ⟨nofun, fun _ => ?_⟩
    refine ⟨t, t, rfl, by omega, by omega, hnl, hnl, hT7, hT27, t, t, rfl, by omega, by omega, by omega, nofun, fun _ => Wk.of ⟨_, _, _, _, rfl, hT7, hT27⟩⟩
  · rintro ρ G' ⟨o1, o2, o3, o4, rfl, _, _⟩
    exact Dr.of (q _)
end
end KB
namespace KB
open PySem L2 L3
abbrev tabs9 : List (Addr × Addr) := [(44, 40), (49, 47)]
abbrev tl9 : List (Addr × Pos × Str) := [(40, defPos st_lifted_moved, "lifted.<locals>.moved"), (47, defPos st_putin_taken, "put_in.<locals>.taken")]
theorem all_mk {l : PySem.W.OpenLaw} {w : World} {K : PySem.W.Frag} {h : Heap} {mg : Str → Option Value} {fa f0 f1 f2 f3 f4 f5 f6 f7 f8 f9 f10 f11 f12 f13 f14 f15 f16 f17 f18  : Addr} (X : K.In h) (G : h.Ns mainGlobals mg) (hfa : mg "law" = some (.ref fa))
    {od0 an0 od1 an1 od2 an2 od3 an3 od4 an4 od5 an5 od6 an6 od7 an7 od8 an8 od9 an9 od10 an10 od11 an11 od12 an12 od13 an13 od14 an14 od15 an15 od16 an16 od17 an17 od18 an18 : Option Addr} {sl0 sl1 sl2 sl3 sl4 sl5 sl6 sl7 sl8 sl9 sl10 sl11 sl12 sl13 sl14 sl15 sl16 sl17 sl18 : Array (Option Value)} {oc0 kV0 dc0 pm0 ct0 cd0 oc1 kV1 dc1 pm1 ct1 cd1 oc2 kV2 dc2 pm2 ct2 cd2 oc3 kV3 dc3 pm3 ct3 cd3 oc4 kV4 dc4 pm4 ct4 oc5 kV5 dc5 pm5 ct5 oc6 kV6 dc6 pm6 ct6 cd6 oc7 kV7 dc7 pm7 ct7 cd7 oc8 kV8 dc8 pm8 ct8 cd8 oc9 kV9 dc9 pm9 ct9 cd9 oc10 kV10 dc10 pm10 ct10 cd10 oc11 kV11 dc11 pm11 ct11 cd11 oc12 kV12 dc12 pm12 ct12 cd12 oc13 kV13 dc13 pm13 ct13 cd13 oc14 kV14 dc14 pm14 ct14 cd14 oc15 kV15 dc15 pm15 ct15 cd15 oc16 kV16 dc16 pm16 ct16 cd16 oc17 kV17 dc17 pm17 ct17 cd17 oc18 kV18 dc18 pm18 ct18 cd18 : Value}
    (a0 : PySem.W.nsIn K mainGlobals "inner" = some (some (.ref f0)))
    (l0 : K.lookup f0 = some ⟨oc0, od0, .func (PySem.W.fnOf "inner" "inner" (defArgs st_inner) (defBody st_inner) (defScope st_inner) .none kV0 dc0 pm0 an0 cd0 ct0), sl0⟩)
    (c0 : PySem.W.codeIn K cd0 "inner" = true)
    (k0 : PySem.W.keepIn K (.ref f0) = true)
    (a1 : PySem.W.nsIn K mainGlobals "open_names" = some (some (.ref f1)))
    (l1 : K.lookup f1 = some ⟨oc1, od1, .func (PySem.W.fnOf "open_names" "open_names" (defArgs st_opn) (defBody st_opn) (defScope st_opn) .none kV1 dc1 pm1 an1 cd1 ct1), sl1⟩)
    (c1 : PySem.W.codeIn K cd1 "open_names" = true)
    (k1 : PySem.W.keepIn K (.ref f1) = true)
    (a2 : PySem.W.nsIn K mainGlobals "names_in" = some (some (.ref f2)))
    (l2 : K.lookup f2 = some ⟨oc2, od2, .func (PySem.W.fnOf "names_in" "names_in" (defArgs st_namesin) (defBody st_namesin) (defScope st_namesin) .none kV2 dc2 pm2 an2 cd2 ct2), sl2⟩)
    (c2 : PySem.W.codeIn K cd2 "names_in" = true)
    (k2 : PySem.W.keepIn K (.ref f2) = true)
    (a3 : PySem.W.nsIn K mainGlobals "ways_below" = some (some (.ref f3)))
    (l3 : K.lookup f3 = some ⟨oc3, od3, .func (PySem.W.fnOf "ways_below" "ways_below" (defArgs st_wbelow) (defBody st_wbelow) (defScope st_wbelow) .none kV3 dc3 pm3 an3 cd3 ct3), sl3⟩)
    (c3 : PySem.W.codeIn K cd3 "ways_below" = true)
    (k3 : PySem.W.keepIn K (.ref f3) = true)
    (a4 : PySem.W.nsIn K mainGlobals "lifted" = some (some (.ref f4)))
    (l4 : K.lookup f4 = some ⟨oc4, od4, .func (PySem.W.fnOf "lifted" "lifted" (defArgs st_lifted) (defBody st_lifted) (defScope st_lifted) .none kV4 dc4 pm4 an4 (.ref 44) ct4), sl4⟩)
    (c4 : PySem.W.codeIn K (.ref 44) "lifted" = true)
    (k4 : PySem.W.keepIn K (.ref f4) = true)
    (a5 : PySem.W.nsIn K mainGlobals "put_in" = some (some (.ref f5)))
    (l5 : K.lookup f5 = some ⟨oc5, od5, .func (PySem.W.fnOf "put_in" "put_in" (defArgs st_putin) (defBody st_putin) (defScope st_putin) .none kV5 dc5 pm5 an5 (.ref 49) ct5), sl5⟩)
    (c5 : PySem.W.codeIn K (.ref 49) "put_in" = true)
    (k5 : PySem.W.keepIn K (.ref f5) = true)
    (a6 : PySem.W.nsIn K mainGlobals "copies_for" = some (some (.ref f6)))
    (l6 : K.lookup f6 = some ⟨oc6, od6, .func (PySem.W.fnOf "copies_for" "copies_for" (defArgs st_copies) (defBody st_copies) (defScope st_copies) .none kV6 dc6 pm6 an6 cd6 ct6), sl6⟩)
    (c6 : PySem.W.codeIn K cd6 "copies_for" = true)
    (k6 : PySem.W.keepIn K (.ref f6) = true)
    (a7 : PySem.W.nsIn K mainGlobals "with_names" = some (some (.ref f7)))
    (l7 : K.lookup f7 = some ⟨oc7, od7, .func (PySem.W.fnOf "with_names" "with_names" (defArgs st_withn) (defBody st_withn) (defScope st_withn) .none kV7 dc7 pm7 an7 cd7 ct7), sl7⟩)
    (c7 : PySem.W.codeIn K cd7 "with_names" = true)
    (k7 : PySem.W.keepIn K (.ref f7) = true)
    (a8 : PySem.W.nsIn K mainGlobals "at_place" = some (some (.ref f8)))
    (l8 : K.lookup f8 = some ⟨oc8, od8, .func (PySem.W.fnOf "at_place" "at_place" (defArgs st_atp) (defBody st_atp) (defScope st_atp) .none kV8 dc8 pm8 an8 cd8 ct8), sl8⟩)
    (c8 : PySem.W.codeIn K cd8 "at_place" = true)
    (k8 : PySem.W.keepIn K (.ref f8) = true)
    (a9 : PySem.W.nsIn K mainGlobals "_law_feed" = some (some (.ref f9)))
    (l9 : K.lookup f9 = some ⟨oc9, od9, .func (PySem.W.fnOf "_law_feed" "_law_feed" (defArgs st_feed) (defBody st_feed) (defScope st_feed) .none kV9 dc9 pm9 an9 cd9 ct9), sl9⟩)
    (c9 : PySem.W.codeIn K cd9 "_law_feed" = true)
    (k9 : PySem.W.keepIn K (.ref f9) = true)
    (a10 : PySem.W.nsIn K mainGlobals "_law_take" = some (some (.ref f10)))
    (l10 : K.lookup f10 = some ⟨oc10, od10, .func (PySem.W.fnOf "_law_take" "_law_take" (defArgs st_take) (defBody st_take) (defScope st_take) .none kV10 dc10 pm10 an10 cd10 ct10), sl10⟩)
    (c10 : PySem.W.codeIn K cd10 "_law_take" = true)
    (k10 : PySem.W.keepIn K (.ref f10) = true)
    (a11 : PySem.W.nsIn K mainGlobals "_law_whole" = some (some (.ref f11)))
    (l11 : K.lookup f11 = some ⟨oc11, od11, .func (PySem.W.fnOf "_law_whole" "_law_whole" (defArgs st_whole) (defBody st_whole) (defScope st_whole) .none kV11 dc11 pm11 an11 cd11 ct11), sl11⟩)
    (c11 : PySem.W.codeIn K cd11 "_law_whole" = true)
    (k11 : PySem.W.keepIn K (.ref f11) = true)
    (a12 : PySem.W.nsIn K mainGlobals "_law_wild" = some (some (.ref f12)))
    (l12 : K.lookup f12 = some ⟨oc12, od12, .func (PySem.W.fnOf "_law_wild" "_law_wild" (defArgs st_wild) (defBody st_wild) (defScope st_wild) .none kV12 dc12 pm12 an12 cd12 ct12), sl12⟩)
    (c12 : PySem.W.codeIn K cd12 "_law_wild" = true)
    (k12 : PySem.W.keepIn K (.ref f12) = true)
    (a13 : PySem.W.nsIn K mainGlobals "_law_spots" = some (some (.ref f13)))
    (l13 : K.lookup f13 = some ⟨oc13, od13, .func (PySem.W.fnOf "_law_spots" "_law_spots" (defArgs st_spots) (defBody st_spots) (defScope st_spots) .none kV13 dc13 pm13 an13 cd13 ct13), sl13⟩)
    (c13 : PySem.W.codeIn K cd13 "_law_spots" = true)
    (k13 : PySem.W.keepIn K (.ref f13) = true)
    (a14 : PySem.W.nsIn K mainGlobals "_law_lift" = some (some (.ref f14)))
    (l14 : K.lookup f14 = some ⟨oc14, od14, .func (PySem.W.fnOf "_law_lift" "_law_lift" (defArgs st_llift) (defBody st_llift) (defScope st_llift) .none kV14 dc14 pm14 an14 cd14 ct14), sl14⟩)
    (c14 : PySem.W.codeIn K cd14 "_law_lift" = true)
    (k14 : PySem.W.keepIn K (.ref f14) = true)
    (a15 : PySem.W.nsIn K mainGlobals "_law_words" = some (some (.ref f15)))
    (l15 : K.lookup f15 = some ⟨oc15, od15, .func (PySem.W.fnOf "_law_words" "_law_words" (defArgs st_words) (defBody st_words) (defScope st_words) .none kV15 dc15 pm15 an15 cd15 ct15), sl15⟩)
    (c15 : PySem.W.codeIn K cd15 "_law_words" = true)
    (k15 : PySem.W.keepIn K (.ref f15) = true)
    (a16 : PySem.W.nsIn K mainGlobals "_law_right" = some (some (.ref f16)))
    (l16 : K.lookup f16 = some ⟨oc16, od16, .func (PySem.W.fnOf "_law_right" "_law_right" (defArgs st_lright) (defBody st_lright) (defScope st_lright) .none kV16 dc16 pm16 an16 cd16 ct16), sl16⟩)
    (c16 : PySem.W.codeIn K cd16 "_law_right" = true)
    (k16 : PySem.W.keepIn K (.ref f16) = true)
    (a17 : PySem.W.nsIn K mainGlobals "_law_deeper" = some (some (.ref f17)))
    (l17 : K.lookup f17 = some ⟨oc17, od17, .func (PySem.W.fnOf "_law_deeper" "_law_deeper" (defArgs st_deeper) (defBody st_deeper) (defScope st_deeper) .none kV17 dc17 pm17 an17 cd17 ct17), sl17⟩)
    (c17 : PySem.W.codeIn K cd17 "_law_deeper" = true)
    (k17 : PySem.W.keepIn K (.ref f17) = true)
    (a18 : PySem.W.nsIn K mainGlobals "law" = some (some (.ref f18)))
    (l18 : K.lookup f18 = some ⟨oc18, od18, .func (PySem.W.fnOf "law" "law" (defArgs st_law) (defBody st_law) (defScope st_law) .none kV18 dc18 pm18 an18 cd18 ct18), sl18⟩)
    (c18 : PySem.W.codeIn K cd18 "law" = true)
    (k18 : PySem.W.keepIn K (.ref f18) = true)
    (z0 : PySem.W.nsIn K mainGlobals "len" = some none)
    (z1 : PySem.W.nsIn K mainGlobals "isinstance" = some none)
    (z2 : PySem.W.nsIn K mainGlobals "range" = some none)
    (z3 : PySem.W.nsIn K mainGlobals "int" = some none)
    (z4 : PySem.W.nsIn K mainGlobals "bool" = some none)
    (z5 : PySem.W.nsIn K mainGlobals "str" = some none)
    (z6 : PySem.W.nsIn K mainGlobals "tuple" = some none)
    (z7 : PySem.W.nsIn K mainGlobals "list" = some none)
    (z8 : PySem.W.nsIn K mainGlobals "zip" = some none)
    (z9 : PySem.W.nsIn K mainGlobals "sorted" = some none)
    (z10 : PySem.W.nsIn K mainGlobals "set" = some none)
    (z11 : PySem.W.nsIn K mainGlobals "max" = some none)
    : ∃ fd : FuncData, (∀ (s : Shared) (v : Value), BindsTo s fd ⟨[v], []⟩ [("_law_script", v)]) ∧ ∀ base : Heap, K.In base → base.Ns mainGlobals mg → (∀ q ∈ tabs9, PySem.W.CodeHd base q.1 q.2) → BltIn mg base → FnOk l.prog w K mg base CX0 43 fa fd ["_law_script"] ((fun K => conc K (spLawTs tl9)) K) := by
  have e := hfa.symm.trans (PySem.W.mg_of X G a18)
  cases e
  have F_inner := fun_mk (st := st_inner) l0 c0 k0
  have F_opn := fun_mk (st := st_opn) l1 c1 k1
  have F_namesin := fun_mk (st := st_namesin) l2 c2 k2
  have F_wbelow := fun_mk (st := st_wbelow) l3 c3 k3
  have F_lifted : FunC K "lifted" "lifted" st_lifted f4 _ 44 := ⟨⟨_, _, _, _, _, _, _, _, rfl, l4, c4⟩⟩
  have F_putin : FunC K "put_in" "put_in" st_putin f5 _ 49 := ⟨⟨_, _, _, _, _, _, _, _, rfl, l5, c5⟩⟩
  have F_copies := fun_mk (st := st_copies) l6 c6 k6
  have F_withn := fun_mk (st := st_withn) l7 c7 k7
  have F_atp := fun_mk (st := st_atp) l8 c8 k8
  have F_feed := fun_mk (st := st_feed) l9 c9 k9
  have F_take := fun_mk (st := st_take) l10 c10 k10
  have F_whole := fun_mk (st := st_whole) l11 c11 k11
  have F_wild := fun_mk (st := st_wild) l12 c12 k12
  have F_spots := fun_mk (st := st_spots) l13 c13 k13
  have F_llift := fun_mk (st := st_llift) l14 c14 k14
  have F_words := fun_mk (st := st_words) l15 c15 k15
  have F_lright := fun_mk (st := st_lright) l16 c16 k16
  have F_deeper := fun_mk (st := st_deeper) l17 c17 k17
  have F_law := fun_mk (st := st_law) l18 c18 k18
  have b_inner := (fun_mk (st := st_inner) l0 c0 k0).binds (ps := sc_inner_ps) fun _ _ _ _ _ _ us hl => match us, hl with | [_], _ => rfl
  have m_inner := PySem.W.mg_of X G a0
  have kp_inner := k0
  have b_opn := (fun_mk (st := st_opn) l1 c1 k1).binds (ps := sc_opn_ps) fun _ _ _ _ _ _ us hl => match us, hl with | [_], _ => rfl
  have m_opn := PySem.W.mg_of X G a1
  have kp_opn := k1
  have b_namesin := (fun_mk (st := st_namesin) l2 c2 k2).binds (ps := sc_namesin_ps) fun _ _ _ _ _ _ us hl => match us, hl with | [_], _ => rfl
  have m_namesin := PySem.W.mg_of X G a2
  have kp_namesin := k2
  have b_wbelow := (fun_mk (st := st_wbelow) l3 c3 k3).binds (ps := sc_wbelow_ps) fun _ _ _ _ _ _ us hl => match us, hl with | [_, _], _ => rfl
  have m_wbelow := PySem.W.mg_of X G a3
  have kp_wbelow := k3
  have b_lifted := (fun_mk (st := st_lifted) l4 c4 k4).binds (ps := sc_lifted_ps) fun _ _ _ _ _ _ us hl => match us, hl with | [_, _, _], _ => rfl
  have m_lifted := PySem.W.mg_of X G a4
  have kp_lifted := k4
  have b_putin := (fun_mk (st := st_putin) l5 c5 k5).binds (ps := sc_putin_ps) fun _ _ _ _ _ _ us hl => match us, hl with | [_, _], _ => rfl
  have m_putin := PySem.W.mg_of X G a5
  have kp_putin := k5
  have b_copies := (fun_mk (st := st_copies) l6 c6 k6).binds (ps := sc_copies_ps) fun _ _ _ _ _ _ us hl => match us, hl with | [_, _], _ => rfl
  have m_copies := PySem.W.mg_of X G a6
  have kp_copies := k6
  have b_withn := (fun_mk (st := st_withn) l7 c7 k7).binds (ps := sc_withn_ps) fun _ _ _ _ _ _ us hl => match us, hl with | [_, _], _ => rfl
  have m_withn := PySem.W.mg_of X G a7
  have kp_withn := k7
  have b_atp := (fun_mk (st := st_atp) l8 c8 k8).binds (ps := sc_atp_ps) fun _ _ _ _ _ _ us hl => match us, hl with | [_, _], _ => rfl
  have m_atp := PySem.W.mg_of X G a8
  have kp_atp := k8
  have b_feed := (fun_mk (st := st_feed) l9 c9 k9).binds (ps := sc_feed_ps) fun _ _ _ _ _ _ us hl => match us, hl with | [_, _], _ => rfl
  have m_feed := PySem.W.mg_of X G a9
  have kp_feed := k9
  have b_take := (fun_mk (st := st_take) l10 c10 k10).binds (ps := sc_take_ps) fun _ _ _ _ _ _ us hl => match us, hl with | [_, _], _ => rfl
  have m_take := PySem.W.mg_of X G a10
  have kp_take := k10
  have b_whole := (fun_mk (st := st_whole) l11 c11 k11).binds (ps := sc_whole_ps) fun _ _ _ _ _ _ us hl => match us, hl with | [_], _ => rfl
  have m_whole := PySem.W.mg_of X G a11
  have kp_whole := k11
  have b_wild := (fun_mk (st := st_wild) l12 c12 k12).binds (ps := sc_wild_ps) fun _ _ _ _ _ _ us hl => match us, hl with | [_, _, _, _], _ => rfl
  have m_wild := PySem.W.mg_of X G a12
  have kp_wild := k12
  have b_spots := (fun_mk (st := st_spots) l13 c13 k13).binds (ps := sc_spots_ps) fun _ _ _ _ _ _ us hl => match us, hl with | [_, _, _], _ => rfl
  have m_spots := PySem.W.mg_of X G a13
  have kp_spots := k13
  have b_llift := (fun_mk (st := st_llift) l14 c14 k14).binds (ps := sc_llift_ps) fun _ _ _ _ _ _ us hl => match us, hl with | [_, _, _, _], _ => rfl
  have m_llift := PySem.W.mg_of X G a14
  have kp_llift := k14
  have b_words := (fun_mk (st := st_words) l15 c15 k15).binds (ps := sc_words_ps) fun _ _ _ _ _ _ us hl => match us, hl with | [_, _], _ => rfl
  have m_words := PySem.W.mg_of X G a15
  have kp_words := k15
  have b_lright := (fun_mk (st := st_lright) l16 c16 k16).binds (ps := sc_lright_ps) fun _ _ _ _ _ _ us hl => match us, hl with | [_, _, _], _ => rfl
  have m_lright := PySem.W.mg_of X G a16
  have kp_lright := k16
  have b_deeper := (fun_mk (st := st_deeper) l17 c17 k17).binds (ps := sc_deeper_ps) fun _ _ _ _ _ _ us hl => match us, hl with | [_, _], _ => rfl
  have m_deeper := PySem.W.mg_of X G a17
  have kp_deeper := k17
  have B : Blt mg := ⟨PySem.W.mg_none_of X G z0, PySem.W.mg_none_of X G z1, PySem.W.mg_none_of X G z2, PySem.W.mg_none_of X G z3, PySem.W.mg_none_of X G z4, PySem.W.mg_none_of X G z5, PySem.W.mg_none_of X G z6, PySem.W.mg_none_of X G z7, PySem.W.mg_none_of X G z8, PySem.W.mg_none_of X G z9, PySem.W.mg_none_of X G z10, PySem.W.mg_none_of X G z11⟩
  refine ⟨PySem.W.fnOf "law" "law" (defArgs st_law) (defBody st_law) (defScope st_law) .none kV18 dc18 pm18 an18 cd18 ct18, fun s v => .of_eq rfl, fun base _ _ hCs hB => ?_⟩
  have g_inner : Got l.prog w K mg base 1 "inner" sc_inner_ps (conc K (spInn Tm.enc Tm.inn)) := ⟨f0, _, ok_inner F_inner, m_inner, kp_inner, b_inner⟩
  have g_wbelow : Got l.prog w K mg base 1 "ways_below" sc_wbelow_ps (conc K spBelow) := ⟨f3, _, ok_wbelow F_wbelow, m_wbelow, kp_wbelow, b_wbelow⟩
  have g_namesin : Got l.prog w K mg base 2 "names_in" sc_namesin_ps (conc K spNamesIn) := ⟨f2, _, ok_namesin B g_inner g_wbelow F_namesin, m_namesin, kp_namesin, b_namesin⟩
  have g_withn : Got l.prog w K mg base 3 "with_names" sc_withn_ps (conc K (spWith l.prog w K mg base 1)) := ⟨f7, _, ok_withn B g_inner g_wbelow F_withn, m_withn, kp_withn, b_withn⟩
  have g_lifted : Got l.prog w K mg base 4 "lifted" sc_lifted_ps (conc K (spLift 40 (defPos st_lifted_moved))) := ⟨f4, _, ok_lifted (hCs (44, 40) (List.mem_cons_self ..)) hB g_withn F_lifted, m_lifted, kp_lifted, b_lifted⟩
  have g_opn : Got l.prog w K mg base 3 "open_names" sc_opn_ps (conc K spOpen) := ⟨f1, _, ok_opn B g_namesin F_opn, m_opn, kp_opn, b_opn⟩
  have g_copies : Got l.prog w K mg base 5 "copies_for" sc_copies_ps (conc K (spCopies 40 (defPos st_lifted_moved))) := ⟨f6, _, ok_copies B g_opn g_lifted F_copies, m_copies, kp_copies, b_copies⟩
  have g_putin : Got l.prog w K mg base 6 "put_in" sc_putin_ps (conc K (spPut 40 (defPos st_lifted_moved) 47 (defPos st_putin_taken))) := ⟨f5, _, ok_putin (hCs (49, 47) (List.mem_cons_of_mem _ (List.mem_cons_self ..))) hB B g_namesin g_copies g_withn F_putin, m_putin, kp_putin, b_putin⟩
  have g_atp : Got l.prog w K mg base 2 "at_place" sc_atp_ps (conc K spAt) := ⟨f8, _, ok_atp B g_inner F_atp, m_atp, kp_atp, b_atp⟩
  have g_feed : Got l.prog w K mg base 1 "_law_feed" sc_feed_ps (conc K spFeed) := ⟨f9, _, ok_feed B F_feed, m_feed, kp_feed, b_feed⟩
  have g_take : Got l.prog w K mg base 1 "_law_take" sc_take_ps (conc K spTake) := ⟨f10, _, ok_take F_take, m_take, kp_take, b_take⟩
  have g_whole : Got l.prog w K mg base 2 "_law_whole" sc_whole_ps (conc K spWhole) := ⟨f11, _, ok_whole g_take F_whole, m_whole, kp_whole, b_whole⟩
  have g_wild : ∀ n : Nat, Got l.prog w K mg base (n + 2) "_law_wild" sc_wild_ps (conc K (spWild n)) := fun n => by
    induction n with
    | zero => exact ⟨f12, _, no_wild, m_wild, kp_wild, b_wild⟩
    | succ n ih => exact ⟨f12, _, ok_wild g_take g_whole ih F_wild, m_wild, kp_wild, b_wild⟩
  have g_spots : ∀ n : Nat, Got l.prog w K mg base (n + 1) "_law_spots" sc_spots_ps (conc K (spSpots n)) := fun n => by
    induction n with
    | zero => exact ⟨f13, _, no_spots, m_spots, kp_spots, b_spots⟩
    | succ n ih => exact ⟨f13, _, ok_spots B ih F_spots, m_spots, kp_spots, b_spots⟩
  have g_llift : ∀ n : Nat, Got l.prog w K mg base (n + 1) "_law_lift" sc_llift_ps (conc K (spLLift n)) := fun n => by
    induction n with
    | zero => exact ⟨f14, _, no_llift, m_llift, kp_llift, b_llift⟩
    | succ n ih => exact ⟨f14, _, ok_llift B ih F_llift, m_llift, kp_llift, b_llift⟩
  have g_words : ∀ n : Nat, Got l.prog w K mg base (n + 1) "_law_words" sc_words_ps (conc K (spWords n)) := fun n => by
    induction n with
    | zero => exact ⟨f15, _, no_words, m_words, kp_words, b_words⟩
    | succ n ih => exact ⟨f15, _, ok_words B ih F_words, m_words, kp_words, b_words⟩
  have g_lright : Got l.prog w K mg base 42 "_law_right" sc_lright_ps (conc K spPutR) := ⟨f16, _, ok_lright B (g_words 40) (g_spots 40) (g_llift 40) g_atp F_lright, m_lright, kp_lright, b_lright⟩
  have g_deeper : Got l.prog w K mg base 2 "_law_deeper" sc_deeper_ps (conc K spDeeper) := ⟨f17, _, ok_deeper B g_take F_deeper, m_deeper, kp_deeper, b_deeper⟩
  exact ok_law B g_feed g_take (g_wild 20) g_deeper g_lright g_putin g_lifted F_law
theorem walk {l : PySem.W.OpenLaw} {q : Program} {loose : List Str} {XP : (Str → Option Value) → Heap → Prop} {YP : World → Heap → Prop} {d : DefRec} {K : Params → PySem.W.Frag} (hn : l.most = some 63) (hdf : d.params.defaults = [])
    (hY : ∀ (w : World) (h : Heap), YP w h → (K w.params).In h) (hK : ∀ w : World, PySem.W.noTabs (K w.params) = true) (hTab : ∀ (w : World) (h : Heap), YP w h → PySem.W.TabsAt tabs9 h)
    (F : ∀ (w : World) (mg : Str → Option Value) (fa : Addr) (h : Heap), (K w.params).In h → h.Ns mainGlobals mg → mg d.name = some (.ref fa) →
      ∃ fd : FuncData, (∀ (s : Shared) (u : Value), BindsTo s fd ⟨[u], []⟩ [("_law_script", u)]) ∧ ∀ base : Heap, (K w.params).In base → base.Ns mainGlobals mg → (∀ q ∈ tabs9, PySem.W.CodeHd base q.1 q.2) → BltIn mg base → FnOk l.prog w (K w.params) mg base CX0 43 fa fd ["_law_script"] ((fun K => conc K (spLawTs tl9)) (K w.params))) :
    PySem.W.WalkO q loose XP YP l.row.toRowW d [] (fun f vs => PySem.call f vs) :=
  L2.walk_ofH (n := 63) (k := 43) (x := "_law_script") (sp := fun K => (fun K => conc K (spLawTs tl9)) K) hn (by decide) hdf ⟨rfl, by decide, by decide⟩ hY hK hTab F fun _ _ _ _ hl hE hS => lawTs_sp rfl (by decide) hl hE hS
end KB
open PySem PySem.W PyProof.Rows
set_option maxRecDepth 100000 in
set_option maxHeartbeats 0 in
theorem PySem.Challenge.cw_kindbags_k04_put_in_holds : PySem.Challenge.rw_kindbags_k04_put_in.Holds := by
  w_on; o_law; k_head; (case hw => w_witness2)
  k_fill
  refine KB.walk (l := PySem.Challenge.rw_kindbags_k04_put_in) rfl rfl (fun w h Y => PySem.W.km_in_of Y) (fun w => by kernel_rfl) (fun w h Y => List.forall_mem_cons.mpr ⟨⟨PySem.W.codeHd_of_K (c := 44) (P := 40) (PySem.W.km_in_of Y) (by kernel_rfl), PySem.W.km_tabs_of Y 40 (by k_mem)⟩, List.forall_mem_cons.mpr ⟨⟨PySem.W.codeHd_of_K (c := 49) (P := 47) (PySem.W.km_in_of Y) (by kernel_rfl), PySem.W.km_tabs_of Y 47 (by k_mem)⟩, fun _ h => nomatch h⟩⟩) ?F
  case F =>
    intro w mg fa h KX G hmg
    refine' KB.all_mk KX G hmg ?a0 ?l0 ?c0 ?k0 ?a1 ?l1 ?c1 ?k1 ?a2 ?l2 ?c2 ?k2 ?a3 ?l3 ?c3 ?k3 ?a4 ?l4 ?c4 ?k4 ?a5 ?l5 ?c5 ?k5 ?a6 ?l6 ?c6 ?k6 ?a7 ?l7 ?c7 ?k7 ?a8 ?l8 ?c8 ?k8 ?a9 ?l9 ?c9 ?k9 ?a10 ?l10 ?c10 ?k10 ?a11 ?l11 ?c11 ?k11 ?a12 ?l12 ?c12 ?k12 ?a13 ?l13 ?c13 ?k13 ?a14 ?l14 ?c14 ?k14 ?a15 ?l15 ?c15 ?k15 ?a16 ?l16 ?c16 ?k16 ?a17 ?l17 ?c17 ?k17 ?a18 ?l18 ?c18 ?k18 ?z0 ?z1 ?z2 ?z3 ?z4 ?z5 ?z6 ?z7 ?z8 ?z9 ?z10 ?z11
    (case a0 => k_is)
    (case l0 => k_is)
    (case c0 => k_is)
    (case k0 => k_is)
    (case a1 => k_is)
    (case l1 => k_is)
    (case c1 => k_is)
    (case k1 => k_is)
    (case a2 => k_is)
    (case l2 => k_is)
    (case c2 => k_is)
    (case k2 => k_is)
    (case a3 => k_is)
    (case l3 => k_is)
    (case c3 => k_is)
    (case k3 => k_is)
    (case a4 => k_is)
    (case l4 => k_is)
    (case c4 => k_is)
    (case k4 => k_is)
    (case a5 => k_is)
    (case l5 => k_is)
    (case c5 => k_is)
    (case k5 => k_is)
    (case a6 => k_is)
    (case l6 => k_is)
    (case c6 => k_is)
    (case k6 => k_is)
    (case a7 => k_is)
    (case l7 => k_is)
    (case c7 => k_is)
    (case k7 => k_is)
    (case a8 => k_is)
    (case l8 => k_is)
    (case c8 => k_is)
    (case k8 => k_is)
    (case a9 => k_is)
    (case l9 => k_is)
    (case c9 => k_is)
    (case k9 => k_is)
    (case a10 => k_is)
    (case l10 => k_is)
    (case c10 => k_is)
    (case k10 => k_is)
    (case a11 => k_is)
    (case l11 => k_is)
    (case c11 => k_is)
    (case k11 => k_is)
    (case a12 => k_is)
    (case l12 => k_is)
    (case c12 => k_is)
    (case k12 => k_is)
    (case a13 => k_is)
    (case l13 => k_is)
    (case c13 => k_is)
    (case k13 => k_is)
    (case a14 => k_is)
    (case l14 => k_is)
    (case c14 => k_is)
    (case k14 => k_is)
    (case a15 => k_is)
    (case l15 => k_is)
    (case c15 => k_is)
    (case k15 => k_is)
    (case a16 => k_is)
    (case l16 => k_is)
    (case c16 => k_is)
    (case k16 => k_is)
    (case a17 => k_is)
    (case l17 => k_is)
    (case c17 => k_is)
    (case k17 => k_is)
    (case a18 => k_is)
    (case l18 => k_is)
    (case c18 => k_is)
    (case k18 => k_is)
    (case z0 => k_is)
    (case z1 => k_is)
    (case z2 => k_is)
    (case z3 => k_is)
    (case z4 => k_is)
    (case z5 => k_is)
    (case z6 => k_is)
    (case z7 => k_is)
    (case z8 => k_is)
    (case z9 => k_is)
    (case z10 => k_is)
    (case z11 => k_is)
