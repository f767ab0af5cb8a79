import PyProof.Rows.All
import Wide.All
import OpenK.AllK
import Wide.FinOn
import Lean
import PyProof.EqAt
import PyProof.EqKinds
import PyProof.TupleCall
import PySem.Challenge.RW_kindbags_k23_names_and_slips_by_numbers
set_option Elab.async false
set_option linter.all false
set_option maxRecDepth 100000
namespace L2
open PySem PySem.Spec PyProof.Rows
abbrev Key := Sum Int Str
def v2q : Key -> Value -> Bool
  | .inl k, v => Value.isInt k v
  | .inr x, v => Value.isStrOf x v
def keyH (w : World) : Key -> Int
  | .inl k => hashInt k
  | .inr x => hashStr w x
theorem bJq : ∀ {k : Key} {v : Value}, v2q k v = true -> (∃ i t, k = Sum.inl i /\ v = Value.int i t) \/ (∃ x t, k = Sum.inr x /\ v = Value.str x t)
  | .inl i, v, h => by
    obtain ⟨t, e⟩ := Value.isInt_shape (k := i) (v := v) h
    exact .inl ⟨i, t, rfl, e⟩
  | .inr x, v, h => by
    obtain ⟨t, e⟩ := Value.isStrOf_shape (x := x) (v := v) h
    exact .inr ⟨x, t, rfl, e⟩
theorem wHq (a b : Int) : decide ((Sum.inl a : Key) = Sum.inl b) = (a == b) := by
  by_cases e : a = b
  . subst e; simp
  . have h : ¬ (Sum.inl a : Key) = Sum.inl b := fun q => e (Sum.inl.inj q)
    rw [decide_eq_false h]
    exact (beq_eq_false_iff_ne.mpr e).symm
theorem wEq (a b : Str) : decide ((Sum.inr a : Key) = Sum.inr b) = decide (a = b) := by
  by_cases e : a = b
  . subst e; simp
  . have h : ¬ (Sum.inr a : Key) = Sum.inr b := fun q => e (Sum.inr.inj q)
    rw [decide_eq_false h, decide_eq_false e]
theorem vGq (a : Int) (b : Str) : decide ((Sum.inl a : Key) = Sum.inr b) = false := decide_eq_false (fun q => nomatch q)
theorem vXq (a : Str) (b : Int) : decide ((Sum.inr a : Key) = Sum.inl b) = false := decide_eq_false (fun q => nomatch q)
def k1q (prog : Program) (w : World) : PySem.KeyKind prog w Key where
  is := v2q
  hash := keyH w
  inj := fun v a b ha hb => by
    rcases bJq ha with ⟨i, t, rfl, rfl⟩ | ⟨x, t, rfl, rfl⟩
    . rcases bJq hb with ⟨j, u, rfl, e⟩ | ⟨y, u, rfl, e⟩
      . injection e with e1 _; rw [e1]
      . exact nomatch e
    . rcases bJq hb with ⟨j, u, rfl, e⟩ | ⟨y, u, rfl, e⟩
      . exact nomatch e
      . injection e with e1 _; rw [e1]
  byValue := fun k v h => by
    rcases bJq h with ⟨i, t, rfl, rfl⟩ | ⟨x, t, rfl, rfl⟩ <;> rfl
  pyHash := fun hv h => by
    rcases bJq hv with ⟨i, t, rfl, rfl⟩ | ⟨x, t, rfl, rfl⟩
    . exact wpAny_pyHash_int h
    . exact wpAny_pyHash_str h
  eqBool := fun hu hv h => by
    rcases bJq hu with ⟨i, t, rfl, rfl⟩ | ⟨x, t, rfl, rfl⟩
    . rcases bJq hv with ⟨j, u, rfl, rfl⟩ | ⟨y, u, rfl, rfl⟩
      . rw [wHq] at h; exact wpAny_eqBool_int h
      . rw [vGq] at h; exact SeqAt.EqAt.int_str i t y u _ _ _ _ h
    . rcases bJq hv with ⟨j, u, rfl, rfl⟩ | ⟨y, u, rfl, rfl⟩
      . rw [vXq] at h; exact SeqAt.EqAt.str_int x t j u _ _ _ _ h
      . rw [wEq] at h; exact wpAny_eqBool_str h
  «strs» := fun k x t v h => by
    rcases bJq h with ⟨i, u, rfl, e⟩ | ⟨y, u, rfl, e⟩
    . exact nomatch e
    . injection e with e1 _
      subst e1
      cases v <;> rfl
inductive V where
  | non | bl (b : Bool) | int (i : Int) | str (x : Str) | byt (b : Array UInt8) | flt (b : UInt64) | ref (a : Addr) | ty (n : String)
  deriving DecidableEq
def RelV : V -> Value -> Prop
  | .non, u => u = Value.none
  | .bl b, u => u = Value.bool b
  | .int i, u => ∃ t, u = Value.int i t
  | .str x, u => ∃ t, u = Value.str x t
  | .byt b, u => ∃ t, u = Value.bytes b t
  | .flt b, u => ∃ t, u = Value.float b t
  | .ref a, u => u = Value.ref a
  | .ty n, u => u = Value.type n
abbrev Vals : List V -> List Value -> Prop := Paired RelV
theorem Vals.length {xs : List V} {us : List Value} (r : Vals xs us) : xs.length = us.length := Paired.length r
theorem Vals.get : ∀ {xs : List V} {us : List Value} {i : Nat} {x : V}, Vals xs us -> xs[i]? = some x -> ∃ u, us[i]? = some u /\ RelV x u
  | _, _, _, _, .nil, e => by simp at e
  | _, _, 0, _, .cons r _, e => by simp at e; subst e; exact ⟨_, rfl, r⟩
  | _, _, i + 1, x, .cons _ t, e => by
    obtain ⟨u, h1, h2⟩ := Vals.get (i := i) (x := x) t (by simpa using e)
    exact ⟨u, by simpa using h1, h2⟩
theorem Vals.set {x : V} {u : Value} (r : RelV x u) : ∀ {xs : List V} {us : List Value} (i : Nat), Vals xs us -> Vals (xs.set i x) (us.set i u)
  | _, _, _, .nil => .nil
  | _, _, 0, .cons _ t => .cons r t
  | _, _, i + 1, .cons q t => .cons q (Vals.set r i t)
theorem Vals.append : ∀ {xs ys : List V} {us ws : List Value}, Vals xs us -> Vals ys ws -> Vals (xs ++ ys) (us ++ ws)
  | _, _, _, _, .nil, s => s
  | _, _, _, _, .cons r t, s => .cons r (Vals.append t s)
theorem Vals.take : ∀ {xs : List V} {us : List Value} (n : Nat), Vals xs us -> Vals (xs.take n) (us.take n)
  | _, _, 0, _ => .nil
  | _, _, _ + 1, .nil => .nil
  | _, _, n + 1, .cons r t => .cons r (Vals.take n t)
theorem Vals.drop : ∀ {xs : List V} {us : List Value} (n : Nat), Vals xs us -> Vals (xs.drop n) (us.drop n)
  | _, _, 0, r => r
  | _, _, _ + 1, .nil => .nil
  | _, _, n + 1, .cons _ t => Vals.drop n t
def RelO : Option V -> Option Value -> Prop
  | some v, some u => RelV v u
  | none, none => True
  | _, _ => False
def KV {κ : Type} : List (κ × V) -> List (κ × Value) -> Prop := Paired fun (p : κ × V) (q : κ × Value) => p.1 = q.1 /\ RelV p.2 q.2
def kV : Key -> V
  | .inl i => .int i
  | .inr x => .str x
inductive HO where
  | lst (xs : List V)
  | tup (xs : List V)
  | dK (kvs : List (Key × V)) | dT (kvs : List (List Key × V))
  | set (S : Int -> Bool) (n : Nat)
  | ins (C dx : Addr) (fs : List (Str × V))
  | own (x : Addr)
  | xd (fs : List (Str × V))
  | met (f x : Addr)
  | rng (lo hi : Int)
  | frz (o : Obj) (u : HO)
  | tbl (ps : Array Value)
  | ext (φ : Heap -> Prop)
abbrev Hp := Addr -> Option HO
def upd (H : Hp) (a : Addr) (o : HO) : Hp := fun b => if b = a then some o else H b
theorem aQq {H : Hp} {a : Addr} {o : HO} : upd H a o a = some o := by unfold upd; rw [if_pos rfl]
theorem aDq {H : Hp} {a b : Addr} {o : HO} (h : b ≠ a) : upd H a o b = H b := by unfold upd; rw [if_neg h]
theorem aTq {H : Hp} {a b : Addr} {o : HO} (h : H a = some o) (h' : H b = none) : a ≠ b := by
  intro e; subst e; rw [h] at h'; cases h'
section
variable (P : Program) (w : World)
def ObjOk (H : Hp) (h : Heap) (a : Addr) : HO -> Prop
  | .lst xs => xs.length <= sizeLine /\ ∃ (its : List Value) (n : Nat), Vals xs its /\ h.get? a = some { cls := .type "list", data := .seq its.toArray n }
  | .tup xs => xs.length <= sizeLine /\ ∃ its : List Value, Vals xs its /\ IsTup h a its.toArray
  | .dK kvs => kvs.length <= sizeLine /\ (a == sysModules) = false /\ ∃ vs, KV kvs vs /\ h.DictOf (k1q P w) a vs
  | .dT kvs => kvs.length <= sizeLine /\ (a == sysModules) = false /\ ∃ xs : List (List Key × Addr × Value),
      Paired (fun (p : List Key × V) (q : List Key × Addr × Value) => p.1 = q.1 /\ H q.2.1 = some (.tup (p.1.map kV)) /\ RelV p.2 q.2.2) kvs xs ∧
      ∃ o es ep, h.get? a = some o /\ o.ExactDict /\ o.data = .dict es ep /\ es.toList = xs.map (entryOfKey (tupleKind (k1q P w))) /\ (xs.map (·.1)).Nodup
  | .set S n => h.SetOf (intKind P w) a S n
  | .ins C dx fs => H dx = some (.own a) /\ fs.length <= 1000 /\ dx ≠ a /\ h.get? a = some (PySem.W.instObj C dx) ∧
      ∃ mA, h.Ns1 dx mA /\ (∀ f, RelO (fs.lookup f) (mA f)) /\ PySem.Within mA (fs.map (·.1))
  | .own _ => ∃ o, h.get? a = some o
  | .xd fs => ∃ mA, h.Ns1 a mA /\ ∀ f, RelO (fs.lookup f) (mA f)
  | .rng lo hi => ∃ t u v, h.get? a = some { cls := .type "range", data := .fields #[.int lo t, .int hi u, .int 1 v] }
  | .frz o u => h.get? a = some o /\ ObjOk H h a u
  | .tbl ps => h.get? a = some { cls := .none, data := .fields ps }
  | .met f x => h.get? a = some (PySem.W.methodObj (.ref f) (.ref x))
  | .ext φ => φ h /\ (∃ o, h.get? a = some o) /\ ∀ h1 h2 : Heap, φ h1 -> (∀ o, h1.get? a = some o -> h2.get? a = some o) -> φ h2
def HOk (H : Hp) (h : Heap) : Prop := ∀ a o, H a = some o -> ObjOk P w H h a o
end
section
variable {P : Program} {w : World} {H H' : Hp} {h h' : Heap} {a : Addr} {o : HO}
theorem ObjOk.lt (x : ObjOk P w H h a o) : a < h.objs.size := by
  cases o with
  | lst xs => obtain ⟨_, _, _, _, e⟩ := x; exact Heap.lt_size e
  | tup xs => obtain ⟨_, _, _, p⟩ := x; exact p.lt
  | dK kvs => obtain ⟨_, _, _, _, o, _, _, e, _⟩ := x; exact Heap.lt_size e
  | dT kvs => obtain ⟨_, _, _, _, o, _, _, e, _⟩ := x; exact Heap.lt_size e
  | set S n => obtain ⟨o, _, _, _, e, _⟩ := x; exact Heap.lt_size e
  | ins C dx fs => obtain ⟨_, _, _, e, _⟩ := x; exact Heap.lt_size e
  | own y => obtain ⟨_, e⟩ := x; exact Heap.lt_size e
  | xd fs => obtain ⟨_, ⟨_, _, _, e, _⟩, _⟩ := x; exact Heap.lt_size e
  | rng lo hi => obtain ⟨_, _, _, e⟩ := x; exact Heap.lt_size e
  | frz ob u => obtain ⟨e, _⟩ := x; exact Heap.lt_size e
  | tbl ps => exact Heap.lt_size (show h.get? a = some _ from x)
  | met f y => exact Heap.lt_size (show h.get? a = some _ from x)
  | ext φ => obtain ⟨_, ⟨_, e⟩, _⟩ := x; exact Heap.lt_size e
theorem Paired.mapP {α β : Type} {F G : α -> β -> Prop} : ∀ {l₁ : List α} {l₂ : List β}, Paired F l₁ l₂ -> (∀ a b, F a b -> G a b) -> Paired G l₁ l₂
  | _, _, .nil, _ => .nil
  | _, _, .cons r t, f => .cons (f _ _ r) (Paired.mapP t f)
theorem ObjOk.stay (x : ObjOk P w H h a o) (k : ∀ b u, (b = a \/ H b = some (.own a)) -> h.get? b = some u -> h'.get? b = some u)
    (ho : ∀ b, H b = some (.own a) -> H' b = some (.own a)) (ht : ∀ b xs, H b = some (.tup xs) -> H' b = some (.tup xs)) : ObjOk P w H' h' a o := by
  induction o with
  | lst xs => obtain ⟨z, its, n, r, e⟩ := x; exact ⟨z, its, n, r, k _ _ (.inl rfl) e⟩
  | tup xs => obtain ⟨z, its, r, ob, e, c⟩ := x; exact ⟨z, its, r, ob, k _ _ (.inl rfl) e, c⟩
  | dK kvs => obtain ⟨z, y, vs, r, ob, es, ep, e, c⟩ := x; exact ⟨z, y, vs, r, ob, es, ep, k _ _ (.inl rfl) e, c⟩
  | dT kvs =>
    obtain ⟨z, y, xs, r, ob, es, ep, e, c⟩ := x
    exact ⟨z, y, xs, Paired.mapP r fun p q z => ⟨z.1, ht _ _ z.2.1, z.2.2⟩, ob, es, ep, k _ _ (.inl rfl) e, c⟩
  | set S n => obtain ⟨ob, es, ep, t, e, c⟩ := x; exact ⟨ob, es, ep, t, k _ _ (.inl rfl) e, c⟩
  | ins C dx fs =>
    obtain ⟨d, z, ne, e, mA, ⟨od, es, ep, e2, c⟩, r⟩ := x
    exact ⟨ho _ d, z, ne, k _ _ (.inl rfl) e, mA, ⟨od, es, ep, k _ _ (.inr d) e2, c⟩, r⟩
  | own y => obtain ⟨ob, e⟩ := x; exact ⟨ob, k _ _ (.inl rfl) e⟩
  | xd fs => obtain ⟨mA, ⟨od, es, ep, e, c⟩, r⟩ := x; exact ⟨mA, ⟨od, es, ep, k _ _ (.inl rfl) e, c⟩, r⟩
  | rng lo hi => obtain ⟨t, u, v, e⟩ := x; exact ⟨t, u, v, k _ _ (.inl rfl) e⟩
  | frz ob u ih => obtain ⟨e, q⟩ := x; exact ⟨k _ _ (.inl rfl) e, ih q⟩
  | tbl ps =>
    have e : h.get? a = some { cls := .none, data := .fields ps } := x
    show h'.get? a = some { cls := .none, data := .fields ps }
    exact k a _ (.inl rfl) e
  | met f y =>
    have e : h.get? a = some (PySem.W.methodObj (.ref f) (.ref y)) := x
    show h'.get? a = some (PySem.W.methodObj (.ref f) (.ref y))
    exact k a _ (.inl rfl) e
  | ext φ => obtain ⟨p, ⟨o, e⟩, st⟩ := x; exact ⟨st _ _ p fun o q => k _ _ (.inl rfl) q, ⟨o, k _ _ (.inl rfl) e⟩, st⟩
theorem HOk.lt (x : HOk P w H h) (e : H a = some o) : a < h.objs.size := (x a o e).lt
theorem HOk.fresh (x : HOk P w H h) (e : h.objs.size <= a) : H a = none := by
  cases q : H a with
  | none => rfl
  | some u => exact absurd (Nat.lt_of_lt_of_le (x.lt q) e) (Nat.lt_irrefl _)
theorem HOk.kept (x : HOk P w H h) (k : ∀ b u, h.get? b = some u -> h'.get? b = some u) : HOk P w H h' := fun a o e =>
  (x a o e).stay (fun b u _ q => k b u q) (fun _ q => q) fun _ _ q => q
theorem HOk.laid (x : HOk P w H h) (k : ∀ b u, h.get? b = some u -> h'.get? b = some u) (hp : h.objs.size <= a) (new : ObjOk P w (upd H a o) h' a o) : HOk P w (upd H a o) h' := fun b u e => by
  have hn := x.fresh hp
  by_cases hb : b = a
  . subst hb; rw [aQq] at e; cases e; exact new
  . rw [aDq hb] at e
    exact (x b u e).stay (fun c v _ q => k c v q) (fun c q => by rw [aDq (aTq q hn)]; exact q) fun c xs q => by rw [aDq (aTq q hn)]; exact q
end
def Rd (H : Hp) (a : Addr) (u : HO) : Prop := H a = some u \/ ∃ o, H a = some (.frz o u)
theorem Rd.ok {P : Program} {w : World} {H : Hp} {h : Heap} {a : Addr} {u : HO} (r : Rd H a u) (x : HOk P w H h) : ObjOk P w H h a u := by
  rcases r with r | ⟨o, r⟩
  . exact x a u r
  . obtain ⟨_, q⟩ := x a _ r
    exact q
def Mut : Option HO -> Prop
  | some (.lst _) => True
  | some (.dK _) => True
  | some (.dT _) => True
  | some (.set _ _) => True
  | some (.ins _ _ _) => True
  | some (.ext _) => True
  | _ => False
section
variable {P : Program} {w : World} {H : Hp} {h h' : Heap} {x e : Addr} {o' : HO}
theorem HOk.write (ok : HOk P w H h) (mu : Mut (H x)) (he : e = x \/ H e = some (.own x)) (k : ∀ b u, b ≠ e -> h.get? b = some u -> h'.get? b = some u) (heo : ∃ u, h'.get? e = some u)
    (new : ObjOk P w (upd H x o') h' x o') : HOk P w (upd H x o') h' := fun b u q => by
  have nown : ∀ c y, H c = some (.own y) -> c ≠ x := fun c y r z => by subst z; rw [r] at mu; exact mu
  have ntup : ∀ c xs, H c = some (.tup xs) -> c ≠ x := fun c xs r z => by subst z; rw [r] at mu; exact mu
  by_cases hb : b = x
  . subst hb; rw [aQq] at q; cases q; exact new
  . rw [aDq hb] at q
    by_cases hbe : b = e
    . have q' : H b = some (.own x) := by
        rcases he with z | z
        . exact absurd (hbe.trans z) hb
        . rw [hbe]; exact z
      rw [q] at q'; cases q'
      obtain ⟨v, hv⟩ := heo
      exact ⟨v, by rw [hbe]; exact hv⟩
    . refine (ok b u q).stay (fun c v hc r => k c v ?_ r) (fun c r => by rw [aDq (nown c b r)]; exact r) fun c xs r => by rw [aDq (ntup c xs r)]; exact r
      rcases hc with rfl | hc
      . exact hbe
      . rintro rfl
        rcases he with z | z
        . exact nown c b hc z
        . rw [hc] at z; cases z; exact hb rfl
end
structure Un (fs ex : List Addr) (H H' : Hp) (h h' : Heap) : Prop where
  keep : ∀ b o, h.get? b = some o -> H b = none -> b ∉ fs -> b ∉ ex -> h'.get? b = some o
  slot : ∀ b o, h.get? b = some o -> H b = none -> b ∈ fs -> b ∉ ex -> ∃ sl, h'.get? b = some { o with slots := sl }
  free : ∀ b o, h.get? b = some o -> H b = none -> b ∉ ex -> H' b = none
  there : ∀ b o, h.get? b = some o -> b ∉ ex -> ∃ o', h'.get? b = some o'
  tups : ∀ b xs, H b = some (.tup xs) -> H' b = some (.tup xs)
  frzs : ∀ b o u, H b = some (.frz o u) -> H' b = some (.frz o u)
  tbls : ∀ b ps, H b = some (.tbl ps) -> ∃ more, H' b = some (.tbl (ps ++ more))
section
variable {fs fs' ex ex' : List Addr} {H H1 H2 : Hp} {h h1 h2 h' : Heap} {a x e : Addr} {o : HO}
theorem Un.any (u : Un fs ex H H1 h h1) {b : Addr} {ob : Obj} (q : h.get? b = some ob) (n : H b = none) (hx : b ∉ ex) : ∃ sl, h1.get? b = some { ob with slots := sl } := by
  by_cases hb : b ∈ fs
  . exact u.slot b ob q n hb hx
  . exact ⟨ob.slots, u.keep b ob q n hb hx⟩
theorem Un.kept (k : ∀ b u, h.get? b = some u -> h'.get? b = some u) : Un fs ex H H h h' :=
  ⟨fun b ob q _ _ _ => k b ob q, fun b ob q _ _ _ => ⟨ob.slots, k b ob q⟩, fun _ _ _ n _ => n, fun b ob q _ => ⟨ob, k b ob q⟩, fun _ _ q => q, fun _ _ _ q => q, fun _ ps q => ⟨#[], by rw [q]; simp⟩⟩
theorem Un.refl : Un fs ex H H h h := Un.kept fun _ _ q => q
theorem Un.laid (k : ∀ b u, h.get? b = some u -> h'.get? b = some u) (hp : h.objs.size <= a) (hn : H a = none) : Un fs ex H (upd H a o) h h' where
  keep := fun b u q _ _ _ => k b u q
  slot := fun b u q _ _ _ => ⟨u.slots, k b u q⟩
  free := fun b u q n _ => by rw [aDq (Nat.ne_of_lt (Nat.lt_of_lt_of_le (Heap.lt_size q) hp))]; exact n
  there := fun b u q _ => ⟨u, k b u q⟩
  tups := fun b xs q => by rw [aDq (aTq q hn)]; exact q
  frzs := fun b u xs q => by rw [aDq (aTq q hn)]; exact q
  tbls := fun b ps q => ⟨#[], by rw [aDq (aTq q hn), q]; simp⟩
theorem Un.write (mu : Mut (H x)) (he : e = x \/ H e = some (.own x)) (k : ∀ b u, b ≠ e -> h.get? b = some u -> h'.get? b = some u) (heo : ∃ u, h'.get? e = some u) : Un fs ex H (upd H x o) h h' := by
  have hx : ∀ b, H b = none -> b ≠ x := fun b n z => by subst z; rw [n] at mu; exact mu
  have hb : ∀ b, H b = none -> b ≠ e := fun b n z => by
    subst z
    rcases he with r | r
    . exact hx b n r
    . rw [n] at r; cases r
  have hm : ∀ b u, H b = some u -> ¬ Mut (some u) -> b ≠ x := fun b u q nm z => by subst z; rw [q] at mu; exact nm mu
  refine ⟨fun b u q n _ _ => k b u (hb b n) q, fun b u q n _ _ => ⟨u.slots, k b u (hb b n) q⟩, fun b u q n _ => by rw [aDq (hx b n)]; exact n, fun b u q _ => ?_,
    fun b xs q => by rw [aDq (hm b _ q fun z => z)]; exact q, fun b u xs q => by rw [aDq (hm b _ q fun z => z)]; exact q, fun b ps q => ⟨#[], by rw [aDq (hm b _ q fun z => z), q]; simp⟩⟩
  by_cases hbe : b = e
  . subst hbe; exact heo
  . exact ⟨u, k b u hbe q⟩
end
def trk (h : Heap) (H : Hp) : List Addr := (List.range h.objs.size).filter fun a => (H a).isSome
def oOq (h : Heap) (H : Hp) : Heap := PySem.W.hideAll h (trk h H)
theorem lZq (h : Heap) (H : Hp) : (oOq h H).objs.size = h.objs.size := PySem.W.hideAll_size _ _
theorem oPq {h : Heap} {H : Hp} {b : Addr} {o : Obj} (e : h.get? b = some o) (n : H b = none) : (oOq h H).get? b = some o :=
  PySem.W.hideAll_get _ e fun hm => by
    have q : (H b).isSome = true := (List.mem_filter.mp hm).2
    rw [n] at q; simp at q
theorem sMq {h : Heap} {H : Hp} {b : Addr} {o : Obj} (e : (oOq h H).get? b = some o) : h.get? b = some o /\ H b = none := by
  have e' : h.get? b = some o := PySem.W.of_hideAll (trk h H) e
  refine ⟨e', ?_⟩
  cases q : H b with
  | none => rfl
  | some x =>
    have hm : b ∈ trk h H := List.mem_filter.mpr ⟨List.mem_range.mpr (Heap.lt_size e'), by simp [q]⟩
    have z : (oOq h H).get? b = none := PySem.W.hideAll_none (trk h H) hm
    rw [z] at e; cases e
structure Mod (K : PySem.W.Frag) (mg : Str -> Option Value) (base : Heap) : Prop where
  kin : K.In base
  glob : base.Ns mainGlobals mg
  blt : ∃ mb, base.Ns builtinsNs mb /\ ∀ x : Str, x ≠ "__name__" -> mb x = bootBuiltins x
  nolimit : base.NoLimit
structure Cx where
  prog : Program
  w : World
  K : PySem.W.Frag
  mg : Str -> Option Value
  base : Heap
  A : Around
  N : List Str
  s₀ : Shared
  H₀ : Hp
  env : Env
  outer : List Env
  stack : List Env
  ex : List Addr
  fn : Str -> Bool
  calm : Bool
  pn : List (Addr × Obj)
  xe : Value -> Shared -> Prop
def frs (l : List Env) : List Addr := l.filterMap (·.frame)
abbrev Cx.fs (X : Cx) : List Addr := frs X.outer
def Vis (sc : Scope) (x : Str) : Prop := sc.names.lookup x = some .local \/ sc.names.lookup x = some .cell \/ sc.names.lookup x = some .free
def Loc (sc : Scope) (x : Str) : Prop := sc.names.lookup x = some .local \/ sc.names.lookup x = some .cell
def zZq (env : Env) (h : Heap) (m : Str -> Option Value) (x : Str) (u : Value) : Prop :=
  (env.kindOf x = some .local /\ m x = some u) \/ ((env.kindOf x = some .cell \/ env.kindOf x = some .free) /\ ∃ c, env.cells.lookup x = some c /\ h.IsCell c (some u))
structure Cx.Ok (X : Cx) : Prop where
  mod : Mod X.K X.mg X.base
  kind : X.env.scope.kind = .function
  glob : X.env.globals = mainGlobals
  blt : X.env.builtins = builtinsNs
  above : X.s₀.heap.objs.size <= X.env.locals
  inj : ∀ x y c, X.env.cells.lookup x = some c -> X.env.cells.lookup y = some c -> x = y
  has : ∀ x, (X.env.kindOf x = some .cell \/ X.env.kindOf x = some .free) -> ∃ c, X.env.cells.lookup x = some c
  cab : ∀ x c, X.fn x = true -> X.env.cells.lookup x = some c -> X.s₀.heap.objs.size <= c
  hd : X.calm = true -> X.A.handled = none
  frames : X.A.frames = some X.stack
  stk : X.stack = X.outer \/ (X.stack = X.env :: X.outer /\ X.env.frame = some X.env.locals)
  exf : ∀ b ∈ X.ex, b ≠ X.env.locals /\ ∀ x c, X.env.cells.lookup x = some c -> c ≠ b
  bs : ∀ b o, X.base.get? b = some o -> X.s₀.heap.get? b = some o /\ X.H₀ b = none
  bsz : X.base.objs.size <= X.s₀.heap.objs.size
  noex : ∀ b o, X.base.get? b = some o -> b ∉ X.ex
  exfs : ∀ b ∈ X.ex, b ∉ X.fs
  funs : X.s₀.heap.FunFrames X.base X.outer
  frf : ∀ b ∈ X.fs, X.H₀ b = none
structure Inv (X : Cx) (pins : List (Addr × Obj)) (σ : List (Option V)) (H : Hp) (s : Shared) : Prop where
  ok : X.Ok
  os : s.os = X.s₀.os
  bare : AllBare s.gens
  base : Un X.fs X.ex X.H₀ H X.s₀.heap s.heap
  loc : ∃ m, s.heap.Ns X.env.locals m /\ ∀ (i : Nat) (x : Str) (v : V), X.N[i]? = some x -> σ[i]? = some (some v) -> Vis X.env.scope x -> ∃ u, RelV v u /\ zZq X.env s.heap m x u
  cell : ∀ x c, X.env.cells.lookup x = some c -> ∃ v, s.heap.IsCell c v
  free : H X.env.locals = none
  freeC : ∀ x c, X.env.cells.lookup x = some c -> H c = none
  pin : ∀ p ∈ X.pn ++ pins, s.heap.get? p.1 = some p.2 /\ H p.1 = none /\ p.1 ≠ X.env.locals /\ p.1 ∉ X.fs /\ ∀ v, p.2.data ≠ .cell v
  hok : HOk X.prog X.w H s.heap
  len : σ.length = X.N.length
section
variable {X : Cx} {pins : List (Addr × Obj)} {σ : List (Option V)} {H H' : Hp} {s : Shared} {h' : Heap}
theorem Cx.Ok.nofr (ok : X.Ok) {b : Addr} {o : Obj} (e : X.base.get? b = some o) : b ∉ X.fs := fun hb => by
  have := (ok.funs.mem hb).1
  rw [e] at this; cases this
theorem Inv.bs (I : Inv X pins σ H s) : ∀ b o, X.base.get? b = some o -> s.heap.get? b = some o /\ H b = none := fun b o e =>
  ⟨I.base.keep b o (I.ok.bs b o e).1 (I.ok.bs b o e).2 (I.ok.nofr e) (I.ok.noex b o e), I.base.free b o (I.ok.bs b o e).1 (I.ok.bs b o e).2 (I.ok.noex b o e)⟩
theorem Inv.bk (I : Inv X pins σ H s) : ∀ b o, X.base.get? b = some o -> s.heap.get? b = some o := fun b o e => (I.bs b o e).1
theorem Inv.mod (I : Inv X pins σ H s) : Mod X.K X.mg X.base := I.ok.mod
theorem Inv.kIn (I : Inv X pins σ H s) : X.K.In s.heap := I.ok.mod.kin.keeps I.bk
theorem Inv.lt (I : Inv X pins σ H s) : X.env.locals < s.heap.objs.size := let ⟨_, hn, _⟩ := I.loc; hn.lt
theorem Inv.sz (I : Inv X pins σ H s) : X.s₀.heap.objs.size <= s.heap.objs.size := Nat.le_trans I.ok.above (Nat.le_of_lt I.lt)
theorem Inv.nofs (I : Inv X pins σ H s) {a : Addr} (h : s.heap.objs.size <= a) : a ∉ X.fs := fun hb => by
  obtain ⟨_, o, ho, _⟩ := I.ok.funs.mem hb
  exact absurd (Nat.lt_of_lt_of_le (Heap.lt_size ho) (Nat.le_trans I.sz h)) (Nat.lt_irrefl _)
theorem Inv.cne (I : Inv X pins σ H s) : ∀ x c, X.env.cells.lookup x = some c -> c ≠ X.env.locals := fun x c e z => by
  obtain ⟨v, o, ho, hd⟩ := I.cell x c e
  obtain ⟨m, ⟨o', es, ep, ho', hd', _⟩, _⟩ := I.loc
  rw [z, ho'] at ho; cases ho; rw [hd'] at hd; cases hd
theorem Inv.funs (I : Inv X pins σ H s) : s.heap.FunFrames X.base X.outer := by
  have all : ∀ (l : List Env), (∀ b ∈ frs l, b ∈ X.fs) -> X.s₀.heap.FunFrames X.base l -> s.heap.FunFrames X.base l := by
    intro l
    induction l with
    | nil => intro _ _; trivial
    | cons env r ih =>
      intro hs hl
      obtain ⟨hk, ⟨L, o, hf, hn, ho, hd⟩, hr⟩ := hl
      have hL : L ∈ X.fs := hs L (by unfold frs; rw [List.filterMap_cons, hf]; exact List.mem_cons_self)
      obtain ⟨sl, e⟩ := I.base.slot L o ho (I.ok.frf L hL) hL fun z => I.ok.exfs L z hL
      exact ⟨hk, ⟨L, _, hf, hn, e, hd⟩, ih (fun b hb => hs b (by unfold frs; rw [List.filterMap_cons, hf]; exact List.mem_cons_of_mem _ hb)) hr⟩
  exact all X.outer (fun _ hb => hb) I.ok.funs
theorem Inv.stack (I : Inv X pins σ H s) : s.heap.FunFrames X.base X.stack := by
  rcases I.ok.stk with e | ⟨e, hf⟩
  . rw [e]; exact I.funs
  . rw [e]
    obtain ⟨m, hn, _⟩ := I.loc
    refine .cons (by rw [I.ok.kind]; decide) hf hn ?_ I.funs
    exact Heap.get?_none_of_le (Nat.le_trans I.ok.bsz I.ok.above)
theorem Inv.stkSub (I : Inv X pins σ H s) : ∀ b ∈ frs X.stack, b ∈ X.env.locals :: X.fs := fun b hb => by
  rcases I.ok.stk with e | ⟨e, hf⟩
  . rw [e] at hb; exact List.mem_cons_of_mem _ hb
  . rw [e] at hb
    unfold frs at hb
    rw [List.filterMap_cons, hf] at hb
    exact hb
theorem Inv.stkFree (I : Inv X pins σ H s) : ∀ b ∈ frs X.stack, H b = none := fun b hb => by
  rcases List.mem_cons.mp (I.stkSub b hb) with e | hb
  . rw [e]; exact I.free
  . obtain ⟨_, o, ho, _⟩ := I.ok.funs.mem hb
    exact I.base.free b o ho (I.ok.frf b hb) fun z => I.ok.exfs b z hb
theorem Inv.step {g' : Array GenState} {t' : Nat} {d' : Drawn} {ch : List Addr} (I : Inv X pins σ H s)
    (hch : ∀ b ∈ ch, (b ∈ X.ex \/ X.s₀.heap.objs.size <= b) /\ b ≠ X.env.locals /\ (∀ x c, X.env.cells.lookup x = some c -> c ≠ b) /\ ∀ p ∈ X.pn ++ pins, p.1 ≠ b)
    (keep : ∀ b o, b ≠ X.env.locals -> b ∉ X.fs -> b ∉ ch -> s.heap.get? b = some o -> H b = none -> h'.get? b = some o)
    (slot : ∀ b o, b ≠ X.env.locals -> b ∈ X.fs -> b ∉ ch -> s.heap.get? b = some o -> H b = none -> ∃ sl, h'.get? b = some { o with slots := sl }) (free : ∀ b o, b ∉ ch -> s.heap.get? b = some o -> H b = none -> H' b = none)
    (there : ∀ b o, b ∉ ch -> s.heap.get? b = some o -> ∃ o', h'.get? b = some o')
    (tups : ∀ b xs, H b = some (.tup xs) -> H' b = some (.tup xs)) (frzs : ∀ b o u, H b = some (.frz o u) -> H' b = some (.frz o u)) (tbls : ∀ b ps, H b = some (.tbl ps) -> ∃ more, H' b = some (.tbl (ps ++ more)))
    (ns : ∀ m, s.heap.Ns X.env.locals m -> h'.Ns X.env.locals m) (hok : HOk X.prog X.w H' h') (hg : AllBare g') :
    Inv X pins σ H' { s with heap := h', gens := g', drawn := d', toks := t' } := by
  have neL : ∀ b o, X.s₀.heap.get? b = some o -> b ≠ X.env.locals := fun b o e => Nat.ne_of_lt (Nat.lt_of_lt_of_le (Heap.lt_size e) I.ok.above)
  have neC : ∀ b o, X.s₀.heap.get? b = some o -> b ∉ X.ex -> b ∉ ch := fun b o e hx hb => by
    rcases (hch b hb).1 with z | z
    . exact hx z
    . exact absurd (Nat.lt_of_lt_of_le (Heap.lt_size e) z) (Nat.lt_irrefl _)
  have cellK : ∀ x c, X.env.cells.lookup x = some c -> ∀ v, s.heap.IsCell c v -> h'.IsCell c v := fun x c e v ⟨o, ho, hd⟩ => by
    have nch : c ∉ ch := fun z => (hch c z).2.2.1 x c e rfl
    by_cases hc : c ∈ X.fs
    . obtain ⟨sl, q⟩ := slot c o (I.cne x c e) hc nch ho (I.freeC x c e)
      exact ⟨_, q, hd⟩
    . exact ⟨o, keep c o (I.cne x c e) hc nch ho (I.freeC x c e), hd⟩
  refine ⟨I.ok, I.os, hg, ⟨fun b o e n hb hx => ?_, fun b o e n hb hx => ?_, fun b o e n hx => ?_, fun b o e hx => ?_, fun b xs e => tups b xs (I.base.tups b xs e), fun b o xs e => frzs b o xs (I.base.frzs b o xs e), fun b ps e => ?_⟩, ?_, fun x c e => ?_, ?_, fun x c e => ?_, fun p hp => ?_, hok, I.len⟩
  . exact keep b o (neL b o e) hb (neC b o e hx) (I.base.keep b o e n hb hx) (I.base.free b o e n hx)
  . obtain ⟨sl, e1⟩ := I.base.slot b o e n hb hx
    obtain ⟨sl', e2⟩ := slot b _ (neL b o e) hb (neC b o e hx) e1 (I.base.free b o e n hx)
    exact ⟨sl', e2⟩
  . obtain ⟨o', e1⟩ := I.base.there b o e hx
    exact free b o' (neC b o e hx) e1 (I.base.free b o e n hx)
  . obtain ⟨o', e1⟩ := I.base.there b o e hx
    exact there b o' (neC b o e hx) e1
  . obtain ⟨m1, e1⟩ := I.base.tbls b ps e
    obtain ⟨m2, e2⟩ := tbls b _ e1
    exact ⟨m1 ++ m2, by rw [e2, Array.append_assoc]⟩
  . obtain ⟨m, hn, hl⟩ := I.loc
    refine ⟨m, ns m hn, fun i x v e1 e2 e3 => ?_⟩
    obtain ⟨u, r, l⟩ := hl i x v e1 e2 e3
    refine ⟨u, r, ?_⟩
    rcases l with l | ⟨k, c, e, z⟩
    . exact .inl l
    . exact .inr ⟨k, c, e, cellK x c e _ z⟩
  . obtain ⟨v, z⟩ := I.cell x c e
    exact ⟨v, cellK x c e v z⟩
  . obtain ⟨m, ⟨o, _, _, ho, _⟩, _⟩ := I.loc
    exact free _ o (fun z => (hch _ z).2.1 rfl) ho I.free
  . obtain ⟨v, o, ho, hd⟩ := I.cell x c e
    exact free c o (fun z => (hch c z).2.2.1 x c e rfl) ho (I.freeC x c e)
  . obtain ⟨e, n, ne, nf, d⟩ := I.pin p hp
    have nch : p.1 ∉ ch := fun z => (hch p.1 z).2.2.2 p hp rfl
    exact ⟨keep p.1 p.2 ne nf nch e n, free p.1 p.2 nch e n, ne, nf, d⟩
theorem Inv.un {t' : Nat} (I : Inv X pins σ H s) (u : Un X.fs [] H H' s.heap h') (hok : HOk X.prog X.w H' h') : Inv X pins σ H' { s with heap := h', toks := t' } := by
  obtain ⟨m, ⟨o, es, ep, ho, r⟩, _⟩ := id I.loc
  obtain ⟨sl, hL⟩ := u.any ho I.free (by simp)
  exact I.step (g' := s.gens) (d' := s.drawn) (ch := []) (fun _ z => nomatch z) (fun b o _ hb _ e n => u.keep b o e n hb (by simp)) (fun b o _ hb _ e n => u.slot b o e n hb (by simp)) (fun b o _ e n => u.free b o e n (by simp)) (fun b o _ e => u.there b o e (by simp)) u.tups u.frzs u.tbls (fun m' hm => by
    obtain ⟨o', es', ep', ho', r'⟩ := hm
    rw [ho] at ho'; cases ho'
    exact ⟨_, es', ep', hL, r'⟩) hok I.bare
theorem Inv.call {g' : Array GenState} {t' : Nat} {d' : Drawn} {ch : List Addr} (I : Inv X pins σ H s) (u : Un (frs X.stack) ch H H' s.heap h') (hok : HOk X.prog X.w H' h') (hg : AllBare g')
    (hch : ∀ b ∈ ch, (b ∈ X.ex \/ X.s₀.heap.objs.size <= b) /\ b ≠ X.env.locals /\ (∀ x c, X.env.cells.lookup x = some c -> c ≠ b) /\ ∀ p ∈ X.pn ++ pins, p.1 ≠ b) :
    Inv X pins σ H' { s with heap := h', gens := g', drawn := d', toks := t' } := by
  obtain ⟨m, ⟨o, es, ep, ho, r⟩, _⟩ := id I.loc
  obtain ⟨sl, hL⟩ := u.any ho I.free fun z => (hch _ z).2.1 rfl
  exact I.step (ch := ch) hch (fun b o hL hb hc e n => u.keep b o e n (fun z => (List.mem_cons.mp (I.stkSub b z)).elim hL hb) hc) (fun b o _ _ hc e n => u.any e n hc) (fun b o hc e n => u.free b o e n hc) (fun b o hc e => u.there b o e hc) u.tups u.frzs u.tbls (fun m' hm => by
    obtain ⟨o', es', ep', ho', r'⟩ := hm
    rw [ho] at ho'; cases ho'
    exact ⟨_, es', ep', hL, r'⟩) hok hg
theorem Inv.turned {t' : Nat} {it : Addr} (I : Inv X pins σ H s) (k : ∀ b o, b ≠ it -> s.heap.get? b = some o -> h'.get? b = some o) (hn : H it = none) (hL : it ≠ X.env.locals)
    (h1 : it ∈ X.ex \/ X.s₀.heap.objs.size <= it) (h2 : ∀ x c, X.env.cells.lookup x = some c -> c ≠ it) (h3 : ∀ p ∈ X.pn ++ pins, p.1 ≠ it) : Inv X pins σ H { s with heap := h', toks := t' } := by
  have nit : ∀ b u, H b = some u -> b ≠ it := fun b u e z => by rw [z, hn] at e; cases e
  refine I.step (g' := s.gens) (d' := s.drawn) (ch := [it]) (fun b hb => ?_) (fun b o _ _ hc e _ => k b o (fun z => hc (by simp [z])) e) (fun b o _ _ hc e _ => ⟨o.slots, k b o (fun z => hc (by simp [z])) e⟩) (fun _ _ _ _ n => n)
    (fun b o hc e => ⟨o, k b o (fun z => hc (by simp [z])) e⟩) (fun _ _ e => e) (fun _ _ _ e => e) (fun b ps e => ⟨#[], by rw [e]; simp⟩) (fun m hm => ?_) (fun b u e => ?_) I.bare
  . have e : b = it := by simpa using hb
    subst e
    exact ⟨h1, hL, h2, h3⟩
  . obtain ⟨o, es, ep, ho, r⟩ := hm
    exact ⟨o, es, ep, k _ o (Ne.symm hL) ho, r⟩
  . refine (I.hok b u e).stay (fun c v hc q => k c v ?_ q) (fun _ q => q) fun _ _ q => q
    rcases hc with z | z
    . rw [z]; exact nit b u e
    . exact nit c _ z
theorem Inv.tok (I : Inv X pins σ H s) (t : Nat) : Inv X pins σ H { s with toks := t } := I.un (h' := s.heap) (t' := t) Un.refl I.hok
theorem Inv.kept {t' : Nat} (I : Inv X pins σ H s) (k : ∀ b u, s.heap.get? b = some u -> h'.get? b = some u) : Inv X pins σ H { s with heap := h', toks := t' } := I.un (Un.kept k) (I.hok.kept k)
theorem Inv.laid {a : Addr} {o : HO} {t' : Nat} (I : Inv X pins σ H s) (k : ∀ b u, s.heap.get? b = some u -> h'.get? b = some u) (hp : s.heap.objs.size <= a) (new : ObjOk X.prog X.w (upd H a o) h' a o) :
    Inv X pins σ (upd H a o) { s with heap := h', toks := t' } := I.un (Un.laid k hp (I.hok.fresh hp)) (I.hok.laid k hp new)
theorem Inv.write {x e : Addr} {o : HO} {t' : Nat} (I : Inv X pins σ H s) (mu : Mut (H x)) (he : e = x \/ H e = some (.own x)) (k : ∀ b u, b ≠ e -> s.heap.get? b = some u -> h'.get? b = some u) (heo : ∃ u, h'.get? e = some u)
    (new : ObjOk X.prog X.w (upd H x o) h' x o) : Inv X pins σ (upd H x o) { s with heap := h', toks := t' } := I.un (Un.write mu he k heo) (I.hok.write mu he k heo new)
theorem Inv.pins_of {pins' : List (Addr × Obj)} (I : Inv X pins σ H s) (h : ∀ p ∈ pins', s.heap.get? p.1 = some p.2 /\ H p.1 = none /\ p.1 ≠ X.env.locals /\ p.1 ∉ X.fs /\ ∀ v, p.2.data ≠ .cell v) : Inv X pins' σ H s :=
  ⟨I.ok, I.os, I.bare, I.base, I.loc, I.cell, I.free, I.freeC, fun p hp => (List.mem_append.mp hp).elim (fun z => I.pin p (List.mem_append_left _ z)) (h p), I.hok, I.len⟩
theorem kGq {N : List Str} (hN : N.Nodup) {i j : Nat} {x : Str} (a : N[i]? = some x) (b : N[j]? = some x) : i = j := by
  obtain ⟨h1, e1⟩ := List.getElem?_eq_some_iff.mp a
  obtain ⟨h2, e2⟩ := List.getElem?_eq_some_iff.mp b
  exact (List.getElem_inj hN).mp (e1.trans e2.symm)
theorem gRq {M : Model} {A : Around} {E : Value -> Shared -> Prop} {i : Nat} {x : Str} {v : V} {u : Value} {Q : Unit -> Shared -> Prop} (I : Inv X pins σ H s) (hN : X.N.Nodup) (hi : X.N[i]? = some x) (hx : Loc X.env.scope x) (r : RelV v u)
    (h : ∀ s', Inv X pins (σ.set i (some v)) H s' -> (∃ a, Heap.SameBut a s.heap s'.heap /\ (a = X.env.locals \/ X.env.cells.lookup x = some a)) -> Q () s') (hf : X.fn x = true \/ X.env.scope.names.lookup x = some .local := by first | exact .inl rfl | exact .inr rfl | assumption) : wpAny M A (storeName X.env x u) Q E s := by
  obtain ⟨m, hn, hl⟩ := id I.loc
  have hcls : (X.env.scope.kind == .class || (X.env.scope.kind == .module && X.env.locals != X.env.globals)) = false := by rw [I.ok.kind]; rfl
  have hiσ : i < σ.length := by rw [I.len]; exact (List.getElem?_eq_some_iff.mp hi).1
  have cne := I.cne
  have tracked : ∀ {a : Addr} {h' : Heap}, (∃ o, s.heap.get? a = some o /\ H a = none) -> Heap.SameBut a s.heap h' -> HOk X.prog X.w H h' := fun {a h'} ha hs b ob e => by
    obtain ⟨_, _, hfree⟩ := ha
    refine (I.hok b ob e).stay (fun c w' hc q => (hs.2 c ?_).trans q) (fun _ q => q) fun _ _ q => q
    rintro rfl
    rcases hc with rfl | hc
    . rw [hfree] at e; cases e
    . rw [hfree] at hc; cases hc
  rcases hx with hk | hk
  . refine wpAny_storeName_local hk hn (fun h' hn' hs => ?_) hcls
    obtain ⟨oL, _, _, hoL, _⟩ := id hn
    refine h _ ⟨I.ok, I.os, I.bare, ⟨fun b o e n hb hx => ?_, fun b o e n hb hx => ?_, I.base.free, fun b o e hx => ?_, I.base.tups, I.base.frzs, I.base.tbls⟩, ⟨_, hn', fun j y v' e1 e2 e3 => ?_⟩, fun y c e => ?_, I.free, I.freeC, fun p hp => ?_, tracked ⟨oL, hoL, I.free⟩ hs, by simpa using I.len⟩ ⟨_, hs, .inl rfl⟩
    . exact (hs.2 b (Nat.ne_of_lt (Nat.lt_of_lt_of_le (Heap.lt_size e) I.ok.above))).trans (I.base.keep b o e n hb hx)
    . obtain ⟨sl, e1⟩ := I.base.slot b o e n hb hx
      exact ⟨sl, (hs.2 b (Nat.ne_of_lt (Nat.lt_of_lt_of_le (Heap.lt_size e) I.ok.above))).trans e1⟩
    . obtain ⟨o', e1⟩ := I.base.there b o e hx
      exact ⟨o', (hs.2 b (Nat.ne_of_lt (Nat.lt_of_lt_of_le (Heap.lt_size e) I.ok.above))).trans e1⟩
    . by_cases hj : j = i
      . subst hj
        rw [hi] at e1; cases e1
        rw [List.getElem?_set_self hiσ] at e2
        cases e2
        exact ⟨u, r, .inl ⟨hk, by simp⟩⟩
      . rw [List.getElem?_set_ne (Ne.symm hj)] at e2
        obtain ⟨u', r', q⟩ := hl j y v' e1 e2 e3
        refine ⟨u', r', ?_⟩
        rcases q with ⟨k, e⟩ | ⟨k, c, e, z⟩
        . refine .inl ⟨k, ?_⟩
          have : y ≠ x := fun e => hj (kGq hN e1 (e ▸ hi))
          simp [this, e]
        . exact .inr ⟨k, c, e, z.sameBut hs (cne y c e)⟩
    . obtain ⟨w', z⟩ := I.cell y c e
      exact ⟨w', z.sameBut hs (cne y c e)⟩
    . obtain ⟨e, n, ne, nf, d⟩ := I.pin p hp
      exact ⟨(hs.2 p.1 ne).trans e, n, ne, nf, d⟩
  . have hfn : X.fn x = true := by
      rcases hf with z | z
      . exact z
      . rw [z] at hk; cases hk
    obtain ⟨c, hc⟩ := I.ok.has x (.inl hk)
    obtain ⟨w', z⟩ := I.cell x c hc
    refine wpAny_storeName_cell I.ok.kind hk hc z (fun h' hc' hs => ?_)
    obtain ⟨oc, hoc, hocd⟩ := id z
    refine h { s with heap := h' } ⟨I.ok, I.os, I.bare, ⟨fun b o e n hb hx => ?_, fun b o e n hb hx => ?_, I.base.free, fun b o e hx => ?_, I.base.tups, I.base.frzs, I.base.tbls⟩, ⟨m, hn.sameBut hs (Ne.symm (cne x c hc)), fun j y v' e1 e2 e3 => ?_⟩, fun y c' e => ?_, I.free, I.freeC, fun p hp => ?_, tracked ⟨oc, hoc, I.freeC x c hc⟩ hs, by simpa using I.len⟩ ⟨c, hs, .inr hc⟩
    . exact (hs.2 b (Nat.ne_of_lt (Nat.lt_of_lt_of_le (Heap.lt_size e) (I.ok.cab x c hfn hc)))).trans (I.base.keep b o e n hb hx)
    . obtain ⟨sl, e1⟩ := I.base.slot b o e n hb hx
      exact ⟨sl, (hs.2 b (Nat.ne_of_lt (Nat.lt_of_lt_of_le (Heap.lt_size e) (I.ok.cab x c hfn hc)))).trans e1⟩
    . obtain ⟨o', e1⟩ := I.base.there b o e hx
      exact ⟨o', (hs.2 b (Nat.ne_of_lt (Nat.lt_of_lt_of_le (Heap.lt_size e) (I.ok.cab x c hfn hc)))).trans e1⟩
    . by_cases hj : j = i
      . subst hj
        rw [hi] at e1; cases e1
        rw [List.getElem?_set_self hiσ] at e2
        cases e2
        exact ⟨u, r, .inr ⟨.inl hk, c, hc, hc'⟩⟩
      . rw [List.getElem?_set_ne (Ne.symm hj)] at e2
        obtain ⟨u', r', q⟩ := hl j y v' e1 e2 e3
        refine ⟨u', r', ?_⟩
        rcases q with q | ⟨k, c', e, z'⟩
        . exact .inl q
        . refine .inr ⟨k, c', e, z'.sameBut hs ?_⟩
          rintro rfl
          exact hj (kGq hN e1 (I.ok.inj _ _ _ e hc ▸ hi))
    . by_cases hcc : c' = c
      . subst hcc; exact ⟨_, hc'⟩
      . obtain ⟨w2, z2⟩ := I.cell y c' e
        exact ⟨w2, z2.sameBut hs hcc⟩
    . obtain ⟨e, n, ne, nf, d⟩ := I.pin p hp
      refine ⟨(hs.2 p.1 ?_).trans e, n, ne, nf, d⟩
      intro q
      rw [q, hoc] at e
      have q' : oc = p.2 := Option.some.inj e
      exact d w' (by rw [<- q']; exact hocd)
theorem fSq {M : Model} {A : Around} {E : Value -> Shared -> Prop} {i : Nat} {x : Str} {v : V} {u : Value} {Q : Unit -> Shared -> Prop} (I : Inv X pins σ H s) (hN : X.N.Nodup) (hi : X.N[i]? = some x) (hx : Loc X.env.scope x) (r : RelV v u)
    (h : ∀ s', Inv X pins (σ.set i (some v)) H s' -> Q () s') (hf : X.fn x = true \/ X.env.scope.names.lookup x = some .local := by first | exact .inl rfl | exact .inr rfl | assumption) : wpAny M A (storeName X.env x u) Q E s :=
  gRq I hN hi hx r (fun s' I' _ => h s' I') hf
theorem Inv.call' {s' : Shared} {ch : List Addr} (I : Inv X pins σ H s) (ho : s'.os = s.os) (u : Un (frs X.stack) ch H H' s.heap s'.heap) (hok : HOk X.prog X.w H' s'.heap) (hg : AllBare s'.gens)
    (hch : ∀ b ∈ ch, (b ∈ X.ex \/ X.s₀.heap.objs.size <= b) /\ b ≠ X.env.locals /\ (∀ x c, X.env.cells.lookup x = some c -> c ≠ b) /\ ∀ p ∈ X.pn ++ pins, p.1 ≠ b) : Inv X pins σ H' s' := by
  obtain ⟨h', g', d', t', o'⟩ := s'
  have e : o' = s.os := ho
  subst e
  exact I.call (g' := g') (t' := t') (d' := d') u hok hg hch
end
abbrev XK := Value -> Option Addr -> Hp -> Prop
abbrev St := List (Option V)
abbrev VK := V -> Hp -> Prop
abbrev TE := St -> Hp -> VK -> Prop
abbrev TT := St -> Hp -> (Bool -> Hp -> Prop) -> Prop
abbrev TA := St -> Hp -> (List V -> Hp -> Prop) -> Prop
structure Ends where
  nx : St -> Hp -> Prop
  rt : VK
  bk : St -> Hp -> Prop := fun _ _ => False
  ct : St -> Hp -> Prop := fun _ _ => False
abbrev TS := Ends -> St -> Hp -> Prop
def EP (X : Cx) (pins : List (Addr × Obj)) (σ : St) (Q : VK) (u : Value) (s' : Shared) : Prop := ∃ v H', Inv X pins σ H' s' /\ RelV v u /\ Q v H'
def TP (X : Cx) (pins : List (Addr × Obj)) (σ : St) (Q : Bool -> Hp -> Prop) (b : Bool) (s' : Shared) : Prop := ∃ H', Inv X pins σ H' s' /\ Q b H'
def AP (X : Cx) (pins : List (Addr × Obj)) (σ : St) (Q : List V -> Hp -> Prop) (us : List Value) (s' : Shared) : Prop := ∃ vs H', Inv X pins σ H' s' /\ Vals vs us /\ Q vs H'
def SP (X : Cx) (pins : List (Addr × Obj)) (D : Ends) (f : Flow) (s' : Shared) : Prop :=
  match f with
  | .next => ∃ σ' H', Inv X pins σ' H' s' /\ D.nx σ' H'
  | .brk => ∃ σ' H', Inv X pins σ' H' s' /\ D.bk σ' H'
  | .cont => ∃ σ' H', Inv X pins σ' H' s' /\ D.ct σ' H'
  | .ret u => ∃ v σ' H', Inv X pins σ' H' s' /\ RelV v u /\ D.rt v H'
def PE (X : Cx) (e : Expr) (t : TE) : Prop :=
  ∀ (pins : List (Addr × Obj)) (s : Shared) (σ : St) (H : Hp) (Q : VK), Inv X pins σ H s -> t σ H Q -> wpAny (model X.prog X.w) X.A (eval e X.env) (EP X pins σ Q) X.xe s
def PT (X : Cx) (e : Expr) (t : TT) : Prop :=
  ∀ (pins : List (Addr × Obj)) (s : Shared) (σ : St) (H : Hp) (Q : Bool -> Hp -> Prop), Inv X pins σ H s -> t σ H Q -> wpAny (model X.prog X.w) X.A (isTrue e X.env (eval e X.env)) (TP X pins σ Q) X.xe s
def PW (X : Cx) (e : Expr) (t : TT) : Prop :=
  ∀ (whole : Sem Value) (pins : List (Addr × Obj)) (s : Shared) (σ : St) (H : Hp) (Q : Bool -> Hp -> Prop), Inv X pins σ H s -> t σ H Q -> wpAny (model X.prog X.w) X.A (isTrue e X.env whole) (TP X pins σ Q) X.xe s
theorem PW.pt {X : Cx} {e : Expr} {t : TT} (h : PW X e t) : PT X e t := h _
def PA (X : Cx) (es : List Expr) (t : TA) : Prop :=
  ∀ (pos : Pos) (pins : List (Addr × Obj)) (s : Shared) (σ : St) (H : Hp) (Q : List V -> Hp -> Prop), Inv X pins σ H s -> t σ H Q -> wpAny (model X.prog X.w) X.A (spliced (backTo pos (starEach es X.env))) (AP X pins σ Q) X.xe s
def PS (X : Cx) (st : Stmt) (t : TS) : Prop :=
  ∀ (pins : List (Addr × Obj)) (s : Shared) (σ : St) (H : Hp) (D : Ends), Inv X pins σ H s -> t D σ H -> wpAny (model X.prog X.w) X.A (exec st X.env) (SP X pins D) X.xe s
def PSs (X : Cx) (st : List Stmt) (t : TS) : Prop :=
  ∀ (pins : List (Addr × Obj)) (s : Shared) (σ : St) (H : Hp) (D : Ends), Inv X pins σ H s -> t D σ H -> wpAny (model X.prog X.w) X.A (execs st X.env) (SP X pins D) X.xe s
theorem thn {α : Type} {t : Sem α} {Q Q' : α -> Shared -> Prop} {M : Model} {A : Around} {E : Value -> Shared -> Prop} {s : Shared} (h : wpAny M A t Q E s) (hQ : ∀ a s, Q a s -> Q' a s) : wpAny M A t Q' E s := wpAny_mono h hQ fun _ _ x => x
section
variable {X : Cx}
theorem bin {a b : Expr} {ta tb : TE} (ha : PE X a ta) (hb : PE X b tb) {pins : List (Addr × Obj)} {s : Shared} {σ : St} {H : Hp} {R : V -> V -> Hp -> Prop} (I : Inv X pins σ H s) (h : ta σ H fun x H1 => tb σ H1 fun y H2 => R x y H2)
    {α : Type} {Q : α -> Shared -> Prop} {f : Value -> Value -> Sem α}
    (hf : ∀ v u s2 x y H2, Inv X pins σ H2 s2 -> RelV x v -> RelV y u -> R x y H2 -> wpAny (model X.prog X.w) X.A (f v u) Q X.xe s2) :
    wpAny (model X.prog X.w) X.A (eval a X.env) (fun v s₁ => wpAny (model X.prog X.w) X.A (eval b X.env) (fun u s₂ => wpAny (model X.prog X.w) X.A (f v u) Q X.xe s₂) X.xe s₁) X.xe s := by
  refine thn (ha pins s σ H _ I h) fun v s1 ⟨x, H1, I1, r1, q1⟩ => ?_
  refine thn (hb pins s1 σ H1 _ I1 q1) fun u s2 ⟨y, H2, I2, r2, q2⟩ => ?_
  exact hf v u s2 x y H2 I2 r1 r2 q2
def z9q (i : Nat) : TE := fun σ H Q => ∃ v, σ[i]? = some (some v) /\ Q v H
def tC (v : V) : TE := fun _ H Q => Q v H
theorem qJq {i : Nat} {x : Str} {pos : Pos} (hN : X.N[i]? = some x) (hv : Vis X.env.scope x) (hd : (x == ("__debug__" : Str)) = false := by decide) (hcd : (x == ("__classdict__" : Str)) = false := by decide) : PE X (.Name x pos) (z9q i) := by
  intro pins s σ H Q I h
  obtain ⟨v, e, h⟩ := h
  obtain ⟨m, hn, hl⟩ := I.loc
  obtain ⟨u, r, l⟩ := hl i x v hN e hv
  have fin : EP X pins σ Q u s := ⟨v, H, I, r, h⟩
  rcases l with ⟨hk, hm⟩ | ⟨hk, c, hc, hcell⟩
  . exact wpAny_Name (wpAny_loadName_local I.ok.kind hk hn hm fin) hd
  . rcases hk with hk | hk
    . exact wpAny_Name (wpAny_loadName_cell I.ok.kind hk hc hcell fin) hd
    . exact wpAny_Name (wpAny_loadName_free I.ok.kind hk hc hcell fin hcd) hd
theorem vOq {i j pos} : PE X (.Constant (.int i) j pos) (tC (.int i)) := fun _ _ _ H _ I h => wpAny_Constant_int ⟨.int i, H, I.tok _, ⟨_, rfl⟩, h⟩
theorem yQq {b j pos} : PE X (.Constant (.bool b) j pos) (tC (.bl b)) := fun _ _ _ H _ I h => Constant_bool ⟨.bl b, H, I, rfl, h⟩
theorem v0q {j pos} : PE X (.Constant .none j pos) (tC .non) := fun _ _ _ H _ I h => Constant_none ⟨.non, H, I, rfl, h⟩
theorem tWq {x j pos} : PE X (.Constant (.str x) j pos) (tC (.str x)) := fun _ _ _ H _ I h => Calls.Constant_str ⟨.str x, H, I.tok _, ⟨_, rfl⟩, h⟩
def Gl (X : Cx) (x : Str) : Prop := X.env.kindOf x = some .globalImplicit
theorem hSq {E : Value -> Shared -> Prop} {pins : List (Addr × Obj)} {s : Shared} {σ : St} {H : Hp} {x : Str} {u : Value} {pos : Pos} {Q : Value -> Shared -> Prop} (I : Inv X pins σ H s) (hg : Gl X x) (hm : X.mg x = some u) (h : Q u s)
    (hd : (x == ("__debug__" : Str)) = false := by decide) : wpAny (model X.prog X.w) X.A (eval (.Name x pos) X.env) Q E s :=
  Calls.Name_function_global I.ok.kind hg (Calls.loadGlobal_global (by rw [I.ok.glob]; exact I.mod.glob.keeps I.bk) hm h) hd
theorem fKq {E : Value -> Shared -> Prop} {pins : List (Addr × Obj)} {s : Shared} {σ : St} {H : Hp} {x : Str} {u : Value} {pos : Pos} {Q : Value -> Shared -> Prop} (I : Inv X pins σ H s) (hg : Gl X x) (hm : X.mg x = none) (hv : bootBuiltins x = some u) (h : Q u s)
    (hn : x ≠ "__name__" := by decide) (hd : (x == ("__debug__" : Str)) = false := by decide) : wpAny (model X.prog X.w) X.A (eval (.Name x pos) X.env) Q E s := by
  obtain ⟨mb, h1, h2⟩ := I.mod.blt
  exact Calls.Name_function_global I.ok.kind hg (Calls.loadGlobal_builtin (by rw [I.ok.glob]; exact I.mod.glob.keeps I.bk) hm (by rw [I.ok.blt]; exact h1.keeps I.bk) ((h2 x hn).trans hv) h) hd
theorem jWq {x : Str} {v : V} {u : Value} {pos : Pos} (hg : Gl X x) (hm : X.mg x = some u) (r : RelV v u) (hd : (x == ("__debug__" : Str)) = false := by decide) : PE X (.Name x pos) (tC v) :=
  fun _ _ _ H _ I h => hSq I hg hm ⟨v, H, I, r, h⟩ hd
theorem rGq {x : Str} {v : V} {u : Value} {pos : Pos} (hg : Gl X x) (hm : X.mg x = none) (hv : bootBuiltins x = some u) (r : RelV v u) (hn : x ≠ "__name__" := by decide) (hd : (x == ("__debug__" : Str)) = false := by decide) : PE X (.Name x pos) (tC v) :=
  fun _ _ _ H _ I h => fKq I hg hm hv ⟨v, H, I, r, h⟩ hn hd
variable {a b : Expr} {ta tb : TE} {pos : Pos}
variable {tA tB' : TT} {rest : List Expr}
def tOr (t u : TT) : TT := fun σ H Q => t σ H fun c H1 => if c = true then Q true H1 else u σ H1 Q
def yZq (t : TT) : TT := fun σ H Q => t σ H fun c H1 => Q (!c) H1
theorem tXq (ha : PT X a tA) : PW X (.BoolOp .Or [a] pos) tA := by
  intro wh pins s σ H Q I h
  refine isTrue_or (thn (ha pins s σ H Q I h) fun c s1 e => ?_)
  cases c with
  | false => exact isTrue_or_nil e
  | true => exact e
theorem y1q (ha : PT X a tA) (hb : PW X (.BoolOp .Or (b :: rest) pos) tB') : PW X (.BoolOp .Or (a :: b :: rest) pos) (tOr tA tB') := by
  intro wh pins s σ H Q I h
  refine isTrue_or (thn (ha pins s σ H _ I h) fun c s1 ⟨H1, I1, q1⟩ => ?_)
  cases c with
  | true => exact ⟨H1, I1, q1⟩
  | false => exact hb wh pins s1 σ H1 Q I1 q1
theorem w2q (ha : PT X a tA) : PT X (.UnaryOp .Not a pos) (yZq tA) := by
  intro pins s σ H Q I h
  exact isTrue_not (ha pins s σ H (fun c H1 => Q (!c) H1) I h)
def tRq (ta tb : TE) : TE := fun σ H Q => ta σ H fun x H1 => ∃ c, x = .bl c /\ if c = true then tb σ H1 Q else Q (.bl false) H1
def uKq (ta : TE) : TE := fun σ H Q => ta σ H fun x H1 => ∃ c, x = .bl c /\ Q (.bl (!c)) H1
theorem u6q {op} {t : TE} (h : PE X a t) : PE X (.BoolOp op [a] pos) t := fun pins s σ H Q I hw => BoolOp_one (h pins s σ H Q I hw)
theorem tIq (ha : PE X a ta) (hb : PE X (.BoolOp .And (b :: rest) pos) tb) : PE X (.BoolOp .And (a :: b :: rest) pos) (tRq ta tb) := by
  intro pins s σ H Q I h
  refine BoolOp_and (thn (ha pins s σ H _ I h) fun v s1 ⟨x, H1, I1, r1, q1⟩ => ?_)
  obtain ⟨c, rfl, q1⟩ := q1
  cases r1
  refine wpAny_truthy_bool ?_
  cases c with
  | true => exact hb pins s1 σ H1 Q I1 q1
  | false => exact ⟨.bl false, H1, I1, rfl, q1⟩
theorem uGq (ha : PE X a ta) : PE X (.UnaryOp .Not a pos) (uKq ta) := by
  intro pins s σ H Q I h
  refine UnaryOp_ (thn (ha pins s σ H _ I h) fun v s1 ⟨x, H1, I1, r1, q1⟩ => ?_)
  obtain ⟨c, rfl, q1⟩ := q1
  cases r1
  exact not_of (wpAny_truthy_bool ⟨.bl (!c), H1, I1, rfl, q1⟩)
def tIf (t : TT) (ta tb : TE) : TE := fun σ H Q => t σ H fun c H1 => if c = true then ta σ H1 Q else tb σ H1 Q
theorem p5q {c : Expr} (hc : PT X c tA) (ha : PE X a ta) (hb : PE X b tb) : PE X (.IfExp c a b pos) (tIf tA ta tb) := by
  intro pins s σ H Q I h
  refine wpAny_IfExp (thn (hc pins s σ H _ I h) fun d s1 ⟨H1, I1, q1⟩ => ?_)
  cases d with
  | true => exact ha pins s1 σ H1 Q I1 q1
  | false => exact hb pins s1 σ H1 Q I1 q1
end
def SqL (K : PySem.W.Frag) (H : Hp) (a : Addr) (xs : List V) : Prop :=
  Rd H a (.lst xs) ∨
    ∃ (o : Obj) (its : Array Value) (n : Nat), K.lookup a = some o /\ o.cls = .type "list" /\ o.dict = none /\ o.data = .seq its n /\ its.size <= sizeLine /\ Vals xs its.toList
def SqT (K : PySem.W.Frag) (H : Hp) (a : Addr) (xs : List V) : Prop :=
  Rd H a (.tup xs) ∨
    ∃ (o : Obj) (its : Array Value) (n : Nat), K.lookup a = some o /\ o.cls = .type "tuple" /\ o.data = .seq its n /\ its.size <= sizeLine /\ Vals xs its.toList
def absV : Value -> Option V
  | .none => some .non
  | .bool b => some (.bl b)
  | .int i _ => some (.int i)
  | .str x _ => some (.str x)
  | .bytes b _ => some (.byt b)
  | .float b _ => some (.flt b)
  | .ref a => some (.ref a)
  | .type n => some (.ty n)
  | _ => none
theorem RelV.abs {x : V} {u : Value} (r : RelV x u) : absV u = some x := by
  cases x with
  | non => cases r; rfl
  | bl _ => cases r; rfl
  | int _ => obtain ⟨t, rfl⟩ := r; rfl
  | str _ => obtain ⟨t, rfl⟩ := r; rfl
  | byt _ => obtain ⟨t, rfl⟩ := r; rfl
  | flt _ => obtain ⟨t, rfl⟩ := r; rfl
  | ref _ => cases r; rfl
  | ty _ => cases r; rfl
theorem RelV.inj {x y : V} {u : Value} (r : RelV x u) (q : RelV y u) : x = y := Option.some.inj (r.abs.symm.trans q.abs)
theorem Vals.inj : ∀ {xs ys : List V} {us : List Value}, Vals xs us -> Vals ys us -> xs = ys
  | _, _, _, .nil, .nil => rfl
  | _, _, _, .cons r t, .cons r' t' => by rw [r.inj r', Vals.inj t t']
section
variable {X : Cx} {pins : List (Addr × Obj)} {σ : St} {H : Hp} {s : Shared} {a : Addr} {xs ys : List V}
theorem SqL.of {K : PySem.W.Frag} (h : H a = some (.lst xs)) : SqL K H a xs := .inl (.inl h)
theorem SqT.of {K : PySem.W.Frag} (h : H a = some (.tup xs)) : SqT K H a xs := .inl (.inl h)
theorem Inv.list (I : Inv X pins σ H s) (h : SqL X.K H a xs) : ∃ its : List Value, Vals xs its /\ PlainL s.heap a its.toArray /\ xs.length <= sizeLine := by
  rcases h with h | ⟨o, its, n, hk, hc, hd, hs, hz, r⟩
  . obtain ⟨z, its, n, r, e⟩ := h.ok I.hok
    exact ⟨its, r, ⟨_, n, e, rfl, rfl, rfl⟩, z⟩
  . refine ⟨its.toList, r, ⟨o, n, I.kIn a o hk, hc, hd, by simpa using hs⟩, ?_⟩
    have e := r.length
    simp only [Array.length_toList] at e
    omega
theorem Inv.tuple (I : Inv X pins σ H s) (h : SqT X.K H a xs) : ∃ its : List Value, Vals xs its /\ IsTup s.heap a its.toArray /\ xs.length <= sizeLine := by
  rcases h with h | ⟨o, its, n, hk, hc, hs, hz, r⟩
  . obtain ⟨z, its, r, p⟩ := h.ok I.hok
    exact ⟨its, r, p, z⟩
  . refine ⟨its.toList, r, ⟨o, I.kIn a o hk, hc, n, by simpa using hs⟩, ?_⟩
    have e := r.length
    simp only [Array.length_toList] at e
    omega
theorem Inv.list_inj (I : Inv X pins σ H s) (h : SqL X.K H a xs) (h' : SqL X.K H a ys) : xs = ys := by
  obtain ⟨its, r, ⟨o, n, e, _, _, d⟩, _⟩ := I.list h
  obtain ⟨its', r', ⟨o', n', e', _, _, d'⟩, _⟩ := I.list h'
  rw [e] at e'; cases e'
  rw [d] at d'
  injection d' with d1 _
  have : its = its' := by simpa using congrArg Array.toList d1
  subst this
  exact r.inj r'
theorem Inv.tuple_inj (I : Inv X pins σ H s) (h : SqT X.K H a xs) (h' : SqT X.K H a ys) : xs = ys := by
  obtain ⟨its, r, ⟨o, e, _, n, d⟩, _⟩ := I.tuple h
  obtain ⟨its', r', ⟨o', e', _, n', d'⟩, _⟩ := I.tuple h'
  rw [e] at e'; cases e'
  rw [d] at d'
  injection d' with d1 _
  have : its = its' := by simpa using congrArg Array.toList d1
  subst this
  exact r.inj r'
end
abbrev Cx.wish (X : Cx) (E : Value -> Shared -> Prop) : Cx := { X with xe := E }
abbrev Cx.nox (X : Cx) : Cx := X.wish fun _ _ => False
theorem Cx.Ok.wish {X : Cx} (ok : X.Ok) (E : Value -> Shared -> Prop) : (X.wish E).Ok :=
  ⟨ok.mod, ok.kind, ok.glob, ok.blt, ok.above, ok.inj, ok.has, ok.cab, ok.hd, ok.frames, ok.stk, ok.exf, ok.bs, ok.bsz, ok.noex, ok.exfs, ok.funs, ok.frf⟩
theorem Cx.Ok.unwish {X : Cx} {E : Value -> Shared -> Prop} (ok : (X.wish E).Ok) : X.Ok :=
  ⟨ok.mod, ok.kind, ok.glob, ok.blt, ok.above, ok.inj, ok.has, ok.cab, ok.hd, ok.frames, ok.stk, ok.exf, ok.bs, ok.bsz, ok.noex, ok.exfs, ok.funs, ok.frf⟩
section
variable {X : Cx} {pins : List (Addr × Obj)} {σ : St} {H : Hp} {s : Shared} {E : Value -> Shared -> Prop}
theorem Inv.wish (I : Inv X pins σ H s) (E : Value -> Shared -> Prop) : Inv (X.wish E) pins σ H s := ⟨I.ok.wish E, I.os, I.bare, I.base, I.loc, I.cell, I.free, I.freeC, I.pin, I.hok, I.len⟩
theorem Inv.unwish (I : Inv (X.wish E) pins σ H s) : Inv X pins σ H s := ⟨I.ok.unwish, I.os, I.bare, I.base, I.loc, I.cell, I.free, I.freeC, I.pin, I.hok, I.len⟩
theorem SP.unwish {D : Ends} {f : Flow} {s' : Shared} (h : SP (X.wish E) pins D f s') : SP X pins D f s' := by
  cases f with
  | next => obtain ⟨σ', H', I, q⟩ := h; exact ⟨σ', H', I.unwish, q⟩
  | brk => obtain ⟨σ', H', I, q⟩ := h; exact ⟨σ', H', I.unwish, q⟩
  | cont => obtain ⟨σ', H', I, q⟩ := h; exact ⟨σ', H', I.unwish, q⟩
  | ret u => obtain ⟨v, σ', H', I, r, q⟩ := h; exact ⟨v, σ', H', I.unwish, r, q⟩
theorem PSs.nox {st : List Stmt} {t : TS} (h : PSs X.nox st t) : PSs X st t := fun pins s σ H D I hw =>
  wpAny_mono (h pins s σ H D (I.wish _) hw) (fun _ _ q => q.unwish) fun _ _ z => False.elim z
end
section
variable {X : Cx} {st : Stmt} {rest : List Stmt} {t u : TS} {e : Expr} {te : TE} {pos : Pos}
def wKq : TS := fun D σ H => D.nx σ H
def zCq (t u : TS) : TS := fun D σ H => t { D with nx := u D } σ H
theorem rWq : PSs X [] wKq := fun _ _ σ H _ I h => wpAny_execs_nil ⟨σ, H, I, h⟩
theorem p2q (h1 : PS X st t) (h2 : PSs X rest u) : PSs X (st :: rest) (zCq t u) := by
  intro pins s σ H D I h
  refine wpAny_execs_cons (thn (h1 pins s σ H { D with nx := u D } I h) fun f s1 q => ?_)
  cases f with
  | next =>
    obtain ⟨σ', H', I', q⟩ := q
    exact h2 pins s1 σ' H' D I' q
  | ret v => exact q
  | brk => exact q
  | cont => exact q
theorem sZq (h1 : PS X st t) : PSs X [st] t := by
  intro pins s σ H D I h
  refine wpAny_execs_cons (thn (h1 pins s σ H D I h) fun f s1 q => ?_)
  cases f with
  | next => exact wpAny_execs_nil q
  | ret v => exact q
  | brk => exact q
  | cont => exact q
theorem Inv.quiet {pins : List (Addr × Obj)} {σ : St} {H : Hp} {s : Shared} (I : Inv X pins σ H s) : interactive X.env = false := by simp [interactive, I.ok.kind]
def u3q (te : TE) : TS := fun D σ H => te σ H fun _ H1 => D.nx σ H1
theorem rMq (he : PE X e te) (hs : swapsWith e none pos.line X.env = pure false := by rfl) : PS X (.Expr e pos) (u3q te) := by
  intro pins s σ H D I h
  exact wpAny_Expr_any (thn (he pins s σ H _ I h) fun v s1 ⟨x, H1, I1, r1, q1⟩ => ⟨σ, H1, I1, q1⟩) I.quiet hs
def zBq (te : TE) : TS := fun D σ H => te σ H D.rt
theorem u7q (he : PE X e te) : PS X (.Return (some e) pos) (zBq te) := by
  intro pins s σ H D I h
  exact wpAny_Return_some (thn (he pins s σ H _ I h) fun v s1 ⟨x, H1, I1, r1, q1⟩ => ⟨x, σ, H1, I1, r1, q1⟩)
def zMq (c : TT) (t u : TS) : TS := fun D σ H => c σ H fun b H1 => if b = true then t D σ H1 else u D σ H1
theorem x5q {c : Expr} {a b : List Stmt} {tc : TT} (hc : PT X c tc) (ha : PSs X a t) (hb : PSs X b u) : PS X (.If c a b pos) (zMq tc t u) := by
  intro pins s σ H D I h
  refine wpAny_If (thn (hc pins s σ H _ I h) fun d s1 ⟨H1, I1, q1⟩ => ?_)
  cases d with
  | true => exact ha pins s1 σ H1 D I1 q1
  | false => exact hb pins s1 σ H1 D I1 q1
end
abbrev TG := V -> St -> Hp -> (St -> Hp -> Prop) -> Prop
abbrev TGs := List V -> St -> Hp -> (St -> Hp -> Prop) -> Prop
def PG (X : Cx) (target : Expr) (t : TG) : Prop :=
  ∀ (pins : List (Addr × Obj)) (s : Shared) (σ : St) (H : Hp) (v : V) (u : Value) (Q : St -> Hp -> Prop), Inv X pins σ H s -> RelV v u -> t v σ H Q →
    wpAny (model X.prog X.w) X.A (assign target X.env u) (fun _ s' => ∃ σ' H', Inv X pins σ' H' s' /\ Q σ' H') X.xe s
def PGs (X : Cx) (ts : List Expr) (t : TGs) : Prop :=
  ∀ (pins : List (Addr × Obj)) (s : Shared) (σ : St) (H : Hp) (vs : List V) (us : List Value) (Q : St -> Hp -> Prop), Inv X pins σ H s -> Vals vs us -> t vs σ H Q →
    wpAny (model X.prog X.w) X.A (assignInOrder ((assignEach ts X.env).map (·.2)) us) (fun _ s' => ∃ σ' H', Inv X pins σ' H' s' /\ Q σ' H') X.xe s
abbrev tNq := V -> V -> V -> Hp -> (Hp -> Prop) -> Prop
def xWq (X : Cx) (t : tNq) : Prop :=
  ∀ (pins : List (Addr × Obj)) (s : Shared) (σ : St) (H : Hp) (o i v : V) (ov iv u : Value) (Q : Hp -> Prop), Inv X pins σ H s -> RelV o ov -> RelV i iv -> RelV v u -> t o i v H Q →
    wpAny (model X.prog X.w) X.A (setItem ov iv u) (fun _ s' => ∃ H', Inv X pins σ H' s' /\ Q H') X.xe s
section
variable {X : Cx} {pos : Pos}
def jLq (i : Nat) : TG := fun v σ H Q => Q (σ.set i (some v)) H
theorem rHq {i : Nat} {x : Str} (hN : X.N.Nodup) (hi : X.N[i]? = some x) (hx : Loc X.env.scope x) (hf : X.fn x = true \/ X.env.scope.names.lookup x = some .local := by first | exact .inl rfl | exact .inr rfl | assumption) : PG X (.Name x pos) (jLq i) := by
  intro pins s σ H v u Q I r h
  exact wpAny_assign_Name (fSq I hN hi hx r (fun s' I' => ⟨_, H, I', h⟩) hf)
def z1q : TGs := fun vs σ H Q => vs = [] /\ Q σ H
def wBq (t : TG) (u : TGs) : TGs := fun vs σ H Q => ∃ v r, vs = v :: r /\ t v σ H fun σ' H' => u r σ' H' Q
theorem rVq : PGs X [] z1q := by
  intro pins s σ H vs us Q I r h
  obtain ⟨e, h⟩ := h
  subst e
  cases r
  exact assignInOrder_nil ⟨σ, H, I, h⟩
theorem p4q {e : Expr} {es : List Expr} {t : TG} {u : TGs} (h1 : PG X e t) (h2 : PGs X es u)
    (hs : (assignEach (e :: es) X.env).map (·.2) = assign e X.env :: (assignEach es X.env).map (·.2) := by rfl) : PGs X (e :: es) (wBq t u) := by
  intro pins s σ H vs us Q I r h
  obtain ⟨v, vr, e1, h⟩ := h
  subst e1
  cases r with
  | cons r rr =>
    rw [hs]
    refine assignInOrder_cons (thn (h1 pins s σ H _ _ _ I r h) fun _ s1 ⟨σ1, H1, I1, q1⟩ => ?_)
    exact h2 pins s1 σ1 H1 _ _ Q I1 rr q1
def zOq (K : PySem.W.Frag) (n : Nat) (t : TGs) : TG := fun v σ H Q => ∃ a xs, v = .ref a /\ SqT K H a xs /\ xs.length = n /\ t xs σ H Q
theorem w7q {es : List Expr} {k : Nat} {t : TGs} {n : Nat} (hc : X.calm = true) (h : PGs X es t)
    (hn : (assignEach es X.env).length = n := by rfl) (hst : (assignEach es X.env).findIdx? (·.1) = none := by rfl) : PG X (.Tuple es k pos) (zOq X.K n t) := by
  intro pins s σ H v u Q I r hw
  obtain ⟨a, xs, e1, hq, hl, hw⟩ := hw
  subst e1
  cases r
  obtain ⟨its, rv, ht, hz⟩ := I.tuple hq
  refine assign_Tuple_tuple (I.ok.hd hc) ht (by simp [hn, <- hl, rv.length]) hst fun h' hx => ?_
  have I1 : Inv X pins σ H { s with heap := h' } := I.kept (t' := s.toks) fun b o e => hx b o (Nat.ne_of_lt (Heap.lt_size e)) e
  exact h pins _ σ H xs _ Q I1 (by simpa using rv) hw
def z4q (to ti : TE) (t : tNq) : TG := fun v σ H Q => to σ H fun o H1 => ti σ H1 fun i H2 => t o i v H2 fun H3 => Q σ H3
theorem u0q {o i : Expr} {to ti : TE} {t : tNq} (ho : PE X o to) (hi : PE X i ti) (hs : xWq X t)
    (ha : ∀ v, assign (.Subscript o i pos) X.env v = (do
      let ov ← holding [v] (eval o X.env)
      let iv ← holding [v, ov] (eval i X.env)
      standAt pos
      holding [v, ov, iv] (setItem ov iv v)
      release [v, ov, iv] []) := by intro _; rfl) : PG X (.Subscript o i pos) (z4q to ti t) := by
  intro pins s σ H v u Q I r h
  rw [ha]
  refine wpAny_bind (wpAny_holding (thn (ho pins s σ H _ I h) fun ov s1 ⟨x, H1, I1, r1, q1⟩ => ?_))
  refine wpAny_bind (wpAny_holding (thn (hi pins s1 σ H1 _ I1 q1) fun iv s2 ⟨y, H2, I2, r2, q2⟩ => ?_))
  refine wpAny_bind (wpAny_standAt (wpAny_bind (wpAny_holding (thn (hs pins s2 σ H2 x y v ov iv u _ I2 r1 r2 r q2) fun _ s3 ⟨H3, I3, q3⟩ => ?_))))
  exact wpAny_release ⟨σ, H3, I3, q3⟩
def qIq (te : TE) (g : TG) : TS := fun D σ H => te σ H fun x H1 => g x σ H1 D.nx
theorem uJq {tg e : Expr} {te : TE} {g : TG} (he : PE X e te) (hg : PG X tg g) (hs : swapsWithSole [tg] e pos.line X.env = pure false := by rfl) (hw : swappedStores [tg] e X.env = pure none := by rfl)
    (h1 : (assignEach [tg] X.env).map (·.2) = [assign tg X.env] := by rfl) : PS X (.Assign [tg] e pos) (qIq te g) := by
  intro pins s σ H D I h
  refine wpAny_Assign_stores (thn (he pins s σ H _ I h) fun v s1 ⟨x, H1, I1, r1, q1⟩ => ?_) hs hw
  rw [h1]
  exact thn (hg pins s1 σ H1 x v _ I1 r1 q1) fun _ s2 q => q
theorem vVq {i : Nat} {x : Str} {e : Expr} {te : TE} {pos' : Pos} (hN : X.N.Nodup) (hi : X.N[i]? = some x) (hx : Loc X.env.scope x) (he : PE X e te) (hs : swapsWith e (some (.Name x pos')) pos.line X.env = pure false := by rfl) (hf : X.fn x = true \/ X.env.scope.names.lookup x = some .local := by first | exact .inl rfl | exact .inr rfl | assumption) :
    PS X (.Assign [.Name x pos'] e pos) (qIq te (jLq i)) := by
  intro pins s σ H D I h
  refine wpAny_Assign_Name (thn (he pins s σ H _ I h) fun v s1 ⟨y, H1, I1, r1, q1⟩ => ?_) hs
  exact fSq I1 hN hi hx r1 (fun s2 I2 => ⟨_, H1, I2, q1⟩) hf
end
section
variable {X : Cx} {pos : Pos}
def qXq (c : TT) (tb : TS) : TS := fun D σ H => ∃ W : Nat -> St -> Hp -> Prop, (∃ m, W m σ H) /\ ∀ m σ H, W m σ H →
  c σ H fun b H1 => if b = true then ∃ N : St -> Hp -> Prop, (∀ σ' H', N σ' H' -> ∃ m', m' < m /\ W m' σ' H') /\ tb { D with nx := N, ct := N, bk := D.nx } σ H1 else D.nx σ H1
theorem oQq {c : Expr} {body : List Stmt} {tc : TT} {tb : TS} (hp : PassesOwn (model X.prog X.w) X.A X.env X.xe) (hc : PT X c tc) (hb : PSs X body tb) : PS X (.While c body [] pos) (qXq tc tb) := by
  intro pins s σ H D I h
  obtain ⟨W, ⟨m0, w0⟩, turn⟩ := h
  refine wpAny_While (codeAny_whileLoop (fun n s' => ∃ σ' H', Inv X pins σ' H' s' /\ W n σ' H') ?_ m0 ⟨σ, H, I, w0⟩)
  rintro n s1 ⟨σ1, H1, I1, w1⟩
  refine wpAny_passesOwn hp (thn (hc pins s1 σ1 H1 _ I1 (turn n σ1 H1 w1)) fun b s2 ⟨H2, I2, q2⟩ => ?_)
  cases b with
  | true =>
    obtain ⟨N, hN, q2⟩ := q2
    rw [if_pos rfl]
    refine wpAny_passesOwn hp (thn (hb pins s2 σ1 H2 _ I2 q2) fun f s3 q3 => ?_)
    cases f with
    | next =>
      obtain ⟨σ3, H3, I3, n3⟩ := q3
      obtain ⟨m', hm, w3⟩ := hN σ3 H3 n3
      exact ⟨m', hm, σ3, H3, I3, w3⟩
    | cont =>
      obtain ⟨σ3, H3, I3, n3⟩ := q3
      obtain ⟨m', hm, w3⟩ := hN σ3 H3 n3
      exact ⟨m', hm, σ3, H3, I3, w3⟩
    | brk => exact q3
    | ret v => exact q3
  | false =>
    rw [if_neg Bool.false_ne_true]
    exact wpAny_execs_nil ⟨σ1, H2, I2, q2⟩
end
structure It where
  go : Nat -> Hp -> Prop
  yld : Nat -> Hp -> V -> Hp -> Prop
  stop : Nat -> Hp -> Prop
def iHq (X : Cx) (pins : List (Addr × Obj)) (H : Hp) (b : Addr) : Prop :=
  H b = none /\ b ≠ X.env.locals /\ b ∉ X.fs /\ (b ∈ X.ex \/ X.s₀.heap.objs.size <= b) /\ (∀ x c, X.env.cells.lookup x = some c -> c ≠ b) /\ ∀ p ∈ X.pn ++ pins, p.1 ≠ b
theorem Inv.fpOk {X : Cx} {pins : List (Addr × Obj)} {σ : St} {H H' : Hp} {s : Shared} {b : Addr} (I : Inv X pins σ H s) (hb : s.heap.objs.size <= b) (hn : H' b = none) : iHq X pins H' b := by
  refine ⟨hn, Nat.ne_of_gt (Nat.lt_of_lt_of_le I.lt hb), I.nofs hb, .inr (Nat.le_trans I.sz hb), fun x c e z => ?_, fun p hp z => ?_⟩
  . obtain ⟨v, q⟩ := I.cell x c e
    exact absurd (Nat.lt_of_lt_of_le q.lt (by rw [z]; exact hb)) (Nat.lt_irrefl _)
  . exact absurd (Nat.lt_of_lt_of_le (Heap.lt_size (I.pin p hp).1) (by rw [z]; exact hb)) (Nat.lt_irrefl _)
structure Turn (P : Program) (w : World) (K : PySem.W.Frag) (tg : Expr) (J : It) (fp : List Addr) (it : Addr) (tn : Nat -> Heap -> Prop) : Prop where
  mem : it ∈ fp
  obj : ∀ i h, tn i h -> ∀ b ∈ fp, ∃ o, h.get? b = some o /\ ∀ v, o.data ≠ .cell v
  keep : ∀ i h h', tn i h -> (∀ b ∈ fp, ∀ o, h.get? b = some o -> h'.get? b = some o) -> tn i h'
  item : ∀ (X : Cx), X.prog = P -> X.w = w -> X.K = K -> X.calm = true -> ∀ (i : Nat) (pins : List (Addr × Obj)) (s : Shared) (σ : St) (H : Hp) (E : Value -> Shared -> Prop), Inv X pins σ H s -> (∀ b ∈ fp, iHq X pins H b) -> tn i s.heap -> J.go i H →
    wpAny (model P w) X.A (pyNext (.ref it)) (fun r s1 => ∃ u, r = some u ∧
      wpAny (model P w) X.A (letOwnedTupleGo tg (.ref it) u) (fun _ s2 => ∃ x H', Inv X pins σ H' s2 /\ RelV x u /\ J.yld i H x H' /\ tn (i + 1) s2.heap /\ ∀ b ∈ fp, H' b = none) E s1) E s
  done : ∀ (X : Cx), X.prog = P -> X.w = w -> X.K = K -> X.calm = true -> ∀ (i : Nat) (pins : List (Addr × Obj)) (s : Shared) (σ : St) (H : Hp) (E : Value -> Shared -> Prop), Inv X pins σ H s -> (∀ b ∈ fp, iHq X pins H b) -> tn i s.heap -> J.stop i H →
    wpAny (model P w) X.A (pyNext (.ref it)) (fun r s1 => r = none /\ Inv X pins σ H s1) E s
  self : ∀ (A : Around) (i : Nat) (s : Shared) (Q : Value -> Shared -> Prop) (E : Value -> Shared -> Prop), tn i s.heap -> Q (.ref it) s -> wpAny (model P w) A (pyIter (.ref it)) Q E s
abbrev TI := St -> Hp -> (It -> Hp -> Prop) -> Prop
def PIE (X : Cx) (pins : List (Addr × Obj)) (σ : St) (tg : Expr) (R : It -> Hp -> Prop) (itv : Value) (s2 : Shared) : Prop :=
  ∃ (it : Addr) (fp : List Addr) (tn : Nat -> Heap -> Prop) (J : It) (H' : Hp), itv = .ref it /\ Inv X pins σ H' s2 /\ Turn X.prog X.w X.K tg J fp it tn /\ tn 0 s2.heap /\ (∀ b ∈ fp, iHq X pins H' b) /\ R J H'
def PI (X : Cx) (tg iter : Expr) (wi : TI) : Prop :=
  ∀ (pins : List (Addr × Obj)) (s : Shared) (σ : St) (H : Hp) (R : It -> Hp -> Prop), Inv X pins σ H s -> wi σ H R →
    wpAny (model X.prog X.w) X.A (eval iter X.env) (fun v s1 => wpAny (model X.prog X.w) X.A (pyIter v) (PIE X pins σ tg R) X.xe s1) X.xe s
theorem oTq {M : Model} {A : Around} {E : Value -> Shared -> Prop} {s : Shared} {tg : Expr} {it : Addr} {u : Value} {o : Obj} {n : String} {vs : Array Value} {Q : Unit -> Shared -> Prop} (ho : s.heap.get? it = some o) (hc : o.cls = .type n) (hd : o.data = .fields vs)
    (hn : ["enumerate", "zip", "dict_itemiterator", "dict_reverseitemiterator", "odict_iterator", "itertools.zip_longest", "itertools.pairwise"].contains n = false) (hQ : Q () s) : wpAny M A (letOwnedTupleGo tg (.ref it) u) Q E s := by
  unfold letOwnedTupleGo
  cases tg <;> first
    | exact wpAny_pure hQ
    | (cases u <;> first
        | exact wpAny_pure hQ
        | (refine wpAny_bind (wpAny_load ho ?_)
           rw [hc, hd]
           show wpAny M A (if (["enumerate", "zip", "dict_itemiterator", "dict_reverseitemiterator", "odict_iterator", "itertools.zip_longest", "itertools.pairwise"].contains n && vs[0]? == some (rawInt _)) = true then _ else _) Q E s
           rw [if_neg (by intro h; rw [hn, Bool.false_and] at h; cases h)]
           exact wpAny_pure hQ))
def Itl (K : PySem.W.Frag) (a : Addr) : It :=
  ⟨fun i H => ∃ xs x, SqL K H a xs /\ xs[i]? = some x, fun i H x H' => H' = H /\ ∀ xs, SqL K H a xs -> xs[i]? = some x, fun i H => ∃ xs, SqL K H a xs /\ xs.length <= i⟩
def Itt (K : PySem.W.Frag) (a : Addr) : It :=
  ⟨fun i H => ∃ xs x, SqT K H a xs /\ xs[i]? = some x, fun i H x H' => H' = H /\ ∀ xs, SqT K H a xs -> xs[i]? = some x, fun i H => ∃ xs, SqT K H a xs /\ xs.length <= i⟩
def Itr (lo : Int) (n : Nat) : It := ⟨fun i _ => i < n, fun i H x H' => H' = H /\ x = .int (lo + i), fun i _ => n <= i⟩
theorem nFq {P : Program} {w : World} {K : PySem.W.Frag} {tg : Expr} (a it : Addr) : Turn P w K tg (Itl K a) [it] it (fun i h => h.IsListIter it a i) where
  mem := by simp
  obj := fun i h st b hb => by
    have e : b = it := by simpa using hb
    subst e
    obtain ⟨o, e, c, d⟩ := st
    exact ⟨o, e, fun v z => by rw [d] at z; cases z⟩
  keep := fun i h h' st k => st.at fun o e => k it (by simp) o e
  item := by
    intro X hP hw hK hc i pins s σ H E I hf st hg
    subst hP hw hK
    obtain ⟨xs, x, hq, hx⟩ := hg
    obtain ⟨its, rv, p, hz⟩ := I.list hq
    obtain ⟨u, hu, ru⟩ := rv.get hx
    obtain ⟨f0, f1, f2, f3, f4, f5⟩ := hf it (by simp)
    refine wpAny_pyNext_list_item st p.isList (x := u) (by simpa using hu) fun h' st' sb => ?_
    have I1 : Inv X pins σ H { s with heap := h' } := I.turned (t' := s.toks) (fun b o hb e => (sb.2 b hb).trans e) f0 f1 f3 f4 f5
    obtain ⟨o, e, c, d⟩ := id st'
    exact ⟨u, rfl, oTq (s := { s with heap := h' }) e c d (by decide) ⟨x, H, I1, ru, ⟨rfl, fun ys hy => by rw [I.list_inj hy hq]; exact hx⟩, st', fun b hb => (hf b hb).1⟩⟩
  done := by
    intro X hP hw hK hc i pins s σ H E I hf st hg
    subst hP hw hK
    obtain ⟨xs, hq, hx⟩ := hg
    obtain ⟨its, rv, p, hz⟩ := I.list hq
    obtain ⟨f0, f1, f2, f3, f4, f5⟩ := hf it (by simp)
    have hl := rv.length
    exact wpAny_pyNext_list_end (I.ok.hd hc) st p.isList (by simp; omega) fun h' eb => ⟨rfl, I.turned (t' := s.toks) (fun b o hb e => eb b o hb e) f0 f1 f3 f4 f5⟩
  self := fun _ _ _ _ _ st h => wpAny_pyIter_listiter st h
theorem lAq {P : Program} {w : World} {K : PySem.W.Frag} {tg : Expr} (a it : Addr) : Turn P w K tg (Itt K a) [it] it (fun i h => h.IsTupleIter it a i) where
  mem := by simp
  obj := fun i h st b hb => by
    have e : b = it := by simpa using hb
    subst e
    obtain ⟨o, e, c, d⟩ := st
    exact ⟨o, e, fun v z => by rw [d] at z; cases z⟩
  keep := fun i h h' st k => st.at fun o e => k it (by simp) o e
  item := by
    intro X hP hw hK hc i pins s σ H E I hf st hg
    subst hP hw hK
    obtain ⟨xs, x, hq, hx⟩ := hg
    obtain ⟨its, rv, p, hz⟩ := I.tuple hq
    obtain ⟨u, hu, ru⟩ := rv.get hx
    obtain ⟨f0, f1, f2, f3, f4, f5⟩ := hf it (by simp)
    refine wpAny_pyNext_tuple_item st (show s.heap.IsTuple a its.toArray from p) (x := u) (by simpa using hu) fun h' st' sb => ?_
    have I1 : Inv X pins σ H { s with heap := h' } := I.turned (t' := s.toks) (fun b o hb e => (sb.2 b hb).trans e) f0 f1 f3 f4 f5
    obtain ⟨o, e, c, d⟩ := id st'
    exact ⟨u, rfl, oTq (s := { s with heap := h' }) e c d (by decide) ⟨x, H, I1, ru, ⟨rfl, fun ys hy => by rw [I.tuple_inj hy hq]; exact hx⟩, st', fun b hb => (hf b hb).1⟩⟩
  done := by
    intro X hP hw hK hc i pins s σ H E I hf st hg
    subst hP hw hK
    obtain ⟨xs, hq, hx⟩ := hg
    obtain ⟨its, rv, p, hz⟩ := I.tuple hq
    obtain ⟨f0, f1, f2, f3, f4, f5⟩ := hf it (by simp)
    have hl := rv.length
    exact wpAny_pyNext_tuple_end (I.ok.hd hc) st (show s.heap.IsTuple a its.toArray from p) (by simp; omega) fun h' eb => ⟨rfl, I.turned (t' := s.toks) (fun b o hb e => eb b o hb e) f0 f1 f3 f4 f5⟩
  self := fun _ _ _ _ _ st h => wpAny_pyIter_tupleiter st h
theorem lOq {P : Program} {w : World} {K : PySem.W.Frag} {tg : Expr} (it : Addr) (lo : Int) (n : Nat) : Turn P w K tg (Itr lo n) [it] it (fun i h => IsRangeIter h it (lo + (i : Nat) * 1) ((n : Int) - (i : Nat)) 1) where
  mem := by simp
  obj := fun i h st b hb => by
    have e : b = it := by simpa using hb
    subst e
    exact ⟨_, st, fun v z => by
      have z' : Data.fields _ = Data.cell v := z
      cases z'⟩
  keep := fun i h h' st k => k it (by simp) _ st
  item := by
    intro X hP hw hK hc i pins s σ H E I hf st hg
    subst hP hw hK
    obtain ⟨f0, f1, f2, f3, f4, f5⟩ := hf it (by simp)
    have W := Walks.range (prog := X.prog) (w := X.w) (I.ok.hd hc) it lo 1 n
    refine W.item i s _ _ hg st fun v h' tk hv st' kk => ?_
    obtain ⟨t, rfl⟩ := hv
    have I1 : Inv X pins σ H { s with heap := h', toks := tk } := I.turned (fun b o hb e => kk b o (by simpa using hb) e) f0 f1 f3 f4 f5
    refine ⟨_, rfl, oTq (s := { s with heap := h', toks := tk }) (n := "range_iterator") st' rfl rfl (by decide) ⟨.int (lo + i), H, I1, ⟨t, ?_⟩, ⟨rfl, rfl⟩, st', fun b hb => (hf b hb).1⟩⟩
    rw [Int.mul_one]
  done := by
    intro X hP hw hK hc i pins s σ H E I hf st hg
    subst hP hw hK
    obtain ⟨f0, f1, f2, f3, f4, f5⟩ := hf it (by simp)
    exact wpAny_pyNext_range_end (I.ok.hd hc) st (by have : n <= i := hg; omega) fun h' eb => ⟨rfl, I.turned (t' := s.toks) (fun b o hb e => eb b o hb e) f0 f1 f3 f4 f5⟩
  self := fun _ _ _ _ _ st h => wpAny_pyIter_rangeiter st h
section
variable {X : Cx} {tg : Expr}
theorem kZq {pins : List (Addr × Obj)} {σ : St} {H : Hp} {s : Shared} {R : It -> Hp -> Prop} {E : Value -> Shared -> Prop} {lo hi : Int} {t u v : Tok} {tk : Nat} (I : Inv X pins σ H s) (h1 : -(2 ^ 62) <= lo) (h2 : lo < 2 ^ 62) (h3 : -(2 ^ 62) <= hi) (h4 : hi < 2 ^ 62)
    (q : R (Itr lo (hi - lo).toNat) H) : wpAny (model X.prog X.w) X.A (pyIter (.ref s.heap.objs.size)) (PIE X pins σ tg R) E { s with heap := s.heap.push { cls := .type "range", data := .fields #[.int lo t, .int hi u, .int 1 v] }, toks := tk } := by
  refine wpAny_pyIter_range (IsRange.new ..) (small_one h1 h2 h3 h4) ?_
  have I1 : Inv X pins σ H { s with heap := s.heap.push { cls := .type "range", data := .fields #[.int lo t, .int hi u, .int 1 v] }, toks := tk } := I.kept fun b o e => Heap.get?_push_of_some _ e
  refine ⟨(s.heap.push { cls := .type "range", data := .fields #[.int lo t, .int hi u, .int 1 v] }).objs.size, [(s.heap.push { cls := .type "range", data := .fields #[.int lo t, .int hi u, .int 1 v] }).objs.size], _, _, H, rfl,
    I1.kept (t' := tk) fun b o e => Heap.get?_push_of_some _ e, lOq _ lo (hi - lo).toNat, ?_, fun b hb => ?_, q⟩
  . have e1 : lo + ((0 : Nat) : Int) * 1 = lo := by simp
    have e2 : (((hi - lo).toNat : Nat) : Int) - ((0 : Nat) : Int) = Builtin.Range.rangeSize lo hi 1 := by rw [rangeSize_one]; split <;> omega
    show IsRangeIter _ _ (lo + ((0 : Nat) : Int) * 1) ((((hi - lo).toNat : Nat) : Int) - ((0 : Nat) : Int)) 1
    rw [e1, e2]
    exact Heap.get?_push_size _ rfl
  . have e : b = (s.heap.push { cls := .type "range", data := .fields #[.int lo t, .int hi u, .int 1 v] }).objs.size := by simpa using hb
    subst e
    exact I1.fpOk (Nat.le_refl _) (I1.hok.fresh (Nat.le_refl _))
def wCq (ta : TA) : TI := fun σ H R => ta σ H fun vs H1 => ∃ j : Int, vs = [.int j] /\ -(2 ^ 62) <= j /\ j < 2 ^ 62 /\ R (Itr 0 j.toNat) H1
def vMq (ta : TA) : TI := fun σ H R => ta σ H fun vs H1 => ∃ i j : Int, vs = [.int i, .int j] /\ (-(2 ^ 62) <= i /\ i < 2 ^ 62 /\ -(2 ^ 62) <= j /\ j < 2 ^ 62) /\ R (Itr i (j - i).toNat) H1
theorem oGq {a : Expr} {ta : TA} {p pos : Pos} (hg : Gl X "range") (hm : X.mg "range" = none) (ha : PA X [a] ta) (hs : starEach [a] X.env = [(false, eval a X.env)] := by rfl) : PI X tg (.Call (.Name "range" p) [a] [] pos) (wCq ta) := by
  intro pins s σ H R I h
  refine Call_ (fKq I hg hm boot_range (PyProof.Rows.callWith_type1 (thn (ha pos pins s σ H _ I h) fun us s1 ⟨vs, H1, I1, r1, q1⟩ => ?_) hs rfl))
  obtain ⟨j, e, q1, q2, q⟩ := q1
  subst e
  cases r1 with
  | cons r rr =>
    cases rr
    obtain ⟨t, rfl⟩ := r
    exact call_range_1 (kZq I1 (by omega) (by omega) q1 q2 (by simpa using q))
theorem nUq {a b : Expr} {ta : TA} {p pos : Pos} (hg : Gl X "range") (hm : X.mg "range" = none) (ha : PA X [a, b] ta) (hs : starEach [a, b] X.env = [(false, eval a X.env), (false, eval b X.env)] := by rfl) (hs2 : starEach [b] X.env = [(false, eval b X.env)] := by rfl) :
    PI X tg (.Call (.Name "range" p) [a, b] [] pos) (vMq ta) := by
  intro pins s σ H R I h
  refine Call_ (fKq I hg hm boot_range (PyProof.Rows.callWith_type1 (thn (ha pos pins s σ H _ I h) fun us s1 ⟨vs, H1, I1, r1, q1⟩ => ?_) (by rw [hs, hs2]) (by rw [hs2]; rfl)))
  obtain ⟨i, j, e, ⟨q1, q2, q3, q4⟩, q⟩ := q1
  subst e
  cases r1 with
  | cons r rr =>
    cases rr with
    | cons r' rr =>
      cases rr
      obtain ⟨t, rfl⟩ := r
      obtain ⟨t', rfl⟩ := r'
      exact call_range_2 (kZq I1 q1 q2 q3 q4 q)
def zDq (wi : TI) (g : TG) (tb : TS) : TS := fun D σ H => wi σ H fun J H1 => ∃ W : Nat -> Nat -> St -> Hp -> Prop, (∃ m, W 0 m σ H1) /\ ∀ i m σ H, W i m σ H →
  (J.stop i H /\ D.nx σ H) \/ (J.go i H /\ ∃ N : St -> Hp -> Prop, (∀ σ' H', N σ' H' -> ∃ m', m' < m /\ W (i + 1) m' σ' H') /\ ∀ x H', J.yld i H x H' -> g x σ H' fun σ2 H2 => tb { D with nx := N, ct := N, bk := D.nx } σ2 H2)
def l3q (fp : List Addr) (h : Heap) : List (Addr × Obj) := fp.filterMap fun b => (h.get? b).map fun o => (b, o)
theorem b3q {fp : List Addr} {h : Heap} {b : Addr} {o : Obj} (hb : b ∈ fp) (e : h.get? b = some o) : (b, o) ∈ l3q fp h := List.mem_filterMap.mpr ⟨b, hb, by rw [e]; rfl⟩
theorem o8q {fp : List Addr} {h : Heap} {p : Addr × Obj} (hp : p ∈ l3q fp h) : p.1 ∈ fp /\ h.get? p.1 = some p.2 := by
  obtain ⟨b, hb, e⟩ := List.mem_filterMap.mp hp
  cases q : h.get? b with
  | none => rw [q] at e; cases e
  | some o =>
    rw [q] at e
    have e' : (b, o) = p := Option.some.inj e
    subst e'
    exact ⟨hb, q⟩
theorem Inv.pinned {pins : List (Addr × Obj)} {σ : St} {H : Hp} {s : Shared} {fp : List Addr} (I : Inv X pins σ H s) (hf : ∀ b ∈ fp, iHq X pins H b) (ho : ∀ b ∈ fp, ∃ o, s.heap.get? b = some o /\ ∀ v, o.data ≠ .cell v) : Inv X (pins ++ l3q fp s.heap) σ H s :=
  I.pins_of fun p hp => (List.mem_append.mp hp).elim (fun z => I.pin p (List.mem_append_right _ z)) fun z => by
    obtain ⟨hb, e⟩ := o8q z
    obtain ⟨f0, f1, f2, _⟩ := hf p.1 hb
    obtain ⟨o, e', d⟩ := ho p.1 hb
    rw [e] at e'; cases e'
    exact ⟨e, f0, f1, f2, d⟩
theorem Inv.unpinned {pins pl : List (Addr × Obj)} {σ : St} {H : Hp} {s : Shared} (I : Inv X (pins ++ pl) σ H s) : Inv X pins σ H s := I.pins_of fun p hp => I.pin p (List.mem_append_right _ (List.mem_append_left _ hp))
theorem tJq {iter : Expr} {body : List Stmt} {wi : TI} {g : TG} {tb : TS} {pos : Pos} (hp : PassesOwn (model X.prog X.w) X.A X.env X.xe) (hc : X.calm = true) (hi : PI X tg iter wi) (hg : PG X tg g) (hb : PSs X body tb)
    (hs : ∀ x, foldedSetIterable iter X.env x = pure x := by intro _; rfl) : PS X (.For tg iter body [] pos) (zDq wi g tb) := by
  intro pins s σ H D I h
  refine wpAny_For (thn (hi pins s σ H _ I h) fun v s1 h1 => thn h1 fun itv s2 h2 => ?_) hs
  obtain ⟨it, fp, tn, J, H2, e, I2, T, st2, f2, W, ⟨m0, w0⟩, turn⟩ := h2
  subst e
  have stat : ∀ {H' : Hp}, (∀ b ∈ fp, H' b = none) -> ∀ b ∈ fp, iHq X pins H' b := fun hn b hb => ⟨hn b hb, (f2 b hb).2⟩
  refine codeAny_forLoop_any (fun n s' => ∃ i σ' H', Inv X pins σ' H' s' /\ tn i s'.heap /\ (∀ b ∈ fp, H' b = none) /\ W i n σ' H') ?_ m0 ⟨0, σ, H2, I2, st2, fun b hb => (f2 b hb).1, w0⟩
  rintro n s3 ⟨i, σ3, H3, I3, st3, fr3, w3⟩
  rcases turn i n σ3 H3 w3 with ⟨stop, qn⟩ | ⟨go, N, hN, step⟩
  . refine wpAny_passesOwn hp (thn (T.done X rfl rfl rfl hc i pins s3 σ3 H3 X.xe I3 (stat fr3) st3 stop) fun r s4 ⟨hr, I4⟩ => ?_)
    subst hr
    exact wpAny_execs_nil ⟨σ3, H3, I4, qn⟩
  . refine wpAny_passesOwn hp (thn (T.item X rfl rfl rfl hc i pins s3 σ3 H3 X.xe I3 (stat fr3) st3 go) fun r s4 ⟨u, hr, h4⟩ => ?_)
    subst hr
    refine wpAny_passesOwn hp (thn h4 fun _ s5 ⟨x, H5, I5, r5, y5, st5, fr5⟩ => ?_)
    have I5' := I5.pinned (stat fr5) (T.obj _ _ st5)
    refine wpAny_passesOwn hp (thn (hg _ s5 σ3 H5 x u _ I5' r5 (step x H5 y5)) fun _ s6 ⟨σ6, H6, I6, q6⟩ => ?_)
    refine wpAny_passesOwn hp (thn (hb _ s6 σ6 H6 _ I6 q6) fun f s7 q7 => ?_)
    have again : ∀ {σ7 : St} {H7 : Hp}, Inv X (pins ++ l3q fp s5.heap) σ7 H7 s7 -> N σ7 H7 -> ∃ m, m < n /\ ∃ i σ' H', Inv X pins σ' H' s7 /\ tn i s7.heap /\ (∀ b ∈ fp, H' b = none) /\ W i m σ' H' := fun {σ7 H7} I7 n7 => by
      obtain ⟨m', hm, w7⟩ := hN σ7 H7 n7
      refine ⟨m', hm, i + 1, σ7, H7, I7.unpinned, T.keep _ _ _ st5 fun b hb o e => (I7.pin (b, o) (List.mem_append_right _ (List.mem_append_right _ (b3q hb e)))).1, fun b hb => ?_, w7⟩
      obtain ⟨o, e, d⟩ := T.obj _ _ st5 b hb
      exact (I7.pin (b, o) (List.mem_append_right _ (List.mem_append_right _ (b3q hb e)))).2.1
    cases f with
    | next => obtain ⟨σ7, H7, I7, n7⟩ := q7; exact again I7 n7
    | cont => obtain ⟨σ7, H7, I7, n7⟩ := q7; exact again I7 n7
    | brk => obtain ⟨σ7, H7, I7, q7⟩ := q7; exact ⟨σ7, H7, I7.unpinned, q7⟩
    | ret v => obtain ⟨x7, σ7, H7, I7, r7, q7⟩ := q7; exact ⟨x7, σ7, H7, I7.unpinned, r7, q7⟩
end
abbrev R2 := V -> V -> Hp -> VK -> Prop
def OpR (X : Cx) (f : Value -> Value -> Sem Value) (r : R2) : Prop :=
  ∀ (pins : List (Addr × Obj)) (s : Shared) (σ : St) (H : Hp) (x y : V) (v u : Value) (Q : VK), Inv X pins σ H s -> RelV x v -> RelV y u -> r x y H Q →
    wpAny (model X.prog X.w) X.A (f v u) (EP X pins σ Q) X.xe s
def UnR (X : Cx) (f : Value -> Sem Value) (r : V -> Hp -> VK -> Prop) : Prop :=
  ∀ (pins : List (Addr × Obj)) (s : Shared) (σ : St) (H : Hp) (x : V) (v : Value) (Q : VK), Inv X pins σ H s -> RelV x v -> r x H Q →
    wpAny (model X.prog X.w) X.A (f v) (EP X pins σ Q) X.xe s
def CallR (X : Cx) (f : Value) (r : List V -> Hp -> VK -> Prop) : Prop :=
  ∀ (pins : List (Addr × Obj)) (s : Shared) (σ : St) (H : Hp) (xs : List V) (us : List Value) (Q : VK), Inv X pins σ H s -> Vals xs us -> r xs H Q →
    wpAny (model X.prog X.w) X.A (call f us) (EP X pins σ Q) X.xe s
def TruR (X : Cx) (r : V -> Hp -> (Bool -> Hp -> Prop) -> Prop) : Prop :=
  ∀ (pins : List (Addr × Obj)) (s : Shared) (σ : St) (H : Hp) (x : V) (v : Value) (Q : Bool -> Hp -> Prop), Inv X pins σ H s -> RelV x v -> r x H Q →
    wpAny (model X.prog X.w) X.A (truthy v) (TP X pins σ Q) X.xe s
def tOp (r : R2) (ta tb : TE) : TE := fun σ H Q => ta σ H fun x H1 => tb σ H1 fun y H2 => r x y H2 Q
def tUn (r : V -> Hp -> VK -> Prop) (ta : TE) : TE := fun σ H Q => ta σ H fun x H1 => r x H1 Q
def rI (C : Int -> Int -> Prop) (g : Int -> Int -> V) : R2 := fun x y H Q => ∃ i j, x = .int i /\ y = .int j /\ C i j /\ Q (g i j) H
def rI0 (g : Int -> Int -> V) : R2 := fun x y H Q => ∃ i j, x = .int i /\ y = .int j /\ Q (g i j) H
def rU (g : Int -> V) : V -> Hp -> VK -> Prop := fun x H Q => ∃ i, x = .int i /\ Q (g i) H
section
variable {X : Cx} {a b c : Expr} {ta tb tc : TE} {pos : Pos}
theorem y9q (ha : PE X a ta) (hb : PE X b tb) {pins : List (Addr × Obj)} {s : Shared} {σ : St} {H : Hp} {R : V -> V -> Hp -> Prop} (I : Inv X pins σ H s)
    (h : ta σ H fun x H1 => tb σ H1 fun y H2 => R x y H2) {Q : Value -> Shared -> Prop} {f : Value -> Value -> Sem Value}
    (hf : ∀ v u s2 x y H2, Inv X pins σ H2 s2 -> RelV x v -> RelV y u -> R x y H2 -> wpAny (model X.prog X.w) X.A (f v u) Q X.xe s2) :
    wpAny (model X.prog X.w) X.A (eval a X.env) (fun v s₁ => wpAny (model X.prog X.w) X.A (eval b X.env) (fun u s₂ => wpAny (model X.prog X.w) X.A (f v u) Q X.xe s₂) X.xe s₁) X.xe s := by
  refine thn (ha pins s σ H _ I h) fun v s1 ⟨x, H1, I1, r1, q1⟩ => ?_
  refine thn (hb pins s1 σ H1 _ I1 q1) fun u s2 ⟨y, H2, I2, r2, q2⟩ => ?_
  exact hf v u s2 x y H2 I2 r1 r2 q2
theorem y4q {op : Operator} {r : R2} (ho : OpR X (binaryOp op) r) (ha : PE X a ta) (hb : PE X b tb) : PE X (.BinOp a op b pos) (tOp r ta tb) := by
  intro pins s σ H Q I h
  exact wpAny_BinOp (y9q ha hb I h fun v u s2 x y H2 I2 rx ry q => ho pins s2 σ H2 x y v u Q I2 rx ry q)
theorem yVq {op : UnaryOp} {r : V -> Hp -> VK -> Prop} (ho : UnR X (unaryOp op) r) (ha : PE X a ta) : PE X (.UnaryOp op a pos) (tUn r ta) := by
  intro pins s σ H Q I h
  exact UnaryOp_ (thn (ha pins s σ H _ I h) fun v s1 ⟨x, H1, I1, r1, q1⟩ => ho pins s1 σ H1 x v Q I1 r1 q1)
theorem opI {f : Value -> Value -> Sem Value} {C : Int -> Int -> Prop} {g : Int -> Int -> Int}
    (rule : ∀ (i j : Int) (t u : Tok) (s : Shared) (Q : Value -> Shared -> Prop) (E : Value -> Shared -> Prop), C i j -> Q (.int (g i j) s.toks) { s with toks := s.toks + 1 } -> wpAny (model X.prog X.w) X.A (f (.int i t) (.int j u)) Q E s) :
    OpR X f (rI C fun i j => .int (g i j)) := by
  intro pins s σ H x y v u Q I rx ry h
  obtain ⟨i, j, rfl, rfl, hc, q⟩ := h
  obtain ⟨t, rfl⟩ := rx
  obtain ⟨t', rfl⟩ := ry
  exact rule i j t t' s _ _ hc ⟨.int (g i j), H, I.tok _, ⟨_, rfl⟩, q⟩
theorem zIq {f : Value -> Value -> Sem Value} {g : Int -> Int -> Int}
    (rule : ∀ (i j : Int) (t u : Tok) (s : Shared) (Q : Value -> Shared -> Prop) (E : Value -> Shared -> Prop), Q (.int (g i j) s.toks) { s with toks := s.toks + 1 } -> wpAny (model X.prog X.w) X.A (f (.int i t) (.int j u)) Q E s) :
    OpR X f (rI0 fun i j => .int (g i j)) := by
  intro pins s σ H x y v u Q I rx ry h
  obtain ⟨i, j, rfl, rfl, q⟩ := h
  obtain ⟨t, rfl⟩ := rx
  obtain ⟨t', rfl⟩ := ry
  exact rule i j t t' s _ _ ⟨.int (g i j), H, I.tok _, ⟨_, rfl⟩, q⟩
theorem wYq {f : Value -> Value -> Sem Value} {g : Int -> Int -> Bool}
    (rule : ∀ (i j : Int) (t u : Tok) (s : Shared) (Q : Value -> Shared -> Prop) (E : Value -> Shared -> Prop), Q (.bool (g i j)) s -> wpAny (model X.prog X.w) X.A (f (.int i t) (.int j u)) Q E s) :
    OpR X f (rI0 fun i j => .bl (g i j)) := by
  intro pins s σ H x y v u Q I rx ry h
  obtain ⟨i, j, rfl, rfl, q⟩ := h
  obtain ⟨t, rfl⟩ := rx
  obtain ⟨t', rfl⟩ := ry
  exact rule i j t t' s _ _ ⟨.bl (g i j), H, I, rfl, q⟩
def z7q (i j : Int) : Prop := 0 <= j /\ j <= 1000000 /\ i.natAbs < 2 ^ 64
def CMul (i j : Int) : Prop := (-(2 ^ 64) < i /\ i < 2 ^ 64) \/ (-(2 ^ 64) < j /\ j < 2 ^ 64)
theorem CMul.ok {i j : Int} (h : CMul i j) : IntMulOk i j := by
  rcases h with ⟨h1, h2⟩ | ⟨h1, h2⟩
  . exact .of_left (intBits_le_64 h1 h2)
  . exact .of_right (intBits_le_64 h1 h2)
theorem op_add : OpR X (binaryOp .Add) (rI0 fun i j => .int (i + j)) := zIq fun _ _ _ _ _ _ _ q => add_int q
theorem wMq : OpR X (binaryOp .Sub) (rI0 fun i j => .int (i - j)) := zIq fun _ _ _ _ _ _ _ q => sub_int q
theorem tTq : OpR X (binaryOp .Mult) (rI CMul fun i j => .int (i * j)) := opI fun _ _ _ _ _ _ _ hc q => mul_int q hc.ok
theorem v1q : OpR X (binaryOp .Mod) (rI (fun _ j => 0 < j) fun i j => .int (i % j)) := opI fun i j _ _ _ _ _ hc q => by
  have h1 : (0 : Int) < j := hc
  exact mod_int' (by omega) (by rw [Int.fmod_eq_emod_of_nonneg i (by omega)]; exact q)
theorem vPq : OpR X (binaryOp .Pow) (rI z7q fun i j => .int (i ^ j.toNat)) := opI fun _ _ _ _ _ _ _ hc q => pow_int_small hc.1 hc.2.1 hc.2.2 q
theorem unI {f : Value -> Sem Value} {g : Int -> Int}
    (rule : ∀ (i : Int) (t : Tok) (s : Shared) (Q : Value -> Shared -> Prop) (E : Value -> Shared -> Prop), Q (.int (g i) s.toks) { s with toks := s.toks + 1 } -> wpAny (model X.prog X.w) X.A (f (.int i t)) Q E s) :
    UnR X f (rU fun i => .int (g i)) := by
  intro pins s σ H x v Q I rx h
  obtain ⟨i, rfl, q⟩ := h
  obtain ⟨t, rfl⟩ := rx
  exact rule i t s _ _ ⟨.int (g i), H, I.tok _, ⟨_, rfl⟩, q⟩
theorem u5q : UnR X (unaryOp .USub) (rU fun i => .int (-i)) := unI fun _ _ _ _ _ q => neg_int q
end
section
variable {X : Cx} {a b c : Expr} {ta tb tc : TE} {pos : Pos}
theorem m9q {pins : List (Addr × Obj)} {σ : St} {H : Hp} {s : Shared} {Q : VK} {k k' : Bool} (I : Inv X pins σ H s) (q : Q (.bl k) H) (e : k = k') : EP X pins σ Q (.bool k') s := by
  subst e
  exact ⟨.bl k, H, I, rfl, q⟩
theorem x8q : OpR X (compareOp .Lt) (rI0 fun i j => .bl (decide (i < j))) := wYq fun _ _ _ _ _ _ _ q => lt_int q
theorem yAq : OpR X (compareOp .Gt) (rI0 fun i j => .bl (decide (j < i))) := wYq fun _ _ _ _ _ _ _ q => gt_int q
theorem ySq : OpR X (compareOp .GtE) (rI0 fun i j => .bl (decide (j <= i))) := wYq fun _ _ _ _ _ _ _ q => ge_int q
theorem nPq : OpR X (compareOp .In) (fun x y H Q => ∃ i j, x = .str i /\ y = .str j /\ Q (.bl (!(Builtin.Str.occurrences j i 0 j.length 1).isEmpty)) H) := by
  intro pins s σ H x y v u Q I rx ry h
  obtain ⟨i, j, rfl, rfl, q⟩ := h
  obtain ⟨t, rfl⟩ := rx
  obtain ⟨t', rfl⟩ := ry
  exact in_str (m9q I q rfl)
theorem uWq : OpR X (compareOp .Is) (fun x y H Q => y = .non /\ Q (.bl (decide (x = .non))) H) := by
  intro pins s σ H x y v u Q I rx ry h
  obtain ⟨rfl, q⟩ := h
  cases ry
  refine is_none_gen (m9q I q ?_)
  cases x <;> first
    | (cases rx; rfl)
    | (obtain ⟨t, rfl⟩ := rx; rfl)
theorem rZq : OpR X (compareOp .IsNot) (fun x y H Q => y = .non /\ Q (.bl (!decide (x = .non))) H) := by
  intro pins s σ H x y v u Q I rx ry h
  obtain ⟨rfl, q⟩ := h
  cases ry
  refine isnot_none_gen (m9q I q ?_)
  cases x <;> first
    | (cases rx; rfl)
    | (obtain ⟨t, rfl⟩ := rx; rfl)
theorem OpR.or {f : Value -> Value -> Sem Value} {r r' : R2} (h : OpR X f r) (h' : OpR X f r') : OpR X f (fun x y H Q => r x y H Q \/ r' x y H Q) := by
  intro pins s σ H x y v u Q I rx ry q
  rcases q with q | q
  . exact h pins s σ H x y v u Q I rx ry q
  . exact h' pins s σ H x y v u Q I rx ry q
theorem aPq (b : Expr) {op : CmpOp} (h : op ≠ .In := by decide) (h2 : op ≠ .NotIn := by decide) : behindInMarks op b = false := by
  have e1 : (op == CmpOp.In) = false := by cases op <;> first | rfl | exact absurd rfl h
  have e2 : (op == CmpOp.NotIn) = false := by cases op <;> first | rfl | exact absurd rfl h2
  cases b <;> simp [behindInMarks, e1, e2]
theorem sWq {op : CmpOp} {r : R2} (ho : OpR X (compareOp op) r) (ha : PE X a ta) (hb : PE X b tb) (hm : behindInMarks op b = false) : PE X (.Compare a [op] [b] pos) (tOp r ta tb) := by
  intro pins s σ H Q I h
  exact wpAny_Compare1 (y9q ha hb I h fun v u s2 x y H2 I2 rx ry q => ho pins s2 σ H2 x y v u Q I2 rx ry q) hm
def vKq (t : TE) : TT := fun σ H Q => t σ H fun x H' => ∃ k, x = .bl k /\ Q k H'
theorem rYq {op : CmpOp} {r : R2} (ho : OpR X (compareOp op) r) (ha : PE X a ta) (hb : PE X b tb) (hm : behindInMarks op b = false) : PT X (.Compare a [op] [b] pos) (vKq (tOp r ta tb)) := by
  intro pins s σ H Q I h
  refine wpAny_isTrue_Compare1 (thn (ha pins s σ H _ I h) fun v s1 ⟨x, H1, I1, r1, q1⟩ => thn (hb pins s1 σ H1 _ I1 q1) fun u s2 ⟨y, H2, I2, r2, q2⟩ =>
    thn (ho pins s2 σ H2 x y v u _ I2 r1 r2 q2) fun c s3 ⟨z, H3, I3, r3, k, e, q3⟩ => ?_) hm
  subst e
  cases r3
  exact wpAny_truthy_bool ⟨H3, I3, q3⟩
def xGq (K : PySem.W.Frag) (x : V) (H : Hp) (k : Bool) : Prop :=
  match x with
  | .non => k = false
  | .bl b => k = b
  | .int i => k = (i != 0)
  | .str y => y.length <= sizeLine /\ k = ((y.length : Int) != 0)
  | .byt y => y.size <= sizeLine /\ k = ((y.size : Int) != 0)
  | .ref p => (∃ xs, SqL K H p xs /\ k = !xs.isEmpty) \/ (∃ xs, SqT K H p xs /\ k = !xs.isEmpty) \/ ∃ kvs, H p = some (.dK kvs) /\ k = !kvs.isEmpty
  | _ => False
theorem lEq {κ : Type} {kvs : List (κ × V)} {vs : List (κ × Value)} (r : KV kvs vs) : (!vs.isEmpty) = !kvs.isEmpty := by
  cases r <;> rfl
theorem hJq {xs : List V} {its : List Value} (r : Vals xs its) : (!its.toArray.isEmpty) = !xs.isEmpty := by
  cases r <;> simp
theorem fCq : (sizeLine : Nat) < 2 ^ 63 := by rw [sizeLine_eq]; decide
theorem uLq : TruR X (fun x H Q => ∃ k, xGq X.K x H k /\ Q k H) := by
  intro pins s σ H x v Q I rx h
  obtain ⟨k, e, q⟩ := h
  have hl := fCq
  have hs : sizeLine = 16777216 := sizeLine_eq
  cases x with
  | non =>
    cases rx
    have e' : k = false := e
    subst e'
    exact truthy_none ⟨H, I, q⟩
  | bl b =>
    cases rx
    have e' : k = b := e
    subst e'
    exact wpAny_truthy_bool ⟨H, I, q⟩
  | int i =>
    obtain ⟨t, rfl⟩ := rx
    have e' : k = (i != 0) := e
    subst e'
    exact PySem.P.truthy_int ⟨H, I, q⟩
  | str y =>
    obtain ⟨t, rfl⟩ := rx
    obtain ⟨hy, e'⟩ : y.length <= sizeLine /\ k = ((y.length : Int) != 0) := e
    subst e'
    exact PySem.P.truthy_str (by omega) ⟨H, I.tok _, q⟩
  | byt y =>
    obtain ⟨t, rfl⟩ := rx
    obtain ⟨hy, e'⟩ : y.size <= sizeLine /\ k = ((y.size : Int) != 0) := e
    subst e'
    exact PySem.W.truthy_bytes (by omega) ⟨H, I.tok _, q⟩
  | ref p =>
    cases rx
    have e' : (∃ xs, SqL X.K H p xs /\ k = !xs.isEmpty) \/ (∃ xs, SqT X.K H p xs /\ k = !xs.isEmpty) \/ ∃ kvs, H p = some (.dK kvs) /\ k = !kvs.isEmpty := e
    rcases e' with ⟨xs, hx, e'⟩ | ⟨xs, hx, e'⟩ | ⟨kvs, hx, e'⟩
    . subst e'
      obtain ⟨its, r, pl, hz⟩ := I.list hx
      have hlen := r.length
      exact wpAny_truthy_list pl.isList (by simp only [List.size_toArray]; omega) ⟨H, I.tok _, by rw [hJq r]; exact q⟩
    . subst e'
      obtain ⟨its, r, pl, hz⟩ := I.tuple hx
      have hlen := r.length
      exact truthy_tuple pl (by simp only [List.size_toArray]; omega) ⟨H, I.tok _, by rw [hJq r]; exact q⟩
    . subst e'
      obtain ⟨hz, hS, vs, r, m⟩ : kvs.length <= sizeLine /\ (p == sysModules) = false /\ ∃ vs, KV kvs vs /\ s.heap.DictOf (k1q X.prog X.w) p vs := I.hok p _ hx
      have hlen : kvs.length = vs.length := Paired.length r
      exact wpAny_truthy_dict hS m (by omega) ⟨H, I.tok _, by rw [lEq r]; exact q⟩
  | _ => exact (show False from e).elim
theorem q4q (ha : PE X a ta) (he : ∀ whole, isTrue a X.env whole = (do let v ← whole; standAt a.pos; holding [v] (truthy v))) :
    PT X a (fun σ H Q => ta σ H fun x H' => ∃ k, xGq X.K x H' k /\ Q k H') := by
  intro pins s σ H Q I h
  exact isTrue_plain (thn (ha pins s σ H _ I h) fun v s1 ⟨x, H1, I1, r1, q1⟩ => uLq pins s1 σ H1 x v Q I1 r1 q1) (he _)
theorem op_add_str : OpR X (binaryOp .Add) (fun x y H Q => ∃ i j, x = .str i /\ y = .str j /\ i.length + j.length <= sizeLine /\ Q (.str (i ++ j)) H) := by
  intro pins s σ H x y v u Q I rx ry h
  obtain ⟨i, j, rfl, rfl, hz, q⟩ := h
  obtain ⟨t, rfl⟩ := rx
  obtain ⟨t', rfl⟩ := ry
  exact add_str (fun t' tk => ⟨.str (i ++ j), H, I.tok _, ⟨_, rfl⟩, q⟩) hz
theorem oEq {x : V} {us : List Value} (r : Vals [x] us) : ∃ u, us = [u] /\ RelV x u := by
  cases r with
  | cons r1 r2 => cases r2; exact ⟨_, rfl, r1⟩
theorem n4q : CallR X (.type "int") (fun xs H Q => (∃ i, xs = [.int i] /\ Q (.int i) H) \/ ∃ k, xs = [.bl k] /\ Q (.int (if k then 1 else 0)) H) := by
  intro pins s σ H xs us Q I r h
  rcases h with ⟨i, rfl, q⟩ | ⟨k, rfl, q⟩
  . obtain ⟨u, rfl, t, rfl⟩ := oEq r
    exact call_int_int ⟨.int i, H, I, ⟨_, rfl⟩, q⟩
  . obtain ⟨u, rfl, r1⟩ := oEq r
    cases r1
    exact call_int_bool ⟨.int (if k then 1 else 0), H, I.tok _, ⟨_, rfl⟩, q⟩
end
structure ObjM (h : Heap) (x dx C : Addr) (mA : Str -> Option Value) : Prop where
  obj : h.get? x = some (PySem.W.instObj C dx)
  ns : h.Ns1 dx mA
  ne : dx ≠ x
theorem mTq {h : Heap} {dx : Addr} {mA : Str -> Option Value} (n : h.Ns1 dx mA) : ∃ od, h.get? dx = some od /\ ∀ name, PySem.W.lookIn name od = some (mA name) := by
  obtain ⟨o, es, ep, ho, hd, hk, _, hm⟩ := n
  refine ⟨o, ho, fun name => ?_⟩
  have e := hm name
  unfold nsFind findBy at e
  rw [<- Array.find?_toList] at e
  unfold PySem.W.lookIn
  rw [hd]
  dsimp only
  split
  . rename_i y q
    rw [q] at e
    exact congrArg some e
  . rename_i q
    rw [q] at e
    have a : es.toList.any (·.refKey) = false := by
      rw [List.any_eq_false]
      intro y hy
      obtain ⟨z, t, hkey⟩ := hk y (Array.mem_toList_iff.mp hy)
      simp [DictEntry.refKey, hkey]
    have a' : ¬ es.toList.any (·.refKey) = true := by rw [a]; exact Bool.false_ne_true
    rw [if_neg a']
    exact congrArg some e
theorem ObjM.look {h : Heap} {x dx C : Addr} {mA : Str -> Option Value} (I : ObjM h x dx C mA) : ∃ od, PySem.W.InstAt h x (PySem.W.instObj C dx) C (some od) /\ ∀ name, PySem.W.lookIn name od = some (mA name) :=
  let ⟨od, ho, hl⟩ := mTq I.ns
  ⟨od, ⟨I.obj, rfl, rfl, ho⟩, hl⟩
section
variable {prog : Program} {w : World} {A : Around} {E : Value -> Shared -> Prop} {s : Shared} {K : PySem.W.Frag} {x dx C f : Addr} {mA : Str -> Option Value} {name : Str} {v : Value}
theorem rIq {expr : Bool} {Q : Value -> Shared -> Prop} (X : K.In s.heap) (I : ObjM s.heap x dx C mA) (hg : PySem.W.plainGet K C name = true) (hh : PySem.W.hasDictIn K C = true)
 (ha : PySem.W.findIn K (.ref C) name = some none) (hv : mA name = some v) (hv' : PySem.W.handedIn v = true) (h : Q v { s with toks := s.toks + 1 }) :
    wpAny (model prog w) A (getAttr (.ref x) name expr) Q E s := by
  obtain ⟨od, J, hl⟩ := I.look
  exact PySem.W.get_value X J (PySem.W.plainGet_of hg).1 (PySem.W.findObj_own hh ha rfl (by rw [hl, hv])) hv' h
theorem pFq {pl : Sem Bool} {Q : Value × List Value -> Shared -> Prop} (X : K.In s.heap) (I : ObjM s.heap x dx C mA) (hg : PySem.W.plainGet K C name = true)
 (hf : PySem.W.findIn K (.ref C) name = some (some (.ref f))) (ht : PySem.W.isFn K (.ref f) = true) (hv : mA name = none) (h : Q (.ref f, [.ref x]) s) :
    wpAny (model prog w) A (getMethod (.ref x) name pl) Q E s := by
  obtain ⟨od, J, hl⟩ := I.look
  exact PySem.W.method_fn X J (PySem.W.plainGet_of hg).1 (PySem.W.plainGet_of hg).2 hf (beq_iff_eq.mp ht) (by show (PySem.W.lookIn name od).map (·.isSome) = some false; rw [hl, hv]; rfl) h
theorem t6q {ns : List Str} {Q : Unit -> Shared -> Prop} (X : K.In s.heap) (I : ObjM s.heap x dx C mA)
 (hs : PySem.W.findIn K (.ref C) "__setattr__" = some (some (.builtin "object.__setattr__"))) (hp : PySem.W.plainOver K C = true) (ht : PySem.W.takerIn K C name = some none) (hh : PySem.W.hasDictIn K C = true)
    (hw : PySem.Within mA ns) (hsz : ns.length <= sizeLine)
    (h : ∀ h', ObjM h' x dx C (fun y => if y = name then some v else mA y) -> Heap.SameBut dx s.heap h' -> Q () { s with heap := h', toks := s.toks + 2 }) :
    wpAny (model prog w) A (setAttr (.ref x) name v) Q E s := by
  obtain ⟨od, J, hl⟩ := I.look
  refine PySem.W.set_plain X J hs (PySem.W.osa_open (s := { s with toks := s.toks + 1 }) (r := none) X J hp ht fun b => ?_)
  obtain ⟨cd, hc, hd'⟩ := PySem.W.any_some hh
  have hx : s.heap.get? x = some ⟨.ref C, some dx, .plain, #[]⟩ := I.obj
  refine wpAny_bind (wpAny_pure (wpAny_bind (wpAny_bind (wpAny_loadPart hx (wpAny_bind (PySem.W.Looks.here (s := { s with toks := s.toks + 1 }) (PySem.W.looks_clsIn X hc) ?_))))))
  rw [hd']
  refine wpAny_pure (a := some dx) (wpAny_bind (wpAny_pure (wpAny_bind ?_)))
  refine wpAny_nsSet1 (s := { s with toks := s.toks + 1 }) I.ns fun h' hn2 hs2 => ?_
  obtain ⟨oD, esD, epD, hoD, hdD, hcD⟩ := hn2.count (PySem.Within.cons name v hw)
  refine wpAny_bind (wpAny_lookBehind hoD (by rw [hdD]; exact pastItsLine_dict (Nat.le_trans hcD (by rw [List.length_cons]; omega))) ?_)
  exact wpAny_pure (h _ ⟨(hs2.2 _ (Ne.symm I.ne)).trans I.obj, hn2, I.ne⟩ hs2)
theorem qDq {R : Result -> Shared -> Prop} {vs : List Value} {kw : List (Str × Value)} (X : K.In s.heap) (hm : PySem.W.makesIn K C = true)
 (hi : PySem.W.findIn K (.ref C) "__init__" = some (some (.ref f))) (hf : PySem.W.typeIn K (.ref f) = some (.type "function"))
    (h : codeAny (model prog w) (A.under (.builtin "type.__call__" ⟨.ref C :: vs, kw⟩)) (.call (.ref f) ⟨.ref (s.heap.objs.size + 1) :: vs, kw⟩) (PySem.W.InitBack (s.heap.objs.size + 1) R)
      { s with heap := (s.heap.push PySem.W.emptyDict).push (PySem.W.instObj C s.heap.objs.size) }) :
    codeAny (model prog w) A (.call (.ref C) ⟨vs, kw⟩) R s := by
  obtain ⟨hh, g, d, t, os⟩ := s
  exact PySem.W.make_core (PySem.W.makes_of X hm) (PySem.W.looks_findIn X hi) (fun self => PySem.W.bind_fn X self hf) (.inl rfl) h
end
def i0q (f : Str) (v : V) : List (Str × V) -> List (Str × V)
  | [] => [(f, v)]
  | (g, x) :: r => if g = f then (g, v) :: r else (g, x) :: i0q f v r
theorem gFq (f g : Str) (v : V) : ∀ fs : List (Str × V), (i0q f v fs).lookup g = if g = f then some v else fs.lookup g
  | [] => by
    show List.lookup g [(f, v)] = _
    by_cases h : g = f
    . have hb : (g == f) = true := beq_iff_eq.mpr h
      simp only [List.lookup, hb, if_pos h]
    . have hb : (g == f) = false := beq_eq_false_iff_ne.mpr h
      simp only [List.lookup, hb, if_neg h]
  | (k, x) :: r => by
    have ih := gFq f g v r
    rw [show i0q f v ((k, x) :: r) = (if k = f then (k, v) :: r else (k, x) :: i0q f v r) from rfl]
    by_cases hk : k = f
    . rw [if_pos hk]
      by_cases h : g = k
      . have hb : (g == k) = true := beq_iff_eq.mpr h
        simp only [List.lookup, hb, if_pos (h.trans hk)]
      . have hb : (g == k) = false := beq_eq_false_iff_ne.mpr h
        simp only [List.lookup, hb, if_neg (fun e : g = f => h (e.trans hk.symm))]
    . rw [if_neg hk]
      by_cases h : g = k
      . have hb : (g == k) = true := beq_iff_eq.mpr h
        simp only [List.lookup, hb, if_neg (fun e : g = f => hk (h.symm.trans e))]
      . have hb : (g == k) = false := beq_eq_false_iff_ne.mpr h
        simp only [List.lookup, hb]
        exact ih
theorem gTq (f : Str) (v : V) : ∀ fs : List (Str × V), f ∈ (i0q f v fs).map (·.1) /\ ∀ g, g ∈ fs.map (·.1) -> g ∈ (i0q f v fs).map (·.1)
  | [] => ⟨by simp [i0q], fun g h => by simp at h⟩
  | (k, x) :: r => by
    obtain ⟨i1, i2⟩ := gTq f v r
    rw [show i0q f v ((k, x) :: r) = (if k = f then (k, v) :: r else (k, x) :: i0q f v r) from rfl]
    by_cases hk : k = f
    . rw [if_pos hk]
      subst hk
      exact ⟨by simp, fun g h => by simpa using h⟩
    . rw [if_neg hk]
      refine ⟨?_, fun g h => ?_⟩
      . rw [List.map_cons]
        exact List.mem_cons_of_mem _ i1
      . rw [List.map_cons] at h ⊢
        rcases List.mem_cons.mp h with e | e
        . exact List.mem_cons.mpr (.inl e)
        . exact List.mem_cons_of_mem _ (i2 g e)
theorem gLq (f : Str) (v : V) : ∀ fs : List (Str × V), (i0q f v fs).length <= fs.length + 1
  | [] => by simp [i0q]
  | (k, x) :: r => by
    have ih := gLq f v r
    rw [show i0q f v ((k, x) :: r) = (if k = f then (k, v) :: r else (k, x) :: i0q f v r) from rfl]
    by_cases hk : k = f
    . rw [if_pos hk, List.length_cons, List.length_cons]; omega
    . rw [if_neg hk, List.length_cons, List.length_cons]; omega
theorem RelO.some_of {v : V} {o : Option Value} (r : RelO (some v) o) : ∃ u, o = some u /\ RelV v u := by
  cases o with
  | none => exact (show False from r).elim
  | some u => exact ⟨u, rfl, r⟩
theorem RelO.none_of {o : Option Value} (r : RelO none o) : o = none := by
  cases o with
  | none => rfl
  | some u => exact (show False from r).elim
theorem o6q {v : V} {u : Value} (r : RelV v u) : PySem.W.handedIn u = true := by
  cases v with
  | non => cases (show u = Value.none from r); rfl
  | bl b => cases (show u = Value.bool b from r); rfl
  | int i => obtain ⟨t, e⟩ := (show ∃ t, u = Value.int i t from r); cases e; rfl
  | str x => obtain ⟨t, e⟩ := (show ∃ t, u = Value.str x t from r); cases e; rfl
  | byt b => obtain ⟨t, e⟩ := (show ∃ t, u = Value.bytes b t from r); cases e; rfl
  | flt b => obtain ⟨t, e⟩ := (show ∃ t, u = Value.float b t from r); cases e; rfl
  | ref a => cases (show u = Value.ref a from r); rfl
  | ty n => cases (show u = Value.type n from r); rfl
section
variable {P : Program} {w : World} {H H' : Hp} {h h' : Heap} {a C dx : Addr} {fs fs' : List (Str × V)}
theorem hRq (hok : HOk P w H h) (e : H a = some (.ins C dx fs)) : ∃ mA, ObjM h a dx C mA /\ (∀ f, RelO (fs.lookup f) (mA f)) /\ PySem.Within mA (fs.map (·.1)) /\ fs.length <= 1000 /\ H dx = some (.own a) := by
  obtain ⟨d, z, ne, ob, mA, n, r, q⟩ := (show ObjOk P w H h a (.ins C dx fs) from hok a _ e)
  exact ⟨mA, ⟨ob, n, ne⟩, r, q, z, d⟩
end
structure Cls (K : PySem.W.Frag) (C : Addr) : Prop where
  pg : PySem.W.plainGet K C Str.empty = true
  hd : PySem.W.hasDictIn K C = true
  po : PySem.W.plainOver K C = true
  sa : PySem.W.findIn K (.ref C) "__setattr__" = some (some (.builtin "object.__setattr__"))
theorem Cls.get {K : PySem.W.Frag} {C : Addr} (c : Cls K C) (f : Str) : PySem.W.plainGet K C f = true := c.pg
def NoAttr (K : PySem.W.Frag) (C : Addr) (f : Str) : Prop := PySem.W.findIn K (.ref C) f = some none
theorem NoAttr.taker {K : PySem.W.Frag} {C : Addr} {f : Str} (n : NoAttr K C f) : PySem.W.takerIn K C f = some none := by
  unfold PySem.W.takerIn
  rw [show PySem.W.findIn K (.ref C) f = some none from n]
  rfl
structure Meth (K : PySem.W.Frag) (C : Addr) (m : Str) (f : Addr) : Prop where
  at_ : PySem.W.findIn K (.ref C) m = some (some (.ref f))
  fn : PySem.W.isFn K (.ref f) = true
  kp : PySem.W.keepIn K (.ref f) = true
section
variable {X : Cx} {pins : List (Addr × Obj)} {σ : St} {H : Hp} {s : Shared} {a C dx : Addr} {fs : List (Str × V)} {f : Str} {v : V} {A : Around} {E : Value -> Shared -> Prop}
theorem h1q {b : Bool} {Q : Value -> Shared -> Prop} (I : Inv X pins σ H s) (e : H a = some (.ins C dx fs)) (c : Cls X.K C) (n : NoAttr X.K C f) (l : fs.lookup f = some v)
    (h : ∀ u s', Inv X pins σ H s' -> RelV v u -> Q u s') : wpAny (model X.prog X.w) A (getAttr (.ref a) f b) Q E s := by
  obtain ⟨mA, O, r, _, _, _⟩ := hRq I.hok e
  obtain ⟨u, hu, ru⟩ := RelO.some_of (v := v) (o := mA f) (by rw [<- l]; exact r f)
  exact rIq I.kIn O (c.get f) c.hd n hu (o6q ru) (h u _ (I.tok _) ru)
theorem f6q {m : Str} {g : Addr} {pl : Sem Bool} {Q : Value × List Value -> Shared -> Prop} (I : Inv X pins σ H s) (e : H a = some (.ins C dx fs)) (c : Cls X.K C) (k : Meth X.K C m g) (l : fs.lookup m = none)
    (h : Q (.ref g, [.ref a]) s) : wpAny (model X.prog X.w) A (getMethod (.ref a) m pl) Q E s := by
  obtain ⟨mA, O, r, _, _, _⟩ := hRq I.hok e
  have hn : mA m = none := RelO.none_of (by rw [<- l]; exact r m)
  exact pFq I.kIn O (c.get m) k.at_ k.fn hn h
theorem gYq {y : V} {u : Value} {Q : Unit -> Shared -> Prop} (I : Inv X pins σ H s) (e : H a = some (.ins C dx fs)) (c : Cls X.K C) (n : NoAttr X.K C f) (hl : fs.length < 1000) (ry : RelV y u)
    (h : ∀ s', Inv X pins σ (upd H a (.ins C dx (i0q f y fs))) s' -> Q () s') : wpAny (model X.prog X.w) A (setAttr (.ref a) f u) Q E s := by
  obtain ⟨mA, O, r, wi, _, ho⟩ := hRq I.hok e
  have hz : (fs.map (·.1)).length <= sizeLine := by rw [List.length_map, sizeLine_eq]; omega
  refine t6q I.kIn O c.sa c.po n.taker c.hd wi hz fun h' O' sb => h _ ?_
  have hd : ∃ o, h'.get? dx = some o := let ⟨o, _, _, e', _⟩ := O'.ns; ⟨o, e'⟩
  refine I.write (x := a) (e := dx) (by rw [e]; exact True.intro) (.inr ho) (fun b q hb z => (sb.2 b hb).trans z) hd ?_
  refine ⟨by rw [aDq O.ne]; exact ho, ?_, O.ne, O'.obj, _, O'.ns, fun g => ?_, fun g hg => ?_⟩
  . have := gLq f y fs; omega
  . show RelO ((i0q f y fs).lookup g) (if g = f then some u else mA g)
    rw [gFq]
    by_cases q : g = f
    . rw [if_pos q, if_pos q]; exact ry
    . rw [if_neg q, if_neg q]; exact r g
  . by_cases q : g = f
    . rw [q]; exact (gTq f y fs).1
    . refine (gTq f y fs).2 g (wi g fun z => hg ?_)
      show (if g = f then some u else mA g) = none
      rw [if_neg q]; exact z
theorem Inv.made (I : Inv X pins σ H s) : Inv X pins σ (upd (upd H s.heap.objs.size (.own (s.heap.objs.size + 1))) (s.heap.objs.size + 1) (.ins C s.heap.objs.size []))
    { s with heap := (s.heap.push PySem.W.emptyDict).push (PySem.W.instObj C s.heap.objs.size) } := by
  have e1 : (s.heap.push PySem.W.emptyDict).get? s.heap.objs.size = some PySem.W.emptyDict := Heap.get?_push_size s.heap rfl
  have e2 : ((s.heap.push PySem.W.emptyDict).push (PySem.W.instObj C s.heap.objs.size)).get? (s.heap.objs.size + 1) = some (PySem.W.instObj C s.heap.objs.size) := by
    have := Heap.get?_push_size (s.heap.push PySem.W.emptyDict) (o := PySem.W.instObj C s.heap.objs.size) rfl
    rwa [Heap.size_push] at this
  have e3 : (s.heap.push PySem.W.emptyDict).Ns s.heap.objs.size (fun _ => none) := ⟨PySem.W.emptyDict, #[], _, e1, rfl, (fun e he => absurd he (by simp)), fun _ => rfl⟩
  have I1 := I.laid (a := s.heap.objs.size) (o := .own (s.heap.objs.size + 1)) (h' := s.heap.push PySem.W.emptyDict) (t' := s.toks) (fun b u q => Heap.get?_push_of_some _ q) (Nat.le_refl _) ⟨_, e1⟩
  refine I1.laid (a := s.heap.objs.size + 1) (o := .ins C s.heap.objs.size []) (t' := s.toks) (fun b u q => Heap.get?_push_of_some _ q) (Nat.le_of_eq (Heap.size_push _ _)) ?_
  have ne : s.heap.objs.size ≠ s.heap.objs.size + 1 := Nat.ne_of_lt (Nat.lt_succ_self _)
  refine ⟨by rw [aDq ne, aQq], Nat.zero_le _, ne, e2, fun _ => none, (Heap.Ns1.of_empty e3).at fun o q => Heap.get?_push_of_some _ q, fun _ => True.intro, fun y hy => absurd rfl hy⟩
theorem s7q {prog : Program} {w : World} {env : Env} {e : Expr} {f : Str} {pos : Pos} {s : Shared} {Q : Value -> Shared -> Prop} (hb : attributeBase e f env (eval e env) = eval e env)
    (h : wpAny (model prog w) A (eval e env) (fun o s₁ => wpAny (model prog w) A (getAttr o f true) Q E s₁) E s) : wpAny (model prog w) A (eval (.Attribute e f pos) env) Q E s :=
  Attribute_any_ h (by rw [arm_eval_Attribute, hb])
end
def zYq (K : PySem.W.Frag) (ta : TE) (f : Str) : TE := fun σ H Q => ta σ H fun x H1 => ∃ a C dx fs v, x = .ref a /\ H1 a = some (.ins C dx fs) /\ Cls K C /\ NoAttr K C f /\ fs.lookup f = some v /\ Q v H1
def sFld (K : PySem.W.Frag) (ta tv : TE) (f : Str) : TS := fun D σ H => tv σ H fun y H1 => ta σ H1 fun x H2 => ∃ a C dx fs, x = .ref a /\ H2 a = some (.ins C dx fs) /\ Cls K C /\ NoAttr K C f /\ fs.length < 1000 ∧
  D.nx σ (upd H2 a (.ins C dx (i0q f y fs)))
def zHq (X : Cx) (op : Operator) (rd : V -> V -> Hp -> VK -> Prop) : Prop :=
  ∀ (pins : List (Addr × Obj)) (s : Shared) (σ : St) (H : Hp) (x y : V) (u v : Value) (Q : VK), Inv X pins σ H s -> RelV x u -> RelV y v -> rd x y H Q -> wpAny (model X.prog X.w) X.A (inplaceOp op u v) (EP X pins σ Q) X.xe s
def sHq (K : PySem.W.Frag) (ta tv : TE) (rd : V -> V -> Hp -> VK -> Prop) (f : Str) : TS := fun D σ H => ta σ H fun x H1 => ∃ a C dx fs v, x = .ref a /\ H1 a = some (.ins C dx fs) /\ Cls K C /\ NoAttr K C f /\ fs.lookup f = some v ∧
  tv σ H1 fun y H2 => rd v y H2 fun z H3 => ∃ dx' fs', H3 a = some (.ins C dx' fs') /\ fs'.length < 1000 /\ D.nx σ (upd H3 a (.ins C dx' (i0q f z fs')))
section
variable {X : Cx} {o e value : Expr} {f : Str} {pos pos' tpos : Pos} {ta tv : TE}
theorem uUq (he : PE X e ta) (hb : attributeBase e f X.env (eval e X.env) = eval e X.env) : PE X (.Attribute e f pos) (zYq X.K ta f) := by
  intro pins s σ H Q I h
  refine s7q hb (thn (he pins s σ H _ I h) fun u s1 ⟨x, H1, I1, rx, a, C, dx, fs, v, ex, ea, c, n, l, q⟩ => ?_)
  subst ex
  obtain rfl : u = Value.ref a := rx
  exact h1q I1 ea c n l fun u' s2 I2 ru => ⟨v, H1, I2, ru, q⟩
theorem wQq (ha : PE X o ta) (hv : PE X value tv) (hs : swapsWith value (some (.Attribute o f pos')) pos.line X.env = pure false) : PS X (.Assign [.Attribute o f pos'] value pos) (sFld X.K ta tv f) := by
  intro pins s σ H D I h
  refine plainObj_wpAny_Assign_Attribute (thn (hv pins s σ H _ I h) fun u s1 ⟨y, H1, I1, ry, q⟩ => thn (ha pins s1 σ H1 _ I1 q) fun ov s2 ⟨x, H2, I2, rx, a, C, dx, fs, ex, ea, c, n, l, q2⟩ => ?_) hs
  subst ex
  obtain rfl : ov = Value.ref a := rx
  exact gYq I2 ea c n l ry fun s3 I3 => ⟨σ, _, I3, q2⟩
theorem o9q {op : Operator} {rd : V -> V -> Hp -> VK -> Prop} (ha : PE X o ta) (hv : PE X value tv) (hop : zHq X op rd) : PS X (.AugAssign (.Attribute o f tpos) op value pos) (sHq X.K ta tv rd f) := by
  intro pins s σ H D I h
  refine wpAny_AugAssign_AttributeAny (thn (ha pins s σ H _ I h) fun ov s1 ⟨x, H1, I1, rx, a, C, dx, fs, v, ex, ea, c, n, l, q⟩ => ?_)
  subst ex
  obtain rfl : ov = Value.ref a := rx
  refine h1q I1 ea c n l fun u s2 I2 ru => thn (hv pins s2 σ H1 _ I2 q) fun w3 s3 ⟨y, H2, I3, ry, q3⟩ => thn (hop pins s3 σ H2 v y u w3 _ I3 ru ry q3) fun w4 s4 ⟨z, H3, I4, rz, dx', fs', ea', l', q4⟩ => ?_
  exact gYq I4 ea' c n l' rz fun s5 I5 => ⟨σ, _, I5, q4⟩
def rAdd : V -> V -> Hp -> VK -> Prop := fun x y H Q => ∃ i j, x = .int i /\ y = .int j /\ Q (.int (i + j)) H
theorem wNq : zHq X .Add rAdd := by
  rintro pins s σ H x y u v Q I rx ry ⟨i, j, rfl, rfl, q⟩
  obtain ⟨t, rfl⟩ := (show ∃ t, u = Value.int i t from rx)
  obtain ⟨t', rfl⟩ := (show ∃ t', v = Value.int j t' from ry)
  exact PyProof.Rows.iadd_int ⟨.int (i + j), H, I.tok _, ⟨_, rfl⟩, q⟩
theorem sIq {pl : Sem Bool} {m : Str} {apos : Pos} {args : List Expr} {pins : List (Addr × Obj)} {s : Shared} {σ : St} {H : Hp} {Q : Value -> Shared -> Prop} {te : TE} (he : PE X e te) (I : Inv X pins σ H s)
    (h : te σ H fun x H1 => ∃ a C dx fs g, x = .ref a /\ H1 a = some (.ins C dx fs) /\ Cls X.K C /\ Meth X.K C m g /\ fs.lookup m = none ∧
      ∀ s1, Inv X pins σ H1 s1 -> wpAny (model X.prog X.w) X.A (callWith pos (.ref g) [.ref a] (backTo pos (starEach args X.env)) (backToKw pos (keywordEach [] X.env))) Q X.xe s1)
    (ht : eval (.Call (.Attribute e m apos) args [] pos) X.env = (do
      let ov ← eval e X.env
      standAt apos.atName
      let (f, first) ← holding [ov] (getMethod ov m pl)
      callWith pos f first (backTo pos (starEach args X.env)) (backToKw pos (keywordEach [] X.env)))) :
    wpAny (model X.prog X.w) X.A (eval (.Call (.Attribute e m apos) args [] pos) X.env) Q X.xe s := by
  refine PySem.W.methodCall_KW (pl := pl) (thn (he pins s σ H _ I h) fun u s1 ⟨x, H1, I1, rx, a, C, dx, fs, g, ex, ea, c, k, l, q⟩ => ?_) ht
  subst ex
  obtain rfl : u = Value.ref a := rx
  exact f6q I1 ea c k l (q s1 I1)
end
section
variable {X : Cx} {pins : List (Addr × Obj)} {σ : St} {H : Hp} {s : Shared} {A : Around} {E : Value -> Shared -> Prop} {Q : Value -> Shared -> Prop} {c : Value} {b : Bool}
inductive TyOf (K : PySem.W.Frag) (H : Hp) : V -> Value -> Prop where
  | non : TyOf K H .non (.type "NoneType")
  | bl (x : Bool) : TyOf K H (.bl x) (.type "bool")
  | int (i : Int) : TyOf K H (.int i) (.type "int")
  | str (x : Str) : TyOf K H (.str x) (.type "str")
  | flt (x : UInt64) : TyOf K H (.flt x) (.type "float")
  | lst {a : Addr} {xs : List V} (e : H a = some (.lst xs)) : TyOf K H (.ref a) (.type "list")
  | frz {a : Addr} {o : Obj} {xs : List V} (e : H a = some (.frz o (.lst xs))) : TyOf K H (.ref a) (.type "list")
  | tup {a : Addr} {xs : List V} (e : H a = some (.tup xs)) : TyOf K H (.ref a) (.type "tuple")
  | dK {a : Addr} {kvs : List (Key × V)} (e : H a = some (.dK kvs)) : TyOf K H (.ref a) (.type "dict")
  | dT {a : Addr} {kvs : List (List Key × V)} (e : H a = some (.dT kvs)) : TyOf K H (.ref a) (.type "dict")
  | ins {a C dx : Addr} {fs : List (Str × V)} (e : H a = some (.ins C dx fs)) (cl : Cls K C) (ha : PySem.W.findIn K (.ref C) "__class__" = some (some (.builtin "object.__class__")))
      (hn : PySem.W.specialIn K (.builtin "object.__class__") "__get__" = some (some (.builtin "getset_descriptor.__get__"))) (htk : PySem.W.takesIn K (.builtin "object.__class__") = some true)
      (hm : PySem.W.mroIn K C (.type "object") = some true) : TyOf K H (.ref a) (.ref C)
theorem nLq {x : V} {u t : Value} (I : Inv X pins σ H s) (rx : RelV x u) (ty : TyOf X.K H x t) (e : PySem.W.kitOne X.K t c = some b) (h : ∀ tk, Q (.bool b) { s with toks := tk }) :
    wpAny (model X.prog X.w) A (call (.builtin "isinstance") [u, c]) Q E s := by
  cases ty with
  | non => cases (show u = Value.none from rx); exact PySem.W.kia_one PySem.W.kitx_none I.kIn True.intro e (fun z => nomatch z) h
  | bl y => cases (show u = Value.bool y from rx); exact PySem.W.kia_one PySem.W.kitx_bool I.kIn True.intro e (fun z => nomatch z) h
  | int i => obtain ⟨t, q⟩ := (show ∃ t, u = Value.int i t from rx); cases q; exact PySem.W.kia_one PySem.W.kitx_int I.kIn True.intro e (fun z => nomatch z) h
  | str y => obtain ⟨t, q⟩ := (show ∃ t, u = Value.str y t from rx); cases q; exact PySem.W.kia_one PySem.W.kitx_str I.kIn True.intro e (fun z => nomatch z) h
  | flt y => obtain ⟨t, q⟩ := (show ∃ t, u = Value.float y t from rx); cases q; exact PySem.W.kia_one PySem.W.kitx_float I.kIn True.intro e (fun z => nomatch z) h
  | @lst a xs ea =>
    cases (show u = Value.ref a from rx)
    obtain ⟨_, _, n, _, h1⟩ := (show ObjOk X.prog X.w H s.heap a (.lst xs) from I.hok a _ ea)
    exact PySem.W.kia_one PySem.W.kitx_list I.kIn ⟨_, h1, rfl⟩ e (fun z => nomatch z) h
  | @frz a ob xs ea =>
    cases (show u = Value.ref a from rx)
    obtain ⟨_, _, _, n, _, h1⟩ := (show ObjOk X.prog X.w H s.heap a (.frz ob (.lst xs)) from I.hok a _ ea)
    exact PySem.W.kia_one PySem.W.kitx_list I.kIn ⟨_, h1, rfl⟩ e (fun z => nomatch z) h
  | @tup a xs ea =>
    cases (show u = Value.ref a from rx)
    obtain ⟨_, _, _, p⟩ := (show ObjOk X.prog X.w H s.heap a (.tup xs) from I.hok a _ ea)
    obtain ⟨o, h1, h2, _⟩ := p
    exact PySem.W.kia_one PySem.W.kitx_tuple I.kIn ⟨o, h1, h2⟩ e (fun z => nomatch z) h
  | @dK a kvs ea =>
    cases (show u = Value.ref a from rx)
    obtain ⟨_, _, vs, _, p⟩ := (show ObjOk X.prog X.w H s.heap a (.dK kvs) from I.hok a _ ea)
    obtain ⟨o, es, ep, h1, h2, _⟩ := p
    exact PySem.W.kia_one PySem.W.kitx_dict I.kIn ⟨o, h1, h2.1⟩ e (fun z => nomatch z) h
  | @dT a kvs ea =>
    cases (show u = Value.ref a from rx)
    obtain ⟨_, _, xs, _, o, es, ep, h1, h2, _⟩ := (show ObjOk X.prog X.w H s.heap a (.dT kvs) from I.hok a _ ea)
    exact PySem.W.kia_one PySem.W.kitx_dict I.kIn ⟨o, h1, h2.1⟩ e (fun z => nomatch z) h
  | @ins a C dx fs ea cl ha hn htk hm =>
    cases (show u = Value.ref a from rx)
    obtain ⟨mA, O, _⟩ := hRq I.hok ea
    obtain ⟨od, J, _⟩ := O.look
    exact PySem.W.kia_one (PySem.W.kitx_own (cl.get _) cl.hd ha hn htk hm) I.kIn J e (fun z => nomatch z) h
end
structure Room (k : Nat) (A : Around) : Prop where
  hd : A.handled = none
  dp : A.depth + 3 * k + 5 < recursionLimit
  un : A.units + 16 * k + 200 < cLine
theorem Room.mono {j k : Nat} {A : Around} (r : Room k A) (h : j <= k) : Room j A := ⟨r.hd, by have := r.dp; omega, by have := r.un; omega⟩
theorem Room.deeper {k : Nat} {A : Around} (r : Room (k + 1) A) (env : Env) : Room k (A.deeper env) :=
  ⟨r.hd, by have := r.dp; show A.depth + 1 + 3 * k + 5 < _; omega, by have := r.un; show A.units + 3 + 16 * k + 200 < _; omega⟩
theorem lMq {A : Around} {C : Addr} {us : List Value} {kw : List (Str × Value)} : (A.under (.builtin "type.__call__" ⟨.ref C :: us, kw⟩)).depth = A.depth + 1 := by
  first | rfl | simp [Around.under, Code.weight, Code.isCreation, Code.isGuard, Code.isCaller, Code.frames, Code.isFrame, guardIds]
theorem l5q {A : Around} {C : Addr} {us : List Value} {kw : List (Str × Value)} : (A.under (.builtin "type.__call__" ⟨.ref C :: us, kw⟩)).units = A.units + 1 := by
  first | rfl | simp [Around.under, Code.cUnits, Code.frames, Code.isFrame]
theorem Room.make {k : Nat} {A : Around} (r : Room (k + 1) A) (C : Addr) (us : List Value) (kw : List (Str × Value)) : Room k (A.under (.builtin "type.__call__" ⟨.ref C :: us, kw⟩)) :=
  ⟨r.hd, by have := r.dp; rw [lMq]; omega, by have := r.un; rw [l5q]; omega⟩
theorem Room.depth {k : Nat} {A : Around} (r : Room k A) : A.depth < recursionLimit := by have := r.dp; omega
def xCq : TA := fun _ H Q => Q [] H
def w0q (ta : TE) (tr : TA) : TA := fun σ H Q => ta σ H fun x H1 => tr σ H1 fun xs H2 => Q (x :: xs) H2
section
variable {X : Cx} {e : Expr} {es : List Expr} {te : TE} {t : TA} {pos : Pos}
theorem uIq : PA X [] xCq := fun _ _ _ _ H Q I h => Calls.spliced_nil ⟨[], H, I, .nil, h⟩
theorem sNq (ha : PE X e te) (hr : PA X es t) (hs : starEach (e :: es) X.env = (false, eval e X.env) :: starEach es X.env := by rfl) : PA X (e :: es) (w0q te t) := by
  intro pos pins s σ H Q I h
  rw [hs]
  show wpAny _ _ (spliced ((false, eval e X.env) :: backTo pos (starEach es X.env))) _ _ s
  refine Calls.spliced_cons (thn (ha pins s σ H _ I h) fun u s1 ⟨x, H1, I1, r1, q1⟩ => ?_)
  exact thn (hr pos pins s1 σ H1 _ I1 q1) fun us s2 ⟨xs, H2, I2, r2, q2⟩ => ⟨x :: xs, H2, I2, .cons r1 r2, q2⟩
def z2q (t : TA) : TE := fun σ H Q => t σ H fun xs H1 => xs.length <= sizeLine /\ ∀ p, H1 p = none -> Q (.ref p) (upd H1 p (.tup xs))
def z6q (t : TA) : TE := fun σ H Q => t σ H fun xs H1 => xs.length <= sizeLine /\ ∀ p, H1 p = none -> Q (.ref p) (upd H1 p (.lst xs))
theorem uOq {x1} (h : PA X es t) : PE X (.Tuple es x1 pos) (z2q t) := by
  intro pins s σ H Q I hq
  refine wpAny_Tuple_spliced (thn (h pos pins s σ H _ I hq) fun us s1 ⟨xs, H1, I1, r, z, q⟩ => ⟨by rw [<- r.length]; exact z, ?_⟩)
  have hf : H1 s1.heap.objs.size = none := I1.hok.fresh (Nat.le_refl _)
  refine ⟨.ref s1.heap.objs.size, upd H1 s1.heap.objs.size (.tup xs), I1.laid (t' := s1.toks) (fun b u e => Heap.get?_push_of_some _ e) (Nat.le_refl _) ?_, rfl, q _ hf⟩
  exact ⟨z, us, r, ⟨_, Heap.get?_push_size _ rfl, rfl, _, rfl⟩⟩
theorem wDq (h : PA X es t) : PE X (.List es pos) (z6q t) := by
  intro pins s σ H Q I hq
  refine wpAny_List_spliced (thn (h pos pins s σ H _ I hq) fun us s1 ⟨xs, H1, I1, r, z, q⟩ => ⟨by rw [<- r.length]; exact z, ?_⟩)
  have hf : H1 s1.heap.objs.size = none := I1.hok.fresh (Nat.le_refl _)
  refine ⟨.ref s1.heap.objs.size, upd H1 s1.heap.objs.size (.lst xs), I1.laid (t' := s1.toks) (fun b u e => Heap.get?_push_of_some _ e) (Nat.le_refl _) ?_, rfl, q _ hf⟩
  exact ⟨z, us, 0, r, Heap.get?_push_size _ rfl⟩
end
abbrev Sp := List V -> Hp -> VK -> XK -> Prop
abbrev CXT := List Env -> Hp -> Shared -> XK -> Value -> Shared -> Prop
structure Env0 (P : Program) (w : World) (K : PySem.W.Frag) (mg : Str -> Option Value) (base : Heap) (A : Around) (outer : List Env) (s : Shared) (H : Hp) : Prop where
  frames : A.frames = some outer
  mod : Mod K mg base
  bs : ∀ b o, base.get? b = some o -> s.heap.get? b = some o /\ H b = none
  bsz : base.objs.size <= s.heap.objs.size
  funs : s.heap.FunFrames base outer
  frf : ∀ b ∈ frs outer, H b = none
  hok : HOk P w H s.heap
  bare : AllBare s.gens
def CE (outer : List Env) (P : Program) (w : World) (H : Hp) (s : Shared) (Q : VK) (u : Value) (s' : Shared) : Prop :=
  ∃ v H', s'.os = s.os /\ AllBare s'.gens /\ Un (frs outer) [] H H' s.heap s'.heap /\ HOk P w H' s'.heap /\ RelV v u /\ Q v H'
def CR (CX : CXT) (outer : List Env) (P : Program) (w : World) (H : Hp) (s : Shared) (Q : VK) (E : XK) (r : Result) (s' : Shared) : Prop :=
  match r with
  | .ok (.ret u) => CE outer P w H s Q u s'
  | .ok _ => False
  | .error e => CX outer H s E e s'
structure FnOk (P : Program) (w : World) (K : PySem.W.Frag) (mg : Str -> Option Value) (base : Heap) (CX : CXT) (k : Nat) (f : Addr) (fd : FuncData) (ps : List Str) (sp : Sp) : Prop where
  len : ∀ vs H Q E, sp vs H Q E -> vs.length = ps.length
  run : ∀ (A : Around) (outer : List Env) (s : Shared) (H : Hp) (args : Args) (us : List Value) (vs : List V) (Q : VK) (E : XK), Room k A -> Env0 P w K mg base A outer s H -> BindsTo s fd args (ps.zip us) -> Vals vs us -> sp vs H Q E →
    codeAny (model P w) A (.call (.ref f) args) (CR CX outer P w H s Q E) s
theorem Env0.make {P : Program} {w : World} {K : PySem.W.Frag} {mg : Str -> Option Value} {base : Heap} {A : Around} {outer : List Env} {s : Shared} {H : Hp} (e : Env0 P w K mg base A outer s H) (C : Addr) (us : List Value) (kw : List (Str × Value)) :
    Env0 P w K mg base (A.under (.builtin "type.__call__" ⟨.ref C :: us, kw⟩)) outer s H := ⟨by first | exact e.frames | (simpa [Around.under, Code.envs, Code.isFrame, pushEnvs] using e.frames), e.mod, e.bs, e.bsz, e.funs, e.frf, e.hok, e.bare⟩
section
variable {X : Cx} {pins : List (Addr × Obj)} {σ : St} {H : Hp} {s s' : Shared}
theorem Inv.env0 (I : Inv X pins σ H s) : Env0 X.prog X.w X.K X.mg X.base X.A X.stack s H :=
  ⟨I.ok.frames, I.ok.mod, I.bs, Nat.le_trans I.ok.bsz I.sz, I.stack, I.stkFree, I.hok, I.bare⟩
theorem Inv.after {Q : VK} {u : Value} (I : Inv X pins σ H s) (h : CE X.stack X.prog X.w H s Q u s') : EP X pins σ Q u s' := by
  obtain ⟨v, H', os, bare, un, hok, r, q⟩ := h
  obtain ⟨hh, g, d, t, os'⟩ := s'
  obtain rfl : os' = s.os := os
  exact ⟨v, H', I.call (h' := hh) (g' := g) (d' := d) (t' := t) (ch := []) un hok bare (fun b z => absurd z (by simp)), r, q⟩
end
def rLq (sp : Sp) (dvs : List V) (E : XK) (t : TA) : TE := fun σ H Q => t σ H fun vs H1 => sp (vs ++ dvs) H1 Q E
def w9q (C : Addr) (m : Str) (sp : Sp) (dvs : List V) (E : XK) (ta : TE) (t : TA) : TE := fun σ H Q => ta σ H fun x H1 => ∃ a dx fs, x = .ref a /\ H1 a = some (.ins C dx fs) /\ fs.lookup m = none ∧
  t σ H1 fun vs H2 => sp (x :: (vs ++ dvs)) H2 Q E
def y5q (C : Addr) (sp : Sp) (dvs : List V) (E : XK) (t : TA) : TE := fun σ H Q => t σ H fun vs H1 => ∀ x dx, H1 x = none -> H1 dx = none -> dx ≠ x →
  sp (.ref x :: (vs ++ dvs)) (upd (upd H1 dx (.own x)) x (.ins C dx [])) (fun v H2 => v = .non /\ Q (.ref x) H2) E
def Binds (K : PySem.W.Frag) (fd : FuncData) (ps : List Str) (ds : List Value) : Prop :=
  ∀ (s : Shared) (us : List Value), K.In s.heap -> (us ++ ds).length = ps.length -> BindsTo s fd ⟨us, []⟩ (ps.zip (us ++ ds))
theorem Binds.all {K : PySem.W.Frag} {fd : FuncData} {ps : List Str} (h : ∀ us : List Value, us.length = ps.length -> bindArgs fd ⟨us, []⟩ = pure (ps.zip us)) : Binds K fd ps [] := fun s us _ hl => by
  rw [List.append_nil] at hl ⊢
  exact .of_eq (h us hl)
def gQq (CX : CXT) (X : Cx) (E : XK) : Prop := ∀ (pins : List (Addr × Obj)) (σ : St) (H : Hp) (s : Shared) (e : Value) (s' : Shared), Inv X pins σ H s -> CX X.stack H s E e s' -> X.xe e s'
section
variable {X : Cx} {CX : CXT} {k : Nat} {f C : Addr} {fd : FuncData} {ps : List Str} {sp : Sp} {dvs : List V} {ds : List Value} {E : XK} {x m : Str} {p pos apos : Pos} {e o : Expr} {es : List Expr} {ta : TE} {t : TA}
theorem mDq {pins : List (Addr × Obj)} {σ : St} {H : Hp} {s : Shared} {Q : VK} {us : List Value} {vs : List V} (F : FnOk X.prog X.w X.K X.mg X.base CX k f fd ps sp) (hr : Room k X.A) (hb : Binds X.K fd ps ds) (hd : Vals dvs ds) (hx : gQq CX X E)
    (I : Inv X pins σ H s) (r : Vals vs us) (h : sp (vs ++ dvs) H Q E) : wpAny (model X.prog X.w) X.A (call (.ref f) us) (EP X pins σ Q) X.xe s := by
  have r2 : Vals (vs ++ dvs) (us ++ ds) := r.append hd
  have hl : (us ++ ds).length = ps.length := by rw [<- r2.length]; exact F.len _ _ _ _ h
  refine wpAny_call (codeAny_mono (F.run X.A X.stack s H ⟨us, []⟩ (us ++ ds) (vs ++ dvs) Q E hr I.env0 (hb s us I.kIn hl) r2 h) fun r s' hq => ?_)
  cases r with
  | error e => exact hx pins σ H s e s' I hq
  | ok fl =>
    cases fl with
    | ret u => exact I.after hq
    | next => exact False.elim hq
    | brk => exact False.elim hq
    | cont => exact False.elim hq
theorem r2q (F : FnOk X.prog X.w X.K X.mg X.base CX k f fd ps sp) (hr : Room k X.A) (hg : Gl X x) (hm : X.mg x = some (.ref f)) (hk : PySem.W.keepIn X.K (.ref f) = true) (hb : Binds X.K fd ps ds) (hd : Vals dvs ds) (hx : gQq CX X E)
    (ha : PA X (e :: es) t) (hdb : (x == ("__debug__" : Str)) = false := by decide) (he : starEach (e :: es) X.env = (false, eval e X.env) :: starEach es X.env := by rfl) (hpl : (backTo pos (starEach es X.env)).any (·.1) = false := by rfl) :
    PE X (.Call (.Name x p) (e :: es) [] pos) (rLq sp dvs E t) := by
  intro pins s σ H Q I h
  refine wpAny_Call_Name_kw (hSq I hg hm ?_ hdb)
  refine PySem.W.callWith_K (h₀ := X.base) I.ok.mod.kin hk (thn (ha pos pins s σ H _ I h) fun us s1 ⟨vs, H1, I1, r, q⟩ => ⟨I1.kIn, ?_⟩) he hpl
  exact mDq F hr hb hd hx I1 r q
theorem rFq {pl : Sem Bool} (he : PE X o ta) (c : Cls X.K C) (hm : Meth X.K C m f) (F : FnOk X.prog X.w X.K X.mg X.base CX k f fd ps sp) (hr : Room k X.A) (hb : Binds X.K fd ps ds) (hd : Vals dvs ds) (hx : gQq CX X E) (ha : PA X (e :: es) t)
    (hst : starEach (e :: es) X.env = (false, eval e X.env) :: starEach es X.env := by rfl) (hpl : (backTo pos (starEach es X.env)).any (·.1) = false := by rfl)
    (ht : eval (.Call (.Attribute o m apos) (e :: es) [] pos) X.env = (do
      let ov ← eval o X.env
      standAt apos.atName
      let (f, first) ← holding [ov] (getMethod ov m pl)
      callWith pos f first (backTo pos (starEach (e :: es) X.env)) (backToKw pos (keywordEach [] X.env))) := by rfl) :
    PE X (.Call (.Attribute o m apos) (e :: es) [] pos) (w9q C m sp dvs E ta t) := by
  intro pins s σ H Q I h
  refine PySem.W.methodCall_KW (pl := pl) (thn (he pins s σ H _ I h) fun u s1 ⟨x, H1, I1, rx, a, dx, fs, ex, ea, l, q⟩ => ?_) ht
  subst ex
  obtain rfl : u = Value.ref a := rx
  refine f6q I1 ea c hm l ?_
  refine PySem.W.callWith_K (first := [.ref a]) (h₀ := X.base) I.ok.mod.kin hm.kp (thn (ha pos pins s1 σ H1 _ I1 q) fun us s2 ⟨vs, H2, I2, r, q2⟩ => ⟨I2.kIn, ?_⟩) hst hpl
  exact mDq (us := .ref a :: us) (vs := .ref a :: vs) F hr hb hd hx I2 (.cons rfl r) q2
theorem p3q {pl : Sem Bool} (he : PE X o ta) (c : Cls X.K C) (hm : Meth X.K C m f) (F : FnOk X.prog X.w X.K X.mg X.base CX k f fd ps sp) (hr : Room k X.A) (hb : Binds X.K fd ps ds) (hd : Vals dvs ds) (hx : gQq CX X E)
    (ht : eval (.Call (.Attribute o m apos) [] [] pos) X.env = (do
      let ov ← eval o X.env
      standAt apos.atName
      let (f, first) ← holding [ov] (getMethod ov m pl)
      callWith pos f first (backTo pos (starEach [] X.env)) (backToKw pos (keywordEach [] X.env))) := by rfl) :
    PE X (.Call (.Attribute o m apos) [] [] pos) (w9q C m sp dvs E ta xCq) := by
  intro pins s σ H Q I h
  refine PySem.W.methodCall_KW (pl := pl) (thn (he pins s σ H _ I h) fun u s1 ⟨x, H1, I1, rx, a, dx, fs, ex, ea, l, q⟩ => ?_) ht
  subst ex
  obtain rfl : u = Value.ref a := rx
  refine f6q I1 ea c hm l ?_
  exact PySem.W.callWith_K0 (first := [.ref a]) I1.kIn hm.kp (mDq (us := [.ref a]) (vs := [.ref a]) F hr hb hd hx I1 (.cons rfl .nil) q)
structure Mk (K : PySem.W.Frag) (C f : Addr) : Prop where
  makes : PySem.W.makesIn K C = true
  init : PySem.W.findIn K (.ref C) "__init__" = some (some (.ref f))
  fn : PySem.W.isFn K (.ref f) = true
  kp : PySem.W.keepIn K (.ref C) = true
theorem pWq {pins : List (Addr × Obj)} {σ : St} {H : Hp} {s : Shared} {Q : VK} {us : List Value} {vs : List V} (M : Mk X.K C f) (F : FnOk X.prog X.w X.K X.mg X.base CX k f fd ps sp) (hr : Room (k + 1) X.A) (hb : Binds X.K fd ps ds) (hd : Vals dvs ds)
    (hx : gQq CX X E) (I : Inv X pins σ H s) (r : Vals vs us)
    (h : ∀ x dx, H x = none -> H dx = none -> dx ≠ x -> sp (.ref x :: (vs ++ dvs)) (upd (upd H dx (.own x)) x (.ins C dx [])) (fun v H2 => v = .non /\ Q (.ref x) H2) E) :
    wpAny (model X.prog X.w) X.A (call (.ref C) us) (EP X pins σ Q) X.xe s := by
  have hq := h (s.heap.objs.size + 1) s.heap.objs.size (I.hok.fresh (Nat.le_succ _)) (I.hok.fresh (Nat.le_refl _)) (Nat.ne_of_lt (Nat.lt_succ_self _))
  have I2 := Inv.made (C := C) I
  have r2 : Vals (V.ref (s.heap.objs.size + 1) :: (vs ++ dvs)) (Value.ref (s.heap.objs.size + 1) :: (us ++ ds)) := .cons rfl (r.append hd)
  have hl : (Value.ref (s.heap.objs.size + 1) :: us ++ ds).length = ps.length := by
    have e := r2.length
    rw [F.len _ _ _ _ hq] at e
    exact e.symm
  refine wpAny_call (qDq (f := f) I.kIn M.makes M.init (beq_iff_eq.mp M.fn) (codeAny_mono (F.run _ X.stack _ _ ⟨Value.ref (s.heap.objs.size + 1) :: us, []⟩ (Value.ref (s.heap.objs.size + 1) :: (us ++ ds)) _ _ E (hr.make C us [])
    (I2.env0.make C us []) (hb _ (Value.ref (s.heap.objs.size + 1) :: us) I2.kIn hl) r2 hq) fun r s' hq' => ?_))
  cases r with
  | error e => exact hx pins σ _ _ e s' I2 hq'
  | ok fl =>
    cases fl with
    | ret u =>
      obtain ⟨v, H', I3, rv, ev, q3⟩ := I2.after hq'
      subst ev
      exact ⟨rv, ⟨V.ref (s.heap.objs.size + 1), H', I3, rfl, q3⟩⟩
    | next => exact False.elim hq'
    | brk => exact False.elim hq'
    | cont => exact False.elim hq'
theorem r9q (M : Mk X.K C f) (F : FnOk X.prog X.w X.K X.mg X.base CX k f fd ps sp) (hr : Room (k + 1) X.A) (hg : Gl X x) (hm : X.mg x = some (.ref C)) (hb : Binds X.K fd ps ds) (hd : Vals dvs ds) (hx : gQq CX X E)
    (ha : PA X (e :: es) t) (hdb : (x == ("__debug__" : Str)) = false := by decide) (he : starEach (e :: es) X.env = (false, eval e X.env) :: starEach es X.env := by rfl) (hpl : (backTo pos (starEach es X.env)).any (·.1) = false := by rfl) :
    PE X (.Call (.Name x p) (e :: es) [] pos) (y5q C sp dvs E t) := by
  intro pins s σ H Q I h
  refine wpAny_Call_Name_kw (hSq I hg hm ?_ hdb)
  refine PySem.W.callWith_K (h₀ := X.base) I.ok.mod.kin M.kp (thn (ha pos pins s σ H _ I h) fun us s1 ⟨vs, H1, I1, r, q⟩ => ⟨I1.kIn, ?_⟩) he hpl
  exact pWq M F hr hb hd hx I1 r q
end
section
variable {X : Cx} {CX : CXT} {k : Nat} {f C : Addr} {fd : FuncData} {ps ks : List Str} {sp : Sp} {E : XK} {x m : Str} {p pos apos kpos : Pos} {e o : Expr} {es : List Expr} {kws : List Keyword} {te ta : TE} {t tk : TA} {nm : Option Str}
variable {g : List Value -> List Value -> List Value} {gV : List V -> List V -> List V}
end
structure FnScope (N P : List Str) (sc : Scope) : Prop where
  kind : sc.kind = .function
  co : sc.isCoroutine = false
  gen : sc.isGenerator = false
  nd : N.Nodup
  pre : N.take P.length = P
  par : ∀ x ∈ P, sc.names.lookup x = some .local \/ sc.names.lookup x = some .cell
  nofree : ∀ y ∈ sc.names, y.2 ≠ .free
theorem jKq {kindOf : Str -> Option NameKind} {x : Str} : ∀ {binds : List (Str × Value)} {m : Str -> Option Value}, (∀ v, (x, v) ∉ binds) -> bindL kindOf binds m x = m x
  | [], _, _ => rfl
  | (n, v) :: r, m, h => by
    unfold bindL
    rw [jKq fun w hw => h w (List.mem_cons_of_mem _ hw)]
    split
    . have : x ≠ n := by rintro rfl; exact h v List.mem_cons_self
      simp [this]
    . rfl
theorem jFq {kindOf : Str -> Option NameKind} {x : Str} : ∀ {binds : List (Str × Value)} {m : Str -> Option Value}, (∀ v, (x, v) ∉ binds) -> bindC kindOf binds m x = m x
  | [], _, _ => rfl
  | (n, v) :: r, m, h => by
    unfold bindC
    rw [jFq fun w hw => h w (List.mem_cons_of_mem _ hw)]
    split
    . rfl
    . have : x ≠ n := by rintro rfl; exact h v List.mem_cons_self
      simp [this]
theorem j1q {kindOf : Str -> Option NameKind} {x : Str} {v : Value} : ∀ {P : List Str} {vs : List Value} {i : Nat} {m : Str -> Option Value}, P.Nodup -> P[i]? = some x -> vs[i]? = some v -> kindOf x = some .local →
    bindL kindOf (P.zip vs) m x = some v
  | [], _, _, _, _, h, _, _ => by simp at h
  | _ :: _, [], _, _, _, _, h, _ => by simp at h
  | p :: P, w :: vs, 0, m, nd, h1, h2, hk => by
    simp at h1 h2; subst h1; subst h2
    show bindL kindOf ((p, w) :: P.zip vs) m p = _
    unfold bindL
    rw [jKq fun v hv => (List.nodup_cons.mp nd).1 (List.of_mem_zip hv).1, if_pos hk]
    simp
  | p :: P, w :: vs, i + 1, m, nd, h1, h2, hk => by
    show bindL kindOf ((p, w) :: P.zip vs) m x = _
    unfold bindL
    exact j1q (i := i) (List.nodup_cons.mp nd).2 (by simpa using h1) (by simpa using h2) hk
theorem iWq {kindOf : Str -> Option NameKind} {x : Str} {v : Value} : ∀ {P : List Str} {vs : List Value} {i : Nat} {m : Str -> Option Value}, P.Nodup -> P[i]? = some x -> vs[i]? = some v -> kindOf x ≠ some .local →
    bindC kindOf (P.zip vs) m x = some v
  | [], _, _, _, _, h, _, _ => by simp at h
  | _ :: _, [], _, _, _, _, h, _ => by simp at h
  | p :: P, w :: vs, 0, m, nd, h1, h2, hk => by
    simp at h1 h2; subst h1; subst h2
    show bindC kindOf ((p, w) :: P.zip vs) m p = _
    unfold bindC
    rw [jFq fun v hv => (List.nodup_cons.mp nd).1 (List.of_mem_zip hv).1, if_neg hk]
    simp
  | p :: P, w :: vs, i + 1, m, nd, h1, h2, hk => by
    show bindC kindOf ((p, w) :: P.zip vs) m x = _
    unfold bindC
    exact iWq (i := i) (List.nodup_cons.mp nd).2 (by simpa using h1) (by simpa using h2) hk
def eWq (N : List Str) (vs : List V) : St := vs.map some ++ List.replicate (N.length - vs.length) none
def oXq (CX : CXT) (P : Program) (w : World) (K : PySem.W.Frag) (mg : Str -> Option Value) (base : Heap) (N : List Str) (qual : Str) (scope : Scope) (f : Addr) (cd : Value) (A : Around) (outer : List Env) (s : Shared) (H : Hp) (E : XK) : Cx where
  prog := P
  w := w
  K := K
  mg := mg
  base := base
  A := A.deeper (envOfC qual scope s.heap.objs.size f cd)
  N := N
  s₀ := s
  H₀ := H
  env := envOfC qual scope s.heap.objs.size f cd
  outer := outer
  stack := envOfC qual scope s.heap.objs.size f cd :: outer
  ex := []
  calm := true
  fn := fun _ => true
  pn := []
  xe := fun e s' => wpAny (model P w) (A.deeper (envOfC qual scope s.heap.objs.size f cd)) (leaving (envOfC qual scope s.heap.objs.size f cd) e) (fun _ s'' => CX outer H s E e s'') (fun e' s'' => CX outer H s E e' s'') s'
theorem kLq {sc : Scope} {n : Nat} {x : Str} (h : sc.names.lookup x = some .cell) : ∃ c, (cellsFrom n sc.names []).lookup x = some c := by
  have q := PySem.W.cellsFrom_some sc.names n [] (.inl h)
  exact Option.isSome_iff_exists.mp q
theorem nTq {CX : CXT} {P : Program} {w : World} {K : PySem.W.Frag} {mg : Str -> Option Value} {base : Heap} {N ps : List Str} {qual : Str} {scope : Scope} {f : Addr} {cd : Value} {A : Around} {outer : List Env} {s s1 : Shared} {H : Hp} {E : XK} {us : List Value} {vs : List V}
    (S : FnScope N ps scope) (hd : A.handled = none) (e0 : Env0 P w K mg base A outer s H) (hl : vs.length = ps.length) (r : Vals vs us)
    (x : InCallC s s.heap.objs.size (bindL (envOfC qual scope s.heap.objs.size f cd).kindOf (ps.zip us) fun _ => none) (cellsFrom (s.heap.objs.size + 1) scope.names []) (bindC (envOfC qual scope s.heap.objs.size f cd).kindOf (ps.zip us) fun _ => none) s1) :
    Inv (oXq CX P w K mg base N qual scope f cd A outer s H E) [] (eWq N vs) H s1 := by
  have hpl : ps.length <= N.length := by have := congrArg List.length S.pre; rw [List.length_take] at this; omega
  obtain ⟨h1, tk, rfl, hk⟩ := x.done
  have noA : ∀ b : Addr, b ∉ (oXq CX P w K mg base N qual scope f cd A outer s H E).ex := fun b z => absurd (show b ∈ ([] : List Addr) from z) (by simp)
  refine ⟨⟨e0.mod, S.kind, rfl, rfl, Nat.le_refl _, fun y z c h1 h2 => ?_, fun y hy => ?_, fun y c _ h => ?_, fun _ => hd, Around.frames_deeper e0.frames, .inr ⟨rfl, rfl⟩, fun b z => absurd z (noA b), e0.bs, e0.bsz, fun b _ _ => noA b, fun b z => absurd z (noA b), e0.funs, e0.frf⟩,
    rfl, e0.bare, Un.kept hk, ⟨_, x.toInCall.ns, fun i y v h1 h2 h3 => ?_⟩, fun y c h => ⟨_, x.cell y c h⟩, e0.hok.fresh (Nat.le_refl _), fun y c h => ?_, fun p hp => absurd (show p ∈ ([] : List (Addr × Obj)) from hp) (by simp), e0.hok.kept hk, ?_⟩
  . exact name_of_addr x.apart (PySem.mem_of_lookup h1) (PySem.mem_of_lookup h2)
  . have hy : scope.names.lookup y = some .cell \/ scope.names.lookup y = some .free := hy
    rcases hy with hy | hy
    . exact kLq hy
    . exact absurd rfl (S.nofree _ (PySem.mem_of_lookup hy))
  . exact Nat.le_of_lt (x.above y c (PySem.mem_of_lookup h))
  . have hi : i < vs.length := by
      unfold eWq at h2
      by_cases hi : i < vs.length
      . exact hi
      . rw [List.getElem?_append_right (by simpa using hi)] at h2
        rw [List.getElem?_replicate] at h2
        split at h2 <;> cases h2
    have ha : vs[i]? = some v := by
      unfold eWq at h2
      rw [List.getElem?_append_left (by simpa using hi), List.getElem?_map] at h2
      cases e : vs[i]? with
      | none => rw [e] at h2; cases h2
      | some a => rw [e] at h2; cases h2; rfl
    obtain ⟨u, hu, rv⟩ := r.get ha
    have hp : ps[i]? = some y := by
      rw [<- S.pre, List.getElem?_take_of_lt (by omega)]; exact h1
    have ndP : ps.Nodup := by rw [<- S.pre]; exact S.nd.sublist (List.take_sublist _ _)
    refine ⟨u, rv, ?_⟩
    rcases S.par y (List.mem_of_getElem? hp) with k | k
    . exact .inl ⟨k, j1q ndP hp hu k⟩
    . obtain ⟨c, e⟩ := kLq (n := s.heap.objs.size + 1) k
      refine .inr ⟨.inl k, c, e, ?_⟩
      have q := x.cell y c e
      rw [iWq ndP hp hu (by show scope.names.lookup y ≠ _; rw [k]; decide)] at q
      exact q
  . exact e0.hok.fresh (Nat.le_of_lt (x.above y c (PySem.mem_of_lookup h)))
  . unfold eWq
    show _ = N.length
    rw [List.length_append, List.length_map, List.length_replicate]
    omega
theorem uFq {CX : CXT} {P : Program} {w : World} {K : PySem.W.Frag} {mg : Str -> Option Value} {base : Heap} {k : Nat} {f : Addr} {name qual : Str} {params : Arguments} {body : List Stmt} {scope : Scope} {dV kV doc pm cdv ct oc : Value} {an od : Option Addr}
    {osl : Array (Option Value)} {N ps : List Str} {sp : Sp} (lk : K.lookup f = some ⟨oc, od, .func (PySem.W.fnOf name qual params body scope dV kV doc pm an cdv ct), osl⟩) (hcd : PySem.W.codeIn K cdv qual = true) (S : FnScope N ps scope)
    (len : ∀ vs H Q E, sp vs H Q E -> vs.length = ps.length)
    (hbody : ∀ (A : Around) (outer : List Env) (s : Shared) (H : Hp) (vs : List V) (Q : VK) (E : XK), Room k (A.deeper (envOfC qual scope s.heap.objs.size f cdv)) -> sp vs H Q E →
      ∃ t, PSs (oXq CX P w K mg base N qual scope f cdv A outer s H E) body t /\ t { nx := fun _ H' => Q .non H', rt := Q } (eWq N vs) H) :
    FnOk P w K mg base CX (k + 1) f (PySem.W.fnOf name qual params body scope dV kV doc pm an cdv ct) ps sp := by
  refine ⟨len, fun A outer s H args us vs Q E hr e0 hb r hsp => ?_⟩
  have hl := len _ _ _ _ hsp
  have KX : K.In s.heap := e0.mod.kin.keeps fun b o e => (e0.bs b o e).1
  have lim : s.heap.NoLimit := e0.mod.nolimit.keeps fun b o e => (e0.bs b o e).1
  have hkind : ∀ y ∈ ps.zip us, scope.names.lookup y.1 = some .local \/ (scope.names.lookup y.1 = some .cell /\ ((cellsFrom (s.heap.objs.size + 1) scope.names []).lookup y.1).isSome = true) := fun ⟨n, v⟩ hy => by
    rcases S.par n (List.of_mem_zip hy).1 with q | q
    . exact .inl q
    . exact .inr ⟨q, PySem.W.cellsFrom_some _ _ _ (.inl q)⟩
  refine codeAny_call_function hr.depth (KX _ _ lk) rfl S.co S.gen rfl (PySem.W.codeRec_of KX hcd) (hb _ _ _ _ ?_)
  refine wpAny_newFunctionEnv_cells S.kind hkind fun env he s1 x => ?_
  subst he
  refine ⟨lim.keeps x.toInCall.keep, codeAny_func ?_⟩
  obtain ⟨t, ht, hq⟩ := hbody A outer s H vs Q E (hr.deeper _) hsp
  have I : Inv (oXq CX P w K mg base N qual scope f cdv A outer s H E) [] (eWq N vs) H s1 := nTq S hr.hd e0 hl r x
  refine wpAny_mono (ht [] s1 (eWq N vs) H _ I hq) (fun fl s' hs => ?_) fun e s' hs => hs
  have fin : ∀ {σ' : St} {H' : Hp} {v : V} {u : Value}, Inv (oXq CX P w K mg base N qual scope f cdv A outer s H E) [] σ' H' s' -> RelV v u -> Q v H' -> CE outer P w H s Q u s' :=
    fun {σ' H' v u} J rv q => ⟨v, H', J.os, J.bare, J.base, J.hok, rv, q⟩
  cases fl with
  | ret u =>
    obtain ⟨v, σ', H', J, rv, q⟩ := hs
    exact fin J rv q
  | next =>
    obtain ⟨σ', H', J, q⟩ := hs
    exact fin (v := V.non) (u := Value.none) J rfl q
  | brk =>
    obtain ⟨_, _, _, q⟩ := hs
    exact False.elim q
  | cont =>
    obtain ⟨_, _, _, q⟩ := hs
    exact False.elim q
section
variable {X : Cx} {x : Str} {p pos : Pos} {e : Expr} {es : List Expr} {t : TA} {id T : String} {r : List V -> Hp -> VK -> Prop}
def tCB (r : List V -> Hp -> VK -> Prop) (t : TA) : TE := fun σ H Q => t σ H fun vs H1 => r vs H1 Q
theorem oWq (hc : CallR X (.builtin id) r) (hg : Gl X x) (hm : X.mg x = none) (hv : bootBuiltins x = some (.builtin id)) (ha : PA X (e :: es) t) (hn : x ≠ "__name__" := by decide) (hdb : (x == ("__debug__" : Str)) = false := by decide)
    (he : starEach (e :: es) X.env = (false, eval e X.env) :: starEach es X.env := by rfl) (hpl : (backTo pos (starEach es X.env)).any (·.1) = false := by rfl) : PE X (.Call (.Name x p) (e :: es) [] pos) (tCB r t) := by
  intro pins s σ H Q I h
  refine wpAny_Call_Name_kw (fKq I hg hm hv ?_ hn hdb)
  exact PyProof.Rows.callWith_builtin1 (thn (ha pos pins s σ H _ I h) fun us s1 ⟨vs, H1, I1, r1, q1⟩ => hc pins s1 σ H1 vs us Q I1 r1 q1) he hpl
theorem oKq (hc : CallR X (.type T) r) (hg : Gl X x) (hm : X.mg x = none) (hv : bootBuiltins x = some (.type T)) (ha : PA X (e :: es) t) (hn : x ≠ "__name__" := by decide) (hdb : (x == ("__debug__" : Str)) = false := by decide)
    (he : starEach (e :: es) X.env = (false, eval e X.env) :: starEach es X.env := by rfl) (hpl : (backTo pos (starEach es X.env)).any (·.1) = false := by rfl) : PE X (.Call (.Name x p) (e :: es) [] pos) (tCB r t) := by
  intro pins s σ H Q I h
  refine wpAny_Call_Name_kw (fKq I hg hm hv ?_ hn hdb)
  exact PyProof.Rows.callWith_type1 (thn (ha pos pins s σ H _ I h) fun us s1 ⟨vs, H1, I1, r1, q1⟩ => hc pins s1 σ H1 vs us Q I1 r1 q1) he hpl
end
end L2
namespace HT
open PySem PyProof.Rows
section
open PySem.SeqAt
open PySem.AutoSeq1 (wpAny_loadPart')
open PySem.MeetsSeq PySem.MeetsSeq2 PySem.MeetsSeq3
end
section
variable {prog : Program} {w : World} {A : Around} {E : Value -> Shared -> Prop} {s : Shared}
theorem cat_tup {t b : Addr} {vs ws : List Value} {Q : Value -> Shared -> Prop} (ht : IsTup s.heap t vs.toArray) (hb : IsTup s.heap b ws.toArray) (hv : vs ≠ [])
    (h1 : ws = [] -> Q (.ref t) s) (h2 : ws ≠ [] -> Q (.ref s.heap.objs.size) { s with heap := s.heap.push { cls := .type "tuple", data := .seq (vs ++ ws).toArray } })
    (hsz : vs.length + ws.length <= sizeLine) : wpAny (model prog w) A (binaryOp .Add (.ref t) (.ref b)) Q E s := by
  obtain ⟨⟨cls, dd, data, sl⟩, ho, hc, n, hd⟩ := id ht
  obtain ⟨⟨cls2, dd2, data2, sl2⟩, ho2, hc2, n2, hd2⟩ := id hb
  simp only at hc hd hc2 hd2
  subst hc hd hc2 hd2
  have e : vs.toArray ++ ws.toArray = (vs ++ ws).toArray := by simp
  by_cases hw : ws = []
  . exact concat_meets ⟨_, ho, rfl⟩ ⟨_, ho2, rfl⟩ noFill_tuple_add seq_tuple_add PySem.F.slot_tuple_add PySem.F.entry_tuple_add (PySem.F.args_tuple_add_2 _ _)
      (tuple_addW1 t b vs.toArray ws.toArray n n2 dd dd2 sl sl2 (by simpa using hv) (by simp [hw])) ⟨ho, ho2, h1 hw⟩
  . refine concat_meets ⟨_, ho, rfl⟩ ⟨_, ho2, rfl⟩ noFill_tuple_add seq_tuple_add PySem.F.slot_tuple_add PySem.F.entry_tuple_add (PySem.F.args_tuple_add_2 _ _)
      (tuple_addW2 t b vs.toArray ws.toArray n n2 dd dd2 sl sl2 (by simpa using hv) (by simpa using hw) (by rw [List.size_toArray, List.size_toArray]; exact hsz)) ⟨ho, ho2, ?_⟩
    rw [e]
    exact h2 hw
def sIx (n d : Nat) : Option Int -> Nat
  | none => d
  | some v => if v < 0 then (v + (n : Int)).toNat else min v.toNat n
theorem w4q (n d : Nat) (hd : d <= n) (o : Option Int) : sIx n d o <= n := by
  cases o with
  | none => exact hd
  | some v =>
    show (if v < 0 then (v + (n : Int)).toNat else min v.toNat n) <= n
    by_cases hv : v < 0
    . rw [if_pos hv]; omega
    . rw [if_neg hv]; exact Nat.min_le_right _ _
theorem nCq (v : Int) (n d : Nat) : (if v < 0 then max (v + (n : Int)) 0 else min v (n : Int)) = ((sIx n d (some v) : Nat) : Int) := by
  show (if v < 0 then max (v + (n : Int)) 0 else min v (n : Int)) = (((if v < 0 then (v + (n : Int)).toNat else min v.toNat n) : Nat) : Int)
  by_cases hv : v < 0
  . simp only [if_pos hv]; omega
  . simp only [if_neg hv]; omega
theorem lCq (lo hi : Option Int) (n : Nat) : Builtin.Slice.sliceAdjust lo hi 1 (n : Int) = (((sIx n 0 lo : Nat) : Int), ((sIx n n hi : Nat) : Int)) := by
  have h1 : ¬ ((1 : Int) < 0) := by omega
  unfold Builtin.Slice.sliceAdjust
  simp only [h1, if_false]
  refine Prod.ext ?_ ?_
  . cases lo with
    | none => rfl
    | some v => exact nCq v n 0
  . cases hi with
    | none => rfl
    | some v => exact nCq v n n
theorem lFq (i j : Nat) : Builtin.Slice.slicePlaces (i : Int) (j : Int) 1 = j - i := by
  unfold Builtin.Slice.slicePlaces
  have h1 : (1 : Int) > 0 := by omega
  simp only [h1, if_true, Int.ediv_one]
  split <;> omega
theorem h0q {v : Value} {o : Option Int} {Q : Option Int -> Shared -> Prop} (p : IsPart v o) (h : Q o s) : wpAny (model prog w) A (Builtin.Slice.slicePartIndex v) Q E s := by
  cases p with
  | none => exact slicePart_none h
  | int i t => exact slicePart_int h
theorem sliceApplied_gen {sl : Addr} {vl vu : Value} {lo hi : Option Int} {n : Nat} {Q : Int × Int × Nat -> Shared -> Prop} (hs : s.heap.IsSliceOf sl vl vu .none) (pl : IsPart vl lo) (pu : IsPart vu hi)
    (h : Q (((sIx n 0 lo : Nat) : Int), 1, sIx n n hi - sIx n 0 lo) s) : wpAny (model prog w) A (Builtin.Slice.sliceApplied (.ref sl) (pure (n : Int))) Q E s := by
  obtain ⟨os, hos, hcs, hds⟩ := id hs
  unfold Builtin.Slice.sliceApplied Builtin.Slice.sliceFields
  refine wpAny_bind (wpAny_bind (wpAny_field hos hds (x := vl) rfl (wpAny_bind (wpAny_field hos hds (x := vu) rfl (wpAny_bind (wpAny_field hos hds (x := .none) rfl (wpAny_pure ?_)))))))
  refine wpAny_bind (slicePart_none ?_)
  show wpAny _ _ (if ((1 : Int) == 0) = true then _ else _) _ _ s
  rw [if_neg (by decide)]
  refine wpAny_bind (h0q pl (wpAny_bind (h0q pu (wpAny_bind (wpAny_pure ?_)))))
  show wpAny _ _ (match Builtin.Slice.sliceAdjust lo hi 1 (n : Int) with | (lo, hi) => pure (lo, (1 : Int), Builtin.Slice.slicePlaces lo hi 1)) _ _ s
  rw [lCq lo hi n]
  show wpAny _ _ (pure (((sIx n 0 lo : Nat) : Int), (1 : Int), Builtin.Slice.slicePlaces ((sIx n 0 lo : Nat) : Int) ((sIx n n hi : Nat) : Int) 1)) _ _ s
  rw [lFq]
  exact wpAny_pure h
theorem qEq (xs : Array Value) (i k : Nat) : ((List.range k).filterMap fun (m : Nat) => xs[((i : Int) + (m : Int) * 1).toNat]?).toArray = ((xs.toList.drop i).take k).toArray := by
  have e : (fun (m : Nat) => xs[((i : Int) + (m : Int) * 1).toNat]?) = fun m => xs[i + m]? := by
    funext m
    have : ((i : Int) + (m : Int) * 1).toNat = i + m := by omega
    rw [this]
  rw [e]
  have := pick_run xs i k
  rw [List.filterMap_map] at this
  have e2 : ((fun x => xs[x]?) ∘ fun x => i + x) = fun m => xs[i + m]? := rfl
  rw [e2] at this
  rw [this]
theorem getItem_tuple_cut {t sl : Addr} {items : Array Value} {vl vu : Value} {lo hi : Option Int} {Q : Value -> Shared -> Prop} (ht : IsTup s.heap t items) (hs : s.heap.IsSliceOf sl vl vu .none) (pl : IsPart vl lo) (pu : IsPart vu hi)
    (hw : ¬ (sIx items.size 0 lo = 0 /\ sIx items.size items.size hi = items.size))
    (h : Q (.ref s.heap.objs.size) { s with heap := s.heap.push { cls := .type "tuple", data := .seq ((items.toList.drop (sIx items.size 0 lo)).take (sIx items.size items.size hi - sIx items.size 0 lo)).toArray } })
    (hsz : items.size <= sizeLine) : wpAny (model prog w) A (getItem (.ref t) (.ref sl)) Q E s := by
  have htake : sizeOk (.seq ((items.toList.drop (sIx items.size 0 lo)).take (sIx items.size items.size hi - sIx items.size 0 lo)).toArray) := by
    show ((items.toList.drop (sIx items.size 0 lo)).take (sIx items.size items.size hi - sIx items.size 0 lo)).toArray.size <= sizeLine
    rw [List.size_toArray, List.length_take, List.length_drop, Array.length_toList]
    omega
  have hj : sIx items.size items.size hi <= items.size := w4q _ _ (Nat.le_refl _) hi
  obtain ⟨os, hos, hcs, hds⟩ := id hs
  have hTs : s.TypeIs (.ref sl) "slice" := ⟨os, hos, hcs⟩
  unfold getItem
  try with_reducible refine wpAny_holding ?_
  first | refine wpAny_bind (wpAny_pure ?_) | skip
  refine wpAny_bind (wpAny_sequenceKey ht.typeIs (by decide) ?_)
  refine wpAny_bind (wpAny_callSpecial?_slot (name := Str.ofString "__getitem__") ht.typeIs PyProof.Rows.slot_tuple_getitem
    (wpAny_call_entry PyProof.Rows.slot_tuple_getitem ht.typeIs entry_tuple_getitem ?_ (args_tuple_getitem _ _)))
  show wpAny _ _ (Builtin.Tuple.tupleItemsOf (.ref t) >>= _) _ _ s
  refine wpAny_bind (tupleItemsOf_ ht ?_)
  refine wpAny_bind (wpAny_typeOf hTs ?_)
  rw [if_pos (by decide)]
  refine wpAny_bind (sliceApplied_gen hs pl pu ?_)
  have hno : ¬ ((((sIx items.size 0 lo : Nat) : Int) == 0 && (1 : Int) == 1 && (sIx items.size items.size hi - sIx items.size 0 lo) == items.size) = true) := by
    intro q
    rw [Bool.and_eq_true, Bool.and_eq_true] at q
    have q1 : ((sIx items.size 0 lo : Nat) : Int) = 0 := eq_of_beq q.1.1
    have q2 : sIx items.size items.size hi - sIx items.size 0 lo = items.size := eq_of_beq q.2
    exact hw ⟨by omega, by omega⟩
  show wpAny _ _ (if (((sIx items.size 0 lo : Nat) : Int) == 0 && (1 : Int) == 1 && (sIx items.size items.size hi - sIx items.size 0 lo) == items.size) = true then _ else _) _ _ s
  rw [if_neg hno, qEq]
  first
    | exact wpAny_bind (m := Builtin.Tuple.tupleExact _) (wpAny_newObj_type (wpAny_pure ⟨_, rfl, wpAny_pure h⟩) htake)
    | exact wpAny_bind (m := Builtin.Tuple.tupleExact _) (wpAny_newObj_type (wpAny_bind (wpAny_pure (wpAny_pure ⟨_, rfl, wpAny_pure h⟩))) htake)
    | exact wpAny_bind (wpAny_bind (m := Builtin.Tuple.tupleExact _) (wpAny_newObj_type (wpAny_pure (wpAny_pure ⟨_, rfl, wpAny_pure h⟩)) htake))
    | exact wpAny_bind (wpAny_bind (m := Builtin.Tuple.tupleExact _) (wpAny_newObj_type (wpAny_pure ⟨_, rfl, wpAny_pure h⟩) htake))
end
end HT
namespace L2
open PySem PySem.Spec PyProof.Rows
abbrev TO := St -> Hp -> (Option Int -> Hp -> Prop) -> Prop
def PO (X : Cx) (e : Option Expr) (t : TO) : Prop :=
  ∀ (pins : List (Addr × Obj)) (s : Shared) (σ : St) (H : Hp) (Q : Option Int -> Hp -> Prop), Inv X pins σ H s -> t σ H Q →
    wpAny (model X.prog X.w) X.A (evalPart e X.env) (fun u s' => ∃ o H', Inv X pins σ H' s' /\ IsPart u o /\ Q o H') X.xe s
def mFq : TO := fun _ H Q => Q none H
def tVq (t : TE) : TO := fun σ H Q => t σ H fun x H1 => ∃ i, x = .int i /\ Q (some i) H1
section
variable {X : Cx} {e : Expr} {te : TE} {lo hi : Option Expr} {tl th : TO} {pos p2 : Pos}
theorem sSq : PO X none mFq := by
  intro pins s σ H Q I h
  rw [evalPart_none]
  exact wpAny_pure ⟨none, H, I, .none, h⟩
theorem rKq (h : PE X e te) : PO X (some e) (tVq te) := by
  intro pins s σ H Q I hw
  rw [evalPart_some]
  refine thn (h pins s σ H _ I hw) fun u s1 ⟨x, H1, I1, r1, q1⟩ => ?_
  obtain ⟨i, rfl, q⟩ := q1
  obtain ⟨t, rfl⟩ := r1
  exact ⟨some i, H1, I1, .int i t, q⟩
def SlR (X : Cx) (r : V -> Option Int -> Option Int -> Hp -> VK -> Prop) : Prop :=
  ∀ (pins : List (Addr × Obj)) (s : Shared) (σ : St) (H : Hp) (x : V) (v vl vu : Value) (lo hi : Option Int) (sl : Addr) (Q : VK), Inv X pins σ H s -> RelV x v -> s.heap.IsSliceOf sl vl vu .none -> IsPart vl lo -> IsPart vu hi -> r x lo hi H Q →
    ∃ T id, typeLookup (.type T) "__getitem__" = pure (some (.builtin id)) /\ s.TypeIs v T /\ wpAny (model X.prog X.w) X.A (getItem v (.ref sl)) (EP X pins σ Q) X.xe s
theorem SlR.or {r r' : V -> Option Int -> Option Int -> Hp -> VK -> Prop} (h : SlR X r) (h' : SlR X r') : SlR X (fun x lo hi H Q => r x lo hi H Q \/ r' x lo hi H Q) := by
  intro pins s σ H x v vl vu lo hi sl Q I rx hs pl pu q
  rcases q with q | q
  . exact h pins s σ H x v vl vu lo hi sl Q I rx hs pl pu q
  . exact h' pins s σ H x v vl vu lo hi sl Q I rx hs pl pu q
def tSl (r : V -> Option Int -> Option Int -> Hp -> VK -> Prop) (te : TE) (tl th : TO) : TE := fun σ H Q => te σ H fun x H1 => tl σ H1 fun l H2 => th σ H2 fun u H3 => r x l u H3 Q
theorem p8q {r : V -> Option Int -> Option Int -> Hp -> VK -> Prop} (hr : SlR X r) (he : PE X e te) (hl : PO X lo tl) (hu : PO X hi th) : PE X (.Subscript e (.Slice lo hi none p2) pos) (tSl r te tl th) := by
  intro pins s σ H Q I h
  refine Subscript_ (thn (he pins s σ H _ I h) fun v s1 ⟨x, H1, I1, r1, q1⟩ => ?_)
  refine wpAny_Slice (thn (hl pins s1 σ H1 _ I1 q1) fun vl s2 ⟨l, H2, I2, pl, q2⟩ => thn (hu pins s2 σ H2 _ I2 q2) fun vu s3 ⟨u, H3, I3, pu, q3⟩ => ?_)
  rw [evalPart_none]
  refine wpAny_pure ?_
  have I4 : Inv X pins σ H3 { s3 with heap := s3.heap.push { cls := .type "slice", data := .fields #[vl, vu, .none] } } := I3.kept (t' := s3.toks) fun b ob q => Heap.get?_push_of_some _ q
  obtain ⟨T, id, hT, ht, hg⟩ := hr pins { s3 with heap := s3.heap.push { cls := .type "slice", data := .fields #[vl, vu, .none] } } σ H3 x v vl vu l u s3.heap.objs.size Q I4 r1 (Heap.IsSliceOf.new ..) pl pu q3
  show wpAny (model X.prog X.w) X.A (subscriptTail e (.Slice lo hi none p2) v (.ref s3.heap.objs.size)) (EP X pins σ Q) X.xe { s3 with heap := s3.heap.push { cls := .type "slice", data := .fields #[vl, vu, .none] } }
  exact tail_any (ops := [.ref s3.heap.objs.size, v]) ht hT hg (by with_unfolding_all rfl)
def lUq (xs : List V) (lo hi : Option Int) : List V := (xs.drop (HT.sIx xs.length 0 lo)).take (HT.sIx xs.length xs.length hi - HT.sIx xs.length 0 lo)
theorem gPq (xs : List V) (lo hi : Option Int) : (lUq xs lo hi).length <= xs.length := by
  unfold lUq
  rw [List.length_take, List.length_drop]
  omega
def rSlT (K : PySem.W.Frag) : V -> Option Int -> Option Int -> Hp -> VK -> Prop := fun x lo hi H Q => ∃ a xs, x = .ref a /\ SqT K H a xs ∧
  ¬ (HT.sIx xs.length 0 lo = 0 /\ HT.sIx xs.length xs.length hi = xs.length) /\ ∀ p, H p = none -> Q (.ref p) (upd H p (.tup (lUq xs lo hi)))
theorem uCq : SlR X (rSlT X.K) := by
  intro pins s σ H x v vl vu lo hi sl Q I rx hs pl pu h
  obtain ⟨a, xs, rfl, hx, hw, q⟩ := h
  cases rx
  obtain ⟨its, r, ht, hz⟩ := I.tuple hx
  have hlen : its.toArray.size = xs.length := by rw [List.size_toArray]; exact r.length.symm
  refine ⟨"tuple", _, PyProof.Rows.slot_tuple_getitem.lookup, ht.typeIs, ?_⟩
  refine HT.getItem_tuple_cut ht hs pl pu (by rw [hlen]; exact hw) ?_ (by rw [hlen]; exact hz)
  rw [hlen]
  refine ⟨.ref s.heap.objs.size, _, I.laid (t' := s.toks) (o := .tup (lUq xs lo hi)) (fun b ob q => Heap.get?_push_of_some _ q) (Nat.le_refl _) ?_, rfl, q _ (I.hok.fresh (Nat.le_refl _))⟩
  exact ⟨Nat.le_trans (gPq xs lo hi) hz, _, (r.drop (HT.sIx xs.length 0 lo)).take (HT.sIx xs.length xs.length hi - HT.sIx xs.length 0 lo), IsTup.new _ _⟩
def y7q (K : PySem.W.Frag) : R2 := fun x y H Q => ∃ a b xs ys, x = .ref a /\ y = .ref b /\ SqT K H a xs /\ SqT K H b ys /\ xs ≠ [] /\ xs.length + ys.length <= sizeLine ∧
  (ys = [] -> Q (.ref a) H) /\ (ys ≠ [] -> ∀ p, H p = none -> Q (.ref p) (upd H p (.tup (xs ++ ys))))
theorem Vals.nil_iff {xs : List V} {us : List Value} (r : Vals xs us) : us = [] ↔ xs = [] := by
  cases r with
  | nil => simp
  | cons _ _ => simp
theorem sYq : OpR X (binaryOp .Add) (y7q X.K) := by
  intro pins s σ H x y v u Q I rx ry h
  obtain ⟨a, b, xs, ys, rfl, rfl, ha, hb, hx, hz, q1, q2⟩ := h
  cases rx
  cases ry
  obtain ⟨its, r1, p1, _⟩ := I.tuple ha
  obtain ⟨its2, r2, p2, _⟩ := I.tuple hb
  refine HT.cat_tup p1 p2 (fun z => hx (r1.nil_iff.mp z)) (fun z => ⟨.ref a, H, I, rfl, q1 (r2.nil_iff.mp z)⟩) (fun z => ?_) (by rw [<- r1.length, <- r2.length]; exact hz)
  refine ⟨.ref s.heap.objs.size, _, I.laid (t' := s.toks) (o := .tup (xs ++ ys)) (fun b ob q => Heap.get?_push_of_some _ q) (Nat.le_refl _) ?_, rfl, q2 (fun w => z (r2.nil_iff.mpr w)) _ (I.hok.fresh (Nat.le_refl _))⟩
  exact ⟨by rw [List.length_append]; exact hz, _, r1.append r2, IsTup.new _ _⟩
end
def ixN (n : Nat) (i : Int) : Option Nat := if 0 <= i then (if i < n then some i.toNat else none) else if -(n : Int) <= i then some (i + n).toNat else none
def atI {α : Type} (xs : List α) (i : Int) : Option α := (ixN xs.length i).bind fun j => xs[j]?
theorem mLq {n : Nat} {i : Int} {j : Nat} (h : ixN n i = some j) : seqIndex? i n = some j /\ j < n /\ -(n : Int) <= i /\ i < n := by
  unfold ixN at h
  by_cases h0 : 0 <= i
  . rw [if_pos h0] at h
    by_cases h1 : i < n
    . rw [if_pos h1] at h
      have e : i.toNat = j := Option.some.inj h
      exact ⟨by rw [seqIndex_of h0 h1, e], by omega, by omega, h1⟩
    . rw [if_neg h1] at h; cases h
  . rw [if_neg h0] at h
    by_cases h1 : -(n : Int) <= i
    . rw [if_pos h1] at h
      have e : (i + n).toNat = j := Option.some.inj h
      exact ⟨by rw [seqIndex_neg (by omega) h1, e], by omega, h1, by omega⟩
    . rw [if_neg h1] at h; cases h
theorem jUq {α : Type} {xs : List α} {i : Int} {v : α} (h : atI xs i = some v) : ∃ j, seqIndex? i xs.length = some j /\ xs[j]? = some v /\ j < xs.length /\ -(xs.length : Int) <= i /\ i < xs.length := by
  unfold atI at h
  cases e : ixN xs.length i with
  | none => rw [e] at h; cases h
  | some j =>
    rw [e] at h
    obtain ⟨h1, h2, h3, h4⟩ := mLq e
    exact ⟨j, h1, h, h2, h3, h4⟩
theorem e6q {α : Type} {xs : List α} {j : Nat} {v : α} (h : xs[j]? = some v) : atI xs (j : Int) = some v := by
  have hj : j < xs.length := (List.getElem?_eq_some_iff.mp h).1
  have e : ixN xs.length (j : Int) = some j := by
    unfold ixN
    rw [if_pos (by omega), if_pos (by omega)]; simp
  unfold atI; rw [e]; exact h
def iKq (b : Expr) : Prop := ∀ o i, subscripted b false o i = operate [o, i] (getItem o i)
def IxR (X : Cx) (r : R2) : Prop :=
  ∀ (value slice : Expr) (pins : List (Addr × Obj)) (s : Shared) (σ : St) (H : Hp) (x y : V) (v u : Value) (Q : VK), Inv X pins σ H s -> RelV x v -> RelV y u -> r x y H Q →
    subscripted slice false v u = operate [v, u] (getItem v u) -> wpAny (model X.prog X.w) X.A (subscriptTail value slice v u) (EP X pins σ Q) X.xe s
def MtR (X : Cx) (id : String) (r : V -> List V -> Hp -> VK -> Prop) : Prop :=
  ∀ (pins : List (Addr × Obj)) (s : Shared) (σ : St) (H : Hp) (x : V) (xs : List V) (v : Value) (us : List Value) (Q : VK), Inv X pins σ H s -> RelV x v -> Vals xs us -> r x xs H Q →
    wpAny (model X.prog X.w) X.A (call (.builtin id) (v :: us)) (EP X pins σ Q) X.xe s
section
variable {X : Cx} {a b : Expr} {ta tb : TE} {pos : Pos}
theorem IxR.or {r r' : R2} (h : IxR X r) (h' : IxR X r') : IxR X (fun x y H Q => r x y H Q \/ r' x y H Q) := by
  intro value slice pins s σ H x y v u Q I rx ry q hs
  rcases q with q | q
  . exact h value slice pins s σ H x y v u Q I rx ry q hs
  . exact h' value slice pins s σ H x y v u Q I rx ry q hs
theorem MtR.or {id : String} {r r' : V -> List V -> Hp -> VK -> Prop} (h : MtR X id r) (h' : MtR X id r') : MtR X id (fun x xs H Q => r x xs H Q \/ r' x xs H Q) := by
  intro pins s σ H x xs v us Q I rx rs q
  rcases q with q | q
  . exact h pins s σ H x xs v us Q I rx rs q
  . exact h' pins s σ H x xs v us Q I rx rs q
theorem yNq {r : R2} (hr : IxR X r) (ha : PE X a ta) (hb : PE X b tb) (hs : iKq b) : PE X (.Subscript a b pos) (tOp r ta tb) := by
  intro pins s σ H Q I h
  exact Subscript_ (y9q ha hb I h fun v u s2 x y H2 I2 rx ry q => hr a b pins s2 σ H2 x y v u Q I2 rx ry q (hs _ _))
def z0q (K : PySem.W.Frag) : R2 := fun x y H Q => ∃ p xs i v, x = .ref p /\ y = .int i /\ SqL K H p xs /\ atI xs i = some v /\ Q v H
def zKq (K : PySem.W.Frag) : R2 := fun x y H Q => ∃ p xs i v, x = .ref p /\ y = .int i /\ SqT K H p xs /\ atI xs i = some v /\ Q v H
def zFq : R2 := fun x y H Q => ∃ z i c, x = .str z /\ y = .int i /\ z.length <= sizeLine /\ atI z.cps.toList i = some c /\ Q (.str ⟨#[c]⟩) H
theorem ix_list : IxR X (z0q X.K) := by
  intro value slice pins s σ H x y v u Q I rx ry h hs
  obtain ⟨p, xs, i, z, rfl, rfl, hq, he, q⟩ := h
  cases rx
  obtain ⟨t, rfl⟩ := ry
  obtain ⟨its, r, pl, hz⟩ := I.list hq
  obtain ⟨j, h1, h2, h3, h4, h5⟩ := jUq he
  obtain ⟨w, ew, rw'⟩ := r.get h2
  have hl := r.length
  have hn := fCq
  have fin : EP X pins σ Q w s := ⟨z, H, I, rw', q⟩
  by_cases h0 : 0 <= i
  . have hj : i.toNat = j := by
      rw [seqIndex_of h0 h5] at h1
      exact Option.some.inj h1
    exact item_listR pl.isList h0 (by omega) (by rw [hj]; simpa using ew) fin hs
  . have hj : (i + (its.toArray.size : Int)).toNat = j := by
      rw [seqIndex_neg (by omega) h4] at h1
      rw [List.size_toArray, <- hl]
      exact Option.some.inj h1
    exact subscriptTail_builtinR (x := w) pl.isList.typeIs slot_list_getitem.lookup
      (wpAny_getItem_list_neg (Q := fun r s' => r = w /\ EP X pins σ Q r s') pl.isList (by omega) (by rw [List.size_toArray] <;> omega) (by omega) (by rw [hj]; simpa using ew) ⟨rfl, fin⟩) hs
theorem ix_tup : IxR X (zKq X.K) := by
  intro value slice pins s σ H x y v u Q I rx ry h hs
  obtain ⟨p, xs, i, z, rfl, rfl, hq, he, q⟩ := h
  cases rx
  obtain ⟨t, rfl⟩ := ry
  obtain ⟨its, r, pl, hz⟩ := I.tuple hq
  obtain ⟨j, h1, h2, h3, h4, h5⟩ := jUq he
  obtain ⟨w, ew, rw'⟩ := r.get h2
  have hl := r.length
  have hn := fCq
  have fin : EP X pins σ Q w s := ⟨z, H, I, rw', q⟩
  exact subscriptTail_builtinR (x := w) pl.typeIs slot_tuple_getitem.lookup
    (getItem_tuple (j := j) (Q := fun r s' => r = w /\ EP X pins σ Q r s') pl (by omega) (by omega) (by rw [List.size_toArray, <- hl]; exact h1) (by simpa using ew) ⟨rfl, fin⟩) hs
theorem wFq : IxR X zFq := by
  intro value slice pins s σ H x y v u Q I rx ry h hs
  obtain ⟨z, i, c, rfl, rfl, hz, he, q⟩ := h
  obtain ⟨t, rfl⟩ := rx
  obtain ⟨t', rfl⟩ := ry
  obtain ⟨j, h1, h2, h3, h4, h5⟩ := jUq he
  have hl : z.cps.toList.length = z.length := by simp [Str.length]
  rw [hl] at h1 h4 h5
  have hn := fCq
  exact tail_any (typeIs_str s z t) slot_str_getitem.lookup (getItem_str (c := c) (by
    have e1 : decide (i < -(2 ^ 63 : Int)) = false := decide_eq_false (by omega)
    have e2 : decide (i ≥ 2 ^ 63) = false := decide_eq_false (by omega)
    rw [e1, e2, Bool.or_false]) (by rw [h1]; simpa using h2) ⟨.str ⟨#[c]⟩, H, I.tok _, ⟨_, rfl⟩, q⟩) hs
def rIx (K : PySem.W.Frag) : R2 := fun x y H Q => z0q K x y H Q \/ zKq K x y H Q \/ zFq x y H Q
theorem qUq : IxR X (rIx X.K) := ix_list.or (ix_tup.or wFq)
theorem lNq (its : List Value) (n j : Nat) (u : Value) : Obj.mapSeq (·.setIfInBounds j u) { cls := .type "list", data := .seq its.toArray n } = { cls := .type "list", data := .seq (its.set j u).toArray n } := by
  simp [Obj.mapSeq]
theorem Inv.lst {pins : List (Addr × Obj)} {σ : St} {H : Hp} {s : Shared} {p : Addr} {xs : List V} (I : Inv X pins σ H s) (h : H p = some (.lst xs)) :
    ∃ (its : List Value) (n : Nat), Vals xs its /\ s.heap.get? p = some { cls := .type "list", data := .seq its.toArray n } /\ xs.length <= sizeLine := by
  obtain ⟨z, its, n, r, e⟩ := I.hok p _ h
  exact ⟨its, n, r, e, z⟩
theorem Inv.lstUpd {pins : List (Addr × Obj)} {σ : St} {H : Hp} {s : Shared} {p : Addr} {xs ys : List V} {its its' : List Value} {n n' : Nat} {f : Obj -> Obj} (I : Inv X pins σ H s) (h : H p = some (.lst xs))
    (ho : s.heap.get? p = some { cls := .type "list", data := .seq its.toArray n }) (hf : f { cls := .type "list", data := .seq its.toArray n } = { cls := .type "list", data := .seq its'.toArray n' }) (r : Vals ys its') (hz : ys.length <= sizeLine) (t : Nat) :
    Inv X pins σ (upd H p (.lst ys)) { s with heap := s.heap.update p f, toks := t } := by
  have e : (s.heap.update p f).get? p = some { cls := .type "list", data := .seq its'.toArray n' } := by
    rw [Heap.get?_update_self f ho (by rw [hf] <;> rfl), hf]
  refine I.write (x := p) (e := p) (by rw [h]; trivial) (.inl rfl) (fun b u hb q => (Heap.get?_update_other _ _ (Ne.symm hb)).trans q) ⟨_, e⟩ ?_
  exact ⟨hz, its', n', r, e⟩
def xEq : V -> V -> V -> Hp -> (Hp -> Prop) -> Prop := fun o i v H Q => ∃ p xs k j, o = .ref p /\ i = .int k /\ H p = some (.lst xs) /\ ixN xs.length k = some j /\ Q (upd H p (.lst (xs.set j v)))
theorem oUq : xWq X xEq := by
  intro pins s σ H o i v ov iv u Q I ro ri rv h
  obtain ⟨p, xs, k, j, rfl, rfl, hp, hj, q⟩ := h
  cases ro
  obtain ⟨t, rfl⟩ := ri
  obtain ⟨its, n, r, ho, hz⟩ := I.lst hp
  obtain ⟨h1, h2, h3, h4⟩ := mLq hj
  have hl := r.length
  have hn := fCq
  have I' : Inv X pins σ (upd H p (.lst (xs.set j v))) { s with heap := s.heap.update p (Obj.mapSeq (·.setIfInBounds j u)) } :=
    I.lstUpd hp ho (lNq its n j u) (r.set rv j) (by rw [List.length_set]; exact hz) s.toks
  by_cases h0 : 0 <= k
  . have hk : k.toNat = j := by
      rw [seqIndex_of h0 h4] at h1
      exact Option.some.inj h1
    exact PySem.W.ki_setAt ho h0 (by omega) (by rw [List.size_toArray, <- hl]; exact h4) (by rw [hk]; exact ⟨_, I', q⟩)
  . have hk : (k + (its.toArray.size : Int)).toNat = j := by
      rw [seqIndex_neg (by omega) h3] at h1
      rw [List.size_toArray, <- hl]
      exact Option.some.inj h1
    exact PySem.W.ki_setBack ho (by omega) (by rw [List.size_toArray, <- hl]; exact h3) (by omega) (by rw [hk]; exact ⟨_, I', q⟩)
theorem iZq (lo hi : Option Int) (n : Nat) : (sliceBounds lo hi none n).1 = ((HT.sIx n 0 lo : Nat) : Int) /\ (sliceBounds lo hi none n).2.1 = ((HT.sIx n n hi : Nat) : Int) /\ (sliceBounds lo hi none n).2.2 = 1 := by
  refine ⟨?_, ?_, rfl⟩
  . cases lo with
    | none => simp [sliceBounds, HT.sIx]
    | some i =>
      simp only [sliceBounds, HT.sIx, Option.getD_none, show (1 : Int) > 0 by decide, if_true]
      by_cases h : i < 0
      . simp only [h, if_true] <;> omega
      . simp only [h, if_false] <;> omega
  . cases hi with
    | none => simp [sliceBounds, HT.sIx]
    | some i =>
      simp only [sliceBounds, HT.sIx, Option.getD_none, show (1 : Int) > 0 by decide, if_true]
      by_cases h : i < 0
      . simp only [h, if_true] <;> omega
      . simp only [h, if_false] <;> omega
theorem iBq (its : List Value) (lo hi : Option Int) : slicePick its.toArray lo hi none = ((its.drop (HT.sIx its.length 0 lo)).take (HT.sIx its.length its.length hi - HT.sIx its.length 0 lo)).toArray := by
  obtain ⟨h1, h2, h3⟩ := iZq lo hi its.toArray.size
  unfold slicePick
  rw [h1, h2, h3]
  simp only [sliceRange_one, pick_run, List.size_toArray] <;> rfl
def rSlL (K : PySem.W.Frag) : V -> Option Int -> Option Int -> Hp -> VK -> Prop := fun x lo hi H Q => ∃ a xs, x = .ref a /\ SqL K H a xs /\ ∀ p, H p = none -> Q (.ref p) (upd H p (.lst (lUq xs lo hi)))
theorem t3q : SlR X (rSlL X.K) := by
  intro pins s σ H x v vl vu lo hi sl Q I rx hs pl pu h
  obtain ⟨a, xs, rfl, hx, q⟩ := h
  cases rx
  obtain ⟨its, r, ht, hz⟩ := I.list hx
  have hlen := r.length
  refine ⟨"list", _, slot_list_getitem.lookup, ht.isList.typeIs, ?_⟩
  refine wpAny_getItem_list_slice ht.isList hs pl pu .none (by simp) ?_ (by rw [List.size_toArray] <;> omega)
  rw [iBq, <- hlen]
  refine ⟨.ref s.heap.objs.size, _, I.laid (t' := s.toks) (o := .lst (lUq xs lo hi)) (fun b ob q => Heap.get?_push_of_some _ q) (Nat.le_refl _) ?_, rfl, q _ (I.hok.fresh (Nat.le_refl _))⟩
  exact ⟨Nat.le_trans (gPq xs lo hi) hz, _, 0, (r.drop (HT.sIx xs.length 0 lo)).take (HT.sIx xs.length xs.length hi - HT.sIx xs.length 0 lo), Heap.get?_push_size _ rfl⟩
def gVq : V -> Bool
  | .non => true
  | .bl _ => true
  | .int _ => true
  | .str _ => true
  | _ => false
def eqV : V -> V -> Bool
  | .non, .non => true
  | .bl a, .bl b => a == b
  | .bl a, .int b => (if a then 1 else 0) == b
  | .int a, .bl b => a == (if b then 1 else 0)
  | .int a, .int b => a == b
  | .str a, .str b => a == b
  | _, _ => false
theorem wLq {A : Around} {s : Shared} {y x : V} {u v : Value} (ry : RelV y u) (rx : RelV x v) (fy : gVq y = true) (fx : gVq x = true) : SeqAt.EqAt A s u v (eqV y x) := by
  cases y with
  | non =>
    cases ry
    cases x with
    | non => cases rx; exact SeqAt.EqAt.same _
    | bl b => cases rx; exact SeqAt.EqAt.none_bool b
    | int b => obtain ⟨t, rfl⟩ := rx; exact SeqAt.EqAt.none_int b t
    | str b => obtain ⟨t, rfl⟩ := rx; exact SeqAt.EqAt.none_str b t
    | _ => exact absurd (show false = true from fx) Bool.false_ne_true
  | bl a =>
    cases ry
    cases x with
    | non => cases rx; exact SeqAt.EqAt.bool_none a
    | bl b => cases rx; exact SeqAt.EqAt.bool_bool a b
    | int b => obtain ⟨t, rfl⟩ := rx; exact SeqAt.EqAt.bool_int a b t
    | str b => obtain ⟨t, rfl⟩ := rx; exact SeqAt.EqAt.bool_str a b t
    | _ => exact absurd (show false = true from fx) Bool.false_ne_true
  | int a =>
    obtain ⟨t', rfl⟩ := ry
    cases x with
    | non => cases rx; exact SeqAt.EqAt.int_none a t'
    | bl b => cases rx; exact SeqAt.EqAt.int_bool a t' b
    | int b => obtain ⟨t, rfl⟩ := rx; exact SeqAt.EqAt.int_int a t' b t
    | str b => obtain ⟨t, rfl⟩ := rx; exact SeqAt.EqAt.int_str a t' b t
    | _ => exact absurd (show false = true from fx) Bool.false_ne_true
  | str a =>
    obtain ⟨t', rfl⟩ := ry
    cases x with
    | non => cases rx; exact SeqAt.EqAt.str_none a t'
    | bl b => cases rx; exact SeqAt.EqAt.str_bool a t' b
    | int b => obtain ⟨t, rfl⟩ := rx; exact SeqAt.EqAt.str_int a t' b t
    | str b => obtain ⟨t, rfl⟩ := rx; exact SeqAt.EqAt.str_str a t' b t
    | _ => exact absurd (show false = true from fx) Bool.false_ne_true
  | _ => exact absurd (show false = true from fy) Bool.false_ne_true
def eqU (x : V) (u : Value) : Bool := match u with
  | .none => eqV .non x
  | .bool b => eqV (.bl b) x
  | .int i _ => eqV (.int i) x
  | .str z _ => eqV (.str z) x
  | _ => false
theorem qLq {x y : V} {u : Value} (r : RelV y u) (f : gVq y = true) : eqU x u = eqV y x := by
  cases y with
  | non => cases r; rfl
  | bl b => cases r; rfl
  | int i => obtain ⟨t, rfl⟩ := r; rfl
  | str z => obtain ⟨t, rfl⟩ := r; rfl
  | _ => exact absurd (show false = true from f) Bool.false_ne_true
theorem jXq {x : V} : ∀ {xs : List V} {us : List Value}, Vals xs us -> xs.all gVq = true -> us.any (eqU x) = xs.any fun y => eqV y x
  | _, _, .nil, _ => rfl
  | y :: xs, u :: us, .cons r t, f => by
    rw [List.all_cons, Bool.and_eq_true] at f
    rw [List.any_cons, List.any_cons, qLq r f.1, jXq t f.2]
theorem iJq {A : Around} {s : Shared} {x : V} {v : Value} (rx : RelV x v) (fx : gVq x = true) : ∀ {xs : List V} {us : List Value}, Vals xs us -> xs.all gVq = true -> ∀ u ∈ us, SeqAt.EqAt A s u v (eqU x u)
  | _, _, .nil, _ => fun u hu => by cases hu
  | y :: xs, u :: us, .cons r t, f => fun u' hu => by
    rw [List.all_cons, Bool.and_eq_true] at f
    rcases List.mem_cons.mp hu with rfl | hu
    . rw [qLq r f.1]; exact wLq r rx f.1 fx
    . exact iJq rx fx t f.2 u' hu
def inV (x : V) (xs : List V) : Bool := xs.any fun y => eqV y x
def rIn (K : PySem.W.Frag) (neg : Bool) : R2 := fun x y H Q => ∃ p xs, y = .ref p /\ (SqL K H p xs \/ SqT K H p xs) /\ gVq x = true /\ xs.all gVq = true /\ Q (.bl (if neg then !inV x xs else inV x xs)) H
theorem op_in_seq : OpR X (compareOp .In) (rIn X.K false) := by
  intro pins s σ H x y v u Q I rx ry h
  obtain ⟨p, xs, rfl, hq, fx, fs, q⟩ := h
  cases ry
  rcases hq with hq | hq
  . obtain ⟨its, r, pl, hz⟩ := I.list hq
    refine SeqAt.in_listAt (eqU x) pl.isList (fun w hw => iJq rx fx r fs w (by simpa using hw)) ⟨.bl _, H, I, rfl, ?_⟩
    rw [show its.toArray.any (eqU x) = its.any (eqU x) by simp, jXq r fs]
    exact q
  . obtain ⟨its, r, pl, hz⟩ := I.tuple hq
    refine SeqAt.in_tupleAt (eqU x) pl (fun w hw => iJq rx fx r fs w (by simpa using hw)) ⟨.bl _, H, I, rfl, ?_⟩
    rw [show its.toArray.any (eqU x) = its.any (eqU x) by simp, jXq r fs]
    exact q
theorem call_len_seq : CallR X (.builtin "len") (fun xs H Q => ∃ p ys, xs = [.ref p] /\ (SqL X.K H p ys \/ SqT X.K H p ys) /\ Q (.int ys.length) H) := by
  intro pins s σ H xs us Q I r h
  obtain ⟨p, ys, rfl, hq, q⟩ := h
  obtain ⟨u, rfl, rx⟩ := oEq r
  cases rx
  have hn := fCq
  rcases hq with hq | hq
  . obtain ⟨its, r', pl, hz⟩ := I.list hq
    have hlen := r'.length
    exact Calls.call_len_list pl.isList (by simp only [List.size_toArray] <;> omega) ⟨.int ys.length, H, I.tok _, ⟨s.toks + 1, by rw [List.size_toArray, hlen]⟩, q⟩
  . obtain ⟨its, r', pl, hz⟩ := I.tuple hq
    have hlen := r'.length
    exact len_tuple pl (by simp only [List.size_toArray] <;> omega) ⟨.int ys.length, H, I.tok _, ⟨s.toks + 1, by rw [List.size_toArray, hlen]⟩, q⟩
theorem iTq : CallR X (.builtin "len") (fun xs H Q => ∃ z, xs = [.str z] /\ z.length <= sizeLine /\ Q (.int z.length) H) := by
  intro pins s σ H xs us Q I r h
  obtain ⟨z, rfl, hz, q⟩ := h
  obtain ⟨u, rfl, t, rfl⟩ := oEq r
  have hn := fCq
  exact len_str (by omega) ⟨.int z.length, H, I.tok _, ⟨_, rfl⟩, q⟩
theorem CallR.or {f : Value} {r r' : List V -> Hp -> VK -> Prop} (h : CallR X f r) (h' : CallR X f r') : CallR X f (fun xs H Q => r xs H Q \/ r' xs H Q) := by
  intro pins s σ H xs us Q I rs q
  rcases q with q | q
  . exact h pins s σ H xs us Q I rs q
  . exact h' pins s σ H xs us Q I rs q
theorem hYq : CallR X (.type "tuple") (fun xs H Q => ∃ p ys, xs = [.ref p] /\ ((SqL X.K H p ys /\ ∀ l, H l = none -> Q (.ref l) (upd H l (.tup ys))) \/ (SqT X.K H p ys /\ Q (.ref p) H))) := by
  intro pins s σ H xs us Q I r h
  obtain ⟨p, ys, rfl, h⟩ := h
  obtain ⟨u, rfl, rx⟩ := oEq r
  cases rx
  rcases h with ⟨hq, q⟩ | ⟨hq, q⟩
  . obtain ⟨its, r', pl, hz⟩ := I.list hq
    have hlen := r'.length
    refine call_tuple_list pl.isList (fun h' kp => ?_) (by simp only [List.size_toArray] <;> omega)
    have I1 : Inv X pins σ H { s with heap := h' } := I.kept (t' := s.toks) kp
    have I2 : Inv X pins σ (upd H h'.objs.size (.tup ys)) { s with heap := h'.push { cls := .type "tuple", data := .seq its.toArray } } :=
      I1.laid (t' := s.toks) (fun b o e => Heap.get?_push_of_some _ e) (Nat.le_refl _) (show ObjOk X.prog X.w _ _ _ (.tup ys) from ⟨hz, its, r', IsTup.new _ _⟩)
    exact ⟨.ref h'.objs.size, _, I2, rfl, q _ (I1.hok.fresh (Nat.le_refl _))⟩
  . obtain ⟨its, r', pl, hz⟩ := I.tuple hq
    exact call_tuple_same pl ⟨.ref p, H, I, rfl, q⟩
def tyV (K : PySem.W.Frag) (T : String) (x : V) (H : Hp) : Prop := match x with
  | .str _ => T = "str"
  | .int _ => T = "int"
  | .ref p => (T = "list" /\ ∃ xs, SqL K H p xs) \/ (T = "tuple" /\ ∃ o, K.lookup p = some o /\ o.cls = .type "tuple" /\ o.dict = none) ∨
      (T = "dict" /\ ((∃ kvs, H p = some (.dK kvs)) \/ ∃ kvs, H p = some (.dT kvs))) \/ (T = "set" /\ ∃ S n, H p = some (.set S n))
  | _ => False
theorem qPq {pins : List (Addr × Obj)} {σ : St} {H : Hp} {s : Shared} {T : String} {x : V} {v : Value} (I : Inv X pins σ H s) (r : RelV x v) (ty : tyV X.K T x H) :
    s.TypeIs v T /\ ∀ a, v = .ref a -> ∃ ob, s.heap.get? a = some ob /\ ob.dict = none := by
  cases x with
  | str z =>
    obtain ⟨t, rfl⟩ := r
    cases (show T = "str" from ty)
    exact ⟨typeIs_str s z t, fun _ e => nomatch e⟩
  | int i =>
    obtain ⟨t, rfl⟩ := r
    cases (show T = "int" from ty)
    exact ⟨typeIs_int s i t, fun _ e => nomatch e⟩
  | ref p =>
    cases r
    rcases ty with ⟨rfl, xs, hq⟩ | ⟨rfl, o, hk, hc, hd⟩ | ⟨rfl, hk⟩ | ⟨rfl, S, n, hk⟩
    . obtain ⟨its, _, pl, _⟩ := I.list hq
      refine ⟨pl.isList.typeIs, fun a e => ?_⟩
      cases e
      obtain ⟨o, n, e, c, hd, _⟩ := pl
      exact ⟨o, e, hd⟩
    . refine ⟨⟨o, I.kIn p o hk, hc⟩, fun a e => ?_⟩
      cases e
      exact ⟨o, I.kIn _ o hk, hd⟩
    . have z : ∃ o, s.heap.get? p = some o /\ o.ExactDict := by
        rcases hk with ⟨kvs, hk⟩ | ⟨kvs, hk⟩
        . obtain ⟨_, _, _, _, o, _, _, e, ex, _⟩ := I.hok p _ hk
          exact ⟨o, e, ex⟩
        . obtain ⟨_, _, _, _, o, _, _, e, ex, _⟩ := I.hok p _ hk
          exact ⟨o, e, ex⟩
      obtain ⟨o, e, ex⟩ := z
      refine ⟨⟨o, e, ex.1⟩, fun a e2 => ?_⟩
      cases e2
      exact ⟨o, e, ex.2.1⟩
    . obtain ⟨o, _, _, _, e, ex, _⟩ := I.hok p _ hk
      refine ⟨⟨o, e, ex.1⟩, fun a e2 => ?_⟩
      cases e2
      exact ⟨o, e, ex.2.1⟩
  | _ => exact False.elim ty
def z3q (K : PySem.W.Frag) (T : String) (r : V -> List V -> Hp -> VK -> Prop) (to : TE) : TE := fun σ H Q => to σ H fun x H1 => tyV K T x H1 /\ r x [] H1 Q
def tBM (K : PySem.W.Frag) (T : String) (r : V -> List V -> Hp -> VK -> Prop) (to : TE) (t : TA) : TE := fun σ H Q => to σ H fun x H1 => tyV K T x H1 /\ t σ H1 fun xs H2 => r x xs H2 Q
variable {o e : Expr} {es : List Expr} {to : TE} {t : TA} {name : Str} {apos cpos : Pos} {T id : String} {r : V -> List V -> Hp -> VK -> Prop}
theorem vFq (pa : PlainAttrs T) (slot : Slot T name id) (hty : typeOf (.builtin id) = pure (.type "method_descriptor")) (hm : MtR X id r) (ho : PE X o to)
    (hbase : attributeBase o name X.env (eval o X.env) = eval o X.env := by rfl) (hline : (apos.endLine == cpos.line) = true := by rfl) : PE X (.Call (.Attribute o name apos) [] [] cpos) (z3q X.K T r to) := by
  intro pins s σ H Q I h
  refine wpAny_Call_method0_late hbase hline (thn (ho pins s σ H _ I h) fun v s1 ⟨x, H1, I1, r1, ty, q1⟩ => ?_)
  obtain ⟨h1, h2⟩ := qPq I1 r1 ty
  exact ⟨T, id, pa, slot, hty, h1, h2, Calls.callWith_builtin rfl (PySem.evalArgs_none (hm pins s1 σ H1 x [] v [] Q I1 r1 .nil q1))⟩
theorem yLq (pa : PlainAttrs T) (slot : Slot T name id) (hty : typeOf (.builtin id) = pure (.type "method_descriptor")) (hm : MtR X id r) (ho : PE X o to) (ha : PA X (e :: es) t)
    (hbase : attributeBase o name X.env (eval o X.env) = eval o X.env := by rfl)
    (hfew : ((backTo cpos (starEach (e :: es) X.env)).all (fun x => !x.1) && (backToKw cpos (keywordEach [] X.env)).all (fun x => x.1.isSome)
      && decide ((e :: es).length + ([] : List Keyword).length + (if ([] : List Keyword).isEmpty then 0 else 1) < 30)) = true := by rfl)
    (hline : (apos.endLine == cpos.line) = true := by rfl) (hs : starEach (e :: es) X.env = (false, eval e X.env) :: starEach es X.env := by rfl) (hplain : (backTo cpos (starEach es X.env)).any (·.1) = false := by rfl) :
    PE X (.Call (.Attribute o name apos) (e :: es) [] cpos) (tBM X.K T r to t) := by
  intro pins s σ H Q I h
  refine wpAny_Call_method_late hbase hfew hline rfl (thn (ho pins s σ H _ I h) fun v s1 ⟨x, H1, I1, r1, ty, q1⟩ => ?_)
  obtain ⟨h1, h2⟩ := qPq I1 r1 ty
  refine ⟨T, id, pa, slot, hty, h1, h2, ?_⟩
  have hA := ha cpos pins s1 σ H1 _ I1 q1
  rw [hs] at hA ⊢
  refine Calls.callWith_builtin (by show (false || (backTo cpos (starEach es X.env)).any (·.1)) = false; rw [hplain] <;> rfl) (Calls.evalArgs_plain ?_)
  exact thn hA fun us s2 ⟨vs, H2, I2, r2, q2⟩ => hm pins s2 σ H2 x vs v us Q I2 r1 r2 q2
end
def MtM (X : Cx) (id : String) (r : V -> List V -> Hp -> VK -> Prop) : Prop :=
  ∀ (pins : List (Addr × Obj)) (s : Shared) (σ : St) (H : Hp) (x : V) (xs : List V) (v : Value) (us : List Value) (Q : VK), Inv X pins σ H s -> RelV x v -> Vals xs us -> r x xs H Q →
    wpAny (model X.prog X.w) X.A (call (.builtin id) (v :: us)) (EP X pins σ Q) X.xe s
theorem Vals.one : ∀ {x : V} {us : List Value}, Vals [x] us -> ∃ u, us = [u] /\ RelV x u
  | _, _, .cons r .nil => ⟨_, rfl, r⟩
theorem Vals.two : ∀ {x y : V} {us : List Value}, Vals [x, y] us -> ∃ u v, us = [u, v] /\ RelV x u /\ RelV y v
  | _, _, _, .cons r (.cons q .nil) => ⟨_, _, rfl, r, q⟩
theorem Vals.zero : ∀ {us : List Value}, Vals [] us -> us = []
  | _, .nil => rfl
theorem Vals.dropLast {xs : List V} {us : List Value} (h : Vals xs us) : Vals xs.dropLast us.dropLast := by
  induction h with
  | nil => exact .nil
  | cons r t ih =>
    cases t with
    | nil => exact .nil
    | cons q t' => exact .cons r ih
theorem l4q {α : Type} (l : List α) : l.eraseIdx (l.length - 1) = l.dropLast := by
  induction l with
  | nil => rfl
  | cons a r ih =>
    cases r with
    | nil => rfl
    | cons b r =>
      have e : (a :: b :: r).length - 1 = ((b :: r).length - 1) + 1 := by
        have h1 : (a :: b :: r).length = r.length + 2 := rfl
        have h2 : (b :: r).length = r.length + 1 := rfl
        omega
      rw [e, List.eraseIdx_cons_succ, ih]
      all_goals rfl
section
variable {X : Cx} {pins : List (Addr × Obj)} {σ : St} {H : Hp} {s : Shared} {l b : Addr} {xs ys zs : List V}
theorem Inv.lset {its its' : List Value} {n : Nat} {f : Array Value -> Array Value} {t' : Nat} (I : Inv X pins σ H s) (hH : H l = some (.lst xs))
    (e : s.heap.get? l = some { cls := .type "list", data := .seq its.toArray n }) (hf : f its.toArray = its'.toArray) (hv : Vals ys its') (hz : ys.length <= sizeLine) :
    Inv X pins σ (upd H l (.lst ys)) { s with heap := s.heap.update l (Obj.mapSeq f), toks := t' } := by
  have q := PySem.IsL.update e f
  rw [hf] at q
  refine I.write (x := l) (e := l) (by rw [hH]; exact trivial) (.inl rfl) (fun b' u hb hu => (Heap.get?_update_other s.heap (Obj.mapSeq f) (Ne.symm hb)).trans hu) ⟨_, q⟩ ?_
  exact ⟨hz, its', _, hv, q⟩
theorem Inv.lnew {its : List Value} {t' : Nat} (I : Inv X pins σ H s) (hv : Vals ys its) (hz : ys.length <= sizeLine) :
    Inv X pins σ (upd H s.heap.objs.size (.lst ys)) { s with heap := s.heap.push { cls := .type "list", data := .seq its.toArray }, toks := t' } :=
  I.laid (fun _ _ q => Heap.get?_push_of_some _ q) (Nat.le_refl _) ⟨hz, its, 0, hv, Heap.get?_push_size _ rfl⟩
theorem Inv.fresh (I : Inv X pins σ H s) : H s.heap.objs.size = none := I.hok.fresh (Nat.le_refl _)
theorem Inv.lstM (I : Inv X pins σ H s) (hH : H l = some (.lst xs)) : xs.length <= sizeLine /\ ∃ (its : List Value) (n : Nat), Vals xs its /\ xs.length = its.length /\ s.heap.get? l = some { cls := .type "list", data := .seq its.toArray n } := by
  obtain ⟨z, its, n, r, e⟩ := I.hok l _ hH
  exact ⟨z, its, n, r, r.length, e⟩
theorem kYq {n : Nat} (h : n <= sizeLine) : Builtin.List.listTooLong n = false := by
  unfold Builtin.List.listTooLong
  exact decide_eq_false (by omega)
end
section
variable {X : Cx}
def sCq : V -> List V -> Hp -> VK -> Prop := fun x vs H Q => ∃ l xs y, x = .ref l /\ vs = [y] /\ H l = some (.lst xs) /\ xs.length < sizeLine /\ Q .non (upd H l (.lst (xs ++ [y])))
theorem dGq : MtM X "list.append" sCq := by
  intro pins s σ H x vs v us Q I rx rv h
  obtain ⟨l, xs, y, rfl, rfl, hH, hz, q⟩ := h
  cases rx
  obtain ⟨u, rfl, ru⟩ := rv.one
  obtain ⟨z, its, n, r, hl, e⟩ := I.lstM hH
  refine call_meets F.slot_list_append ⟨_, e, rfl⟩ F.entry_list_append (F.args_list_append_2 _ _) (PySem.list_append l its.toArray n u (by rw [List.size_toArray]; omega)) ⟨e, ?_⟩
  refine ⟨.non, _, I.lset (its' := its ++ [u]) hH e (by simp) (r.append (.cons ru .nil)) ?_, rfl, q⟩
  rw [List.length_append, List.length_singleton]
  omega
def t8q : V -> List V -> Hp -> VK -> Prop := fun x vs H Q => ∃ l b xs zs, x = .ref l /\ vs = [.ref b] /\ H l = some (.lst xs) /\ H b = some (.lst zs) /\ xs.length + zs.length <= sizeLine /\ Q .non (upd H l (.lst (xs ++ zs)))
theorem o3q : MtM X "list.extend" t8q := by
  intro pins s σ H x vs v us Q I rx rv h
  obtain ⟨l, b, xs, zs, rfl, rfl, hH, hB, hz, q⟩ := h
  cases rx
  obtain ⟨u, rfl, ru⟩ := rv.one
  cases ru
  obtain ⟨z, its, n, r, hl, e⟩ := I.lstM hH
  obtain ⟨z2, its2, n2, r2, hl2, e2⟩ := I.lstM hB
  have hsz : its.toArray.size + its2.toArray.size <= sizeLine := by rw [List.size_toArray, List.size_toArray]; omega
  have hlong : ¬ (!its.toArray.isEmpty && Builtin.List.listTooLong (its.toArray.size + its2.toArray.size)) = true := by
    rw [kYq hsz, Bool.and_false]
    exact Bool.false_ne_true
  refine call_meets F.slot_list_extend ⟨_, e, rfl⟩ F.entry_list_extend (F.args_list_extend_2 _ _)
    (AutoSeq1.list_extend_list_list_0 l its.toArray n b its2.toArray n2 hlong (by rw [List.size_toArray]; omega) (by omega)) ⟨e, e2, ?_⟩
  refine ⟨.non, _, I.lset (its' := its ++ its2) hH e (by simp) (r.append r2) ?_, rfl, q⟩
  rw [List.length_append]
  omega
def zXq : V -> List V -> Hp -> VK -> Prop := fun x vs H Q => ∃ l xs y, x = .ref l /\ vs = [] /\ H l = some (.lst xs) /\ xs[xs.length - 1]? = some y /\ Q y (upd H l (.lst xs.dropLast))
theorem vRq : MtM X "list.pop" zXq := by
  intro pins s σ H x vs v us Q I rx rv h
  obtain ⟨l, xs, y, rfl, rfl, hH, hy, q⟩ := h
  cases rx
  have hus := rv.zero
  subst hus
  obtain ⟨z, its, n, r, hl, e⟩ := I.lstM hH
  obtain ⟨u, hu, ru⟩ := r.get hy
  have hy' : its.toArray[its.toArray.size - 1]? = some u := by
    show its.toArray[its.length - 1]? = some u
    rw [<- Array.getElem?_toList, <- hl]
    exact hu
  refine call_meets F.slot_list_pop ⟨_, e, rfl⟩ F.entry_list_pop (F.args_list_pop_1 _) (MeetsSeq.list_pop_last l its.toArray n u hy' (by rw [List.size_toArray]; omega)) ⟨e, ?_⟩
  refine ⟨y, _, I.lset (its' := its.dropLast) hH e ?_ r.dropLast ?_, ru, q⟩
  . show its.toArray.eraseIdxIfInBounds (its.toArray.size - 1) = its.dropLast.toArray
    rw [List.size_toArray, List.eraseIdxIfInBounds_toArray, l4q]
  . rw [List.length_dropLast]
    omega
def rCat : R2 := fun x y H Q => ∃ l b xs zs, x = .ref l /\ y = .ref b /\ H l = some (.lst xs) /\ H b = some (.lst zs) /\ xs.length + zs.length <= sizeLine /\ ∀ p, H p = none -> Q (.ref p) (upd H p (.lst (xs ++ zs)))
theorem uSq : OpR X (binaryOp .Add) rCat := by
  intro pins s σ H x y v u Q I rx ry h
  obtain ⟨l, b, xs, zs, rfl, rfl, hH, hB, hz, q⟩ := h
  cases rx
  cases ry
  obtain ⟨z, its, n, r, hl, e⟩ := I.lstM hH
  obtain ⟨z2, its2, n2, r2, hl2, e2⟩ := I.lstM hB
  refine PySem.P.add_list e e2 ?_ (by rw [List.size_toArray, List.size_toArray]; omega)
  have ea : its.toArray ++ its2.toArray = (its ++ its2).toArray := by simp
  rw [ea]
  exact ⟨.ref _, _, I.lnew (t' := s.toks) (r.append r2) (by rw [List.length_append]; omega), rfl, q _ I.fresh⟩
end
section
variable {prog : Program} {w : World} {A : Around} {E : Value -> Shared -> Prop} {s : Shared}
end
section
variable {X : Cx}
end
end L2
namespace Att
open PySem PySem.W PySem.Calls PyProof.Rows
theorem gDq {P : Params} {h : Heap} : ∀ (ns : List Int) (vs : List Value), WellAll P h vs (ns.map WData.int) -> IntsAre vs ns := by
  intro ns
  induction ns with
  | nil =>
    intro vs w
    rw [List.map_nil] at w
    cases w
    exact .nil
  | cons n ns ih =>
    intro vs w
    rw [List.map_cons] at w
    cases w with
    | cons a b =>
      cases a
      exact .cons _ _ (ih _ b)
theorem nXq {l : OpenLaw} {n : Nat} (hn : l.most = some n) {P : Params} {h : Heap} {args : List WData} {vals : List Value}
    (hpre : l.row.toRowW.claim.pre args = true) (hwl : WellAll P h vals args) :
    ∃ a vs ns, vals = [Value.ref a] /\ args = [WData.list (ns.map WData.int)] /\ h.get? a = some { cls := .type "list", data := .seq vs.toArray } /\ IntsAre vs ns /\ ns.length <= n := by
  have hsh : WShape.hasAll [] args [.list .int] = true := (pre_splitW hpre).1
  have hc : l.pre.holds [] { args := args } = true := (pre_splitW hpre).2
  obtain ⟨d, r, rfl, h1, h2⟩ := hasAllW_cons hsh
  obtain rfl := hasAllW_nil h2
  obtain ⟨xs, rfl, h3⟩ := hasW_list h1
  obtain ⟨ns, rfl⟩ := items_int h3
  have hlen : ns.length <= n := by
    unfold OpenLaw.pre at hc
    have h4 : (WTm.not (.lt (.lit (.int (n : Int))) (.len (.arg 0)))).holds [] { args := [.list (ns.map .int)] } = true := by
      have h4 := (holds_andW hc).1
      rw [hn] at h4
      exact h4
    have h5 := condW_of h4 (w_not (w_lt w_lit (w_len_list (w_arg rfl))))
    rw [List.length_map] at h5
    refine Nat.le_of_not_lt fun q => ?_
    have q' : (n : Int) < ((ns.length : Nat) : Int) := by omega
    first
      | (rw [decide_eq_true q'] at h5; exact absurd h5 (by decide))
      | (simp at h5; omega)
  cases hwl with
  | cons w1 w2 =>
    cases w2
    cases w1 with
    | list ho hall => exact ⟨_, _, ns, rfl, rfl, ho, gDq ns _ hall, hlen⟩
theorem m0q (l : OpenLaw) (args : List WData) : l.row.toRowW.claim.post args (.bool true) args = true :=
  postW_of (r := l.row.toRowW) (X := (true == true))
    (show WShape.has [] (.bool true) .bool = true by first | rfl | decide | simp [WShape.has, WShape.arms, WShape.armsAll])
    (show (WTm.eq .res (.lit (.bool true))).value [] { args := args, res := some (.bool true), after := args } = some (.bool (true == true)) from w_eq_bool (w_res rfl) w_lit) rfl
theorem attach_call {l : OpenLaw} {n : Nat} {q : Program} {loose : List Str} {XP : (Str -> Option Value) -> Heap -> Prop} {YP : World -> Heap -> Prop} {d : DefRec}
    (hn : l.most = some n) (hdf : d.params.defaults = [])
    (call : ∀ (w : World) (s₀ s₁ : Shared) (mg mb : Str -> Option Value) (fa : Addr) (o : Obj) (pm cd doc : Value) (a : Addr) (vs : List Value) (ns : List Int),
      Ground q loose [] XP w s₀ mg mb s₁.heap -> YP w s₁.heap →
      s₁.heap.get? fa = some o -> o.data = .func (docDef d.name d.params d.body d.scope pm cd doc) -> s₁.heap.CodeRec cd d.name -> mg d.name = some (.ref fa) →
      s₁.heap.get? a = some { cls := .type "list", data := .seq vs.toArray } -> IntsAre vs ns -> ns.length <= n -> s₁.gens = #[] →
      codeAny (model l.prog w) callerA (.call (.ref fa) ⟨[.ref a], []⟩) (fun r s' => r = .ok (.ret (.bool true)) /\ OldK s₁.heap s'.heap /\ s'.os = s₁.os /\ AllBare s'.gens) s₁) :
    WalkO q loose XP YP l.row.toRowW d [] (fun f vs => PySem.call f vs) := by
  intro w s₀ s₁ mg mb G Y fa o pm cd doc dV kV ho hd hcd hD hmg hg args vals as hpre hlay hrd hwl hlo
  obtain rfl : dV = .none := Dflts.none hD hdf
  obtain rfl : kV = .none := Dflts.noKw hD
  obtain ⟨a, vs, ns, rfl, rfl, hobj, hints, hlen⟩ := nXq hn hpre hwl
  refine enter_call (codeAny_mono (call w s₀ s₁ mg mb fa o pm cd doc a vs ns G Y ho (fd_plain hd) hcd hmg hobj hints hlen hg) fun r s' hq => ?_)
  obtain ⟨rfl, h2, h3, h4⟩ := hq
  exact ⟨.inl ⟨.bool true, .bool true, [], rfl, fun _ => rfl, .bool true, m0q l _, fun _ => ⟨List.Pairwise.nil, fun _ hm => (nomatch hm)⟩⟩, h2, h3, h4⟩
section
variable {prog : Program} {w : World} {A : Around} {E : Value -> Shared -> Prop} {s : Shared} {K : Frag}
end
end Att
namespace L2
open PySem PySem.Spec PyProof.Rows
theorem j2q : ∀ {vs : List Value} {ns : List Int}, IntsAre vs ns -> Vals (ns.map V.int) vs
  | _, _, .nil => .nil
  | _, _, .cons n t h => .cons ⟨t, rfl⟩ (j2q h)
def aKq (s : Stmt) : Arguments := match s with
  | .FunctionDef _ a _ _ _ _ _ _ _ _ => a
  | _ => { posonlyargs := [], args := [], vararg := none, kwonlyargs := [], kw_defaults := [], kwarg := none, defaults := [] }
def aGq (s : Stmt) : List Stmt := match s with
  | .FunctionDef _ _ b _ _ _ _ _ _ _ => b
  | _ => []
def a3q (s : Stmt) : Scope := match s with
  | .FunctionDef _ _ _ _ _ _ sc _ _ _ => sc
  | _ => { kind := .function, names := [], isGenerator := false, isCoroutine := false }
abbrev CX0 : CXT := fun _ _ _ _ _ _ => False
abbrev E0 : XK := fun _ _ _ => False
theorem pMq {X : Cx} : gQq CX0 X E0 := fun _ _ _ _ _ _ _ h => h.elim
structure Fun (K : PySem.W.Frag) (x qual : Str) (st : Stmt) (f : Addr) (fd : FuncData) : Prop where
  ex : ∃ (oc : Value) (od : Option Addr) (kV doc pm : Value) (an : Option Addr) (cdv ct : Value) (osl : Array (Option Value)),
    fd = PySem.W.fnOf x qual (aKq st) (aGq st) (a3q st) .none kV doc pm an cdv ct /\ K.lookup f = some ⟨oc, od, .func fd, osl⟩ /\ PySem.W.codeIn K cdv qual = true
  kp : PySem.W.keepIn K (.ref f) = true
section
variable {P : Program} {w : World} {K : PySem.W.Frag} {mg : Str -> Option Value} {base : Heap}
theorem Fun.ok {x qual : Str} {st : Stmt} {f : Addr} {fd : FuncData} {N ps : List Str} {k : Nat} {sp : Sp} (F : Fun K x qual st f fd) (S : FnScope N ps (a3q st)) (len : ∀ vs H Q E, sp vs H Q E -> vs.length = ps.length)
    (hbody : ∀ (cdv : Value) (A : Around) (outer : List Env) (s : Shared) (H : Hp) (vs : List V) (Q : VK) (E : XK), Room k (A.deeper (envOfC qual (a3q st) s.heap.objs.size f cdv)) -> sp vs H Q E →
      ∃ t, PSs (oXq CX0 P w K mg base N qual (a3q st) f cdv A outer s H E).nox (aGq st) t /\ t { nx := fun _ H' => Q .non H', rt := Q } (eWq N vs) H) : FnOk P w K mg base CX0 (k + 1) f fd ps sp := by
  obtain ⟨oc, od, kV, doc, pm, an, cdv, ct, osl, rfl, lk, hcd⟩ := F.ex
  refine uFq lk hcd S len fun A outer s H vs Q E hr hsp => ?_
  obtain ⟨t, h, q⟩ := hbody cdv A outer s H vs Q E hr hsp
  exact ⟨t, h.nox, q⟩
theorem Fun.binds {x qual : Str} {st : Stmt} {f : Addr} {fd : FuncData} {ps : List Str} (F : Fun K x qual st f fd)
    (h : ∀ (kV doc pm : Value) (an : Option Addr) (cdv ct : Value) (us : List Value), us.length = ps.length -> bindArgs (PySem.W.fnOf x qual (aKq st) (aGq st) (a3q st) .none kV doc pm an cdv ct) ⟨us, []⟩ = pure (ps.zip us)) : Binds K fd ps [] := by
  obtain ⟨oc, od, kV, doc, pm, an, cdv, ct, osl, rfl, lk, hcd⟩ := F.ex
  exact .all (h kV doc pm an cdv ct)
theorem aIq {x qual : Str} {st : Stmt} {f : Addr} {oc : Value} {od an : Option Addr} {osl : Array (Option Value)} {kV doc pm cdv ct : Value} (l : K.lookup f = some ⟨oc, od, .func (PySem.W.fnOf x qual (aKq st) (aGq st) (a3q st) .none kV doc pm an cdv ct), osl⟩)
 (c : PySem.W.codeIn K cdv qual = true) (k : PySem.W.keepIn K (.ref f) = true) : Fun K x qual st f (PySem.W.fnOf x qual (aKq st) (aGq st) (a3q st) .none kV doc pm an cdv ct) := ⟨⟨oc, od, kV, doc, pm, an, cdv, ct, osl, rfl, l, c⟩, k⟩
end
section
variable {X : Cx}
end
def Same (H H' : Hp) : Prop := ∀ b o, H b = some o -> H' b = some o
theorem Same.refl (H : Hp) : Same H H := fun _ _ h => h
def cHq (cells : List (Str × Addr)) : List (Str × NameKind) -> List (Str × Addr) -> List (Str × Addr)
  | [], acc => acc
  | (n, k) :: r, acc => cHq cells r (if k = .free then (n, (cells.lookup n).getD 0) :: acc else acc)
theorem hFq {α β : Type} {f : α -> β -> Sem (ForInStep β)} (g : β -> α -> β) : ∀ (l : List α) (c : β), (∀ x ∈ l, ∀ c, f x c = pure (.yield (g c x))) -> forIn l c f = pure (l.foldl g c)
  | [], _, _ => rfl
  | x :: l, c, h => by
    rw [List.forIn_cons, h x List.mem_cons_self, pure_bind]
    exact hFq g l _ fun y hy => h y (List.mem_cons_of_mem _ hy)
theorem hGq (cells : List (Str × Addr)) : ∀ (names : List (Str × NameKind)) (acc : List (Str × Addr)),
    names.foldl (fun c y => if y.2 = .free then (y.1, (cells.lookup y.1).getD 0) :: c else c) acc = cHq cells names acc
  | [], _ => rfl
  | (n, k) :: r, acc => by
    rw [List.foldl_cons, cHq]
    exact hGq cells r _
theorem i8q {scope : Scope} {env : Env} (h : ∀ y ∈ scope.names, y.2 = .free -> ∃ c, env.cells.lookup y.1 = some c) : closureFor scope env = pure (cHq env.cells scope.names []) := by
  rw [<- hGq]
  simp only [closureFor]
  rw [hFq (fun c y => if y.2 = .free then (y.1, (env.cells.lookup y.1).getD 0) :: c else c) scope.names [] fun x hx c => ?_]
  . rfl
  . obtain ⟨n, k⟩ := x
    by_cases hk : k = .free
    . subst hk
      obtain ⟨a, e⟩ := h _ hx rfl
      have e' : env.cells.lookup n = some a := e
      simp [cellOf, e']
    . have hb : (k == NameKind.free) = false := by simpa using hk
      simp [hb, hk]
theorem kHq {cells : List (Str × Addr)} : ∀ (names : List (Str × NameKind)) (acc : List (Str × Addr)), (∀ y ∈ names, y.2 = .free -> ∃ c, cells.lookup y.1 = some c) -> (∀ x c, acc.lookup x = some c -> cells.lookup x = some c) →
    ∀ x c, (cHq cells names acc).lookup x = some c -> cells.lookup x = some c
  | [], _, _, ha => ha
  | (n, k) :: r, acc, h, ha => by
    rw [cHq]
    refine kHq r _ (fun y hy => h y (List.mem_cons_of_mem _ hy)) fun x c e => ?_
    by_cases hk : k = .free
    . rw [if_pos hk] at e
      obtain ⟨a, ea⟩ := h (n, k) List.mem_cons_self hk
      have ea' : cells.lookup n = some a := ea
      rw [List.lookup_cons] at e
      cases hx : x == n with
      | true =>
        rw [hx] at e
        have e2 : some ((cells.lookup n).getD 0) = some c := e
        rw [ea'] at e2
        have e3 : a = c := Option.some.inj e2
        rw [eq_of_beq hx, ea', e3]
      | false =>
        rw [hx] at e
        exact ha x c e
    . rw [if_neg hk] at e
      exact ha x c e
theorem iUq {cells : List (Str × Addr)} {x : Str} : ∀ (names : List (Str × NameKind)) (acc : List (Str × Addr)), (acc.lookup x).isSome = true -> ((cHq cells names acc).lookup x).isSome = true
  | [], _, h => h
  | (n, k) :: r, acc, h => by
    rw [cHq]
    refine iUq r _ ?_
    by_cases hk : k = .free
    . rw [if_pos hk, List.lookup_cons]
      cases hx : x == n with
      | true => rfl
      | false => exact h
    . rw [if_neg hk]; exact h
theorem g0q {cells : List (Str × Addr)} {x : Str} : ∀ (names : List (Str × NameKind)) (acc : List (Str × Addr)), (x, NameKind.free) ∈ names -> ((cHq cells names acc).lookup x).isSome = true
  | [], _, h => nomatch h
  | (n, k) :: r, acc, h => by
    rw [cHq]
    rcases List.mem_cons.mp h with e | h
    . cases e
      refine iUq r _ ?_
      rw [if_pos rfl, List.lookup_cons, beq_self_eq_true]; rfl
    . exact g0q r _ h
theorem gXq {g : Str -> NameKind -> NameKind} {x : Str} : ∀ names : List (Str × NameKind), (names.map fun y => (y.1, g y.1 y.2)).lookup x = (names.lookup x).map (g x)
  | [] => rfl
  | (n, k) :: r => by
    rw [List.map_cons, List.lookup_cons, List.lookup_cons]
    cases hx : x == n with
    | true =>
      have e := eq_of_beq hx
      subst e; rfl
    | false => exact gXq r
theorem iDq (scope : Scope) (env : Env) : (relabel scope env).names = scope.names.map fun y => (y.1, if (y.2 == .free && env.scope.kind == .function && env.kindOf y.1 == some .cell) = true then NameKind.cell else y.2) := by
  unfold relabel
  refine List.map_congr_left fun y _ => ?_
  obtain ⟨n, k⟩ := y
  show (if (k == .free && env.scope.kind == .function && env.kindOf n == some .cell) = true then (n, NameKind.cell) else (n, k)) = _
  split <;> simp_all
theorem fFq (scope : Scope) (env : Env) (x : Str) : (relabel scope env).names.lookup x = (scope.names.lookup x).map fun k => if (k == .free && env.scope.kind == .function && env.kindOf x == some .cell) = true then NameKind.cell else k := by
  rw [iDq]
  exact gXq (g := fun n k => if (k == .free && env.scope.kind == .function && env.kindOf n == some .cell) = true then NameKind.cell else k) scope.names
def aFq (X : Cx) (scope : Scope) (N' : List Str) (C : Addr) (ex : List Addr) (s : Shared) (H : Hp) : Cx :=
  { X with N := N', s₀ := s, H₀ := H, env := compEnvC scope (cHq X.env.cells scope.names []) C X.env, outer := X.stack, stack := X.stack, ex := ex, fn := fun _ => false, pn := [], xe := fun _ _ => False }
def dYq (nt : Nat) (cap : List Nat) (σ : St) : St := List.replicate nt none ++ cap.map fun i => (σ[i]?).join
structure CompOk (X : Cx) (scope : Scope) (N' : List Str) (nt : Nat) (cap : List Nat) : Prop where
  kind : scope.kind = .function
  nocell : ∀ y ∈ scope.names, y.2 ≠ .cell
  locs : ∀ y ∈ scope.names, y.2 = .local -> scope.names.lookup y.1 = some .local
  frees : ∀ y ∈ scope.names, y.2 = .free -> X.env.scope.names.lookup y.1 = some .cell \/ X.env.scope.names.lookup y.1 = some .free
  len : N'.length = nt + cap.length
  caps : ∀ (j i : Nat) (x : Str), cap[j]? = some i -> N'[nt + j]? = some x -> X.N[i]? = some x /\ scope.names.lookup x = some .free
section
variable {X : Cx} {scope : Scope} {N' : List Str} {nt : Nat} {cap : List Nat} {pins : List (Addr × Obj)} {σ : St} {H : Hp} {s : Shared}
theorem CompOk.has (c : CompOk X scope N' nt cap) (ok : X.Ok) : ∀ y ∈ scope.names, y.2 = .free -> ∃ a, X.env.cells.lookup y.1 = some a := fun y hy hk => ok.has y.1 (c.frees y hy hk)
theorem CompOk.cells (c : CompOk X scope N' nt cap) (ok : X.Ok) {x : Str} {a : Addr} (e : (cHq X.env.cells scope.names []).lookup x = some a) : X.env.cells.lookup x = some a :=
  kHq scope.names [] (c.has ok) (fun _ _ z => by simp at z) x a e
theorem CompOk.free_of (c : CompOk X scope N' nt cap) {x : Str} (h : (relabel scope X.env).names.lookup x = some .cell \/ (relabel scope X.env).names.lookup x = some .free) : (x, NameKind.free) ∈ scope.names := by
  rw [fFq] at h
  cases q : scope.names.lookup x with
  | none => rw [q] at h; simp at h
  | some k =>
    have hm := PySem.mem_of_lookup q
    have nc : k ≠ .cell := c.nocell _ hm
    rw [q] at h
    by_cases hk : k = .free
    . subst hk; exact hm
    . have hb : (k == NameKind.free) = false := by simpa using hk
      simp only [Option.map_some, hb, Bool.false_and, Bool.false_eq_true, if_false, Option.some.injEq] at h
      rcases h with h | h
      . exact absurd h nc
      . exact absurd h hk
theorem Inv.comp (I : Inv X pins σ H s) (c : CompOk X scope N' nt cap) {fp : List Addr} (hf : ∀ b ∈ fp, iHq X pins H b) (hfs : ∀ b ∈ fp, b < s.heap.objs.size) {h' : Heap} {m : Str -> Option Value} {t' : Nat}
    (hk : ∀ b o, s.heap.get? b = some o -> h'.get? b = some o) (hn : h'.Ns s.heap.objs.size m) :
    Inv (aFq X scope N' s.heap.objs.size fp s H) [] (dYq nt cap σ) H { s with heap := h', toks := t' } := by
  have cl := fun {x : Str} {a : Addr} (e : (cHq X.env.cells scope.names []).lookup x = some a) => c.cells I.ok e
  have cellLt : ∀ x a, X.env.cells.lookup x = some a -> a < s.heap.objs.size := fun x a e => by
    obtain ⟨v, q⟩ := I.cell x a e
    exact q.lt
  refine ⟨⟨I.ok.mod, c.kind, I.ok.glob, I.ok.blt, Nat.le_refl _, fun x y a e1 e2 => I.ok.inj x y a (cl e1) (cl e2), fun x hx => ?_, fun x a hx => absurd hx Bool.false_ne_true, I.ok.hd, I.ok.frames, .inl rfl, fun b hb => ⟨?_, fun x a e => ?_⟩,
      fun b o e => I.bs b o e, Nat.le_trans I.ok.bsz I.sz, fun b o e hb => ?_, fun b hb hbf => ?_, I.stack, fun b hb => I.stkFree b hb⟩,
    rfl, I.bare, Un.kept hk, ⟨m, hn, fun i x v e1 e2 e3 => ?_⟩, fun x a e => ?_, I.hok.fresh (Nat.le_refl _), fun x a e => I.freeC x a (cl e), fun p hp => absurd (show p ∈ ([] : List (Addr × Obj)) from hp) (by simp), I.hok.kept hk, ?_⟩
  . exact Option.isSome_iff_exists.mp (g0q scope.names [] (c.free_of hx))
  . exact Nat.ne_of_lt (hfs b hb)
  . exact (hf b hb).2.2.2.2.1 x a (cl e)
  . obtain ⟨f0, f1, f2, f3, _⟩ := hf b hb
    rcases f3 with z | z
    . exact I.ok.noex b o e z
    . exact absurd (Nat.lt_of_lt_of_le (Heap.lt_size e) (Nat.le_trans I.ok.bsz z)) (Nat.lt_irrefl _)
  . obtain ⟨f0, f1, f2, _⟩ := hf b hb
    rcases List.mem_cons.mp (I.stkSub b hbf) with z | z
    . exact f1 z
    . exact f2 z
  .
    have e1' : N'[i]? = some x := e1
    have hi : nt <= i := by
      refine Nat.le_of_not_lt fun q => ?_
      unfold dYq at e2
      rw [List.getElem?_append_left (by simpa using q), List.getElem?_replicate, if_pos q] at e2
      cases e2
    obtain ⟨j, rfl⟩ := Nat.exists_eq_add_of_le hi
    unfold dYq at e2
    rw [List.getElem?_append_right (by simp), List.length_replicate, Nat.add_sub_cancel_left, List.getElem?_map] at e2
    cases q : cap[j]? with
    | none => rw [q] at e2; cases e2
    | some k =>
      rw [q] at e2
      have e2' : (σ[k]?).join = some v := Option.some.inj e2
      have e4 : σ[k]? = some (some v) := by
        cases z : σ[k]? with
        | none => rw [z] at e2'; cases e2'
        | some w' => rw [z] at e2'; exact congrArg some e2'
      obtain ⟨n1, n2⟩ := c.caps j k x q e1'
      have hmem := PySem.mem_of_lookup n2
      have hkind := c.frees _ hmem rfl
      obtain ⟨m0, _, hl⟩ := I.loc
      obtain ⟨u, r, lk⟩ := hl k x v n1 e4 (.inr hkind)
      refine ⟨u, r, .inr ⟨?_, ?_⟩⟩
      . show (relabel scope X.env).names.lookup x = some .cell \/ (relabel scope X.env).names.lookup x = some .free
        rw [fFq, n2]
        by_cases z : ((NameKind.free == .free && X.env.scope.kind == .function && X.env.kindOf x == some .cell) = true)
        . exact .inl (by rw [Option.map_some, if_pos z])
        . exact .inr (by rw [Option.map_some, if_neg z])
      . rcases lk with ⟨k1, _⟩ | ⟨_, a, e, z⟩
        . have k1' : X.env.scope.names.lookup x = some .local := k1
          rcases hkind with y | y <;> (rw [k1'] at y; cases y)
        . obtain ⟨a', ea⟩ := Option.isSome_iff_exists.mp (g0q (cells := X.env.cells) scope.names [] hmem)
          have e' := cl ea
          rw [e] at e'; cases e'
          obtain ⟨o, ho, hd⟩ := z
          exact ⟨a, ea, o, hk _ _ ho, hd⟩
  . obtain ⟨v, o, ho, hd⟩ := I.cell x a (cl e)
    exact ⟨v, o, hk _ _ ho, hd⟩
  . show (dYq nt cap σ).length = N'.length
    unfold dYq
    rw [List.length_append, List.length_replicate, List.length_map, c.len]
theorem Inv.uncomp {C : Addr} {fp : List Addr} {σ' : St} {H' : Hp} {s' : Shared} (I : Inv X pins σ H s) (hC : C = s.heap.objs.size) (hf : ∀ b ∈ fp, iHq X pins H b) {N' : List Str} (J : Inv (aFq X scope N' C fp s H) [] σ' H' s') :
    ∃ m, s'.heap.Ns C m /\ ∀ h', Heap.SameBut C s'.heap h' -> Inv X pins σ H' { s' with heap := h' } := by
  subst hC
  obtain ⟨m, hn, _⟩ := J.loc
  refine ⟨m, hn, fun h' hs => ?_⟩
  have ne : ∀ b o, s.heap.get? b = some o -> b ≠ s.heap.objs.size := fun b o e => Nat.ne_of_lt (Heap.lt_size e)
  have B := J.base
  refine I.call' (ch := fp) J.os ⟨fun b o e n hb hx => ?_, fun b o e n hb hx => ?_, B.free, fun b o e hx => ?_, B.tups, B.frzs, B.tbls⟩ (fun b u e => ?_) J.bare fun b hb => ?_
  . exact (hs.2 b (ne b o e)).trans (B.keep b o e n hb hx)
  . obtain ⟨sl, q⟩ := B.slot b o e n hb hx
    exact ⟨sl, (hs.2 b (ne b o e)).trans q⟩
  . obtain ⟨o', q⟩ := B.there b o e hx
    exact ⟨o', (hs.2 b (ne b o e)).trans q⟩
  . have hCn : H' s.heap.objs.size = none := J.free
    refine (J.hok b u e).stay (fun d w' hd q => (hs.2 d ?_).trans q) (fun _ q => q) fun _ _ q => q
    intro z
    subst z
    rcases hd with z | z
    . rw [<- z, hCn] at e; cases e
    . rw [hCn] at z; cases z
  . obtain ⟨f0, f1, f2, f3, f4, f5⟩ := hf b hb
    exact ⟨f3, f1, f4, f5⟩
end
def oIq (wi : TI) (g : TG) (te : TE) (nt : Nat) (cap : List Nat) : TE := fun σ H Q => wi σ H fun J H1 => ∀ acc, H1 acc = none →
  ∃ W : Nat -> Nat -> List V -> St -> Hp -> Prop, (∃ m, W 0 m [] (dYq nt cap σ) (upd H1 acc (.lst []))) /\ ∀ i m ys σ' H', W i m ys σ' H' →
    (J.stop i H' /\ Q (.ref acc) H') \/ (J.go i H' /\ ∀ x H2, J.yld i H' x H2 -> g x σ' H2 fun σ3 H3 => te σ3 H3 fun y H4 =>
      H4 acc = some (.lst ys) /\ ys.length < sizeLine /\ ∃ m', m' < m /\ W (i + 1) m' (ys ++ [y]) σ3 (upd H4 acc (.lst (ys ++ [y]))))
def gAq (wi : TI) (g : TG) (tc : TT) (te : TE) (nt : Nat) (cap : List Nat) : TE := fun σ H Q => wi σ H fun J H1 => ∀ acc, H1 acc = none →
  ∃ W : Nat -> Nat -> List V -> St -> Hp -> Prop, (∃ m, W 0 m [] (dYq nt cap σ) (upd H1 acc (.lst []))) /\ ∀ i m ys σ' H', W i m ys σ' H' →
    (J.stop i H' /\ Q (.ref acc) H') \/ (J.go i H' /\ ∀ x H2, J.yld i H' x H2 -> g x σ' H2 fun σ3 H3 => tc σ3 H3 fun b H5 => if b = true then te σ3 H5 fun y H4 =>
      H4 acc = some (.lst ys) /\ ys.length < sizeLine /\ ∃ m', m' < m /\ W (i + 1) m' (ys ++ [y]) σ3 (upd H4 acc (.lst (ys ++ [y])))
      else ∃ m', m' < m /\ W (i + 1) m' ys σ3 H5)
theorem iPq (elt target iter c : Expr) (scope : Scope) (pos : Pos) (it acc : Value) (env : Env) :
    compTurn (.ListComp elt [⟨target, iter, [c], 0⟩] scope pos) 0 it acc env = (standAt iter.pos >>= fun _ => pyNext it >>= fun r => match r with
      | none => pure (.done .next)
      | some v => letOwnedTupleGo target it v >>= fun _ => assign target env v >>= fun _ => (forIn [c] true fun c r => if r = true then do let ok ← isTrue c env (eval c env); pure (ForInStep.yield ok) else pure (ForInStep.yield r)) >>= fun ok =>
        if ok = true then (eval elt env >>= fun x => call (.builtin "list.append") [acc, x] >>= fun _ => pure ()) >>= fun _ => again (.compLoop (.ListComp elt [⟨target, iter, [c], 0⟩] scope pos) 0 it acc env)
        else again (.compLoop (.ListComp elt [⟨target, iter, [c], 0⟩] scope pos) 0 it acc env)) := by
  rfl
theorem nZq (c : Expr) (env : Env) : (forIn [c] true fun c r => if r = true then do let ok ← isTrue c env (eval c env); pure (ForInStep.yield ok) else pure (ForInStep.yield r)) = isTrue c env (eval c env) := by
  rw [List.forIn_cons, if_pos rfl]
  simp only [bind_assoc, pure_bind, List.forIn_nil, bind_pure]
theorem fNq (elt target iter c : Expr) (scope : Scope) (pos : Pos) (it acc : Value) (env : Env) :
    compTurn (.ListComp elt [⟨target, iter, [c], 0⟩] scope pos) 0 it acc env = (standAt iter.pos >>= fun _ => pyNext it >>= fun r => match r with
      | none => pure (.done .next)
      | some v => letOwnedTupleGo target it v >>= fun _ => assign target env v >>= fun _ => isTrue c env (eval c env) >>= fun ok =>
        if ok = true then (eval elt env >>= fun x => call (.builtin "list.append") [acc, x] >>= fun _ => pure ()) >>= fun _ => again (.compLoop (.ListComp elt [⟨target, iter, [c], 0⟩] scope pos) 0 it acc env)
        else again (.compLoop (.ListComp elt [⟨target, iter, [c], 0⟩] scope pos) 0 it acc env)) := by
  rw [iPq, nZq]
section
variable {X : Cx} {scope : Scope} {N' : List Str} {nt : Nat} {cap : List Nat} {elt iter tg : Expr} {pos : Pos} {wi : TI} {g : TG} {te : TE}
theorem s1q (hc : X.calm = true) (c : CompOk X scope N' nt cap) (hi : PI X tg iter wi) (hg : ∀ C ex s H, PG (aFq X scope N' C ex s H) tg g) (he : ∀ C ex s H, PE (aFq X scope N' C ex s H) elt te)
    (hs : ∀ x, foldedSetIterable iter X.env x = pure x := by intro _; rfl) : PE X (.ListComp elt [⟨tg, iter, [], 0⟩] scope pos) (oIq wi g te nt cap) := by
  intro pins s σ H Q I h
  rw [eval_ListComp]
  refine wpAny_comprehension_free (use := none) rfl hs (i8q (c.has I.ok)) c.kind c.locs (thn (hi pins s σ H _ I h) fun v s1 h1 => thn h1 fun itv s2 h2 => ?_)
  obtain ⟨it, fp, tn, J, H2, rfl, I2, T, st2, f2, R⟩ := h2
  have hD : H2 s2.heap.objs.size = none := I2.hok.fresh (Nat.le_refl _)
  obtain ⟨W, ⟨m0, w0⟩, turn⟩ := R _ hD
  have I3 : Inv X pins σ (upd H2 s2.heap.objs.size (.lst [])) { s2 with heap := s2.heap.push { cls := .type "list", dict := none, data := .seq ([] : List Value).toArray } } :=
    I2.laid (t' := s2.toks) (fun b u e => Heap.get?_push_of_some _ e) (Nat.le_refl _) ⟨Nat.zero_le _, [], 0, .nil, Heap.get?_push_size _ rfl⟩
  have fpLt : ∀ b ∈ fp, b < s2.heap.objs.size := fun b hb => by
    obtain ⟨o, e, _⟩ := T.obj _ _ st2 b hb
    exact Heap.lt_size e
  have f3 : ∀ b ∈ fp, iHq X pins (upd H2 s2.heap.objs.size (.lst [])) b := fun b hb => ⟨by rw [aDq (Nat.ne_of_lt (fpLt b hb))]; exact (f2 b hb).1, (f2 b hb).2⟩
  have st3 : tn 0 (s2.heap.push { cls := .type "list", dict := none, data := .seq ([] : List Value).toArray }) := T.keep _ _ _ st2 fun b _ o e => Heap.get?_push_of_some _ e
  generalize hh3 : s2.heap.push { cls := .type "list", dict := none, data := .seq ([] : List Value).toArray } = h3 at I3 st3
  have sz3 : s2.heap.objs.size < h3.objs.size := by rw [<- hh3, Heap.size_push]; exact Nat.lt_succ_self _
  generalize hDD : s2.heap.objs.size = D at I3 f3 hD w0 turn sz3 fpLt
  refine wpAny_newObj_type ?_
  rw [hDD, hh3]
  refine wpAny_newFunctionEnv c.nocell (by intro y hy; simp at hy) (fun h4 hns4 hsb4 => ?_) c.kind
  dsimp only at hns4 hsb4 ⊢
  have keep4 : ∀ b o, h3.get? b = some o -> h4.get? b = some o := fun b o e => (hsb4.2 b (Nat.ne_of_lt (Heap.lt_size e))).trans (Heap.get?_push_of_some _ e)
  have I4 := I3.comp (t' := s2.toks + ([] : List (Str × Value)).length) c f3 (fun b hb => Nat.lt_trans (fpLt b hb) sz3) keep4 hns4
  have st4 : tn 0 h4 := T.keep _ _ _ st3 fun b _ o e => keep4 b o e
  dsimp only at I4
  have fin : ∀ {σ' : St} {H' : Hp} {s' : Shared}, Inv (aFq X scope N' h3.objs.size fp { s2 with heap := h3 } (upd H2 D (.lst []))) [] σ' H' s' -> Q (.ref D) H' →
      compPost (model X.prog X.w) X.A X.xe none (EP X pins σ Q) (.ref D) h3.objs.size (.ok .next) s' := fun {σ' H' s'} J' q => by
    obtain ⟨m, hn, hh⟩ := I3.uncomp rfl f3 J'
    exact ⟨m, hn, fun h' hs' => ⟨.ref D, H', hh h' hs', rfl, q⟩⟩
  have stat : ∀ {H' : Hp}, (∀ b ∈ fp, H' b = none) -> ∀ b ∈ fp, iHq (aFq X scope N' h3.objs.size fp { s2 with heap := h3 } (upd H2 D (.lst []))) [] H' b := fun {H'} hn b hb => by
    refine ⟨hn b hb, Nat.ne_of_lt (Nat.lt_trans (fpLt b hb) sz3), fun z => ?_, .inl hb, fun x a e => (f3 b hb).2.2.2.2.1 x a (c.cells I.ok e), fun p hp => absurd (show p ∈ ([] : List (Addr × Obj)) from hp) (by simp)⟩
    rcases List.mem_cons.mp (I.stkSub b z) with y | y
    . exact (f3 b hb).2.1 y
    . exact (f3 b hb).2.2.1 y
  have loop : codeAny (model X.prog X.w) X.A (.compLoop (.ListComp elt [⟨tg, iter, [], 0⟩] scope pos) 0 (.ref it) (.ref D) (compEnvC scope (cHq X.env.cells scope.names []) h3.objs.size X.env))
      (compPost (model X.prog X.w) X.A X.xe none (EP X pins σ Q) (.ref D) h3.objs.size) { s2 with heap := h4, toks := s2.toks + ([] : List (Str × Value)).length } := by
    refine codeAny_loop rfl (fun n s' => ∃ i ys σ' H', Inv (aFq X scope N' h3.objs.size fp { s2 with heap := h3 } (upd H2 D (.lst []))) [] σ' H' s' /\ tn i s'.heap /\ (∀ b ∈ fp, H' b = none) /\ W i n ys σ' H') (fun n s5 hI => ?_) m0 ⟨0, [], _, _, I4, st4, fun b hb => (f3 b hb).1, w0⟩
    obtain ⟨i, ys, σ5, H5, I5, st5, fr5, w5⟩ := hI
    show wpAny _ X.A ((compTurn (.ListComp elt [⟨tg, iter, [], 0⟩] scope pos) 0 (.ref it) (.ref D) (compEnvC scope (cHq X.env.cells scope.names []) h3.objs.size X.env)).onRaise (fun x => do noteFrame x (compEnvC scope (cHq X.env.cells scope.names []) h3.objs.size X.env); theTreesLotGoes x)) _ _ s5
    refine wpAny_noted ?_
    rw [compTurn_list1]
    rcases turn i n ys σ5 H5 w5 with ⟨stop, qn⟩ | ⟨go, step⟩
    . refine wpAny_bind (wpAny_standAt (wpAny_bind (wpAny_mono (T.done (aFq X scope N' h3.objs.size fp { s2 with heap := h3 } (upd H2 D (.lst []))) rfl rfl rfl hc i [] s5 σ5 H5 (fun _ _ => False) I5 (stat fr5) st5 stop) (fun r s6 ⟨hr, I6⟩ => ?_) fun _ _ z => z.elim)))
      subst hr
      exact wpAny_pure (fin I6 qn)
    . refine wpAny_bind (wpAny_standAt (wpAny_bind (wpAny_mono (T.item (aFq X scope N' h3.objs.size fp { s2 with heap := h3 } (upd H2 D (.lst []))) rfl rfl rfl hc i [] s5 σ5 H5 (fun _ _ => False) I5 (stat fr5) st5 go) (fun r s6 ⟨u, hr, h6⟩ => ?_) fun _ _ z => z.elim)))
      subst hr
      refine wpAny_bind (wpAny_mono h6 (fun _ s7 ⟨x, H7, I7, r7, y7, st7, fr7⟩ => ?_) fun _ _ z => z.elim)
      have I7' := I7.pinned (stat fr7) (T.obj _ _ st7)
      refine wpAny_bind (wpAny_mono (hg _ _ _ _ _ s7 σ5 H7 x u _ I7' r7 (step x H7 y7)) (fun _ s8 ⟨σ8, H8, I8, q8⟩ => ?_) fun _ _ z => z.elim)
      refine wpAny_bind (wpAny_bind (wpAny_mono (he _ _ _ _ _ s8 σ8 H8 _ I8 q8) (fun yv s9 ⟨y, H9, I9, r9, e9, z9, m', hm', w9⟩ => ?_) fun _ _ z => z.elim))
      refine wpAny_bind (wpAny_mono (dGq (X := aFq X scope N' h3.objs.size fp { s2 with heap := h3 } (upd H2 D (.lst []))) _ s9 σ8 H9 (.ref D) [y] (.ref D) [yv] (fun v H10 => v = .non /\ H10 = upd H9 D (.lst (ys ++ [y]))) I9 rfl (.cons r9 .nil) ⟨D, ys, y, rfl, rfl, e9, z9, rfl, rfl⟩)
        (fun _ s10 ⟨v10, H10, I10, _, _, e10⟩ => ?_) fun _ _ z => z.elim)
      subst e10
      refine wpAny_pure (wpAny_pure ⟨rfl, m', hm', i + 1, ys ++ [y], σ8, _, I10.unpinned, ?_, fun b hb => ?_, w9⟩)
      . exact T.keep _ _ _ st7 fun b hb o e => (I10.pin (b, o) (List.mem_append_right _ (List.mem_append_right _ (b3q hb e)))).1
      . obtain ⟨o, e, d⟩ := T.obj _ _ st7 b hb
        exact (I10.pin (b, o) (List.mem_append_right _ (List.mem_append_right _ (b3q hb e)))).2.1
  exact codeAny_compStart_list loop (T.self _ 0 _ _ _ st4 loop)
end
structure Got (P : Program) (w : World) (K : PySem.W.Frag) (mg : Str -> Option Value) (base : Heap) (k : Nat) (x : Str) (ps : List Str) (sp : Sp) : Prop where
  ex : ∃ (f : Addr) (fd : FuncData), FnOk P w K mg base CX0 k f fd ps sp /\ mg x = some (.ref f) /\ PySem.W.keepIn K (.ref f) = true /\ Binds K fd ps []
section
variable {X : Cx} {k j : Nat} {x : Str} {ps : List Str} {sp : Sp} {p pos : Pos} {e : Expr} {es : List Expr} {t : TA}
theorem xJq (G : Got X.prog X.w X.K X.mg X.base k x ps sp) (hr : Room j X.A) (hk : k <= j) (hg : Gl X x) (ha : PA X (e :: es) t) (hdb : (x == ("__debug__" : Str)) = false := by decide)
    (he : starEach (e :: es) X.env = (false, eval e X.env) :: starEach es X.env := by rfl) (hpl : (backTo pos (starEach es X.env)).any (·.1) = false := by rfl) :
    PE X (.Call (.Name x p) (e :: es) [] pos) (rLq sp [] E0 t) := by
  obtain ⟨f, fd, F, hm, kp, b⟩ := G.ex
  exact r2q F (hr.mono hk) hg hm kp b .nil pMq ha hdb he hpl
end
section
variable {X : Cx}
theorem q6q : OpR X (binaryOp .FloorDiv) (rI (fun _ j => 0 < j /\ j < 2 ^ 64) fun i j => .int (i / j)) := opI fun i j t u s E Q hc q => by
  have h0 : j ≠ 0 := by omega
  have h1 : j.natAbs.log2 < 9000 := by
    have e1 : j.natAbs < 2 ^ 64 := by omega
    exact Nat.lt_trans ((Nat.log2_lt (by omega)).mpr e1) (by decide)
  have e : i.fdiv j = i / j := Int.fdiv_eq_ediv_of_nonneg i (by omega)
  exact floordiv_int h0 (by rw [e]; exact q) (.inl (PyProof.noPylong_of_log2 h1))
theorem r8q (l b : Addr) (items items2 : Array Value) (n n2 : Nat) (dd2 : Option Addr) (sl2 : Array (Option Value)) (h0 : ¬(!items.isEmpty && Builtin.List.listTooLong (items.size + items2.size)) = true) (h1 : items.size <= sizeLine) (h2 : items.size + items2.size <= sizeLine + 1) :
    Meets (Builtin.«list.extend» ⟨[.ref l, .ref b], []⟩) (fun _ R s => s.heap.get? l = some { cls := .type "list", dict := none, data := .seq items n, slots := #[] } ∧
      s.heap.get? b = some { cls := .type "tuple", dict := dd2, data := .seq items2 n2, slots := sl2 } /\ R (.ok (.ret Value.none)) { s with heap := s.heap.update l (Obj.mapSeq fun x => x ++ items2), toks := s.toks }) :=
  .of_wp fun prog w A R s h => by
    obtain ⟨hp, g, d, tk, os⟩ := s
    obtain ⟨hl, hb, h⟩ := h
    have f1 := AutoSeq1.idx_int
    have f2 := AutoSeq1.sub_tuple_tuple
    have f3 := AutoSeq1.sub_list_list
    have f4 := AutoSeq1.sub_tuple_list
    have f5 := AutoSeq1.sub_list_tuple
    have hz' : (items ++ items2).size <= sizeLine + 1 := by rw [Array.size_append]; exact h2
    wp_walk using (wpAny_updateSeq hl rfl (hz := h1) (_hz' := hz')), wpAny_loadPart' hl, wpAny_loadPart' hb
    exact ⟨_, rfl, h⟩
def y2q (K : PySem.W.Frag) : V -> List V -> Hp -> VK -> Prop := fun x vs H Q => ∃ l b xs zs, x = .ref l /\ vs = [.ref b] /\ H l = some (.lst xs) /\ SqT K H b zs /\ xs.length + zs.length <= sizeLine /\ Q .non (upd H l (.lst (xs ++ zs)))
theorem t7q : MtM X "list.extend" (y2q X.K) := by
  intro pins s σ H x vs v us Q I rx rv h
  obtain ⟨l, b, xs, zs, rfl, rfl, hH, hB, hz, q⟩ := h
  cases rx
  obtain ⟨u, rfl, ru⟩ := rv.one
  cases ru
  obtain ⟨z, its, n, r, hl, e⟩ := I.lstM hH
  obtain ⟨its2, r2, ⟨⟨c2, dd2, da2, sl2⟩, e2, hc2, n2, hd2⟩, hz2⟩ := I.tuple hB
  simp only at hc2 hd2
  subst hc2 hd2
  have hl2 := r2.length
  have hsz : its.toArray.size + its2.toArray.size <= sizeLine := by rw [List.size_toArray, List.size_toArray]; omega
  have hlong : ¬ (!its.toArray.isEmpty && Builtin.List.listTooLong (its.toArray.size + its2.toArray.size)) = true := by
    rw [kYq hsz, Bool.and_false]
    exact Bool.false_ne_true
  refine call_meets F.slot_list_extend ⟨_, e, rfl⟩ F.entry_list_extend (F.args_list_extend_2 _ _) (r8q l b its.toArray its2.toArray n n2 dd2 sl2 hlong (by rw [List.size_toArray]; omega) (by omega)) ⟨e, e2, ?_⟩
  refine ⟨.non, _, I.lset (its' := its ++ its2) hH e (by simp) (r.append r2) ?_, rfl, q⟩
  rw [List.length_append]
  omega
end
section
variable {X : Cx} {scope : Scope} {N' : List Str} {nt : Nat} {cap : List Nat} {elt iter tg : Expr} {pos : Pos} {wi : TI} {g : TG} {te : TE}
theorem n5q {ct : Expr} {tc : TT} (hc : X.calm = true) (c : CompOk X scope N' nt cap) (hi : PI X tg iter wi) (hg : ∀ C ex s H, PG (aFq X scope N' C ex s H) tg g) (ht : ∀ C ex s H, PT (aFq X scope N' C ex s H) ct tc) (he : ∀ C ex s H, PE (aFq X scope N' C ex s H) elt te)
    (hs : ∀ x, foldedSetIterable iter X.env x = pure x := by intro _; rfl) : PE X (.ListComp elt [⟨tg, iter, [ct], 0⟩] scope pos) (gAq wi g tc te nt cap) := by
  intro pins s σ H Q I h
  rw [eval_ListComp]
  refine wpAny_comprehension_free (use := none) rfl hs (i8q (c.has I.ok)) c.kind c.locs (thn (hi pins s σ H _ I h) fun v s1 h1 => thn h1 fun itv s2 h2 => ?_)
  obtain ⟨it, fp, tn, J, H2, rfl, I2, T, st2, f2, R⟩ := h2
  have hD : H2 s2.heap.objs.size = none := I2.hok.fresh (Nat.le_refl _)
  obtain ⟨W, ⟨m0, w0⟩, turn⟩ := R _ hD
  have I3 : Inv X pins σ (upd H2 s2.heap.objs.size (.lst [])) { s2 with heap := s2.heap.push { cls := .type "list", dict := none, data := .seq ([] : List Value).toArray } } :=
    I2.laid (t' := s2.toks) (fun b u e => Heap.get?_push_of_some _ e) (Nat.le_refl _) ⟨Nat.zero_le _, [], 0, .nil, Heap.get?_push_size _ rfl⟩
  have fpLt : ∀ b ∈ fp, b < s2.heap.objs.size := fun b hb => by
    obtain ⟨o, e, _⟩ := T.obj _ _ st2 b hb
    exact Heap.lt_size e
  have f3 : ∀ b ∈ fp, iHq X pins (upd H2 s2.heap.objs.size (.lst [])) b := fun b hb => ⟨by rw [aDq (Nat.ne_of_lt (fpLt b hb))]; exact (f2 b hb).1, (f2 b hb).2⟩
  have st3 : tn 0 (s2.heap.push { cls := .type "list", dict := none, data := .seq ([] : List Value).toArray }) := T.keep _ _ _ st2 fun b _ o e => Heap.get?_push_of_some _ e
  generalize hh3 : s2.heap.push { cls := .type "list", dict := none, data := .seq ([] : List Value).toArray } = h3 at I3 st3
  have sz3 : s2.heap.objs.size < h3.objs.size := by rw [<- hh3, Heap.size_push]; exact Nat.lt_succ_self _
  generalize hDD : s2.heap.objs.size = D at I3 f3 hD w0 turn sz3 fpLt
  refine wpAny_newObj_type ?_
  rw [hDD, hh3]
  refine wpAny_newFunctionEnv c.nocell (by intro y hy; simp at hy) (fun h4 hns4 hsb4 => ?_) c.kind
  dsimp only at hns4 hsb4 ⊢
  have keep4 : ∀ b o, h3.get? b = some o -> h4.get? b = some o := fun b o e => (hsb4.2 b (Nat.ne_of_lt (Heap.lt_size e))).trans (Heap.get?_push_of_some _ e)
  have I4 := I3.comp (t' := s2.toks + ([] : List (Str × Value)).length) c f3 (fun b hb => Nat.lt_trans (fpLt b hb) sz3) keep4 hns4
  have st4 : tn 0 h4 := T.keep _ _ _ st3 fun b _ o e => keep4 b o e
  dsimp only at I4
  have fin : ∀ {σ' : St} {H' : Hp} {s' : Shared}, Inv (aFq X scope N' h3.objs.size fp { s2 with heap := h3 } (upd H2 D (.lst []))) [] σ' H' s' -> Q (.ref D) H' →
      compPost (model X.prog X.w) X.A X.xe none (EP X pins σ Q) (.ref D) h3.objs.size (.ok .next) s' := fun {σ' H' s'} J' q => by
    obtain ⟨m, hn, hh⟩ := I3.uncomp rfl f3 J'
    exact ⟨m, hn, fun h' hs' => ⟨.ref D, H', hh h' hs', rfl, q⟩⟩
  have stat : ∀ {H' : Hp}, (∀ b ∈ fp, H' b = none) -> ∀ b ∈ fp, iHq (aFq X scope N' h3.objs.size fp { s2 with heap := h3 } (upd H2 D (.lst []))) [] H' b := fun {H'} hn b hb => by
    refine ⟨hn b hb, Nat.ne_of_lt (Nat.lt_trans (fpLt b hb) sz3), fun z => ?_, .inl hb, fun x a e => (f3 b hb).2.2.2.2.1 x a (c.cells I.ok e), fun p hp => absurd (show p ∈ ([] : List (Addr × Obj)) from hp) (by simp)⟩
    rcases List.mem_cons.mp (I.stkSub b z) with y | y
    . exact (f3 b hb).2.1 y
    . exact (f3 b hb).2.2.1 y
  have loop : codeAny (model X.prog X.w) X.A (.compLoop (.ListComp elt [⟨tg, iter, [ct], 0⟩] scope pos) 0 (.ref it) (.ref D) (compEnvC scope (cHq X.env.cells scope.names []) h3.objs.size X.env))
      (compPost (model X.prog X.w) X.A X.xe none (EP X pins σ Q) (.ref D) h3.objs.size) { s2 with heap := h4, toks := s2.toks + ([] : List (Str × Value)).length } := by
    refine codeAny_loop rfl (fun n s' => ∃ i ys σ' H', Inv (aFq X scope N' h3.objs.size fp { s2 with heap := h3 } (upd H2 D (.lst []))) [] σ' H' s' /\ tn i s'.heap /\ (∀ b ∈ fp, H' b = none) /\ W i n ys σ' H') (fun n s5 hI => ?_) m0 ⟨0, [], _, _, I4, st4, fun b hb => (f3 b hb).1, w0⟩
    obtain ⟨i, ys, σ5, H5, I5, st5, fr5, w5⟩ := hI
    show wpAny _ X.A ((compTurn (.ListComp elt [⟨tg, iter, [ct], 0⟩] scope pos) 0 (.ref it) (.ref D) (compEnvC scope (cHq X.env.cells scope.names []) h3.objs.size X.env)).onRaise (fun x => do noteFrame x (compEnvC scope (cHq X.env.cells scope.names []) h3.objs.size X.env); theTreesLotGoes x)) _ _ s5
    refine wpAny_noted ?_
    rw [fNq]
    rcases turn i n ys σ5 H5 w5 with ⟨stop, qn⟩ | ⟨go, step⟩
    . refine wpAny_bind (wpAny_standAt (wpAny_bind (wpAny_mono (T.done (aFq X scope N' h3.objs.size fp { s2 with heap := h3 } (upd H2 D (.lst []))) rfl rfl rfl hc i [] s5 σ5 H5 (fun _ _ => False) I5 (stat fr5) st5 stop) (fun r s6 ⟨hr, I6⟩ => ?_) fun _ _ z => z.elim)))
      subst hr
      exact wpAny_pure (fin I6 qn)
    . refine wpAny_bind (wpAny_standAt (wpAny_bind (wpAny_mono (T.item (aFq X scope N' h3.objs.size fp { s2 with heap := h3 } (upd H2 D (.lst []))) rfl rfl rfl hc i [] s5 σ5 H5 (fun _ _ => False) I5 (stat fr5) st5 go) (fun r s6 ⟨u, hr, h6⟩ => ?_) fun _ _ z => z.elim)))
      subst hr
      refine wpAny_bind (wpAny_mono h6 (fun _ s7 ⟨x, H7, I7, r7, y7, st7, fr7⟩ => ?_) fun _ _ z => z.elim)
      have I7' := I7.pinned (stat fr7) (T.obj _ _ st7)
      refine wpAny_bind (wpAny_mono (hg _ _ _ _ _ s7 σ5 H7 x u _ I7' r7 (step x H7 y7)) (fun _ s8 ⟨σ8, H8, I8, q8⟩ => ?_) fun _ _ z => z.elim)
      refine wpAny_bind (wpAny_mono (ht _ _ _ _ _ s8 σ8 H8 _ I8 q8) (fun bb s9 ⟨H9, I9, q9⟩ => ?_) fun _ _ z => z.elim)
      cases bb with
      | true =>
        rw [if_pos rfl]
        rw [if_pos rfl] at q9
        refine wpAny_bind (wpAny_bind (wpAny_mono (he _ _ _ _ _ s9 σ8 H9 _ I9 q9) (fun yv sA ⟨y, HA, IA, rA, eA, zA, m', hm', wA⟩ => ?_) fun _ _ z => z.elim))
        refine wpAny_bind (wpAny_mono (dGq (X := aFq X scope N' h3.objs.size fp { s2 with heap := h3 } (upd H2 D (.lst []))) _ sA σ8 HA (.ref D) [y] (.ref D) [yv] (fun v H10 => v = .non /\ H10 = upd HA D (.lst (ys ++ [y]))) IA rfl (.cons rA .nil) ⟨D, ys, y, rfl, rfl, eA, zA, rfl, rfl⟩)
          (fun _ s10 ⟨v10, H10, I10, _, _, e10⟩ => ?_) fun _ _ z => z.elim)
        subst e10
        refine wpAny_pure (wpAny_pure ⟨rfl, m', hm', i + 1, ys ++ [y], σ8, _, I10.unpinned, ?_, fun b hb => ?_, wA⟩)
        . exact T.keep _ _ _ st7 fun b hb o e => (I10.pin (b, o) (List.mem_append_right _ (List.mem_append_right _ (b3q hb e)))).1
        . obtain ⟨o, e, d⟩ := T.obj _ _ st7 b hb
          exact (I10.pin (b, o) (List.mem_append_right _ (List.mem_append_right _ (b3q hb e)))).2.1
      | false =>
        rw [if_neg Bool.false_ne_true]
        rw [if_neg Bool.false_ne_true] at q9
        obtain ⟨m', hm', w9⟩ := q9
        refine wpAny_pure ⟨rfl, m', hm', i + 1, ys, σ8, _, I9.unpinned, ?_, fun b hb => ?_, w9⟩
        . exact T.keep _ _ _ st7 fun b hb o e => (I9.pin (b, o) (List.mem_append_right _ (List.mem_append_right _ (b3q hb e)))).1
        . obtain ⟨o, e, d⟩ := T.obj _ _ st7 b hb
          exact (I9.pin (b, o) (List.mem_append_right _ (List.mem_append_right _ (b3q hb e)))).2.1
  exact codeAny_compStart_list loop (T.self _ 0 _ _ _ st4 loop)
end
def b6q : Expr -> Bool
  | .Starred .. => false
  | _ => true
theorem aHq {e : Expr} {es : List Expr} {env : Env} (h : b6q e = true) : starEach (e :: es) env = (false, eval e env) :: starEach es env := by
  cases e <;> first | rfl | cases h
section
variable {κ : Type} [DecidableEq κ]
theorem RelO.isSome_eq {o : Option V} {u : Option Value} (r : RelO o u) : o.isSome = u.isSome := by
  cases o with
  | none => cases u with
    | none => rfl
    | some _ => exact (show False from r).elim
  | some _ => cases u with
    | none => exact (show False from r).elim
    | some _ => rfl
theorem RelO.getD {o : Option V} {u : Option Value} {d : V} {d' : Value} (r : RelO o u) (rd : RelV d d') : RelV (o.getD d) (u.getD d') := by
  cases o with
  | none => cases u with
    | none => exact rd
    | some _ => exact (show False from r).elim
  | some _ => cases u with
    | none => exact (show False from r).elim
    | some _ => exact r
end
section
variable {P : Program} {w : World} {H : Hp} {h : Heap} {a : Addr}
end
section
variable {X : Cx} {pins : List (Addr × Obj)} {σ : St} {H : Hp} {s : Shared} {a : Addr} {y v : V} {u r : Value} {o : Option V} {A : Around} {E : Value -> Shared -> Prop}
end
section
variable {X : Cx} {pins : List (Addr × Obj)} {σ : St} {H : Hp} {s : Shared} {a : Addr} {kvs : List (Key × V)} {k : Key} {u : Value} {A : Around} {E : Value -> Shared -> Prop}
end
def y6q (i : Expr) : Prop := ∀ ov iv, subscripted i false ov iv = operate [ov, iv] (getItem ov iv)
theorem s0q {prog : Program} {w : World} {A : Around} {E : Value -> Shared -> Prop} {s : Shared} {env : Env} {value slice : Expr} {pos : Pos} {T id : String} {Q : Value -> Shared -> Prop}
    (hl : typeLookup (.type T) "__getitem__" = pure (some (.builtin id))) (hs : y6q slice)
    (h : wpAny (model prog w) A (eval value env) (fun o s₁ => wpAny (model prog w) A (eval slice env) (fun i s₂ => s₂.TypeIs o T /\ wpAny (model prog w) A (getItem o i) Q E s₂) E s₁) E s) :
    wpAny (model prog w) A (eval (.Subscript value slice pos) env) Q E s := by
  refine Subscript_ (wpAny_mono h (fun o s₁ h₁ => wpAny_mono h₁ (fun i s₂ h₂ => ?_) fun _ _ x => x) fun _ _ x => x)
  obtain ⟨hT, h₂⟩ := h₂
  unfold subscriptTail
  refine wpAny_bind ?_
  rw [getitemInPython_of_ne hT.not_modules]
  refine wpAny_bind (wpAny_specialOf hT hl ?_)
  have fin : wpAny (model prog w) A (subscripted slice false o i) (fun r s₃ => wpAny (model prog w) A (letTemporaryGo value o r >>= fun _ => pure r) Q E s₃) E s₂ := by
    rw [hs o i]
    exact wpAny_operating (wpAny_mono h₂ (fun r s₃ h₃ => wpAny_bind (wpAny_letTemporaryGo (wpAny_pure h₃))) fun _ _ x => x)
  first
    | exact wpAny_pure (wpAny_bind fin)
    | exact wpAny_bind (wpAny_pure (wpAny_bind fin))
    | exact wpAny_bind fin
section
variable {X : Cx} {o i e value : Expr} {pos pos' tpos : Pos} {td ty tv : TE}
end
section
variable {X : Cx} {pos : Pos}
end
structure M2 (X : Cx) (o : Expr) (m : Str) (apos : Pos) (e f : Expr) (cpos : Pos) : Prop where
  base : attributeBase o m X.env (eval o X.env) = eval o X.env
  few : ((backTo cpos (starEach [e, f] X.env)).all (fun x => !x.1) && (backToKw cpos (keywordEach [] X.env)).all (fun x => x.1.isSome)
    && decide (([e, f] : List Expr).length + ([] : List Keyword).length + (if ([] : List Keyword).isEmpty then 0 else 1) < 30)) = true
  line : (apos.endLine == cpos.line) = true
  trees : backTo cpos (starEach [e, f] X.env) = [(false, eval e X.env), (false, eval f X.env)]
section
variable {X : Cx} {pins : List (Addr × Obj)} {σ : St} {H : Hp} {s : Shared} {a : Addr} {y d : V} {u r : Value} {o : Option V} {A : Around} {E : Value -> Shared -> Prop}
end
section
variable {X : Cx} {o e f : Expr} {apos cpos : Pos} {td ty tx : TE}
end
section
variable {X : Cx} {pins : List (Addr × Obj)} {σ : St} {H : Hp} {s : Shared} {a : Addr} {kvs : List (Key × V)} {A : Around} {E : Value -> Shared -> Prop}
end
section
variable {X : Cx} {pins : List (Addr × Obj)} {σ : St} {H : Hp} {s : Shared} {a : Addr} {y : V} {u : Value} {A : Around} {E : Value -> Shared -> Prop}
end
section
variable {κ : Type} [DecidableEq κ]
end
section
variable {prog : Program} {w : World} {A : Around} {E : Value -> Shared -> Prop} {s : Shared}
theorem eHq {t sl : Addr} {items : Array Value} {vl vu : Value} {lo hi : Option Int} {Q : Value -> Shared -> Prop} (ht : IsTup s.heap t items) (hs : s.heap.IsSliceOf sl vl vu .none) (pl : IsPart vl lo) (pu : IsPart vu hi)
    (hw : HT.sIx items.size 0 lo = 0 /\ HT.sIx items.size items.size hi = items.size) (h : Q (.ref t) s) : wpAny (model prog w) A (getItem (.ref t) (.ref sl)) Q E s := by
  obtain ⟨os, hos, hcs, hds⟩ := id hs
  have hTs : s.TypeIs (.ref sl) "slice" := ⟨os, hos, hcs⟩
  unfold getItem
  try with_reducible refine wpAny_holding ?_
  first | refine wpAny_bind (wpAny_pure ?_) | skip
  refine wpAny_bind (wpAny_sequenceKey ht.typeIs (by decide) ?_)
  refine wpAny_bind (wpAny_callSpecial?_slot (name := Str.ofString "__getitem__") ht.typeIs PyProof.Rows.slot_tuple_getitem (wpAny_call_entry PyProof.Rows.slot_tuple_getitem ht.typeIs entry_tuple_getitem ?_ (args_tuple_getitem _ _)))
  show wpAny _ _ (Builtin.Tuple.tupleItemsOf (.ref t) >>= _) _ _ s
  refine wpAny_bind (tupleItemsOf_ ht ?_)
  refine wpAny_bind (wpAny_typeOf hTs ?_)
  rw [if_pos (by decide)]
  refine wpAny_bind (HT.sliceApplied_gen hs pl pu ?_)
  have hyes : (((HT.sIx items.size 0 lo : Nat) : Int) == 0 && (1 : Int) == 1 && (HT.sIx items.size items.size hi - HT.sIx items.size 0 lo) == items.size) = true := by
    rw [hw.1, hw.2]; simp
  show wpAny _ _ (if (((HT.sIx items.size 0 lo : Nat) : Int) == 0 && (1 : Int) == 1 && (HT.sIx items.size items.size hi - HT.sIx items.size 0 lo) == items.size) = true then _ else _) _ _ s
  rw [if_pos hyes]
  have ex : ∀ {Q' : Bool -> Shared -> Prop}, Q' true s -> wpAny (model prog w) A.in1 (Builtin.Tuple.tupleIsExact (.ref t)) Q' E s := fun {Q'} q => by
    unfold Builtin.Tuple.tupleIsExact
    refine wpAny_bind (wpAny_typeOf ht.typeIs (wpAny_pure ?_))
    have e : (Value.type "tuple" == Value.type "tuple") = true := beq_self_eq_true _
    rw [e]; exact q
  first
    | exact wpAny_bind (ex (wpAny_bind (wpAny_rule (wpAny_pure ⟨_, rfl, wpAny_pure h⟩))))
    | (unfold Builtin.Tuple.tupleIsExact
       refine wpAny_bind (wpAny_bind (wpAny_typeOf ht.typeIs (wpAny_pure ?_)))
       have e : (Value.type "tuple" == Value.type "tuple") = true := beq_self_eq_true _
       rw [e, if_pos rfl]
       first
         | exact wpAny_bind (wpAny_rule (wpAny_pure ⟨_, rfl, wpAny_pure h⟩))
         | exact wpAny_bind (wpAny_rule (wpAny_bind (wpAny_pure (wpAny_pure ⟨_, rfl, wpAny_pure h⟩))))
         | exact wpAny_bind (wpAny_rule (wpAny_bind (wpAny_bind (wpAny_pure (wpAny_pure ⟨_, rfl, wpAny_pure h⟩))))))
end
section
variable {X : Cx}
def yEq (K : PySem.W.Frag) : V -> Option Int -> Option Int -> Hp -> VK -> Prop := fun x lo hi H Q => ∃ a xs, x = .ref a /\ SqT K H a xs ∧
  ((HT.sIx xs.length 0 lo = 0 /\ HT.sIx xs.length xs.length hi = xs.length) -> Q (.ref a) H) /\ (¬ (HT.sIx xs.length 0 lo = 0 /\ HT.sIx xs.length xs.length hi = xs.length) -> ∀ p, H p = none -> Q (.ref p) (upd H p (.tup (lUq xs lo hi))))
theorem rPq : SlR X (yEq X.K) := by
  intro pins s σ H x v vl vu lo hi sl Q I rx hs pl pu h
  obtain ⟨a, xs, rfl, hx, q1, q2⟩ := h
  by_cases hw : HT.sIx xs.length 0 lo = 0 /\ HT.sIx xs.length xs.length hi = xs.length
  . cases rx
    obtain ⟨its, r, ht, hz⟩ := I.tuple hx
    have hlen : its.toArray.size = xs.length := by rw [List.size_toArray]; exact r.length.symm
    refine ⟨"tuple", _, PyProof.Rows.slot_tuple_getitem.lookup, ht.typeIs, ?_⟩
    exact eHq ht hs pl pu (by rw [hlen]; exact hw) ⟨.ref a, H, I, rfl, q1 hw⟩
  . exact uCq pins s σ H _ v vl vu lo hi sl Q I rx hs pl pu ⟨a, xs, rfl, hx, hw, q2 hw⟩
def x2q (K : PySem.W.Frag) : R2 := fun x y H Q => ∃ a b xs ys, x = .ref a /\ y = .ref b /\ SqT K H a xs /\ SqT K H b ys /\ xs.length + ys.length <= sizeLine ∧
  (xs = [] -> Q (.ref b) H) /\ (xs ≠ [] -> ys = [] -> Q (.ref a) H) /\ (xs ≠ [] -> ys ≠ [] -> ∀ p, H p = none -> Q (.ref p) (upd H p (.tup (xs ++ ys))))
theorem op_catW : OpR X (binaryOp .Add) (x2q X.K) := by
  intro pins s σ H x y v u Q I rx ry h
  obtain ⟨a, b, xs, ys, rfl, rfl, ha, hb, hz, q0, q1, q2⟩ := h
  by_cases hx : xs = []
  . cases rx; cases ry
    obtain ⟨its, r, ht, _⟩ := I.tuple ha
    obtain ⟨its2, r2, ht2, _⟩ := I.tuple hb
    subst hx
    cases r
    obtain ⟨⟨cls, dd, data, sl⟩, ho, hc, n, hd⟩ := id ht
    obtain ⟨⟨cls2, dd2, data2, sl2⟩, ho2, hc2, n2, hd2⟩ := id ht2
    simp only at hc hd hc2 hd2
    subst hc hd hc2 hd2
    refine concat_meets ⟨_, ho, rfl⟩ ⟨_, ho2, rfl⟩ noFill_tuple_add seq_tuple_add PySem.F.slot_tuple_add PySem.F.entry_tuple_add (PySem.F.args_tuple_add_2 _ _) (tuple_addW0 a b _ its2.toArray n n2 dd dd2 sl sl2 (by simp)) ⟨ho, ho2, ?_⟩
    exact ⟨.ref b, H, I, rfl, q0 rfl⟩
  . exact sYq pins s σ H _ _ v u Q I rx ry ⟨a, b, xs, ys, rfl, rfl, ha, hb, hx, hz, q1 hx, q2 hx⟩
structure KTab (K : PySem.W.Frag) (w : World) (ad : Addr) (tab : Str -> Option V) : Prop where
  ex : ∃ (es : Array DictEntry) (n : Nat), K.lookup ad = some ⟨.type "dict", none, .dict es n, #[]⟩ /\ PySem.W.KeysLit w.params es.toList /\ ∀ x, RelO (tab x) (findBy Value.isStrOf es x)
  low : (ad == sysModules) = false
end
section
variable {X : Cx}
def x4q (K : PySem.W.Frag) : V -> Option Int -> Option Int -> Hp -> VK -> Prop := fun x lo hi H Q => ∃ a xs, x = .ref a /\ SqT K H a xs /\ ∀ t H2, Same H H2 -> SqT K H2 t (lUq xs lo hi) -> Q (.ref t) H2
theorem oRq {xs : List V} {lo hi : Option Int} (h : HT.sIx xs.length 0 lo = 0 /\ HT.sIx xs.length xs.length hi = xs.length) : lUq xs lo hi = xs := by
  unfold lUq
  rw [h.1, h.2, List.drop_zero, Nat.sub_zero, List.take_length]
theorem sl_tupU : SlR X (x4q X.K) := by
  intro pins s σ H x v vl vu lo hi sl Q I rx hs pl pu h
  obtain ⟨a, xs, rfl, hx, q⟩ := h
  refine rPq pins s σ H _ v vl vu lo hi sl Q I rx hs pl pu ⟨a, xs, rfl, hx, fun w => q a H (Same.refl _) (by rw [oRq w]; exact hx), fun _ p hp => q p _ (fun b u e => by rw [aDq (aTq e hp)]; exact e) (SqT.of aQq)⟩
end
structure JE (X : Cx) (e : Expr) (t : TE) : Prop where
  run : PE X e t
structure JT (X : Cx) (e : Expr) (t : TT) : Prop where
  run : PT X e t
structure JW (X : Cx) (e : Expr) (t : TT) : Prop where
  run : PW X e t
structure JA (X : Cx) (es : List Expr) (t : TA) : Prop where
  run : PA X es t
structure JS (X : Cx) (st : Stmt) (t : TS) : Prop where
  run : PS X st t
structure JB (X : Cx) (st : List Stmt) (t : TS) : Prop where
  run : PSs X st t
structure JG (X : Cx) (e : Expr) (t : TG) : Prop where
  run : PG X e t
structure JGs (X : Cx) (es : List Expr) (t : TGs) : Prop where
  run : PGs X es t
structure JI (X : Cx) (tg iter : Expr) (wi : TI) : Prop where
  run : PI X tg iter wi
structure JO (X : Cx) (e : Option Expr) (t : TO) : Prop where
  run : PO X e t
structure JOp (X : Cx) (f : Value -> Value -> Sem Value) (r : R2) : Prop where
  run : OpR X f r
structure JUn (X : Cx) (f : Value -> Sem Value) (r : V -> Hp -> VK -> Prop) : Prop where
  run : UnR X f r
structure JCall (X : Cx) (f : Value) (r : List V -> Hp -> VK -> Prop) : Prop where
  run : CallR X f r
structure JIx (X : Cx) (r : R2) : Prop where
  run : IxR X r
structure JSl (X : Cx) (r : V -> Option Int -> Option Int -> Hp -> VK -> Prop) : Prop where
  run : SlR X r
structure JMt (X : Cx) (id : String) (r : V -> List V -> Hp -> VK -> Prop) : Prop where
  run : MtR X id r
structure JSet (X : Cx) (t : tNq) : Prop where
  run : xWq X t
section
variable {X : Cx} {a b c e o i : Expr} {es : List Expr} {ta tb te to ti : TE} {t tr : TA} {pos p apos cpos : Pos}
theorem w6q {n : Int} {j} : JE X (.Constant (.int n) j pos) (tC (.int n)) := ⟨vOq⟩
theorem yKq {n : Bool} {j} : JE X (.Constant (.bool n) j pos) (tC (.bl n)) := ⟨yQq⟩
theorem uYq {j} : JE X (.Constant .none j pos) (tC .non) := ⟨v0q⟩
theorem uTq {x : Str} {j} : JE X (.Constant (.str x) j pos) (tC (.str x)) := ⟨tWq⟩
theorem jv (k : Nat) {x : Str} (hN : X.N[k]? = some x := by rfl) (hv : Vis X.env.scope x := by first | exact Or.inl rfl | exact Or.inr (Or.inl rfl) | exact Or.inr (Or.inr rfl)) (hd : (x == ("__debug__" : Str)) = false := by decide)
    (hcd : (x == ("__classdict__" : Str)) = false := by decide) : JE X (.Name x pos) (z9q k) := ⟨qJq hN hv hd hcd⟩
theorem rBq {x : Str} {v : V} {u : Value} (hg : Gl X x) (hm : X.mg x = none) (hv : bootBuiltins x = some u) (r : RelV v u) (hn : x ≠ "__name__" := by decide) (hd : (x == ("__debug__" : Str)) = false := by decide) : JE X (.Name x pos) (tC v) := ⟨rGq hg hm hv r hn hd⟩
theorem t5q {x : Str} {v : V} {u : Value} (hg : Gl X x) (hm : X.mg x = some u) (r : RelV v u) (hd : (x == ("__debug__" : Str)) = false := by decide) : JE X (.Name x pos) (tC v) := ⟨jWq hg hm r hd⟩
theorem uHq : JA X [] xCq := ⟨uIq⟩
theorem rXq (ha : JE X e te) (hr : JA X es t) (hs : b6q e = true := by rfl) : JA X (e :: es) (w0q te t) := ⟨sNq ha.run hr.run (aHq hs)⟩
theorem uRq {x1} (h : JA X es t) : JE X (.Tuple es x1 pos) (z2q t) := ⟨uOq h.run⟩
theorem qQq (h : JA X es t) : JE X (.List es pos) (z6q t) := ⟨wDq h.run⟩
theorem yJq {op : Operator} {r : R2} (ho : JOp X (binaryOp op) r) (ha : JE X a ta) (hb : JE X b tb) : JE X (.BinOp a op b pos) (tOp r ta tb) := ⟨y4q ho.run ha.run hb.run⟩
theorem xFq {op : UnaryOp} {r : V -> Hp -> VK -> Prop} (ho : JUn X (unaryOp op) r) (ha : JE X a ta) : JE X (.UnaryOp op a pos) (tUn r ta) := ⟨yVq ho.run ha.run⟩
theorem u4q (ha : JE X a ta) : JE X (.UnaryOp .Not a pos) (uKq ta) := ⟨uGq ha.run⟩
theorem sPq {op : CmpOp} {r : R2} (ho : JOp X (compareOp op) r) (ha : JE X a ta) (hb : JE X b tb) (hm : behindInMarks op b = false) : JE X (.Compare a [op] [b] pos) (tOp r ta tb) := ⟨sWq ho.run ha.run hb.run hm⟩
theorem uMq {op} (h : JE X a ta) : JE X (.BoolOp op [a] pos) ta := ⟨u6q h.run⟩
theorem uEq {rest : List Expr} (ha : JE X a ta) (hb : JE X (.BoolOp .And (b :: rest) pos) tb) : JE X (.BoolOp .And (a :: b :: rest) pos) (tRq ta tb) := ⟨tIq ha.run hb.run⟩
theorem p6q {tc : TT} (hc : JT X c tc) (ha : JE X a ta) (hb : JE X b tb) : JE X (.IfExp c a b pos) (tIf tc ta tb) := ⟨p5q hc.run ha.run hb.run⟩
theorem sGq : JO X none mFq := ⟨sSq⟩
theorem sJq (h : JE X e te) : JO X (some e) (tVq te) := ⟨rKq h.run⟩
theorem oYq {r : V -> Option Int -> Option Int -> Hp -> VK -> Prop} {lo hi : Option Expr} {tl th : TO} {p2 : Pos} (hr : JSl X r) (he : JE X e te) (hl : JO X lo tl) (hu : JO X hi th) : JE X (.Subscript e (.Slice lo hi none p2) pos) (tSl r te tl th) := ⟨p8q hr.run he.run hl.run hu.run⟩
theorem v6q {r : R2} (hr : JIx X r) (ha : JE X a ta) (hb : JE X b tb) (hs : iKq b) : JE X (.Subscript a b pos) (tOp r ta tb) := ⟨yNq hr.run ha.run hb.run hs⟩
theorem bPq {es : List Expr} {env : Env} (h : es.all b6q = true) : (backTo pos (starEach es env)).any (·.1) = false := by
  induction es with
  | nil => rfl
  | cons x r ih =>
    rw [List.all_cons, Bool.and_eq_true] at h
    rw [aHq h.1]
    exact ih h.2
theorem x3q {k j : Nat} {x : Str} {ps : List Str} {sp : Sp} (G : Got X.prog X.w X.K X.mg X.base k x ps sp) (hr : Room j X.A) (hk : k <= j) (hg : Gl X x) (ha : JA X (e :: es) t) (hdb : (x == ("__debug__" : Str)) = false := by decide)
    (hs : (e :: es).all b6q = true := by rfl) : JE X (.Call (.Name x p) (e :: es) [] pos) (rLq sp [] E0 t) := by
  have h := hs
  rw [List.all_cons, Bool.and_eq_true] at h
  exact ⟨xJq G hr hk hg ha.run hdb (aHq h.1) (bPq h.2)⟩
theorem pIq {x : Str} {id : String} {r : List V -> Hp -> VK -> Prop} (hc : JCall X (.builtin id) r) (hg : Gl X x) (hm : X.mg x = none) (hv : bootBuiltins x = some (.builtin id)) (ha : JA X (e :: es) t) (hn : x ≠ "__name__" := by decide) (hdb : (x == ("__debug__" : Str)) = false := by decide)
    (hs : (e :: es).all b6q = true := by rfl) : JE X (.Call (.Name x p) (e :: es) [] pos) (tCB r t) := by
  have h := hs
  rw [List.all_cons, Bool.and_eq_true] at h
  exact ⟨oWq hc.run hg hm hv ha.run hn hdb (aHq h.1) (bPq h.2)⟩
theorem nIq {x : Str} {T : String} {r : List V -> Hp -> VK -> Prop} (hc : JCall X (.type T) r) (hg : Gl X x) (hm : X.mg x = none) (hv : bootBuiltins x = some (.type T)) (ha : JA X (e :: es) t) (hn : x ≠ "__name__" := by decide) (hdb : (x == ("__debug__" : Str)) = false := by decide)
    (hs : (e :: es).all b6q = true := by rfl) : JE X (.Call (.Name x p) (e :: es) [] pos) (tCB r t) := by
  have h := hs
  rw [List.all_cons, Bool.and_eq_true] at h
  exact ⟨oKq hc.run hg hm hv ha.run hn hdb (aHq h.1) (bPq h.2)⟩
theorem y8q {name : Str} {T id : String} {r : V -> List V -> Hp -> VK -> Prop} (pa : PlainAttrs T) (slot : Slot T name id) (hty : typeOf (.builtin id) = pure (.type "method_descriptor")) (hm : JMt X id r) (ho : JE X o to) (ha : JA X [e] t)
    (hbase : attributeBase o name X.env (eval o X.env) = eval o X.env := by rfl) (hline : (apos.endLine == cpos.line) = true := by rfl) (hs : b6q e = true := by rfl) : JE X (.Call (.Attribute o name apos) [e] [] cpos) (tBM X.K T r to t) :=
  ⟨yLq pa slot hty hm.run ho.run ha.run hbase (by rw [aHq hs]; rfl) hline (aHq hs) rfl⟩
theorem tHq {name : Str} {T id : String} {r : V -> List V -> Hp -> VK -> Prop} (pa : PlainAttrs T) (slot : Slot T name id) (hty : typeOf (.builtin id) = pure (.type "method_descriptor")) (hm : JMt X id r) (ho : JE X o to)
    (hbase : attributeBase o name X.env (eval o X.env) = eval o X.env := by rfl) (hline : (apos.endLine == cpos.line) = true := by rfl) : JE X (.Call (.Attribute o name apos) [] [] cpos) (z3q X.K T r to) := ⟨vFq pa slot hty hm.run ho.run hbase hline⟩
theorem sDq {op : CmpOp} {r : R2} (ho : JOp X (compareOp op) r) (ha : JE X a ta) (hb : JE X b tb) (hm : behindInMarks op b = false) : JT X (.Compare a [op] [b] pos) (vKq (tOp r ta tb)) := ⟨rYq ho.run ha.run hb.run hm⟩
theorem v5q {tc : TT} (ha : JT X a tc) : JT X (.UnaryOp .Not a pos) (yZq tc) := ⟨w2q ha.run⟩
theorem pOq (ha : JE X a ta) (he : ∀ whole, isTrue a X.env whole = (do let v ← whole; standAt a.pos; holding [v] (truthy v))) : JT X a (fun σ H Q => ta σ H fun x H' => ∃ k, xGq X.K x H' k /\ Q k H') := ⟨q4q ha.run he⟩
theorem vSq {tA : TT} (ha : JT X a tA) : JW X (.BoolOp .Or [a] pos) tA := ⟨tXq ha.run⟩
theorem xYq {tA tB' : TT} {rest : List Expr} (ha : JT X a tA) (hb : JW X (.BoolOp .Or (b :: rest) pos) tB') : JW X (.BoolOp .Or (a :: b :: rest) pos) (tOr tA tB') := ⟨y1q ha.run hb.run⟩
theorem JW.pt {tA : TT} (h : JW X e tA) : JT X e tA := ⟨PW.pt h.run⟩
theorem s5q {k : Nat} {x : Str} (hN : X.N.Nodup) (hi : X.N[k]? = some x) (hx : Loc X.env.scope x) (hf : X.fn x = true \/ X.env.scope.names.lookup x = some .local := by first | exact .inl rfl | exact .inr rfl | assumption) : JG X (.Name x pos) (jLq k) := ⟨rHq hN hi hx hf⟩
theorem r3q : JGs X [] z1q := ⟨rVq⟩
theorem pQq {tg : TG} {u : TGs} (h1 : JG X e tg) (h2 : JGs X es u) (hs : (assignEach (e :: es) X.env).map (·.2) = assign e X.env :: (assignEach es X.env).map (·.2) := by rfl) : JGs X (e :: es) (wBq tg u) := ⟨p4q h1.run h2.run hs⟩
theorem v9q {k n : Nat} {tg : TGs} (hc : X.calm = true) (h : JGs X es tg) (hn : (assignEach es X.env).length = n := by rfl) (hst : (assignEach es X.env).findIdx? (·.1) = none := by rfl) : JG X (.Tuple es k pos) (zOq X.K n tg) := ⟨w7q hc h.run hn hst⟩
theorem tZq {tset : tNq} (ho : JE X o to) (hi : JE X i ti) (hs : JSet X tset) (ha : ∀ v, assign (.Subscript o i pos) X.env v = (do
      let ov ← holding [v] (eval o X.env)
      let iv ← holding [v, ov] (eval i X.env)
      standAt pos
      holding [v, ov, iv] (setItem ov iv v)
      release [v, ov, iv] []) := by intro _; rfl) : JG X (.Subscript o i pos) (z4q to ti tset) := ⟨u0q ho.run hi.run hs.run ha⟩
theorem lYq {tg : Expr} (hg : Gl X "range") (hm : X.mg "range" = none) (ha : JA X [a] t) (hs : b6q a = true := by rfl) : JI X tg (.Call (.Name "range" p) [a] [] pos) (wCq t) := ⟨oGq hg hm ha.run (aHq hs)⟩
theorem tQq : JB X [] wKq := ⟨rWq⟩
theorem r7q {st : Stmt} {rest : List Stmt} {ts us : TS} (h1 : JS X st ts) (h2 : JB X rest us) : JB X (st :: rest) (zCq ts us) := ⟨p2q h1.run h2.run⟩
theorem tPq {st : Stmt} {ts : TS} (h1 : JS X st ts) : JB X [st] ts := ⟨sZq h1.run⟩
theorem s2q (he : JE X e te) (hs : swapsWith e none pos.line X.env = pure false := by rfl) : JS X (.Expr e pos) (u3q te) := ⟨rMq he.run hs⟩
theorem vAq (he : JE X e te) : JS X (.Return (some e) pos) (zBq te) := ⟨u7q he.run⟩
theorem yWq {ss us : List Stmt} {tc : TT} {ts tu : TS} (hc : JT X c tc) (ha : JB X ss ts) (hb : JB X us tu) : JS X (.If c ss us pos) (zMq tc ts tu) := ⟨x5q hc.run ha.run hb.run⟩
theorem v8q {k : Nat} {x : Str} {pos' : Pos} (hN : X.N.Nodup) (hi : X.N[k]? = some x) (hx : Loc X.env.scope x) (he : JE X e te) (hs : swapsWith e (some (.Name x pos')) pos.line X.env = pure false := by rfl) (hf : X.fn x = true \/ X.env.scope.names.lookup x = some .local := by first | exact .inl rfl | exact .inr rfl | assumption) :
    JS X (.Assign [.Name x pos'] e pos) (qIq te (jLq k)) := ⟨vVq hN hi hx he.run hs hf⟩
theorem w8q {tg : Expr} {g : TG} (he : JE X e te) (hg : JG X tg g) (hs : swapsWithSole [tg] e pos.line X.env = pure false := by rfl) (hw : swappedStores [tg] e X.env = pure none := by rfl) (h1 : (assignEach [tg] X.env).map (·.2) = [assign tg X.env] := by rfl) : JS X (.Assign [tg] e pos) (qIq te g) := ⟨uJq he.run hg.run hs hw h1⟩
theorem pUq {body : List Stmt} {tc : TT} {tb' : TS} (hp : PassesOwn (model X.prog X.w) X.A X.env X.xe) (hc : JT X c tc) (hb : JB X body tb') : JS X (.While c body [] pos) (qXq tc tb') := ⟨oQq hp hc.run hb.run⟩
theorem wPq {tg iter : Expr} {body : List Stmt} {wi : TI} {g : TG} {tb' : TS} (hp : PassesOwn (model X.prog X.w) X.A X.env X.xe) (hc : X.calm = true) (hi : JI X tg iter wi) (hg : JG X tg g) (hb : JB X body tb') (hs : ∀ x, foldedSetIterable iter X.env x = pure x := by intro _; rfl) :
    JS X (.For tg iter body [] pos) (zDq wi g tb') := ⟨tJq hp hc hi.run hg.run hb.run hs⟩
theorem tBq {scope : Scope} {N' : List Str} {nt : Nat} {cap : List Nat} {elt iter tg : Expr} {wi : TI} {g : TG} (hc : X.calm = true) (ok : CompOk X scope N' nt cap) (hi : JI X tg iter wi) (hg : ∀ C ex s H, JG (aFq X scope N' C ex s H) tg g) (he : ∀ C ex s H, JE (aFq X scope N' C ex s H) elt te)
    (hs : ∀ x, foldedSetIterable iter X.env x = pure x := by intro _; rfl) : JE X (.ListComp elt [⟨tg, iter, [], 0⟩] scope pos) (oIq wi g te nt cap) := ⟨s1q hc ok hi.run (fun C ex s H => (hg C ex s H).run) (fun C ex s H => (he C ex s H).run) hs⟩
theorem oDq {ct : Expr} {tc : TT} {scope : Scope} {N' : List Str} {nt : Nat} {cap : List Nat} {elt iter tg : Expr} {wi : TI} {g : TG} (hc : X.calm = true) (ok : CompOk X scope N' nt cap) (hi : JI X tg iter wi) (hg : ∀ C ex s H, JG (aFq X scope N' C ex s H) tg g)
    (ht : ∀ C ex s H, JT (aFq X scope N' C ex s H) ct tc) (he : ∀ C ex s H, JE (aFq X scope N' C ex s H) elt te) (hs : ∀ x, foldedSetIterable iter X.env x = pure x := by intro _; rfl) : JE X (.ListComp elt [⟨tg, iter, [ct], 0⟩] scope pos) (gAq wi g tc te nt cap) :=
  ⟨n5q hc ok hi.run (fun C ex s H => (hg C ex s H).run) (fun C ex s H => (ht C ex s H).run) (fun C ex s H => (he C ex s H).run) hs⟩
end
theorem Fun.okJ {P : Program} {w : World} {K : PySem.W.Frag} {mg : Str -> Option Value} {base : Heap} {x qual : Str} {st : Stmt} {f : Addr} {fd : FuncData} {N ps : List Str} {k : Nat} {sp : Sp} (F : Fun K x qual st f fd) (S : FnScope N ps (a3q st)) (len : ∀ vs H Q E, sp vs H Q E -> vs.length = ps.length)
    (hbody : ∀ (cdv : Value) (A : Around) (outer : List Env) (s : Shared) (H : Hp) (vs : List V) (Q : VK) (E : XK), Room k (A.deeper (envOfC qual (a3q st) s.heap.objs.size f cdv)) -> sp vs H Q E →
      ∃ t, JB (oXq CX0 P w K mg base N qual (a3q st) f cdv A outer s H E).nox (aGq st) t /\ t { nx := fun _ H' => Q .non H', rt := Q } (eWq N vs) H) : FnOk P w K mg base CX0 (k + 1) f fd ps sp :=
  F.ok S len fun cdv A outer s H vs Q E hr h => let ⟨t, j, q⟩ := hbody cdv A outer s H vs Q E hr h; ⟨t, j.run, q⟩
section
variable {X : Cx} {scope : Scope} {N' : List Str} {nt : Nat} {cap : List Nat} {elt iter tg : Expr} {pos : Pos} {wi : TI} {g : TG} {te : TE}
theorem lDq {y : Str} {py spos : Pos} {k : Nat} (hc : X.calm = true) (hN : X.N.Nodup) (hk : X.N[k]? = some y) (hy : Loc X.env.scope y) (c : CompOk X scope N' nt cap) (hi : PI X tg iter wi) (hg : ∀ C ex s H, PG (aFq X scope N' C ex s H) tg g) (he : ∀ C ex s H, PE (aFq X scope N' C ex s H) elt te)
    (hs : ∀ x, foldedSetIterable iter X.env x = pure x := by intro _; rfl) (hsw : swapsWith (.ListComp elt [⟨tg, iter, [], 0⟩] scope pos) (some (.Name y py)) spos.line X.env = pure true := by rfl) (hf : X.fn y = true \/ X.env.scope.names.lookup y = some .local := by first | exact .inl rfl | exact .inr rfl | assumption) :
    PS X (.Assign [.Name y py] (.ListComp elt [⟨tg, iter, [], 0⟩] scope pos) spos) (qIq (oIq wi g te nt cap) (jLq k)) := by
  intro pins s σ H D0 I h
  rw [exec_Assign_Name_used _ _ _ _ hsw]
  refine wpAny_bind (wpAny_standAt (wpAny_bind ?_))
  show wpAny _ X.A (do let _ ← comprehension (.ListComp elt [⟨tg, iter, [], 0⟩] scope pos) scope X.env _ (newList []) false (eval iter X.env) (some (assign (.Name y py) X.env))) _ _ s
  refine wpAny_bind (wpAny_mono (wpAny_comprehension_free (use := some (assign (.Name y py) X.env)) (Q := fun _ s' => SP X pins D0 .next s') rfl hs (i8q (c.has I.ok)) c.kind c.locs (thn (hi pins s σ H _ I h) fun v s1 h1 => thn h1 fun itv s2 h2 => ?_)) (fun _ s' hq => wpAny_pure (wpAny_pure hq)) fun _ _ e => e)
  obtain ⟨it, fp, tn, J, H2, rfl, I2, T, st2, f2, R⟩ := h2
  have hD : H2 s2.heap.objs.size = none := I2.hok.fresh (Nat.le_refl _)
  obtain ⟨W, ⟨m0, w0⟩, turn⟩ := R _ hD
  have I3 : Inv X pins σ (upd H2 s2.heap.objs.size (.lst [])) { s2 with heap := s2.heap.push { cls := .type "list", dict := none, data := .seq ([] : List Value).toArray } } :=
    I2.laid (t' := s2.toks) (fun b u e => Heap.get?_push_of_some _ e) (Nat.le_refl _) ⟨Nat.zero_le _, [], 0, .nil, Heap.get?_push_size _ rfl⟩
  have fpLt : ∀ b ∈ fp, b < s2.heap.objs.size := fun b hb => by
    obtain ⟨o, e, _⟩ := T.obj _ _ st2 b hb
    exact Heap.lt_size e
  have f3 : ∀ b ∈ fp, iHq X pins (upd H2 s2.heap.objs.size (.lst [])) b := fun b hb => ⟨by rw [aDq (Nat.ne_of_lt (fpLt b hb))]; exact (f2 b hb).1, (f2 b hb).2⟩
  have st3 : tn 0 (s2.heap.push { cls := .type "list", dict := none, data := .seq ([] : List Value).toArray }) := T.keep _ _ _ st2 fun b _ o e => Heap.get?_push_of_some _ e
  generalize hh3 : s2.heap.push { cls := .type "list", dict := none, data := .seq ([] : List Value).toArray } = h3 at I3 st3
  have sz3 : s2.heap.objs.size < h3.objs.size := by rw [<- hh3, Heap.size_push]; exact Nat.lt_succ_self _
  generalize hDD : s2.heap.objs.size = D at I3 f3 hD w0 turn sz3 fpLt
  refine wpAny_newObj_type ?_
  rw [hDD, hh3]
  refine wpAny_newFunctionEnv c.nocell (by intro y hy; simp at hy) (fun h4 hns4 hsb4 => ?_) c.kind
  dsimp only at hns4 hsb4 ⊢
  have keep4 : ∀ b o, h3.get? b = some o -> h4.get? b = some o := fun b o e => (hsb4.2 b (Nat.ne_of_lt (Heap.lt_size e))).trans (Heap.get?_push_of_some _ e)
  have I4 := I3.comp (t' := s2.toks + ([] : List (Str × Value)).length) c f3 (fun b hb => Nat.lt_trans (fpLt b hb) sz3) keep4 hns4
  have st4 : tn 0 h4 := T.keep _ _ _ st3 fun b _ o e => keep4 b o e
  dsimp only at I4
  have fin : ∀ {σ' : St} {H' : Hp} {s' : Shared}, Inv (aFq X scope N' h3.objs.size fp { s2 with heap := h3 } (upd H2 D (.lst []))) [] σ' H' s' -> D0.nx (σ.set k (some (.ref D))) H' →
      compPost (model X.prog X.w) X.A X.xe (some (assign (.Name y py) X.env)) (fun _ s' => SP X pins D0 .next s') (.ref D) h3.objs.size (.ok .next) s' := fun {σ' H' s'} J' q => by
    obtain ⟨m, hn, hh⟩ := I3.uncomp rfl f3 J'
    have IX : Inv X pins σ H' s' := hh s'.heap (Heap.SameBut.refl ..)
    have hCL : h3.objs.size ≠ X.env.locals := Nat.ne_of_gt I3.lt
    have hCc : ∀ x a, X.env.cells.lookup x = some a -> a ≠ h3.objs.size := fun x a e => by
      obtain ⟨v, z⟩ := I3.cell x a e
      exact Nat.ne_of_lt z.lt
    show wpAny _ X.A (assign (.Name y py) X.env (.ref D)) _ _ s'
    refine wpAny_assign_Name (gRq IX hN hk hy (v := .ref D) rfl (fun s'' I'' hch => ?_) hf)
    obtain ⟨a, sb, ha⟩ := hch
    have hCa : h3.objs.size ≠ a := by
      rcases ha with z | z
      . rw [z]; exact hCL
      . exact (hCc _ _ z).symm
    refine ⟨m, hn.sameBut sb hCa, fun h' hs' => ⟨_, H', ?_, q⟩⟩
    exact I''.turned (t' := s''.toks) (fun b o hb e => (hs'.2 b hb).trans e) J'.free hCL (.inr I3.sz) hCc fun p hp z => by
      have e := (I3.pin p hp).1
      rw [z] at e
      exact absurd (Heap.lt_size e) (Nat.lt_irrefl _)
  have stat : ∀ {H' : Hp}, (∀ b ∈ fp, H' b = none) -> ∀ b ∈ fp, iHq (aFq X scope N' h3.objs.size fp { s2 with heap := h3 } (upd H2 D (.lst []))) [] H' b := fun {H'} hn b hb => by
    refine ⟨hn b hb, Nat.ne_of_lt (Nat.lt_trans (fpLt b hb) sz3), fun z => ?_, .inl hb, fun x a e => (f3 b hb).2.2.2.2.1 x a (c.cells I.ok e), fun p hp => absurd (show p ∈ ([] : List (Addr × Obj)) from hp) (by simp)⟩
    rcases List.mem_cons.mp (I.stkSub b z) with y | y
    . exact (f3 b hb).2.1 y
    . exact (f3 b hb).2.2.1 y
  have loop : codeAny (model X.prog X.w) X.A (.compLoop (.ListComp elt [⟨tg, iter, [], 0⟩] scope pos) 0 (.ref it) (.ref D) (compEnvC scope (cHq X.env.cells scope.names []) h3.objs.size X.env))
      (compPost (model X.prog X.w) X.A X.xe (some (assign (.Name y py) X.env)) (fun _ s' => SP X pins D0 .next s') (.ref D) h3.objs.size) { s2 with heap := h4, toks := s2.toks + ([] : List (Str × Value)).length } := by
    refine codeAny_loop rfl (fun n s' => ∃ i ys σ' H', Inv (aFq X scope N' h3.objs.size fp { s2 with heap := h3 } (upd H2 D (.lst []))) [] σ' H' s' /\ tn i s'.heap /\ (∀ b ∈ fp, H' b = none) /\ W i n ys σ' H') (fun n s5 hI => ?_) m0 ⟨0, [], _, _, I4, st4, fun b hb => (f3 b hb).1, w0⟩
    obtain ⟨i, ys, σ5, H5, I5, st5, fr5, w5⟩ := hI
    show wpAny _ X.A ((compTurn (.ListComp elt [⟨tg, iter, [], 0⟩] scope pos) 0 (.ref it) (.ref D) (compEnvC scope (cHq X.env.cells scope.names []) h3.objs.size X.env)).onRaise (fun x => do noteFrame x (compEnvC scope (cHq X.env.cells scope.names []) h3.objs.size X.env); theTreesLotGoes x)) _ _ s5
    refine wpAny_noted ?_
    rw [compTurn_list1]
    rcases turn i n ys σ5 H5 w5 with ⟨stop, qn⟩ | ⟨go, step⟩
    . refine wpAny_bind (wpAny_standAt (wpAny_bind (wpAny_mono (T.done (aFq X scope N' h3.objs.size fp { s2 with heap := h3 } (upd H2 D (.lst []))) rfl rfl rfl hc i [] s5 σ5 H5 (fun _ _ => False) I5 (stat fr5) st5 stop) (fun r s6 ⟨hr, I6⟩ => ?_) fun _ _ z => z.elim)))
      subst hr
      exact wpAny_pure (fin I6 qn)
    . refine wpAny_bind (wpAny_standAt (wpAny_bind (wpAny_mono (T.item (aFq X scope N' h3.objs.size fp { s2 with heap := h3 } (upd H2 D (.lst []))) rfl rfl rfl hc i [] s5 σ5 H5 (fun _ _ => False) I5 (stat fr5) st5 go) (fun r s6 ⟨u, hr, h6⟩ => ?_) fun _ _ z => z.elim)))
      subst hr
      refine wpAny_bind (wpAny_mono h6 (fun _ s7 ⟨x, H7, I7, r7, y7, st7, fr7⟩ => ?_) fun _ _ z => z.elim)
      have I7' := I7.pinned (stat fr7) (T.obj _ _ st7)
      refine wpAny_bind (wpAny_mono (hg _ _ _ _ _ s7 σ5 H7 x u _ I7' r7 (step x H7 y7)) (fun _ s8 ⟨σ8, H8, I8, q8⟩ => ?_) fun _ _ z => z.elim)
      refine wpAny_bind (wpAny_bind (wpAny_mono (he _ _ _ _ _ s8 σ8 H8 _ I8 q8) (fun yv s9 ⟨y, H9, I9, r9, e9, z9, m', hm', w9⟩ => ?_) fun _ _ z => z.elim))
      refine wpAny_bind (wpAny_mono (dGq (X := aFq X scope N' h3.objs.size fp { s2 with heap := h3 } (upd H2 D (.lst []))) _ s9 σ8 H9 (.ref D) [y] (.ref D) [yv] (fun v H10 => v = .non /\ H10 = upd H9 D (.lst (ys ++ [y]))) I9 rfl (.cons r9 .nil) ⟨D, ys, y, rfl, rfl, e9, z9, rfl, rfl⟩)
        (fun _ s10 ⟨v10, H10, I10, _, _, e10⟩ => ?_) fun _ _ z => z.elim)
      subst e10
      refine wpAny_pure (wpAny_pure ⟨rfl, m', hm', i + 1, ys ++ [y], σ8, _, I10.unpinned, ?_, fun b hb => ?_, w9⟩)
      . exact T.keep _ _ _ st7 fun b hb o e => (I10.pin (b, o) (List.mem_append_right _ (List.mem_append_right _ (b3q hb e)))).1
      . obtain ⟨o, e, d⟩ := T.obj _ _ st7 b hb
        exact (I10.pin (b, o) (List.mem_append_right _ (List.mem_append_right _ (b3q hb e)))).2.1
  exact codeAny_compStart_list loop (T.self _ 0 _ _ _ st4 loop)
theorem jJq {ct : Expr} {tc : TT} {y : Str} {py spos : Pos} {k : Nat} (hc : X.calm = true) (hN : X.N.Nodup) (hk : X.N[k]? = some y) (hy : Loc X.env.scope y) (c : CompOk X scope N' nt cap) (hi : PI X tg iter wi) (hg : ∀ C ex s H, PG (aFq X scope N' C ex s H) tg g) (ht : ∀ C ex s H, PT (aFq X scope N' C ex s H) ct tc) (he : ∀ C ex s H, PE (aFq X scope N' C ex s H) elt te)
    (hs : ∀ x, foldedSetIterable iter X.env x = pure x := by intro _; rfl) (hsw : swapsWith (.ListComp elt [⟨tg, iter, [ct], 0⟩] scope pos) (some (.Name y py)) spos.line X.env = pure true := by rfl) (hf : X.fn y = true \/ X.env.scope.names.lookup y = some .local := by first | exact .inl rfl | exact .inr rfl | assumption) :
    PS X (.Assign [.Name y py] (.ListComp elt [⟨tg, iter, [ct], 0⟩] scope pos) spos) (qIq (gAq wi g tc te nt cap) (jLq k)) := by
  intro pins s σ H D0 I h
  rw [exec_Assign_Name_used _ _ _ _ hsw]
  refine wpAny_bind (wpAny_standAt (wpAny_bind ?_))
  show wpAny _ X.A (do let _ ← comprehension (.ListComp elt [⟨tg, iter, [ct], 0⟩] scope pos) scope X.env _ (newList []) false (eval iter X.env) (some (assign (.Name y py) X.env))) _ _ s
  refine wpAny_bind (wpAny_mono (wpAny_comprehension_free (use := some (assign (.Name y py) X.env)) (Q := fun _ s' => SP X pins D0 .next s') rfl hs (i8q (c.has I.ok)) c.kind c.locs (thn (hi pins s σ H _ I h) fun v s1 h1 => thn h1 fun itv s2 h2 => ?_)) (fun _ s' hq => wpAny_pure (wpAny_pure hq)) fun _ _ e => e)
  obtain ⟨it, fp, tn, J, H2, rfl, I2, T, st2, f2, R⟩ := h2
  have hD : H2 s2.heap.objs.size = none := I2.hok.fresh (Nat.le_refl _)
  obtain ⟨W, ⟨m0, w0⟩, turn⟩ := R _ hD
  have I3 : Inv X pins σ (upd H2 s2.heap.objs.size (.lst [])) { s2 with heap := s2.heap.push { cls := .type "list", dict := none, data := .seq ([] : List Value).toArray } } :=
    I2.laid (t' := s2.toks) (fun b u e => Heap.get?_push_of_some _ e) (Nat.le_refl _) ⟨Nat.zero_le _, [], 0, .nil, Heap.get?_push_size _ rfl⟩
  have fpLt : ∀ b ∈ fp, b < s2.heap.objs.size := fun b hb => by
    obtain ⟨o, e, _⟩ := T.obj _ _ st2 b hb
    exact Heap.lt_size e
  have f3 : ∀ b ∈ fp, iHq X pins (upd H2 s2.heap.objs.size (.lst [])) b := fun b hb => ⟨by rw [aDq (Nat.ne_of_lt (fpLt b hb))]; exact (f2 b hb).1, (f2 b hb).2⟩
  have st3 : tn 0 (s2.heap.push { cls := .type "list", dict := none, data := .seq ([] : List Value).toArray }) := T.keep _ _ _ st2 fun b _ o e => Heap.get?_push_of_some _ e
  generalize hh3 : s2.heap.push { cls := .type "list", dict := none, data := .seq ([] : List Value).toArray } = h3 at I3 st3
  have sz3 : s2.heap.objs.size < h3.objs.size := by rw [<- hh3, Heap.size_push]; exact Nat.lt_succ_self _
  generalize hDD : s2.heap.objs.size = D at I3 f3 hD w0 turn sz3 fpLt
  refine wpAny_newObj_type ?_
  rw [hDD, hh3]
  refine wpAny_newFunctionEnv c.nocell (by intro y hy; simp at hy) (fun h4 hns4 hsb4 => ?_) c.kind
  dsimp only at hns4 hsb4 ⊢
  have keep4 : ∀ b o, h3.get? b = some o -> h4.get? b = some o := fun b o e => (hsb4.2 b (Nat.ne_of_lt (Heap.lt_size e))).trans (Heap.get?_push_of_some _ e)
  have I4 := I3.comp (t' := s2.toks + ([] : List (Str × Value)).length) c f3 (fun b hb => Nat.lt_trans (fpLt b hb) sz3) keep4 hns4
  have st4 : tn 0 h4 := T.keep _ _ _ st3 fun b _ o e => keep4 b o e
  dsimp only at I4
  have fin : ∀ {σ' : St} {H' : Hp} {s' : Shared}, Inv (aFq X scope N' h3.objs.size fp { s2 with heap := h3 } (upd H2 D (.lst []))) [] σ' H' s' -> D0.nx (σ.set k (some (.ref D))) H' →
      compPost (model X.prog X.w) X.A X.xe (some (assign (.Name y py) X.env)) (fun _ s' => SP X pins D0 .next s') (.ref D) h3.objs.size (.ok .next) s' := fun {σ' H' s'} J' q => by
    obtain ⟨m, hn, hh⟩ := I3.uncomp rfl f3 J'
    have IX : Inv X pins σ H' s' := hh s'.heap (Heap.SameBut.refl ..)
    have hCL : h3.objs.size ≠ X.env.locals := Nat.ne_of_gt I3.lt
    have hCc : ∀ x a, X.env.cells.lookup x = some a -> a ≠ h3.objs.size := fun x a e => by
      obtain ⟨v, z⟩ := I3.cell x a e
      exact Nat.ne_of_lt z.lt
    show wpAny _ X.A (assign (.Name y py) X.env (.ref D)) _ _ s'
    refine wpAny_assign_Name (gRq IX hN hk hy (v := .ref D) rfl (fun s'' I'' hch => ?_) hf)
    obtain ⟨a, sb, ha⟩ := hch
    have hCa : h3.objs.size ≠ a := by
      rcases ha with z | z
      . rw [z]; exact hCL
      . exact (hCc _ _ z).symm
    refine ⟨m, hn.sameBut sb hCa, fun h' hs' => ⟨_, H', ?_, q⟩⟩
    exact I''.turned (t' := s''.toks) (fun b o hb e => (hs'.2 b hb).trans e) J'.free hCL (.inr I3.sz) hCc fun p hp z => by
      have e := (I3.pin p hp).1
      rw [z] at e
      exact absurd (Heap.lt_size e) (Nat.lt_irrefl _)
  have stat : ∀ {H' : Hp}, (∀ b ∈ fp, H' b = none) -> ∀ b ∈ fp, iHq (aFq X scope N' h3.objs.size fp { s2 with heap := h3 } (upd H2 D (.lst []))) [] H' b := fun {H'} hn b hb => by
    refine ⟨hn b hb, Nat.ne_of_lt (Nat.lt_trans (fpLt b hb) sz3), fun z => ?_, .inl hb, fun x a e => (f3 b hb).2.2.2.2.1 x a (c.cells I.ok e), fun p hp => absurd (show p ∈ ([] : List (Addr × Obj)) from hp) (by simp)⟩
    rcases List.mem_cons.mp (I.stkSub b z) with y | y
    . exact (f3 b hb).2.1 y
    . exact (f3 b hb).2.2.1 y
  have loop : codeAny (model X.prog X.w) X.A (.compLoop (.ListComp elt [⟨tg, iter, [ct], 0⟩] scope pos) 0 (.ref it) (.ref D) (compEnvC scope (cHq X.env.cells scope.names []) h3.objs.size X.env))
      (compPost (model X.prog X.w) X.A X.xe (some (assign (.Name y py) X.env)) (fun _ s' => SP X pins D0 .next s') (.ref D) h3.objs.size) { s2 with heap := h4, toks := s2.toks + ([] : List (Str × Value)).length } := by
    refine codeAny_loop rfl (fun n s' => ∃ i ys σ' H', Inv (aFq X scope N' h3.objs.size fp { s2 with heap := h3 } (upd H2 D (.lst []))) [] σ' H' s' /\ tn i s'.heap /\ (∀ b ∈ fp, H' b = none) /\ W i n ys σ' H') (fun n s5 hI => ?_) m0 ⟨0, [], _, _, I4, st4, fun b hb => (f3 b hb).1, w0⟩
    obtain ⟨i, ys, σ5, H5, I5, st5, fr5, w5⟩ := hI
    show wpAny _ X.A ((compTurn (.ListComp elt [⟨tg, iter, [ct], 0⟩] scope pos) 0 (.ref it) (.ref D) (compEnvC scope (cHq X.env.cells scope.names []) h3.objs.size X.env)).onRaise (fun x => do noteFrame x (compEnvC scope (cHq X.env.cells scope.names []) h3.objs.size X.env); theTreesLotGoes x)) _ _ s5
    refine wpAny_noted ?_
    rw [fNq]
    rcases turn i n ys σ5 H5 w5 with ⟨stop, qn⟩ | ⟨go, step⟩
    . refine wpAny_bind (wpAny_standAt (wpAny_bind (wpAny_mono (T.done (aFq X scope N' h3.objs.size fp { s2 with heap := h3 } (upd H2 D (.lst []))) rfl rfl rfl hc i [] s5 σ5 H5 (fun _ _ => False) I5 (stat fr5) st5 stop) (fun r s6 ⟨hr, I6⟩ => ?_) fun _ _ z => z.elim)))
      subst hr
      exact wpAny_pure (fin I6 qn)
    . refine wpAny_bind (wpAny_standAt (wpAny_bind (wpAny_mono (T.item (aFq X scope N' h3.objs.size fp { s2 with heap := h3 } (upd H2 D (.lst []))) rfl rfl rfl hc i [] s5 σ5 H5 (fun _ _ => False) I5 (stat fr5) st5 go) (fun r s6 ⟨u, hr, h6⟩ => ?_) fun _ _ z => z.elim)))
      subst hr
      refine wpAny_bind (wpAny_mono h6 (fun _ s7 ⟨x, H7, I7, r7, y7, st7, fr7⟩ => ?_) fun _ _ z => z.elim)
      have I7' := I7.pinned (stat fr7) (T.obj _ _ st7)
      refine wpAny_bind (wpAny_mono (hg _ _ _ _ _ s7 σ5 H7 x u _ I7' r7 (step x H7 y7)) (fun _ s8 ⟨σ8, H8, I8, q8⟩ => ?_) fun _ _ z => z.elim)
      refine wpAny_bind (wpAny_mono (ht _ _ _ _ _ s8 σ8 H8 _ I8 q8) (fun bb s9 ⟨H9, I9, q9⟩ => ?_) fun _ _ z => z.elim)
      cases bb with
      | true =>
        rw [if_pos rfl]
        rw [if_pos rfl] at q9
        refine wpAny_bind (wpAny_bind (wpAny_mono (he _ _ _ _ _ s9 σ8 H9 _ I9 q9) (fun yv sA ⟨y, HA, IA, rA, eA, zA, m', hm', wA⟩ => ?_) fun _ _ z => z.elim))
        refine wpAny_bind (wpAny_mono (dGq (X := aFq X scope N' h3.objs.size fp { s2 with heap := h3 } (upd H2 D (.lst []))) _ sA σ8 HA (.ref D) [y] (.ref D) [yv] (fun v H10 => v = .non /\ H10 = upd HA D (.lst (ys ++ [y]))) IA rfl (.cons rA .nil) ⟨D, ys, y, rfl, rfl, eA, zA, rfl, rfl⟩)
          (fun _ s10 ⟨v10, H10, I10, _, _, e10⟩ => ?_) fun _ _ z => z.elim)
        subst e10
        refine wpAny_pure (wpAny_pure ⟨rfl, m', hm', i + 1, ys ++ [y], σ8, _, I10.unpinned, ?_, fun b hb => ?_, wA⟩)
        . exact T.keep _ _ _ st7 fun b hb o e => (I10.pin (b, o) (List.mem_append_right _ (List.mem_append_right _ (b3q hb e)))).1
        . obtain ⟨o, e, d⟩ := T.obj _ _ st7 b hb
          exact (I10.pin (b, o) (List.mem_append_right _ (List.mem_append_right _ (b3q hb e)))).2.1
      | false =>
        rw [if_neg Bool.false_ne_true]
        rw [if_neg Bool.false_ne_true] at q9
        obtain ⟨m', hm', w9⟩ := q9
        refine wpAny_pure ⟨rfl, m', hm', i + 1, ys, σ8, _, I9.unpinned, ?_, fun b hb => ?_, w9⟩
        . exact T.keep _ _ _ st7 fun b hb o e => (I9.pin (b, o) (List.mem_append_right _ (List.mem_append_right _ (b3q hb e)))).1
        . obtain ⟨o, e, d⟩ := T.obj _ _ st7 b hb
          exact (I9.pin (b, o) (List.mem_append_right _ (List.mem_append_right _ (b3q hb e)))).2.1
  exact codeAny_compStart_list loop (T.self _ 0 _ _ _ st4 loop)
end
section
variable {X : Cx} {tg : Expr}
end
end L2
namespace L2
open PySem PySem.Spec PyProof.Rows Builtin
section
variable {X : Cx}
end
section
variable {X : Cx} {a b c e : Expr} {t : TA} {te : TE} {pos p : Pos}
theorem mWq {tg : Expr} (hg : Gl X "range") (hm : X.mg "range" = none) (ha : JA X [a, b] t) (h1 : b6q a = true := by rfl) (h2 : b6q b = true := by rfl) : JI X tg (.Call (.Name "range" p) [a, b] [] pos) (vMq t) :=
  ⟨nUq hg hm ha.run (by rw [aHq h1, aHq h2]; rfl) (by rw [aHq h2]; rfl)⟩
variable {scope : Scope} {N' : List Str} {nt : Nat} {cap : List Nat} {elt iter tg : Expr} {wi : TI} {g : TG}
theorem l7q {y : Str} {py spos : Pos} {k : Nat} (hc : X.calm = true) (hN : X.N.Nodup) (hk : X.N[k]? = some y) (hy : Loc X.env.scope y) (ok : CompOk X scope N' nt cap) (hi : JI X tg iter wi) (hg : ∀ C ex s H, JG (aFq X scope N' C ex s H) tg g) (he : ∀ C ex s H, JE (aFq X scope N' C ex s H) elt te)
    (hs : ∀ x, foldedSetIterable iter X.env x = pure x := by intro _; rfl) (hsw : swapsWith (.ListComp elt [⟨tg, iter, [], 0⟩] scope pos) (some (.Name y py)) spos.line X.env = pure true := by rfl) (hf : X.fn y = true \/ X.env.scope.names.lookup y = some .local := by first | exact .inl rfl | exact .inr rfl | assumption) :
    JS X (.Assign [.Name y py] (.ListComp elt [⟨tg, iter, [], 0⟩] scope pos) spos) (qIq (oIq wi g te nt cap) (jLq k)) := ⟨lDq hc hN hk hy ok hi.run (fun C ex s H => (hg C ex s H).run) (fun C ex s H => (he C ex s H).run) hs hsw hf⟩
theorem jNq {ct : Expr} {tc : TT} {y : Str} {py spos : Pos} {k : Nat} (hc : X.calm = true) (hN : X.N.Nodup) (hk : X.N[k]? = some y) (hy : Loc X.env.scope y) (ok : CompOk X scope N' nt cap) (hi : JI X tg iter wi) (hg : ∀ C ex s H, JG (aFq X scope N' C ex s H) tg g)
    (ht : ∀ C ex s H, JT (aFq X scope N' C ex s H) ct tc) (he : ∀ C ex s H, JE (aFq X scope N' C ex s H) elt te)
    (hs : ∀ x, foldedSetIterable iter X.env x = pure x := by intro _; rfl) (hsw : swapsWith (.ListComp elt [⟨tg, iter, [ct], 0⟩] scope pos) (some (.Name y py)) spos.line X.env = pure true := by rfl) (hf : X.fn y = true \/ X.env.scope.names.lookup y = some .local := by first | exact .inl rfl | exact .inr rfl | assumption) :
    JS X (.Assign [.Name y py] (.ListComp elt [⟨tg, iter, [ct], 0⟩] scope pos) spos) (qIq (gAq wi g tc te nt cap) (jLq k)) := ⟨jJq hc hN hk hy ok hi.run (fun C ex s H => (hg C ex s H).run) (fun C ex s H => (ht C ex s H).run) (fun C ex s H => (he C ex s H).run) hs hsw hf⟩
end
section
variable {X : Cx} {k j : Nat} {f : Addr} {x : Str} {sp : Sp} {p pos : Pos} {e : Expr} {es : List Expr} {t : TA}
end
end L2
namespace KRv
open PySem PyProof.Rows
theorem wZq : Slot "reversed" "__init__" "object.__init__" := .of (owner := "object") (n := "__init__") (by rw [typeLookup_type, builtinLookup_eq_fast]; kernel_rfl) (by decide +kernel) (by decide +kernel) (by decide +kernel) (by first | exact .inl (by decide +kernel) | exact .inr (by decide +kernel)) (by rw [isSubtype_type]; kernel_rfl)
theorem tLq : TypeCalled "reversed" "reversed.__new__" "object.__init__" := ⟨by decide +kernel, by decide +kernel, ⟨_, _, F.mro_reversed⟩, F.made_reversed, by decide +kernel, by rw [isSubtype_type]; kernel_rfl, wZq⟩
theorem x9q : typeLookup (.type "tuple") "__reversed__" = pure none := by rw [typeLookup_type, builtinLookup_eq_fast]; kernel_rfl
theorem wGq : isSubtype (.type "tuple") (.type "dict") = pure false := by rw [isSubtype_type]; kernel_rfl
abbrev IsRev (h : Heap) (it t : Addr) (k : Int) : Prop := h.get? it = some { cls := .type "reversed", dict := none, data := .fields #[.ref t, rawInt k], slots := #[] }
section
variable {prog : Program} {w : World} {A : Around} {E : Value -> Shared -> Prop} {s : Shared} {it t : Addr}
theorem stops {α : Type} {Q : α -> Shared -> Prop} (hh : A.handled = none) (h : ∀ h' e, (∀ b o, s.heap.get? b = some o -> h'.get? b = some o) -> Shared.TypeIs { s with heap := h' } (.ref e) "StopIteration" -> E (.ref e) { s with heap := h' }) : wpAny (model prog w) A (Builtin.SmallTypes.stopIteration : Sem α) Q E s := by
  unfold Builtin.SmallTypes.stopIteration
  refine wpAny_bind ?_
  unfold newExc newTuple
  refine wpAny_bind (wpAny_newObj_type ?_ (by size_fits))
  rw [show firstArgMember (.type "StopIteration") [] = pure Value.none from by unfold firstArgMember; rfl, pure_bind]
  refine wpAny_newObj_type ?_ (by size_fits)
  unfold raiseNew
  refine wpAny_bind (wpAny_handled ?_)
  rw [hh]
  exact wpAny_throw (h _ _ (fun b o e => Heap.get?_push_of_some _ (Heap.get?_push_of_some _ e)) ⟨_, Heap.get?_push_size _ rfl, rfl⟩)
end
theorem newT (t : Addr) (items : Array Value) (hz : (items.size : Int) < 2 ^ 63) :
    Meets (Builtin.«reversed.__new__» ⟨[.type "reversed", .ref t], []⟩) (fun _ R s => IsTup s.heap t items ∧
      ∀ tk, R (.ok (.ret (.ref s.heap.objs.size))) { s with heap := s.heap.push { cls := .type "reversed", data := .fields #[.ref t, rawInt ((items.size : Int) - 1)] }, toks := tk }) :=
  .of_wp fun prog w A R s ⟨ht, h⟩ => by
    unfold Builtin.«reversed.__new__»
    refine wpAny_bind (wpAny_of_eq (newClass_reversed _) (wpAny_bind (m := Builtin.SmallTypes.refuseKeywords _ _ _) (wpAny_pure ?_)))
    refine wpAny_bind (wpAny_of_eq (a := ()) (by rfl) (wpAny_bind (wpAny_specialOf ht.typeIs x9q (wpAny_bind ?_))))
    refine (show wpAny (model prog w) A.in1 (isInstance (Value.ref t) (.type "dict") >>= _) _ _ s from wpAny_bind (wpAny_isInstance (T := "tuple") (b := false) ht.typeIs wGq ?_))
    rw [if_neg (by decide)]
    refine wpAny_bind (wpAny_specialOf ht.typeIs slot_tuple_getitem.lookup ?_)
    refine (show wpAny (model prog w) A.in1 (if (["tuple.__getitem__", "str.__getitem__", "bytes.__getitem__", "bytearray.__getitem__", "memoryview.__getitem__", "numpy.ndarray.__getitem__", "sqlite3.Row.__getitem__"].contains "tuple.__getitem__") = true then _ else _) _ _ s from ?_)
    rw [if_pos (by decide)]
    refine wpAny_pure ?_
    rw [if_neg (by decide)]
    refine (show wpAny (model prog w) A.in1 (call (.builtin "len") [.ref t] >>= _) _ _ s from wpAny_bind (len_tuple ht hz ?_))
    refine wpAny_bind (m := asInt? (.int (items.size : Int) _)) (wpAny_pure ?_)
    refine (show wpAny (model prog w) A.in1 (newObj (.type "reversed") (.fields #[.ref t, rawInt ((items.size : Int) - 1)]) >>= _) _ _ _ from wpAny_bind (wpAny_newObj_type ?_ (by size_fits)))
    exact wpAny_pure ⟨_, rfl, h _⟩
theorem callT {prog : Program} {w : World} {A : Around} {E : Value -> Shared -> Prop} {s : Shared} {t : Addr} {items : Array Value} {Q : Value -> Shared -> Prop} (ht : IsTup s.heap t items) (hz : (items.size : Int) < 2 ^ 63)
    (h : ∀ tk, Q (.ref s.heap.objs.size) { s with heap := s.heap.push { cls := .type "reversed", data := .fields #[.ref t, rawInt ((items.size : Int) - 1)] }, toks := tk }) : wpAny (model prog w) A (call (.type "reversed") [.ref t]) Q E s :=
  callType_new tLq (by decide) (F.typeCall_reversed_1 _) (F.newCall_reversed_1 _) (fun obj => F.args_object_init_2 obj _) F.entry_reversed_new (newT t items hz) ⟨ht, fun tk => ⟨⟨_, Heap.get?_push_size _ rfl, rfl⟩, h tk⟩⟩
section
variable {prog : Program} {w : World} {A : Around} {E : Value -> Shared -> Prop} {s : Shared} {R : Result -> Shared -> Prop} {I S : Addr} {fp wr : List Addr} {n : Nat} {P : Nat -> Value -> Prop} {St : Nat -> Shared -> Prop}
end
end KRv
namespace L2
open PySem PySem.Spec PyProof.Rows
section
variable {X : Cx} {e : Expr} {te : TE} {p p2 pos pos2 : Pos}
def zSq (X : Cx) (pins : List (Addr × Obj)) (σ : St) (R : Addr -> List V -> Hp -> Prop) (v : Value) (s : Shared) : Prop :=
  ∃ (a it : Addr) (xs : List V) (its : List Value) (H : Hp), v = .ref it /\ Inv X pins σ H s /\ KRv.IsRev s.heap it a ((its.toArray.size : Int) - 1) /\ IsTup s.heap a its.toArray /\ a ≠ it /\ Vals xs its /\ its.toArray.size <= sizeLine /\ SqT X.K H a xs /\ iHq X pins H it /\ R a xs H
def RevL (X : Cx) (pins : List (Addr × Obj)) (σ : St) (R : Addr -> List V -> Hp -> Prop) (v : Value) (s : Shared) : Prop :=
  ∃ (a it : Addr) (xs : List V) (its : List Value) (H : Hp), v = .ref it /\ Inv X pins σ H s /\ s.heap.IsRevIter it a ((its.toArray.size : Int) - 1) /\ s.heap.IsList a its.toArray /\ a ≠ it /\ Vals xs its /\ its.toArray.size <= sizeLine /\ SqL X.K H a xs /\ iHq X pins H it /\ R a xs H
theorem xNq {pins : List (Addr × Obj)} {s : Shared} {σ : St} {H : Hp} {R : Addr -> List V -> Hp -> Prop} (hg : Gl X "reversed") (hm : X.mg "reversed" = none) (he : PE X e te) (hs : b6q e = true) (I : Inv X pins σ H s)
    (h : te σ H fun x H1 => ∃ a xs, x = .ref a /\ SqT X.K H1 a xs /\ R a xs H1) : wpAny (model X.prog X.w) X.A (eval (.Call (.Name "reversed" p2) [e] [] pos2) X.env) (zSq X pins σ R) X.xe s := by
  refine wpAny_Call_Name_kw (fKq I hg hm PyProof.Rows.boot_reversed ?_)
  refine PyProof.Rows.callWith_type1 ?_ (aHq hs) rfl
  rw [aHq hs]
  show wpAny _ _ (spliced ((false, eval e X.env) :: backTo pos2 (starEach [] X.env))) _ _ s
  refine Calls.spliced_cons (thn (he pins s σ H _ I h) fun u s1 ⟨x, H1, I1, r1, a, xs, ex, hq, q⟩ => Calls.spliced_nil ?_)
  subst ex
  cases r1
  obtain ⟨its, rv, pl, hz⟩ := I1.tuple hq
  have hl := rv.length
  have h63 := fCq
  refine KRv.callT pl (by rw [List.size_toArray]; omega) fun tk => ?_
  exact ⟨a, s1.heap.objs.size, xs, its, H1, rfl, I1.kept fun b o e => Heap.get?_push_of_some _ e, Heap.get?_push_size _ rfl, pl.push _, Nat.ne_of_lt pl.lt, rv, by rw [List.size_toArray]; omega, hq, I1.fpOk (Nat.le_refl _) (I1.hok.fresh (Nat.le_refl _)), q⟩
theorem sRq {pins : List (Addr × Obj)} {s : Shared} {σ : St} {H : Hp} {R : Addr -> List V -> Hp -> Prop} (hg : Gl X "reversed") (hm : X.mg "reversed" = none) (he : PE X e te) (hs : b6q e = true) (I : Inv X pins σ H s)
    (h : te σ H fun x H1 => ∃ a xs, x = .ref a /\ SqL X.K H1 a xs /\ R a xs H1) : wpAny (model X.prog X.w) X.A (eval (.Call (.Name "reversed" p2) [e] [] pos2) X.env) (RevL X pins σ R) X.xe s := by
  refine wpAny_Call_Name_kw (fKq I hg hm PyProof.Rows.boot_reversed ?_)
  refine PyProof.Rows.callWith_type1 ?_ (aHq hs) rfl
  rw [aHq hs]
  show wpAny _ _ (spliced ((false, eval e X.env) :: backTo pos2 (starEach [] X.env))) _ _ s
  refine Calls.spliced_cons (thn (he pins s σ H _ I h) fun u s1 ⟨x, H1, I1, r1, a, xs, ex, hq, q⟩ => Calls.spliced_nil ?_)
  subst ex
  cases r1
  obtain ⟨its, rv, pl, hz⟩ := I1.list hq
  have hl := rv.length
  have hlt : a < s1.heap.objs.size := by obtain ⟨o, ho, _⟩ := pl.isList; exact Heap.lt_size ho
  refine call_reversed_list pl.isList ?_
  exact ⟨a, s1.heap.objs.size, xs, its, H1, rfl, I1.kept (t' := s1.toks) fun b o e => Heap.get?_push_of_some _ e, ⟨_, Heap.get?_push_size _ rfl, rfl, rfl⟩, let ⟨o, ho, r⟩ := pl.isList; ⟨o, Heap.get?_push_of_some _ ho, r⟩, Nat.ne_of_lt hlt, rv, by rw [List.size_toArray]; omega, hq, I1.fpOk (Nat.le_refl _) (I1.hok.fresh (Nat.le_refl _)), q⟩
end
section
variable {X : Cx} {e : Expr} {te : TE} {p p2 pos pos2 : Pos}
end
end L2
namespace KZp
open PySem PyProof.Rows
section
variable {prog : Program} {w : World} {A : Around} {E : Value -> Shared -> Prop} {s : Shared}
theorem zEq {it t : Addr} {i : Nat} {items : Array Value} {x : Value} {Q : Value -> Shared -> Prop} (hit : s.heap.IsTupleIter it t i) (ht : s.heap.IsTuple t items) (hx : items[i]? = some x)
    (hQ : ∀ h', h'.IsTupleIter it t (i + 1) -> Heap.SameBut it s.heap h' -> Q x { s with heap := h' }) : wpAny (model prog w) A (Builtin.SmallTypes.nextOf (.ref it)) Q E s := by
  obtain ⟨o, ho, hc, hd⟩ := id hit
  obtain ⟨ol, hol, _, nl, hdl⟩ := ht
  unfold Builtin.SmallTypes.nextOf
  refine wpAny_bind (wpAny_callSpecial?_slot hit.typeIs F.slot_tuple_iterator_next (wpAny_call_entry F.slot_tuple_iterator_next hit.typeIs F.entry_tuple_iterator_next ?_ (F.args_tuple_iterator_next_1 _)))
  refine (show wpAny (model prog w) A.in1 (field (.ref it) 0 >>= _) _ _ s from wpAny_bind (wpAny_field ho hd (x := .ref t) rfl ?_))
  refine (show wpAny (model prog w) A.in1 (if (Value.ref t == Value.none) = true then _ else _) _ _ s from ?_)
  rw [if_neg (show ¬ ((Value.ref t == Value.none) = true) from Bool.false_ne_true)]
  refine (show wpAny (model prog w) A.in1 (field (.ref it) 1 >>= _) _ _ s from wpAny_bind (wpAny_field ho hd (x := .int i 0) rfl ?_))
  refine (show wpAny (model prog w) A.in1 (seqItems? (.ref t) >>= _) _ _ s from wpAny_bind (wpAny_seqItems hol hdl ?_))
  simp only [Int.toNat_natCast, hx]
  refine wpAny_bind (wpAny_setField ho hd (by simp) (wpAny_pure ⟨x, rfl, wpAny_pure (hQ _ ⟨_, Heap.get?_update_self _ ho (Obj.isFreed_of_fields (Obj.data_mapFields hd _)), (Obj.cls_mapFields ..).trans hc, ?_⟩ (Heap.SameBut.update ..))⟩))
  rw [Obj.data_mapFields hd]
  simp [rawInt]
theorem wWq {it t : Addr} {i : Nat} {items : Array Value} {Q : Value -> Shared -> Prop} (hh : A.handled = none) (hit : s.heap.IsTupleIter it t i) (ht : s.heap.IsTuple t items) (hx : items[i]? = none)
    (hE : ∀ h' e, Heap.ExtBut it s.heap h' -> Shared.TypeIs { s with heap := h' } (.ref e) "StopIteration" -> E (.ref e) { s with heap := h' }) : wpAny (model prog w) A (Builtin.SmallTypes.nextOf (.ref it)) Q E s := by
  obtain ⟨o, ho, hc, hd⟩ := id hit
  obtain ⟨ol, hol, _, nl, hdl⟩ := ht
  unfold Builtin.SmallTypes.nextOf
  refine wpAny_bind (wpAny_callSpecial?_slot hit.typeIs F.slot_tuple_iterator_next (wpAny_call_entry F.slot_tuple_iterator_next hit.typeIs F.entry_tuple_iterator_next ?_ (F.args_tuple_iterator_next_1 _)))
  refine (show wpAny (model prog w) A.in1 (field (.ref it) 0 >>= _) _ _ s from wpAny_bind (wpAny_field ho hd (x := .ref t) rfl ?_))
  refine (show wpAny (model prog w) A.in1 (if (Value.ref t == Value.none) = true then _ else _) _ _ s from ?_)
  rw [if_neg (show ¬ ((Value.ref t == Value.none) = true) from Bool.false_ne_true)]
  refine (show wpAny (model prog w) A.in1 (field (.ref it) 1 >>= _) _ _ s from wpAny_bind (wpAny_field ho hd (x := .int i 0) rfl ?_))
  refine (show wpAny (model prog w) A.in1 (seqItems? (.ref t) >>= _) _ _ s from wpAny_bind (wpAny_seqItems hol hdl ?_))
  simp only [Int.toNat_natCast, hx]
  refine wpAny_bind (wpAny_rule (wpAny_bind (wpAny_setField ho hd (by simp) ?_)))
  exact KRv.stops (A := A.in1) hh fun h' e kk hs => hE _ e (fun b o' hb e' => kk b o' ((Heap.SameBut.update ..).extBut b o' hb e')) hs
structure St (z TI TO i1 i2 l1 l2 : Addr) (f0 : Value) (i : Nat) (h : Heap) : Prop where
  zip : IsZip h z TI TO f0
  ti : IsPair h TI (.ref i1) (.ref i2)
  to : ∃ a b, IsPair h TO a b
  it1 : h.IsTupleIter i1 l1 i
  it2 : h.IsTupleIter i2 l2 i
variable {z TI TO i1 i2 l1 l2 : Addr} {i : Nat} {xs ys : Array Value}
theorem nextZ {x y : Value} {Q : Option Value -> Shared -> Prop} (D : ZipApart z TI TO i1 i2 l1 l2) (st : St z TI TO i1 i2 l1 l2 .none i s.heap) (hl1 : s.heap.IsTuple l1 xs) (hl2 : s.heap.IsTuple l2 ys) (hx : xs[i]? = some x) (hy : ys[i]? = some y)
    (hQ : ∀ h', St z TI TO i1 i2 l1 l2 (rawInt s.heap.objs.size) (i + 1) h' -> IsPair h' s.heap.objs.size x y -> (∀ c o, c ≠ z -> c ≠ TO -> c ≠ i1 -> c ≠ i2 -> s.heap.get? c = some o -> h'.get? c = some o) -> Q (some (.ref s.heap.objs.size)) { s with heap := h' }) :
    wpAny (model prog w) A (pyNext (.ref z)) Q E s := by
  obtain ⟨hz, hTI, ⟨a, b, hTO⟩, h1, h2⟩ := st
  have hT : s.TypeIs (.ref z) "zip" := ⟨_, hz, rfl⟩
  unfold pyNext
  refine wpAny_bind (wpAny_attempt (wpAny_callSpecial?_slot hT F.slot_zip_next (wpAny_call_entry F.slot_zip_next hT F.entry_zip_next ?_ (F.args_zip_next_1 _))))
  refine (show wpAny (model prog w) A.in1 (field (.ref z) 2 >>= _) _ _ _ from wpAny_bind (wpAny_field hz rfl (x := .bool false) rfl ?_))
  refine (show wpAny (model prog w) A.in1 (field (.ref z) 3 >>= _) _ _ _ from wpAny_bind (wpAny_field hz rfl (x := .ref TI) rfl (wpAny_bind (wpAny_seqItems hTI rfl ?_))))
  refine (show wpAny (model prog w) A.in1 (Builtin.SmallTypes.ownedTupleIsFree (.ref z) >>= _) _ _ _ from wpAny_bind ?_)
  unfold Builtin.SmallTypes.ownedTupleIsFree
  refine wpAny_bind (wpAny_field hz rfl (x := .none) rfl (wpAny_pure ?_))
  simp only [if_true]
  refine wpAny_bind (wpAny_rule (wpAny_bind (wpAny_field hz rfl (x := .ref TO) rfl (wpAny_bind (wpAny_setField_rec hz (by simp) fun g1 hz1 k1 => wpAny_bind ?_)))))
  replace hz1 : IsZip g1 z TI TO .ellipsis := hz1
  simp only [List.zipIdx_cons, List.zipIdx_nil, List.forIn_cons, List.forIn_nil]
  refine wpAny_bind (wpAny_bind (wpAny_onRaise ?_))
  refine (show wpAny (model prog w) A.in1 (Builtin.SmallTypes.nextOf (.ref i1) >>= _) _ _ _ from wpAny_bind (zEq (h1.extBut k1.extBut D.i1z) (hl1.extBut k1.extBut D.l1z) hx fun g2 j1 k2 => wpAny_pure ?_))
  have hTO2 : IsPair g2 TO a b := k2.extBut _ _ D.TOi1 (k1.extBut _ _ D.TOz hTO)
  refine wpAny_bind (wpAny_seqItems hTO2 rfl (wpAny_bind (wpAny_updateSeq_pair hTO2 fun g3 hTO3 k3 => wpAny_bind (wpAny_letGo (wpAny_pure ?_)))))
  replace hTO3 : IsPair g3 TO x b := hTO3
  refine wpAny_bind (wpAny_bind (wpAny_onRaise ?_))
  refine (show wpAny (model prog w) A.in1 (Builtin.SmallTypes.nextOf (.ref i2) >>= _) _ _ _ from wpAny_bind (zEq (((h2.extBut k1.extBut D.i2z).extBut k2.extBut D.i12.symm).extBut k3.extBut D.TOi2.symm) (((hl2.extBut k1.extBut D.l2z).extBut k2.extBut D.l2i1).extBut k3.extBut D.l2TO) hy fun g4 j2 k4 => wpAny_pure ?_))
  have hTO4 : IsPair g4 TO x b := k4.extBut _ _ D.TOi2 hTO3
  refine wpAny_bind (wpAny_seqItems hTO4 rfl (wpAny_bind (wpAny_updateSeq_pair hTO4 fun g5 hTO5 k5 => wpAny_bind (wpAny_letGo (wpAny_pure (wpAny_pure ?_))))))
  replace hTO5 : IsPair g5 TO x y := hTO5
  refine wpAny_bind (wpAny_seqItems hTO5 rfl (wpAny_bind (wpAny_newTuple ?_)))
  have hsz : g5.objs.size = s.heap.objs.size := by rw [k5.1, k4.1, k3.1, k2.1, k1.1]
  have hz5 : IsZip g5 z TI TO .ellipsis := k5.extBut _ _ D.TOz.symm (k4.extBut _ _ D.i2z.symm (k3.extBut _ _ D.TOz.symm (k2.extBut _ _ D.i1z.symm hz1)))
  have keep : ∀ c o, c ≠ z -> c ≠ TO -> c ≠ i1 -> c ≠ i2 -> s.heap.get? c = some o -> g5.get? c = some o := fun c o c1 c2 c3 c4 e => k5.extBut _ _ c2 (k4.extBut _ _ c4 (k3.extBut _ _ c2 (k2.extBut _ _ c3 (k1.extBut _ _ c1 e))))
  have J1 : g5.IsTupleIter i1 l1 (i + 1) := ((j1.extBut k3.extBut D.TOi1.symm).extBut k4.extBut D.i12).extBut k5.extBut D.TOi1.symm
  have J2 : g5.IsTupleIter i2 l2 (i + 1) := j2.extBut k5.extBut D.TOi2.symm
  refine (show wpAny (model prog w) A.in1 (Builtin.SmallTypes.ownedTupleHandOut (.ref z) (.ref g5.objs.size) >>= _) _ _ _ from wpAny_bind ?_)
  unfold Builtin.SmallTypes.ownedTupleHandOut
  have hz6 : IsZip (g5.push { cls := .type "tuple", data := .seq #[x, y] }) z TI TO .ellipsis := Heap.get?_push_of_some _ hz5
  refine wpAny_bind (wpAny_setField_rec hz6 (by simp) fun g7 hz7 k7 => ?_)
  replace hz7 : IsZip g7 z TI TO (rawInt g5.objs.size) := hz7
  refine wpAny_setField_rec hz7 (by simp) fun g8 hz8 k8 => ?_
  replace hz8 : IsZip g8 z TI TO (rawInt g5.objs.size) := hz8
  have up : ∀ c o, c ≠ z -> g5.get? c = some o -> g8.get? c = some o := fun c o c1 e => k8.extBut _ _ c1 (k7.extBut _ _ c1 (Heap.get?_push_of_some _ e))
  have hzl : g5.objs.size ≠ z := Nat.ne_of_gt (Heap.lt_size hz5)
  have hT8 : IsPair g8 g5.objs.size x y := k8.extBut _ _ hzl (k7.extBut _ _ hzl (Heap.get?_push_size _ rfl))
  rw [hsz] at hz8 hT8
  refine wpAny_pure ⟨_, rfl, wpAny_pure ?_⟩
  rw [hsz]
  exact hQ g8 ⟨hz8, up _ _ D.TIz (keep _ _ D.TIz D.TITO D.TIi1 D.TIi2 hTI), ⟨x, y, up _ _ D.TOz hTO5⟩, let ⟨o, ho, r⟩ := J1; ⟨o, up _ _ D.i1z ho, r⟩, let ⟨o, ho, r⟩ := J2; ⟨o, up _ _ D.i2z ho, r⟩⟩ hT8 fun c o c1 c2 c3 c4 e => up c o c1 (keep c o c1 c2 c3 c4 e)
theorem endZ {Q : Option Value -> Shared -> Prop} (hh : A.handled = none) (D : ZipApart z TI TO i1 i2 l1 l2) (st : St z TI TO i1 i2 l1 l2 .none i s.heap) (hl1 : s.heap.IsTuple l1 xs) (hx : xs[i]? = none)
    (hQ : ∀ h', (∀ c o, c ≠ z -> c ≠ TO -> c ≠ i1 -> c ≠ i2 -> s.heap.get? c = some o -> h'.get? c = some o) -> Q none { s with heap := h' }) : wpAny (model prog w) A (pyNext (.ref z)) Q E s := by
  obtain ⟨hz, hTI, ⟨a, b, hTO⟩, h1, h2⟩ := st
  have hT : s.TypeIs (.ref z) "zip" := ⟨_, hz, rfl⟩
  unfold pyNext
  refine wpAny_bind (wpAny_attempt (wpAny_callSpecial?_slot hT F.slot_zip_next (wpAny_call_entry F.slot_zip_next hT F.entry_zip_next ?_ (F.args_zip_next_1 _))))
  refine (show wpAny (model prog w) A.in1 (field (.ref z) 2 >>= _) _ _ _ from wpAny_bind (wpAny_field hz rfl (x := .bool false) rfl ?_))
  refine (show wpAny (model prog w) A.in1 (field (.ref z) 3 >>= _) _ _ _ from wpAny_bind (wpAny_field hz rfl (x := .ref TI) rfl (wpAny_bind (wpAny_seqItems hTI rfl ?_))))
  refine (show wpAny (model prog w) A.in1 (Builtin.SmallTypes.ownedTupleIsFree (.ref z) >>= _) _ _ _ from wpAny_bind ?_)
  unfold Builtin.SmallTypes.ownedTupleIsFree
  refine wpAny_bind (wpAny_field hz rfl (x := .none) rfl (wpAny_pure ?_))
  simp only [if_true]
  refine wpAny_bind (wpAny_rule (wpAny_bind (wpAny_field hz rfl (x := .ref TO) rfl (wpAny_bind (wpAny_setField_rec hz (by simp) fun g1 hz1 k1 => wpAny_bind ?_)))))
  replace hz1 : IsZip g1 z TI TO .ellipsis := hz1
  simp only [List.zipIdx_cons, List.zipIdx_nil, List.forIn_cons, List.forIn_nil]
  refine wpAny_bind (wpAny_bind (wpAny_onRaise ?_))
  refine (show wpAny (model prog w) A.in1 (Builtin.SmallTypes.nextOf (.ref i1) >>= _) _ _ _ from wpAny_bind (wWq (A := A.in1) hh (h1.extBut k1.extBut D.i1z) (hl1.extBut k1.extBut D.l1z) hx fun g2 e k2 he => ?_))
  obtain ⟨oe, hoe, hce⟩ := he
  have hz2 : IsZip g2 z TI TO .ellipsis := k2 _ _ D.i1z.symm hz1
  have hez : e ≠ z := fun q => by
    subst q
    have q2 : some _ = some oe := Eq.trans (Eq.symm hz2) hoe
    cases q2
    simp at hce
  refine wpAny_setField_rec hz2 (by simp) fun g3 _ k3 => ?_
  refine wpAny_bind (wpAny_isInstance (T := "StopIteration") (b := true) ⟨oe, k3.extBut _ _ hez hoe, hce⟩ isSubtype_stop (wpAny_pure (hQ _ fun c o c1 _ c3 _ q => ?_)))
  exact k3.extBut _ _ c1 (k2 _ _ c3 (k1.extBut _ _ c1 q))
end
abbrev g1 (h : Heap) (l1 : Addr) : Heap := h.push { cls := .type "tuple_iterator", data := .fields #[.ref l1, .int 0 0] }
abbrev g2 (h : Heap) (l1 l2 : Addr) : Heap := (g1 h l1).push { cls := .type "tuple_iterator", data := .fields #[.ref l2, .int 0 0] }
abbrev g3 (h : Heap) (l1 l2 : Addr) : Heap := (g2 h l1 l2).push { cls := .type "tuple", data := .seq #[.ref h.objs.size, .ref (g1 h l1).objs.size] }
abbrev g4 (h : Heap) (l1 l2 : Addr) : Heap := (g3 h l1 l2).push { cls := .type "tuple", data := .seq #[.none, .none] }
abbrev g5 (h : Heap) (l1 l2 : Addr) : Heap := (g4 h l1 l2).push { cls := .type "zip", data := .fields #[.none, .bool false, .bool false, .ref (g2 h l1 l2).objs.size, .ref (g3 h l1 l2).objs.size] }
theorem newZ (l1 l2 : Addr) (xs ys : Array Value) :
    Meets (Builtin.«zip.__new__» ⟨[.type "zip", .ref l1, .ref l2], []⟩) (fun _ R s => s.heap.IsTuple l1 xs /\ s.heap.IsTuple l2 ys /\ R (.ok (.ret (.ref (g4 s.heap l1 l2).objs.size))) { s with heap := g5 s.heap l1 l2 }) :=
  .of_wp fun prog w A R s h => by
    obtain ⟨hp, g, d, tk, os⟩ := s
    obtain ⟨hl1, hl2, h⟩ := h
    have hsub := sub_zip
    have hL1 : Heap.IsTuple (Shared.heap ⟨hp, g, d, tk, os⟩) l1 xs := hl1
    have hL2 : Heap.IsTuple (Shared.heap ⟨g1 hp l1, g, d, tk, os⟩) l2 ys := Heap.IsTuple.push hl2 _
    wp_walk using wpAny_pyIter_tuple hL1, wpAny_pyIter_tuple hL2
    exact ⟨_, rfl, h⟩
theorem callZ {prog : Program} {w : World} {A : Around} {E : Value -> Shared -> Prop} {s : Shared} {l1 l2 : Addr} {xs ys : Array Value} {Q : Value -> Shared -> Prop} (hl1 : s.heap.IsTuple l1 xs) (hl2 : s.heap.IsTuple l2 ys)
    (h : ∀ h', St (s.heap.objs.size + 4) (s.heap.objs.size + 2) (s.heap.objs.size + 3) s.heap.objs.size (s.heap.objs.size + 1) l1 l2 .none 0 h' -> (∀ c o, s.heap.get? c = some o -> h'.get? c = some o) -> Q (.ref (s.heap.objs.size + 4)) { s with heap := h' }) :
    wpAny (model prog w) A (call (.type "zip") [.ref l1, .ref l2]) Q E s := by
  refine callType_new F.called_zip (by decide) (F.typeCall_zip_2 _ _) (F.newCall_zip_2 _ _) (fun obj => F.args_object_init_3 obj _ _) F.entry_zip_new (newZ l1 l2 xs ys) ⟨hl1, hl2, ?_⟩
  have z1 : (g1 s.heap l1).objs.size = s.heap.objs.size + 1 := Heap.size_push ..
  have z2 : (g2 s.heap l1 l2).objs.size = s.heap.objs.size + 2 := by rw [Heap.size_push, z1]
  have z3 : (g3 s.heap l1 l2).objs.size = s.heap.objs.size + 3 := by rw [Heap.size_push, z2]
  have z4 : (g4 s.heap l1 l2).objs.size = s.heap.objs.size + 4 := by rw [Heap.size_push, z3]
  have e5 : (g5 s.heap l1 l2).get? (g4 s.heap l1 l2).objs.size = some _ := Heap.get?_push_size _ rfl
  have e4 : (g5 s.heap l1 l2).get? (g3 s.heap l1 l2).objs.size = some _ := Heap.get?_push_of_some _ (Heap.get?_push_size _ rfl)
  have e3 : (g5 s.heap l1 l2).get? (g2 s.heap l1 l2).objs.size = some _ := Heap.get?_push_of_some _ (Heap.get?_push_of_some _ (Heap.get?_push_size _ rfl))
  have e2 : (g5 s.heap l1 l2).get? (g1 s.heap l1).objs.size = some _ := Heap.get?_push_of_some _ (Heap.get?_push_of_some _ (Heap.get?_push_of_some _ (Heap.get?_push_size _ rfl)))
  have e1 : (g5 s.heap l1 l2).get? s.heap.objs.size = some _ := Heap.get?_push_of_some _ (Heap.get?_push_of_some _ (Heap.get?_push_of_some _ (Heap.get?_push_of_some _ (Heap.get?_push_size _ rfl))))
  rw [z2, z3, z4] at e5
  rw [z1, z2] at e3
  rw [z3] at e4
  rw [z1] at e2
  show _ /\ _
  rw [z4]
  exact ⟨⟨_, e5, rfl⟩, h _ ⟨e5, e3, ⟨_, _, e4⟩, ⟨_, e1, rfl, rfl⟩, ⟨_, e2, rfl, rfl⟩⟩ fun c o x => Heap.get?_push_of_some _ (Heap.get?_push_of_some _ (Heap.get?_push_of_some _ (Heap.get?_push_of_some _ (Heap.get?_push_of_some _ x))))⟩
end KZp
namespace L2
open PySem PySem.Spec PyProof.Rows
theorem Inv.turnedL {X : Cx} {pins : List (Addr × Obj)} {σ : St} {H : Hp} {s : Shared} {h' : Heap} {t' : Nat} {fp : List Addr} (I : Inv X pins σ H s) (hf : ∀ b ∈ fp, iHq X pins H b) (k : ∀ b o, b ∉ fp -> s.heap.get? b = some o -> h'.get? b = some o) : Inv X pins σ H { s with heap := h', toks := t' } := by
  have nit : ∀ b u, H b = some u -> b ∉ fp := fun b u e z => by rw [(hf b z).1] at e; cases e
  refine I.step (g' := s.gens) (d' := s.drawn) (ch := fp) (fun b hb => ?_) (fun b o _ _ hc e _ => k b o hc e) (fun b o _ _ hc e _ => ⟨o.slots, k b o hc e⟩) (fun _ _ _ _ n => n)
    (fun b o hc e => ⟨o, k b o hc e⟩) (fun _ _ e => e) (fun _ _ _ e => e) (fun b ps e => ⟨#[], by rw [e]; simp⟩) (fun m hm => ?_) (fun b u e => ?_) I.bare
  . obtain ⟨f0, f1, f2, f3, f4, f5⟩ := hf b hb
    exact ⟨f3, f1, f4, f5⟩
  . obtain ⟨o, es, ep, ho, r⟩ := hm
    exact ⟨o, es, ep, k _ o (fun z => (hf _ z).2.1 rfl) ho, r⟩
  . refine (I.hok b u e).stay (fun c v hc q => k c v ?_ q) (fun _ q => q) fun _ _ q => q
    rcases hc with z | z
    . rw [z]; exact nit b u e
    . exact nit c _ z
theorem apart (n a b : Nat) (h1 : a < n) (h2 : b < n) : ZipApart (n + 4) (n + 2) (n + 3) n (n + 1) a b := by
  constructor <;> (intro e; have e' : (@Eq Nat _ _) := e; omega)
def Itz (K : PySem.W.Frag) (a b : Addr) : It :=
  ⟨fun i H => ∃ xs ys x y, SqT K H a xs /\ SqT K H b ys /\ xs[i]? = some x /\ ys[i]? = some y, fun i H v H' => ∃ T x y, v = .ref T /\ H T = none /\ H' = upd H T (.tup [x, y]) /\ (∀ xs, SqT K H a xs -> xs[i]? = some x) /\ ∀ ys, SqT K H b ys -> ys[i]? = some y, fun i H => ∃ xs, SqT K H a xs /\ xs.length <= i⟩
theorem pKq {P : Program} {w : World} {K : PySem.W.Frag} {es : List Expr} {k : Nat} {pos : Pos} {z TI TO i1 i2 l1 l2 : Addr} (D : ZipApart z TI TO i1 i2 l1 l2) :
    Turn P w K (.Tuple es k pos) (Itz K l1 l2) [z, TI, TO, i1, i2] z (fun i h => KZp.St z TI TO i1 i2 l1 l2 .none i h) where
  mem := by simp
  obj := fun i h st b hb => by
    simp only [List.mem_cons, List.not_mem_nil, or_false] at hb
    obtain ⟨a1, a2, ⟨p, q, a3⟩, ⟨o4, a4, _, d4⟩, ⟨o5, a5, _, d5⟩⟩ := st
    rcases hb with rfl | rfl | rfl | rfl | rfl
    . exact ⟨_, a1, fun v e => by cases (show Data.fields _ = Data.cell v from e)⟩
    . exact ⟨_, a2, fun v e => by cases (show Data.seq _ _ = Data.cell v from e)⟩
    . exact ⟨_, a3, fun v e => by cases (show Data.seq _ _ = Data.cell v from e)⟩
    . exact ⟨_, a4, fun v e => by rw [d4] at e; cases e⟩
    . exact ⟨_, a5, fun v e => by rw [d5] at e; cases e⟩
  keep := fun i h h' st kk => by
    obtain ⟨a1, a2, ⟨p, q, a3⟩, ⟨o4, a4, r4⟩, ⟨o5, a5, r5⟩⟩ := st
    exact ⟨kk _ (by simp) _ a1, kk _ (by simp) _ a2, ⟨p, q, kk _ (by simp) _ a3⟩, ⟨o4, kk _ (by simp) _ a4, r4⟩, ⟨o5, kk _ (by simp) _ a5, r5⟩⟩
  item := by
    intro X hP hw hK hc i pins s σ H E I hf st hg
    subst hP hw hK
    obtain ⟨xs, ys, x, y, hq1, hq2, hx, hy⟩ := hg
    obtain ⟨its1, rv1, p1, _⟩ := I.tuple hq1
    obtain ⟨its2, rv2, p2, _⟩ := I.tuple hq2
    obtain ⟨u1, hu1, ru1⟩ := rv1.get hx
    obtain ⟨u2, hu2, ru2⟩ := rv2.get hy
    refine KZp.nextZ D st (show s.heap.IsTuple l1 its1.toArray from p1) (show s.heap.IsTuple l2 its2.toArray from p2) (x := u1) (y := u2) (by simpa using hu1) (by simpa using hu2) fun h' st' hT kk => ?_
    refine ⟨_, rfl, wpAny_letOwnedTupleGo_zip st'.zip fun h2 hz2 k2 => ?_⟩
    have kk2 : ∀ b o, b ∉ [z, TI, TO, i1, i2] -> s.heap.get? b = some o -> h2.get? b = some o := fun b o hb e => by
      simp only [List.mem_cons, List.not_mem_nil, or_false, not_or] at hb
      exact k2.extBut _ _ hb.1 (kk b o hb.1 hb.2.2.1 hb.2.2.2.1 hb.2.2.2.2 e)
    have I1 : Inv X pins σ (upd H s.heap.objs.size (.tup [x, y])) { s with heap := s.heap.push { cls := .type "tuple", data := .seq #[u1, u2] } } :=
      I.laid (t' := s.toks) (fun b o e => Heap.get?_push_of_some _ e) (Nat.le_refl _) (show ObjOk X.prog X.w _ _ _ (.tup [x, y]) from ⟨by show 2 <= sizeLine; decide, [u1, u2], .cons ru1 (.cons ru2 .nil), IsTup.new _ _⟩)
    have hzT : s.heap.objs.size ≠ z := Nat.ne_of_gt (Heap.lt_size st.zip)
    have lts : ∀ b ∈ [z, TI, TO, i1, i2], b < s.heap.objs.size := fun b hb => by
      obtain ⟨a1, a2, ⟨p, q, a3⟩, ⟨o4, a4, _⟩, ⟨o5, a5, _⟩⟩ := st
      simp only [List.mem_cons, List.not_mem_nil, or_false] at hb
      rcases hb with rfl | rfl | rfl | rfl | rfl
      . exact Heap.lt_size a1
      . exact Heap.lt_size a2
      . exact Heap.lt_size a3
      . exact Heap.lt_size a4
      . exact Heap.lt_size a5
    have I2 : Inv X pins σ (upd H s.heap.objs.size (.tup [x, y])) { s with heap := h2 } :=
      Inv.turnedL (s := { s with heap := s.heap.push { cls := .type "tuple", data := .seq #[u1, u2] } }) (h' := h2) (t' := s.toks) (fp := [z, TI, TO, i1, i2]) I1 (fun b hb => by
        obtain ⟨f0, fr⟩ := hf b hb
        exact ⟨by rw [aDq (Nat.ne_of_lt (lts b hb))]; exact f0, fr⟩) (fun b o hb e => by
        rcases Heap.get?_push_cases e with ⟨e1, e2⟩ | e
        . rw [e1, e2]; exact k2.extBut _ _ hzT hT
        . exact kk2 b o hb e)
    refine ⟨.ref s.heap.objs.size, _, I2, rfl, ⟨_, x, y, rfl, I.hok.fresh (Nat.le_refl _), rfl, fun xs' h => by rw [I.tuple_inj h hq1]; exact hx, fun ys' h => by rw [I.tuple_inj h hq2]; exact hy⟩, ?_, fun b hb => by rw [aDq (Nat.ne_of_lt (lts b hb))]; exact (hf b hb).1⟩
    obtain ⟨a1, a2, ⟨p, q, a3⟩, ⟨o4, a4, r4⟩, ⟨o5, a5, r5⟩⟩ := st'
    exact ⟨hz2, k2.extBut _ _ D.TIz a2, ⟨p, q, k2.extBut _ _ D.TOz a3⟩, ⟨o4, k2.extBut _ _ D.i1z a4, r4⟩, ⟨o5, k2.extBut _ _ D.i2z a5, r5⟩⟩
  done := by
    intro X hP hw hK hc i pins s σ H E I hf st hg
    subst hP hw hK
    obtain ⟨xs, hq1, hx⟩ := hg
    obtain ⟨its1, rv1, p1, _⟩ := I.tuple hq1
    have hl := rv1.length
    refine KZp.endZ (I.ok.hd hc) D st (show s.heap.IsTuple l1 its1.toArray from p1) (by simp; omega) fun h' kk => ⟨rfl, ?_⟩
    exact I.turnedL (t' := s.toks) (fp := [z, TI, TO, i1, i2]) hf fun b o hb e => by
      simp only [List.mem_cons, List.not_mem_nil, or_false, not_or] at hb
      exact kk b o hb.1 hb.2.2.1 hb.2.2.2.1 hb.2.2.2.2 e
  self := fun _ _ _ _ _ st h => wpAny_pyIter_zip st.zip h
section
variable {X : Cx}
def z5q (K : PySem.W.Frag) (t : TA) : TI := fun σ H R => t σ H fun vs H1 => ∃ a b, vs = [.ref a, .ref b] /\ (∃ xs, SqT K H1 a xs) /\ (∃ ys, SqT K H1 b ys) /\ R (Itz K a b) H1
theorem w3q {es : List Expr} {k : Nat} {tp : Pos} {a b : Expr} {t : TA} {p pos : Pos} (hg : Gl X "zip") (hm : X.mg "zip" = none) (ha : PA X [a, b] t) (h1 : b6q a = true) (h2 : b6q b = true) : PI X (.Tuple es k tp) (.Call (.Name "zip" p) [a, b] [] pos) (z5q X.K t) := by
  intro pins s σ H R I h
  have hs : starEach [a, b] X.env = (false, eval a X.env) :: starEach [b] X.env := aHq h1
  have hp : (backTo pos (starEach [b] X.env)).any (·.1) = false := by rw [aHq h2]; rfl
  refine Call_ (fKq I hg hm PyProof.Rows.boot_zip (PyProof.Rows.callWith_type1 (thn (ha pos pins s σ H _ I h) fun us s1 ⟨vs, H1, I1, r1, l1, l2, ev, ⟨xs, q1⟩, ⟨ys, q2⟩, q⟩ => ?_) hs hp))
  subst ev
  cases r1 with
  | cons r rr =>
    cases rr with
    | cons r' rr =>
      cases rr
      cases r
      cases r'
      obtain ⟨its1, rv1, p1, _⟩ := I1.tuple q1
      obtain ⟨its2, rv2, p2, _⟩ := I1.tuple q2
      refine KZp.callZ (show s1.heap.IsTuple l1 its1.toArray from p1) (show s1.heap.IsTuple l2 its2.toArray from p2) fun h' st kk => wpAny_pyIter_zip st.zip ?_
      have b1 := p1.lt
      have b2 := p2.lt
      have D : ZipApart (s1.heap.objs.size + 4) (s1.heap.objs.size + 2) (s1.heap.objs.size + 3) s1.heap.objs.size (s1.heap.objs.size + 1) l1 l2 := apart _ _ _ b1 b2
      refine ⟨s1.heap.objs.size + 4, _, _, _, H1, rfl, I1.kept (t' := s1.toks) kk, pKq D, st, fun b hb => ?_, q⟩
      have hb' : s1.heap.objs.size <= b := by
        simp only [List.mem_cons, List.not_mem_nil, or_false] at hb
        rcases hb with e | e | e | e | e <;> (rw [e]; first | exact Nat.le_refl _ | exact Nat.le_add_right _ _)
      exact I1.fpOk hb' (I1.hok.fresh hb')
theorem uDq {es : List Expr} {k : Nat} {tp : Pos} {a b : Expr} {t : TA} {p pos : Pos} (hg : Gl X "zip") (hm : X.mg "zip" = none) (ha : JA X [a, b] t) (h1 : b6q a = true := by rfl) (h2 : b6q b = true := by rfl) : JI X (.Tuple es k tp) (.Call (.Name "zip" p) [a, b] [] pos) (z5q X.K t) := ⟨w3q hg hm ha.run h1 h2⟩
end
def fzn (o : Obj) : HO := .frz o (.ext fun _ => True)
def less (H : Hp) (as : List Addr) : Hp := fun b => if b ∈ as then none else H b
def more (H : Hp) (as : List Addr) (H0 : Hp) : Hp := fun b => if b ∈ as then H0 b else H b
theorem gGq {H : Hp} {as : List Addr} {b : Addr} (h : b ∈ as) : less H as b = none := by unfold less; rw [if_pos h]
theorem b2q {H : Hp} {as : List Addr} {b : Addr} (h : b ∉ as) : less H as b = H b := by unfold less; rw [if_neg h]
theorem g8q {H H0 : Hp} {as : List Addr} {b : Addr} (h : b ∈ as) : more H as H0 b = H0 b := by unfold more; rw [if_pos h]
theorem cEq {H H0 : Hp} {as : List Addr} {b : Addr} (h : b ∉ as) : more H as H0 b = H b := by unfold more; rw [if_neg h]
theorem cQq {H : Hp} {as : List Addr} {b : Addr} (h : H b = none) : less H as b = none := by unfold less; split <;> first | rfl | exact h
section
variable {P : Program} {w : World} {H H' : Hp} {h h' : Heap} {as : List Addr}
def Frz (H : Hp) (as : List Addr) : Prop := ∀ a ∈ as, ∃ o, H a = some (fzn o)
theorem dLq {a : Addr} {o : Obj} (ok : HOk P w H h) (e : H a = some (fzn o)) : h.get? a = some o := (ok a _ e).1
theorem jPq {a : Addr} {o : Obj} (e : h.get? a = some o) : ObjOk P w H h a (fzn o) := ⟨e, trivial, ⟨o, e⟩, fun _ _ _ _ => trivial⟩
theorem HOk.less (ok : HOk P w H h) (fz : Frz H as) : HOk P w (less H as) h := fun b u e => by
  have hb : b ∉ as := fun z => by rw [gGq z] at e; cases e
  rw [b2q hb] at e
  refine (ok b u e).stay (fun c v _ q => q) (fun c q => ?_) fun c xs q => ?_
  . rw [b2q fun z => ?_]; exact q
    obtain ⟨o, z⟩ := fz c z; rw [q] at z; cases z
  . rw [b2q fun z => ?_]; exact q
    obtain ⟨o, z⟩ := fz c z; rw [q] at z; cases z
theorem HOk.more {H0 : Hp} (ok : HOk P w H' h') (no : ∀ a ∈ as, H' a = none) (fz : ∀ a ∈ as, ∃ o, H0 a = some (fzn o) /\ h'.get? a = some o) : HOk P w (more H' as H0) h' := fun b u e => by
  by_cases hb : b ∈ as
  . obtain ⟨o, e1, e2⟩ := fz b hb
    rw [g8q hb, e1] at e
    cases e
    exact jPq e2
  . rw [cEq hb] at e
    refine (ok b u e).stay (fun c v _ q => q) (fun c q => ?_) fun c xs q => ?_
    . rw [cEq fun z => ?_]; exact q
      rw [no c z] at q; cases q
    . rw [cEq fun z => ?_]; exact q
      rw [no c z] at q; cases q
theorem Un.more {fs : List Addr} (u : Un fs [] (less H as) H' h h') (ok : HOk P w H h) (fz : Frz H as) (nf : ∀ a ∈ as, a ∉ fs) : Un fs [] H (more H' as H) h h' where
  keep := fun b o e n hb hx => by
    exact u.keep b o e (cQq n) hb hx
  slot := fun b o e n hb hx => u.slot b o e (cQq n) hb hx
  free := fun b o e n hx => by
    have hb : b ∉ as := fun z => by obtain ⟨o', z⟩ := fz b z; rw [n] at z; cases z
    rw [cEq hb]; exact u.free b o e (cQq n) hx
  there := fun b o e hx => u.there b o e hx
  tups := fun b xs e => by
    have hb : b ∉ as := fun z => by obtain ⟨o', z⟩ := fz b z; rw [e] at z; cases z
    rw [cEq hb]; exact u.tups b xs (by rw [b2q hb]; exact e)
  frzs := fun b o v e => by
    by_cases hb : b ∈ as
    . rw [g8q hb]; exact e
    . rw [cEq hb]; exact u.frzs b o v (by rw [b2q hb]; exact e)
  tbls := fun b ps e => by
    have hb : b ∉ as := fun z => by obtain ⟨o', z⟩ := fz b z; rw [e] at z; cases z
    rw [cEq hb]; exact u.tbls b ps (by rw [b2q hb]; exact e)
end
structure CloScope (N ps fr : List Str) (sc : Scope) : Prop where
  kind : sc.kind = .function
  co : sc.isCoroutine = false
  gen : sc.isGenerator = false
  nd : N.Nodup
  pre : N.take ps.length = ps
  suf : N.drop (N.length - fr.length) = fr
  len : ps.length + fr.length <= N.length
  par : ∀ x ∈ ps, sc.names.lookup x = some .local
  nocell : ∀ y ∈ sc.names, y.2 ≠ .cell
  free : ∀ y ∈ sc.names, y.2 = .free -> y.1 ∈ fr
  fvis : ∀ x ∈ fr, sc.names.lookup x = some .free
structure CloAt (H : Hp) (f : Addr) (name qual : Str) (st : Stmt) (cl : List (Str × Addr)) (fvs : List V) : Prop where
  fn : ∃ (oc : Value) (od : Option Addr) (doc pm cdv ct : Value) (sl : Array (Option Value)), H f = some (fzn ⟨oc, od, .func (PySem.W.fnX name qual (aKq st) (aGq st) (a3q st) cl .none .none doc pm none cdv ct), sl⟩) ∧
    ∃ c o vs t, cdv = .ref c /\ H c = some (fzn o) /\ o.data = .fields vs /\ vs[1]? = some (.str qual t)
  cells : ∀ (i : Nat) (x : Str) (c : Addr), cl[i]? = some (x, c) -> ∃ v u o, fvs[i]? = some v /\ RelV v u /\ H c = some (fzn o) /\ o.data = .cell (some u)
  len : cl.length = fvs.length
  nda : (cl.map (·.2)).Nodup
structure CloOk (P : Program) (w : World) (K : PySem.W.Frag) (mg : Str -> Option Value) (base : Heap) (k : Nat) (name qual : Str) (st : Stmt) (fr : List Str) (fvs : List V) (ps : List Str) (sp : Sp) : Prop where
  len : ∀ vs H Q E, sp vs H Q E -> vs.length = ps.length
  run : ∀ (A : Around) (outer : List Env) (s : Shared) (H : Hp) (f : Addr) (cl : List (Str × Addr)) (us : List Value) (vs : List V) (Q : VK) (E : XK), Room k A -> Env0 P w K mg base A outer s H -> CloAt H f name qual st cl fvs -> cl.map (·.1) = fr -> Vals vs us -> sp vs H Q E →
    codeAny (model P w) A (.call (.ref f) ⟨us, []⟩) (CR CX0 outer P w H s Q E) s
def jYq (P : Program) (w : World) (K : PySem.W.Frag) (mg : Str -> Option Value) (base : Heap) (N : List Str) (qual : Str) (scope : Scope) (f : Addr) (cd : Value) (cl : List (Str × Addr)) (A : Around) (outer : List Env) (s : Shared) (H : Hp) : Cx where
  prog := P
  w := w
  K := K
  mg := mg
  base := base
  A := A.deeper (PySem.W.envX qual scope s.heap.objs.size f cd cl)
  N := N
  s₀ := s
  H₀ := H
  env := PySem.W.envX qual scope s.heap.objs.size f cd cl
  outer := outer
  stack := PySem.W.envX qual scope s.heap.objs.size f cd cl :: outer
  ex := []
  calm := true
  fn := fun _ => false
  pn := []
  xe := fun _ _ => False
def dOq (N : List Str) (vs fvs : List V) : St := vs.map some ++ List.replicate (N.length - vs.length - fvs.length) none ++ fvs.map some
theorem gUq {l : List (Str × Value)} (nd : (l.map (·.1)).Nodup) {x : Str} {u : Value} (h : (x, u) ∈ l) : l.reverse.lookup x = some u := by
  have nd' : (l.reverse.map (·.1)).Nodup := by rw [List.map_reverse]; exact List.pairwise_reverse.mpr (List.Pairwise.imp (fun h => Ne.symm h) nd)
  have h' : (x, u) ∈ l.reverse := List.mem_reverse.mpr h
  generalize l.reverse = m at nd' h'
  induction m with
  | nil => cases h'
  | cons y r ih =>
    rw [List.map_cons, List.nodup_cons] at nd'
    rcases List.mem_cons.mp h' with e | e
    . subst e; simp
    . have ne : x ≠ y.1 := fun z => nd'.1 (by rw [<- z]; exact List.mem_map_of_mem e)
      rw [List.lookup_cons, beq_false_of_ne ne]
      exact ih nd'.2 e
section
variable {P : Program} {w : World} {K : PySem.W.Frag} {mg : Str -> Option Value} {base : Heap} {k : Nat} {name qual : Str} {st : Stmt} {fr : List Str} {fvs : List V} {N ps : List Str} {sp : Sp}
theorem CloAt.frz {H : Hp} {f : Addr} {cl : List (Str × Addr)} (C : CloAt H f name qual st cl fvs) : Frz H (cl.map (·.2)) := fun a ha => by
  obtain ⟨⟨x, c⟩, hm, rfl⟩ := List.mem_map.mp ha
  obtain ⟨i, hi, e⟩ := List.getElem_of_mem hm
  obtain ⟨_, _, o, _, _, z, _⟩ := C.cells i x c (by rw [List.getElem?_eq_getElem hi, e])
  exact ⟨o, z⟩
theorem kSq : ∀ {l : List (Str × Addr)} {x y : Str} {c : Addr}, (l.map (·.2)).Nodup -> (x, c) ∈ l -> (y, c) ∈ l -> x = y
  | q :: l, x, y, c, nd, h1, h2 => by
    rw [List.map_cons, List.nodup_cons] at nd
    rcases List.mem_cons.mp h1 with e1 | e1 <;> rcases List.mem_cons.mp h2 with e2 | e2
    . rw [<- e1] at e2; cases e2; rfl
    . exact absurd (List.mem_map_of_mem (f := (·.2)) e2) (by rw [<- e1] at nd; exact nd.1)
    . exact absurd (List.mem_map_of_mem (f := (·.2)) e1) (by rw [<- e2] at nd; exact nd.1)
    . exact kSq nd.2 e1 e2
theorem sQq {f : Addr} {cd : Value} {cl : List (Str × Addr)} {A : Around} {outer : List Env} {s : Shared} {H : Hp} {us : List Value} {vs : List V} {h₁ : Heap} {tk : Nat} (S : CloScope N ps fr (a3q st)) (hd : A.handled = none) (e0 : Env0 P w K mg base A outer s H) (C : CloAt H f name qual st cl fvs)
    (hcl : cl.map (·.1) = fr) (hl : vs.length = ps.length) (r : Vals vs us) (hns : h₁.Ns s.heap.objs.size (fun x => (ps.zip us).reverse.lookup x)) (hk : ∀ b o, s.heap.get? b = some o -> h₁.get? b = some o) :
    Inv (jYq P w K mg base N qual (a3q st) f cd cl A outer s (less H (cl.map (·.2)))) [] (dOq N vs fvs) (less H (cl.map (·.2))) { s with heap := h₁, toks := tk } := by
  have noA : ∀ b : Addr, b ∉ ([] : List Addr) := fun b => by simp
  have frl : fr.length = fvs.length := by rw [<- hcl, List.length_map]; exact C.len
  have ndN : (cl.map (·.1)).Nodup := by rw [hcl, <- S.suf]; exact S.nd.sublist (List.drop_sublist _ _)
  have lk : ∀ {x : Str} {c : Addr}, (x, c) ∈ cl -> cl.lookup x = some c := fun hm => lookup_of_mem_nodup ndN hm
  have mem : ∀ {x : Str} {c : Addr}, cl.lookup x = some c -> (x, c) ∈ cl := fun h => PySem.mem_of_lookup h
  have cellAt : ∀ {x : Str} {c : Addr}, (x, c) ∈ cl -> ∃ i v u o, cl[i]? = some (x, c) /\ fvs[i]? = some v /\ RelV v u /\ H c = some (fzn o) /\ o.data = .cell (some u) := fun {x c} hm => by
    obtain ⟨i, hi, e⟩ := List.getElem_of_mem hm
    have e' : cl[i]? = some (x, c) := by rw [List.getElem?_eq_getElem hi, e]
    obtain ⟨v, u, o, z⟩ := C.cells i x c e'
    exact ⟨i, v, u, o, e', z⟩
  have isCell : ∀ {x : Str} {c : Addr}, (x, c) ∈ cl -> ∃ u, h₁.IsCell c (some u) := fun hm => by
    obtain ⟨i, v, u, o, _, _, _, z1, z2⟩ := cellAt hm
    exact ⟨u, o, hk _ _ (dLq e0.hok z1), z2⟩
  refine ⟨⟨e0.mod, S.kind, rfl, rfl, Nat.le_refl _, fun y z c h1 h2 => ?_, fun y hy => ?_, fun y c h _ => ?_, fun _ => hd, Around.frames_deeper e0.frames, .inr ⟨rfl, rfl⟩, fun b z => absurd z (noA b), fun b o e => ⟨(e0.bs b o e).1, cQq (e0.bs b o e).2⟩, e0.bsz, fun b _ _ => noA b, fun b z => absurd z (noA b), e0.funs, fun b hb => cQq (e0.frf b hb)⟩,
    rfl, e0.bare, Un.kept hk, ⟨_, hns, fun i y v h1 h2 h3 => ?_⟩, fun y c h => ?_, cQq (e0.hok.fresh (Nat.le_refl _)), fun y c h => gGq (List.mem_map_of_mem (mem h)), fun p hp => absurd (show p ∈ ([] : List (Addr × Obj)) from hp) (by simp), (e0.hok.less C.frz).kept hk, ?_⟩
  . exact kSq C.nda (mem h1) (mem h2)
  . have hy : (a3q st).names.lookup y = some .cell \/ (a3q st).names.lookup y = some .free := hy
    rcases hy with hy | hy
    . exact absurd rfl (S.nocell _ (PySem.mem_of_lookup hy))
    . have hf := S.free _ (PySem.mem_of_lookup hy) rfl
      rw [<- hcl] at hf
      obtain ⟨⟨x, c⟩, hm, e⟩ := List.mem_map.mp hf
      cases e
      exact ⟨c, lk hm⟩
  . exact absurd h (by simp [jYq])
  . have h1 : N[i]? = some y := h1
    have sl := S.len
    by_cases hi : i < vs.length
    . have ha : vs[i]? = some v := by
        unfold dOq at h2
        rw [List.append_assoc, List.getElem?_append_left (by simpa using hi), List.getElem?_map] at h2
        cases e : vs[i]? with
        | none => rw [e] at h2; cases h2
        | some a => rw [e] at h2; cases h2; rfl
      obtain ⟨u, hu, rv⟩ := r.get ha
      have hp : ps[i]? = some y := by rw [<- S.pre, List.getElem?_take_of_lt (by omega)]; exact h1
      have ndP : ps.Nodup := by rw [<- S.pre]; exact S.nd.sublist (List.take_sublist _ _)
      refine ⟨u, rv, .inl ⟨S.par y (List.mem_of_getElem? hp), ?_⟩⟩
      have hul : us.length = ps.length := by rw [<- r.length]; exact hl
      refine gUq (l := ps.zip us) ?_ ?_
      . rw [List.map_fst_zip (by omega)]; exact ndP
      . refine List.mem_of_getElem? (i := i) ?_
        rw [List.getElem?_zip_eq_some]; exact ⟨hp, hu⟩
    . have hi2 : N.length - fvs.length <= i := by
        unfold dOq at h2
        rcases Nat.lt_or_ge i (N.length - fvs.length) with z | z
        . rw [List.getElem?_append_left (by simp; omega), List.getElem?_append_right (by simpa using hi), List.getElem?_replicate] at h2
          split at h2 <;> cases h2
        . exact z
      have hf : fvs[i - (N.length - fvs.length)]? = some v := by
        unfold dOq at h2
        rw [List.getElem?_append_right (by simp; omega), List.getElem?_map] at h2
        have e1 : i - (List.map some vs ++ List.replicate (N.length - vs.length - fvs.length) none).length = i - (N.length - fvs.length) := by simp; omega
        rw [e1] at h2
        cases e : fvs[i - (N.length - fvs.length)]? with
        | none => rw [e] at h2; cases h2
        | some a => rw [e] at h2; cases h2; rfl
      have hy : fr[i - (N.length - fvs.length)]? = some y := by
        rw [<- S.suf, List.getElem?_drop, frl, show N.length - fvs.length + (i - (N.length - fvs.length)) = i by omega]
        exact h1
      rw [<- hcl, List.getElem?_map] at hy
      cases e : cl[i - (N.length - fvs.length)]? with
      | none => rw [e] at hy; cases hy
      | some q =>
        obtain ⟨x, c⟩ := q
        rw [e] at hy; cases hy
        obtain ⟨v', u, o, z1, z2, z3, z4⟩ := C.cells _ _ _ e
        rw [hf] at z1; cases z1
        have hm := List.mem_of_getElem? e
        refine ⟨u, z2, .inr ⟨.inr (S.fvis _ (by rw [<- hcl]; exact List.mem_map_of_mem hm)), c, lk hm, o, hk _ _ (dLq e0.hok z3), z4⟩⟩
  . obtain ⟨u, z⟩ := isCell (mem h)
    exact ⟨_, z⟩
  . have := S.len
    show (dOq N vs fvs).length = N.length
    simp only [dOq, List.length_append, List.length_map, List.length_replicate]; omega
theorem vLq (S : CloScope N ps fr (a3q st)) (len : ∀ vs H Q E, sp vs H Q E -> vs.length = ps.length)
    (hbind : ∀ (cl : List (Str × Addr)) (doc pm cdv ct : Value) (us : List Value), us.length = ps.length -> bindArgs (PySem.W.fnX name qual (aKq st) (aGq st) (a3q st) cl .none .none doc pm none cdv ct) ⟨us, []⟩ = pure (ps.zip us))
    (hbody : ∀ (f : Addr) (cdv : Value) (cl : List (Str × Addr)) (A : Around) (outer : List Env) (s : Shared) (H : Hp) (vs : List V) (Q : VK) (E : XK), Room k (A.deeper (PySem.W.envX qual (a3q st) s.heap.objs.size f cdv cl)) -> cl.map (·.1) = fr -> Frz H (cl.map (·.2)) -> sp vs H Q E →
      ∃ t, PSs (jYq P w K mg base N qual (a3q st) f cdv cl A outer s (less H (cl.map (·.2)))) (aGq st) t ∧
        t { nx := fun _ H' => (∀ a ∈ cl.map (·.2), H' a = none) -> Q .non (more H' (cl.map (·.2)) H), rt := fun v H' => (∀ a ∈ cl.map (·.2), H' a = none) -> Q v (more H' (cl.map (·.2)) H) } (dOq N vs fvs) (less H (cl.map (·.2)))) :
    CloOk P w K mg base (k + 1) name qual st fr fvs ps sp := by
  refine ⟨len, fun A outer s H f cl us vs Q E hr e0 C hcl r hsp => ?_⟩
  have hl := len _ _ _ _ hsp
  have lim : s.heap.NoLimit := e0.mod.nolimit.keeps fun b o e => (e0.bs b o e).1
  obtain ⟨oc, od, doc, pm, cdv, ct, sl, hf, c, o, vs', t', hcd, hc, hd, hv⟩ := C.fn
  have hul : us.length = ps.length := by rw [<- r.length]; exact hl
  have fz := C.frz
  refine codeAny_call_def (binds := ps.zip us) hr.depth (dLq e0.hok hf) rfl lim ⟨c, o, vs', t', hcd, dLq e0.hok hc, hd, hv⟩ rfl (.of_eq (hbind cl doc pm cdv ct us hul)) S.nocell (fun y hy => S.par y.1 (List.of_mem_zip (show (y.1, y.2) ∈ ps.zip us from hy)).1) (fun h₀ hns hk => ?_) S.co S.gen S.kind
  obtain ⟨t, ht, hq⟩ := hbody f cdv cl A outer s H vs Q E (hr.deeper _) hcl fz hsp
  have I := sQq (h₁ := h₀) (tk := s.toks + (ps.zip us).length) (cd := cdv) S hr.hd e0 C hcl hl r hns hk
  refine wpAny_mono (ht [] _ _ _ _ I hq) (fun fl s' hs => ?_) fun e s' hs => False.elim hs
  have nofs : ∀ a ∈ cl.map (·.2), a ∉ frs outer := fun a ha z => by
    obtain ⟨o', z'⟩ := fz a ha
    rw [e0.frf a z] at z'; cases z'
  have fin : ∀ {σ' : St} {H' : Hp} {v : V} {u : Value}, Inv (jYq P w K mg base N qual (a3q st) f cdv cl A outer s (less H (cl.map (·.2)))) [] σ' H' s' -> RelV v u -> ((∀ a ∈ cl.map (·.2), H' a = none) -> Q v (more H' (cl.map (·.2)) H)) -> CE outer P w H s Q u s' :=
    fun {σ' H' v u} J rv q => by
      have no : ∀ a ∈ cl.map (·.2), H' a = none := fun a ha => by
        obtain ⟨o', z⟩ := fz a ha
        exact J.base.free a o' (dLq e0.hok z) (gGq ha) (by simp [jYq])
      refine ⟨v, _, J.os, J.bare, J.base.more e0.hok fz nofs, J.hok.more no fun a ha => ?_, rv, q no⟩
      obtain ⟨o', z⟩ := fz a ha
      exact ⟨o', z, J.base.keep a o' (dLq e0.hok z) (gGq ha) (nofs a ha) (by simp [jYq])⟩
  cases fl with
  | ret u =>
    obtain ⟨v, σ', H', J, rv, q⟩ := hs
    exact fin J rv q
  | next =>
    obtain ⟨σ', H', J, q⟩ := hs
    exact fin (v := V.non) (u := Value.none) J rfl q
  | brk =>
    obtain ⟨_, _, _, q⟩ := hs
    exact False.elim q
  | cont =>
    obtain ⟨_, _, _, q⟩ := hs
    exact False.elim q
def qSq (i : Nat) (name qual : Str) (st : Stmt) (fr : List Str) (fvs : List V) (sp : Sp) (t : TA) : TE := fun σ H Q => ∃ f cl, σ[i]? = some (some (.ref f)) /\ CloAt H f name qual st cl fvs /\ cl.map (·.1) = fr /\ t σ H fun vs H1 => CloAt H1 f name qual st cl fvs /\ sp vs H1 Q E0
end
section
variable {X : Cx} {k j : Nat} {name qual : Str} {st : Stmt} {fr : List Str} {fvs : List V} {ps : List Str} {x : Str} {sp : Sp} {p pos : Pos} {e : Expr} {es : List Expr} {t : TA}
theorem CloAt.at' {H : Hp} {f : Addr} {cl : List (Str × Addr)} {P : Program} {w : World} {h : Heap} (C : CloAt H f name qual st cl fvs) (ok : HOk P w H h) : PySem.W.FnAt f h := by
  obtain ⟨oc, od, doc, pm, cdv, ct, sl, hf, _⟩ := C.fn
  exact ⟨oc, od, _, sl, dLq ok hf⟩
theorem yRq {i : Nat} (G : CloOk X.prog X.w X.K X.mg X.base k name qual st fr fvs ps sp) (hr : Room j X.A) (hk : k <= j) (hN : X.N[i]? = some x) (hv : Vis X.env.scope x) (ha : PA X (e :: es) t) (hd : (x == ("__debug__" : Str)) = false) (hcd : (x == ("__classdict__" : Str)) = false)
    (he : starEach (e :: es) X.env = (false, eval e X.env) :: starEach es X.env) (hpl : (backTo pos (starEach es X.env)).any (·.1) = false) :
    PE X (.Call (.Name x p) (e :: es) [] pos) (qSq i name qual st fr fvs sp t) := by
  intro pins s σ H Q I h
  obtain ⟨f, cl, e1, C, hcl, h⟩ := h
  refine wpAny_Call_Name_kw (thn (qJq (pos := p) hN hv hd hcd pins s σ H (fun v H1 => v = .ref f /\ H1 = H) I ⟨_, e1, rfl, rfl⟩) fun u s1 ⟨v, H1, I1, r1, ev, eH⟩ => ?_)
  subst ev eH
  obtain rfl : u = Value.ref f := r1
  refine PySem.W.callWith_F (C.at' I1.hok) (thn (ha pos pins s1 σ H1 _ I1 h) fun us s2 ⟨vs, H2, I2, r, C2, q⟩ => ⟨C2.at' I2.hok, ?_⟩) he hpl
  refine wpAny_call (codeAny_mono (G.run X.A X.stack s2 H2 f cl us vs Q E0 (hr.mono hk) I2.env0 C2 hcl r q) fun r s' hq => ?_)
  cases r with
  | error e => exact False.elim hq
  | ok fl =>
    cases fl with
    | ret u => exact I2.after hq
    | next => exact False.elim hq
    | brk => exact False.elim hq
    | cont => exact False.elim hq
end
def eVq (env : Env) (fr : List Str) : List (Str × Addr) := fr.map fun x => (x, (env.cells.lookup x).getD 0)
structure MadeAt (env : Env) (H : Hp) (f : Addr) (name qual : Str) (st : Stmt) (fr : List Str) : Prop where
  fn : ∃ (oc : Value) (od : Option Addr) (doc pm cdv ct : Value) (sl : Array (Option Value)), H f = some (fzn ⟨oc, od, .func (PySem.W.fnX name qual (aKq st) (aGq st) (a3q st) (eVq env fr) .none .none doc pm none cdv ct), sl⟩) ∧
    ∃ c o vs t, cdv = .ref c /\ H c = some (fzn o) /\ o.data = .fields vs /\ vs[1]? = some (.str qual t)
section
variable {X : Cx} {pins : List (Addr × Obj)} {σ : St} {H H2 : Hp} {s s' : Shared} {as : List Addr}
structure Plus (X : Cx) (H H2 : Hp) (as : List Addr) (h : Heap) : Prop where
  out : ∀ b, b ∉ as -> H2 b = H b
  no : ∀ a ∈ as, H a = none
  at' : ∀ a ∈ as, ∃ o, H2 a = some (fzn o) /\ h.get? a = some o
  nob : ∀ a ∈ as, X.base.get? a = none
  nof : ∀ a ∈ as, a ∉ frs X.stack
theorem Plus.ok (p : Plus X H H2 as s.heap) (ok : HOk X.prog X.w H s.heap) : HOk X.prog X.w H2 s.heap := fun b u e => by
  by_cases hb : b ∈ as
  . obtain ⟨o, e1, e2⟩ := p.at' b hb
    rw [e1] at e; cases e
    exact jPq e2
  . rw [p.out b hb] at e
    refine (ok b u e).stay (fun c v _ q => q) (fun c q => ?_) fun c xs q => ?_
    . rw [p.out c fun z => ?_]; exact q
      rw [p.no c z] at q; cases q
    . rw [p.out c fun z => ?_]; exact q
      rw [p.no c z] at q; cases q
theorem Plus.env0 (p : Plus X H H2 as s.heap) (I : Inv X pins σ H s) : Env0 X.prog X.w X.K X.mg X.base X.A X.stack s H2 := by
  have e0 := I.env0
  refine ⟨e0.frames, e0.mod, fun b o e => ⟨(e0.bs b o e).1, ?_⟩, e0.bsz, e0.funs, fun b hb => ?_, p.ok e0.hok, e0.bare⟩
  . rw [p.out b fun z => ?_]; exact (e0.bs b o e).2
    rw [p.nob b z] at e; cases e
  . rw [p.out b fun z => p.nof b z hb]; exact e0.frf b hb
theorem Plus.after {Q : VK} {u : Value} (p : Plus X H H2 as s.heap) (I : Inv X pins σ H s) (h : CE X.stack X.prog X.w H2 s (fun v H' => Q v (less H' as)) u s') : EP X pins σ Q u s' := by
  obtain ⟨v, H', os, bare, un, hok, r, q⟩ := h
  have fz : ∀ a ∈ as, ∃ o, H' a = some (fzn o) /\ s.heap.get? a = some o := fun a ha => by
    obtain ⟨o, e1, e2⟩ := p.at' a ha
    exact ⟨o, un.frzs a o _ e1, e2⟩
  refine I.after ⟨v, less H' as, os, bare, ⟨fun b o e n hb hx => ?_, fun b o e n hb hx => ?_, fun b o e n hx => ?_, fun b o e hx => un.there b o e hx, fun b xs e => ?_, fun b o x e => ?_, fun b ps e => ?_⟩, hok.less fun a ha => let ⟨o, e, _⟩ := fz a ha; ⟨o, e⟩, r, q⟩
  . by_cases z : b ∈ as
    . obtain ⟨o', e1, e2⟩ := fz b z
      rw [e] at e2; cases e2
      exact dLq hok e1
    . exact un.keep b o e (by rw [p.out b z]; exact n) hb hx
  . have z : b ∉ as := fun z => p.nof b z hb
    exact un.slot b o e (by rw [p.out b z]; exact n) hb hx
  . by_cases z : b ∈ as
    . exact gGq z
    . exact cQq (un.free b o e (by rw [p.out b z]; exact n) hx)
  . have z : b ∉ as := fun z => by rw [p.no b z] at e; cases e
    rw [b2q z]; exact un.tups b xs (by rw [p.out b z]; exact e)
  . have z : b ∉ as := fun z => by rw [p.no b z] at e; cases e
    rw [b2q z]; exact un.frzs b o x (by rw [p.out b z]; exact e)
  . have z : b ∉ as := fun z => by rw [p.no b z] at e; cases e
    rw [b2q z]; exact un.tbls b ps (by rw [p.out b z]; exact e)
end
def uAq (X : Cx) (name qual : Str) (st : Stmt) (fr : List Str) (ix : List Nat) (sp : Sp) (t : TA) : TE := fun σ H Q => t σ H fun vs H1 => ∃ (f : Addr) (fvs : List V), MadeAt X.env H1 f name qual st fr /\ (∀ (i j : Nat), ix[i]? = some j -> ∃ v, σ[j]? = some (some v) /\ fvs[i]? = some v) /\ fvs.length = fr.length ∧
  ∀ H2, (∀ b, b ∉ (eVq X.env fr).map (·.2) -> H2 b = H1 b) -> (∀ b ∈ (eVq X.env fr).map (·.2), H1 b = none) -> CloAt H2 f name qual st (eVq X.env fr) fvs -> sp vs H2 (fun v H' => Q v (less H' ((eVq X.env fr).map (·.2)))) E0
section
variable {X : Cx} {k j : Nat} {g : Addr} {fd : FuncData} {name qual : Str} {st : Stmt} {fr : List Str} {ix : List Nat} {ps : List Str} {x : Str} {sp : Sp} {p pos : Pos} {e : Expr} {es : List Expr} {t : TA}
theorem pNq (G : Got X.prog X.w X.K X.mg X.base k x ps sp) (hr : Room j X.A) (hk : k <= j) (hg : Gl X x) (ha : PA X (e :: es) t) (hdb : (x == ("__debug__" : Str)) = false) (ndf : fr.Nodup) (hix : ix.length = fr.length)
    (hfr : ∀ (i : Nat) (y : Str), fr[i]? = some y -> ∃ j, ix[i]? = some j /\ X.N[j]? = some y /\ X.env.scope.names.lookup y = some .cell /\ X.fn y = true)
    (he : starEach (e :: es) X.env = (false, eval e X.env) :: starEach es X.env) (hpl : (backTo pos (starEach es X.env)).any (·.1) = false) :
    PE X (.Call (.Name x p) (e :: es) [] pos) (uAq X name qual st fr ix sp t) := by
  intro pins s σ H Q I h
  obtain ⟨f, fd, F, hm, kp, b⟩ := G.ex
  refine wpAny_Call_Name_kw (hSq I hg hm ?_ hdb)
  refine PySem.W.callWith_K (h₀ := X.base) I.ok.mod.kin kp (thn (ha pos pins s σ H _ I h) fun us s1 ⟨vs, H1, I1, r, f', fvs, M, hv, hfl, q⟩ => ⟨I1.kIn, ?_⟩) he hpl
  have cells : ∀ (i : Nat) (y : Str), fr[i]? = some y -> ∃ v u c o, fvs[i]? = some v /\ RelV v u /\ X.env.cells.lookup y = some c /\ s1.heap.get? c = some o /\ o.data = .cell (some u) /\ H1 c = none /\ X.s₀.heap.objs.size <= c := fun i y hy => by
    obtain ⟨j, h1, h2, h3, h4⟩ := hfr i y hy
    obtain ⟨v, h5, h6⟩ := hv i j h1
    obtain ⟨m, _, hl⟩ := I1.loc
    obtain ⟨u, rv, lk⟩ := hl j y v h2 h5 (.inr (.inl h3))
    rcases lk with ⟨z, _⟩ | ⟨_, c, z1, o, z2, z3⟩
    . have z' : X.env.scope.names.lookup y = some .local := z
      rw [h3] at z'; cases z'
    . exact ⟨v, u, c, o, h6, rv, z1, z2, z3, I1.freeC y c z1, I1.ok.cab y c h4 z1⟩
  have mem : ∀ a ∈ (eVq X.env fr).map (·.2), ∃ i y, fr[i]? = some y /\ X.env.cells.lookup y = some a := fun a ha => by
    obtain ⟨q, hq, rfl⟩ := List.mem_map.mp ha
    obtain ⟨y, hy, rfl⟩ := List.mem_map.mp hq
    obtain ⟨i, hi, e1⟩ := List.getElem_of_mem hy
    have e2 : fr[i]? = some y := by rw [List.getElem?_eq_getElem hi, e1]
    obtain ⟨v, u, c, o, _, _, z1, _⟩ := cells i y e2
    exact ⟨i, y, e2, by rw [z1]; rfl⟩
  have atc : ∀ a ∈ (eVq X.env fr).map (·.2), ∃ o, s1.heap.get? a = some o /\ H1 a = none /\ X.s₀.heap.objs.size <= a := fun a ha => by
    obtain ⟨i, y, h1, h2⟩ := mem a ha
    obtain ⟨v, u, c, o, _, _, z1, z2, _, z3, z4⟩ := cells i y h1
    rw [h2] at z1; cases z1
    exact ⟨o, z2, z3, z4⟩
  let H2 : Hp := fun b => if b ∈ (eVq X.env fr).map (·.2) then (s1.heap.get? b).map fzn else H1 b
  have h2in : ∀ a ∈ (eVq X.env fr).map (·.2), ∀ o, s1.heap.get? a = some o -> H2 a = some (fzn o) := fun a ha o e => by
    show (if a ∈ (eVq X.env fr).map (·.2) then (s1.heap.get? a).map fzn else H1 a) = _
    rw [if_pos ha, e]; rfl
  have h2out : ∀ b, b ∉ (eVq X.env fr).map (·.2) -> H2 b = H1 b := fun b hb => if_neg hb
  have hno : ∀ b ∈ (eVq X.env fr).map (·.2), H1 b = none := fun b hb => let ⟨_, _, z, _⟩ := atc b hb; z
  have h2some : ∀ b u, H1 b = some u -> H2 b = some u := fun b u e => by
    rw [h2out b fun z => ?_]; exact e
    rw [hno b z] at e; cases e
  have p2 : Plus X H1 H2 ((eVq X.env fr).map (·.2)) s1.heap := by
    refine ⟨h2out, hno, fun a ha => ?_, fun a ha => ?_, fun a ha z => ?_⟩
    . obtain ⟨o, e, _⟩ := atc a ha
      exact ⟨o, h2in a ha o e, e⟩
    . obtain ⟨o, _, _, z⟩ := atc a ha
      exact Heap.get?_none_of_le (Nat.le_trans I1.ok.bsz z)
    . obtain ⟨o, _, _, z4⟩ := atc a ha
      obtain ⟨i, y, _, h2⟩ := mem a ha
      rcases List.mem_cons.mp (I1.stkSub a z) with e | e
      . exact I1.cne y a h2 e
      . obtain ⟨_, o', ho, _⟩ := I1.ok.funs.mem e
        exact absurd (Nat.lt_of_lt_of_le (Heap.lt_size ho) z4) (Nat.lt_irrefl _)
  have C : CloAt H2 f' name qual st (eVq X.env fr) fvs := by
    obtain ⟨oc, od, doc, pm, cdv, ct, sl, m1, c, o, vs', t', m2, m3, m4⟩ := M.fn
    refine ⟨⟨oc, od, doc, pm, cdv, ct, sl, h2some _ _ m1, c, o, vs', t', m2, h2some _ _ m3, m4⟩, fun i y c hi => ?_, ?_, ?_⟩
    . unfold eVq at hi
      rw [List.getElem?_map] at hi
      cases e1 : fr[i]? with
      | none => rw [e1] at hi; cases hi
      | some y' =>
        rw [e1] at hi; cases hi
        obtain ⟨v, u, c, o, z0, z1, z2, z3, z4, _⟩ := cells i _ e1
        refine ⟨v, u, o, z0, z1, ?_, z4⟩
        have e3 : (X.env.cells.lookup y).getD 0 = c := by rw [z2]; rfl
        refine h2in _ (List.mem_map_of_mem (f := (·.2)) (List.mem_map_of_mem (f := fun x => (x, (X.env.cells.lookup x).getD 0)) (List.mem_of_getElem? e1))) o ?_
        show s1.heap.get? ((X.env.cells.lookup y).getD 0) = some o
        rw [e3]; exact z3
    . rw [eVq, List.length_map]; exact hfl.symm
    . rw [eVq, List.map_map]
      refine List.pairwise_map.mpr (List.Pairwise.imp_of_mem (fun {a b} ha hb hab e => ?_) ndf)
      obtain ⟨i, hi, ea⟩ := List.getElem_of_mem ha
      obtain ⟨j', hj, eb⟩ := List.getElem_of_mem hb
      obtain ⟨_, _, ca, _, _, _, za, _⟩ := cells i a (by rw [List.getElem?_eq_getElem hi, ea])
      obtain ⟨_, _, cb, _, _, _, zb, _⟩ := cells j' b (by rw [List.getElem?_eq_getElem hj, eb])
      have e' : ca = cb := by
        have e2 : (X.env.cells.lookup a).getD 0 = (X.env.cells.lookup b).getD 0 := e
        rw [za, zb] at e2; exact e2
      exact hab (I1.ok.inj a b ca za (by rw [e']; exact zb))
  have hsp := q H2 h2out hno C
  have hl : us.length = ps.length := by rw [<- r.length]; exact F.len _ _ _ _ hsp
  have hb := b s1 us I1.kIn (by rw [List.append_nil]; exact hl)
  rw [List.append_nil] at hb
  refine wpAny_call (codeAny_mono (F.run X.A X.stack s1 H2 ⟨us, []⟩ us vs _ E0 (hr.mono hk) (p2.env0 I1) hb r hsp) fun rr s' hq => ?_)
  cases rr with
  | error e => exact False.elim hq
  | ok fl =>
    cases fl with
    | ret u => exact p2.after I1 hq
    | next => exact False.elim hq
    | brk => exact False.elim hq
    | cont => exact False.elim hq
end
def Tab (H : Hp) (T : Addr) (pos : Pos) (qual : Str) : Prop := ∃ ps, H T = some (.tbl ps) /\ TriplesOk ps.toList /\ (codeAmong pos ps.toList = none \/ ∃ c o vs t, codeAmong pos ps.toList = some (.ref c) /\ H c = some (fzn o) /\ o.data = .fields vs /\ vs[1]? = some (.str qual t))
def gWq (mg : Str -> Option Value) (h : Heap) : Prop := ∃ bm ob, mg "__builtins__" = some (.ref bm) /\ bm ≠ builtinsNs /\ bm ≠ mainGlobals /\ h.get? bm = some ob /\ ob.cls = .type "module" /\ ob.dict = some builtinsNs /\ ob.data = .plain
section
variable {P : Program} {w : World} {H : Hp} {h h' : Heap} {T c : Addr} {ps mo : Array Value} {oc : Obj} {fs ex : List Addr}
theorem Un.tab (hT : H T = some (.tbl ps)) (hc : H c = none) (hge : h.objs.size <= c) (hx : Heap.ExtBut T h h') (ht : h'.get? T = some (PySem.W.tabObj (ps ++ mo))) : Un fs ex H (upd (upd H T (.tbl (ps ++ mo))) c (fzn oc)) h h' := by
  have nT : ∀ b u, H b = some u -> u ≠ .tbl ps -> b ≠ T := fun b u e n z => by rw [z, hT] at e; exact n (Option.some.inj e).symm
  have nT0 : ∀ b, H b = none -> b ≠ T := fun b e z => by rw [z, hT] at e; cases e
  have nc : ∀ b u, H b = some u -> b ≠ c := fun b u e z => by rw [z, hc] at e; cases e
  have nc0 : ∀ b o, h.get? b = some o -> b ≠ c := fun b o e => Nat.ne_of_lt (Nat.lt_of_lt_of_le (Heap.lt_size e) hge)
  refine ⟨fun b o e n _ _ => hx b o (nT0 b n) e, fun b o e n _ _ => ⟨o.slots, hx b o (nT0 b n) e⟩, fun b o e n _ => ?_, fun b o e _ => ?_, fun b xs e => ?_, fun b o u e => ?_, fun b qs e => ?_⟩
  . rw [aDq (nc0 b o e), aDq (nT0 b n)]; exact n
  . by_cases z : b = T
    . subst z; exact ⟨_, ht⟩
    . exact ⟨o, hx b o z e⟩
  . rw [aDq (nc b _ e), aDq (nT b _ e fun z => nomatch z)]; exact e
  . rw [aDq (nc b _ e), aDq (nT b _ e fun z => nomatch z)]; exact e
  . by_cases z : b = T
    . subst z
      rw [hT] at e; cases e
      exact ⟨mo, by rw [aDq (nc b _ hT), aQq]⟩
    . exact ⟨#[], by rw [aDq (nc b _ e), aDq z, e]; simp⟩
theorem HOk.tab (ok : HOk P w H h) (hT : H T = some (.tbl ps)) (hge : h.objs.size <= c) (hx : Heap.ExtBut T h h') (ht : h'.get? T = some (PySem.W.tabObj (ps ++ mo))) (hoc : h'.get? c = some oc) : HOk P w (upd (upd H T (.tbl (ps ++ mo))) c (fzn oc)) h' := fun b u e => by
  have hc : H c = none := ok.fresh hge
  have nT : ∀ b u, H b = some u -> u ≠ .tbl ps -> b ≠ T := fun b u e n z => by rw [z, hT] at e; exact n (Option.some.inj e).symm
  have nc : ∀ b u, H b = some u -> b ≠ c := fun b u e z => by rw [z, hc] at e; cases e
  by_cases h1 : b = c
  . subst h1; rw [aQq] at e; cases e; exact jPq hoc
  . rw [aDq h1] at e
    by_cases h2 : b = T
    . subst h2; rw [aQq] at e; cases e; exact ht
    . rw [aDq h2] at e
      refine (ok b u e).stay (fun d v hd q => hx d v ?_ q) (fun d q => ?_) fun d xs q => ?_
      . rcases hd with rfl | hd
        . exact h2
        . exact nT d _ hd fun z => nomatch z
      . rw [aDq (nc d _ q), aDq (nT d _ q fun z => nomatch z)]; exact q
      . rw [aDq (nc d _ q), aDq (nT d _ q fun z => nomatch z)]; exact q
end
def tDef (X : Cx) (i : Nat) (T : Addr) (name qual : Str) (st : Stmt) (fr : List Str) (pos : Pos) : TS := fun D σ H => Tab H T pos qual /\ ∀ f H', H f = none -> MadeAt X.env H' f name qual st fr -> Tab H' T pos qual -> (∀ b u, b ≠ T -> H b = some u -> H' b = some u) -> D.nx (σ.set i (some (.ref f))) H'
section
variable {X : Cx} {i : Nat} {T c : Addr} {name : Str} {params : Arguments} {body : List Stmt} {scope : Scope} {pos : Pos} {fr : List Str}
theorem w5q (hN : X.N.Nodup) (hi : X.N[i]? = some name) (hl : Loc X.env.scope name) (hcode : X.env.code = .ref c) (hC : PySem.W.CodeHd X.base c T) (hB : gWq X.mg X.base)
    (hcl : closureFor scope X.env = pure (eVq X.env fr)) (hd0 : params.defaults = []) (hk0 : params.kw_defaults = []) (ha : annTrees params none X.env = [])
    (hf : X.fn name = true \/ X.env.scope.names.lookup name = some .local) :
    PS X (.FunctionDef name params body [] none [] scope none name pos) (tDef X i T name (qualnameIn X.env name name) (.FunctionDef name params body [] none [] scope none name pos) fr pos) := by
  intro pins s σ H D I h
  obtain ⟨⟨ps, hT, ht, hcase⟩, h⟩ := h
  have hTh : s.heap.get? T = some (PySem.W.tabObj ps) := I.hok T _ hT
  have C := hC.keeps I.bk
  have hg : s.heap.Ns mainGlobals X.mg := I.ok.mod.glob.keeps I.bk
  obtain ⟨bm, ob, b1, b2, b3, b4, b5, b6, b7⟩ := hB
  have hbm : bm ≠ T := fun z => by
    have e := I.bk _ _ b4
    rw [z, hTh] at e; cases e; cases b5
  have hgT : mainGlobals ≠ T := fun z => by
    obtain ⟨o, es, ep, e, hd, _⟩ := hg
    rw [z, hTh] at e; cases e; cases hd
  have BA : s.heap.BuiltinsAt X.mg T := ⟨bm, ob, b1, b2, b3, hbm, I.bk _ _ b4, b5, b6, b7⟩
  refine PySem.W.nestDef_K hd0 hk0 ha ?_
  rcases hcase with hn | ⟨c', o, vs, t, hc', hHc, hd, hv⟩
  . refine PySem.W.makeFunction_K (mg := X.mg) hcl I.ok.glob hg hcode C hTh ht hn hgT BA fun c' ctv doc h' tk hx hge hlt hrec htb => ?_
    obtain ⟨c2, oc, vs, t, e2, hoc, hd, hv⟩ := hrec
    cases e2
    have I1 : Inv X pins σ (upd (upd H T (.tbl (ps ++ #[rawInt pos.line, rawInt pos.col, .ref c']))) c' (fzn oc)) { s with heap := h', toks := tk } :=
      I.un (Un.tab hT (I.hok.fresh hge) hge hx htb) (I.hok.tab hT hge hx htb hoc)
    have I2 := I1.laid (a := h'.objs.size) (o := fzn (PySem.W.fnMade name (qualnameIn X.env name name) params body scope (eVq X.env fr) doc ((X.mg "__name__").getD .none) c' ctv)) (t' := tk) (h' := h'.push (PySem.W.fnMade name (qualnameIn X.env name name) params body scope (eVq X.env fr) doc ((X.mg "__name__").getD .none) c' ctv)) (fun b u e => Heap.get?_push_of_some _ e) (Nat.le_refl _) (jPq (Heap.get?_push_size _ rfl))
    have hfn : H h'.objs.size = none := I.hok.fresh (Nat.le_of_lt (Nat.lt_of_le_of_lt hge hlt))
    have ncf : c' ≠ h'.objs.size := Nat.ne_of_lt hlt
    have nTf : T ≠ h'.objs.size := fun z => by rw [z, hfn] at hT; cases hT
    have nTc : T ≠ c' := fun z => by rw [z, I.hok.fresh hge] at hT; cases hT
    refine fSq (v := .ref h'.objs.size) I2 hN hi hl rfl (fun s' I3 => ⟨_, _, I3, h _ _ hfn ⟨⟨_, _, doc, _, _, ctv, _, aQq, c', oc, vs, t, rfl, ?_, hd, hv⟩⟩ ⟨ps ++ #[rawInt pos.line, rawInt pos.col, .ref c'], ?_, ?_, .inr ⟨c', oc, vs, t, by rw [Array.toList_append]; exact codeAmong_snoc _ ht hn, ?_, hd, hv⟩⟩ fun b u hb e => ?_⟩) hf
    . rw [aDq ncf, aQq]
    . rw [aDq nTf, aDq nTc, aQq]
    . rw [Array.toList_append]; exact TriplesOk_snoc _ _ _ _ ht
    . rw [aDq ncf, aQq]
    . rw [aDq (fun z => by rw [z, hfn] at e; cases e), aDq (fun z => by rw [z, I.hok.fresh hge] at e; cases e), aDq hb]; exact e
  . refine PySem.W.makeFunction_hit (mg := X.mg) hcl I.ok.glob hg hcode C hTh ht hc' BA fun ctv doc h' tk hk hsz => ?_
    have hfn : H h'.objs.size = none := I.hok.fresh hsz
    have I2 := I.laid (a := h'.objs.size) (o := fzn (PySem.W.fnMade name (qualnameIn X.env name name) params body scope (eVq X.env fr) doc ((X.mg "__name__").getD .none) c' ctv)) (t' := tk) (h' := h'.push (PySem.W.fnMade name (qualnameIn X.env name name) params body scope (eVq X.env fr) doc ((X.mg "__name__").getD .none) c' ctv)) (fun b u e => Heap.get?_push_of_some _ (hk b u e)) hsz (jPq (Heap.get?_push_size _ rfl))
    have keep : ∀ b u, H b = some u -> upd H h'.objs.size (fzn (PySem.W.fnMade name (qualnameIn X.env name name) params body scope (eVq X.env fr) doc ((X.mg "__name__").getD .none) c' ctv)) b = some u := fun b u e => by
      rw [aDq (fun z => by rw [z, hfn] at e; cases e)]; exact e
    exact fSq (v := .ref h'.objs.size) I2 hN hi hl rfl (fun s' I3 => ⟨_, _, I3, h _ _ hfn ⟨⟨_, _, doc, _, _, ctv, _, aQq, c', o, vs, t, rfl, keep _ _ hHc, hd, hv⟩⟩ ⟨ps, keep _ _ hT, ht, .inr ⟨c', o, vs, t, hc', keep _ _ hHc, hd, hv⟩⟩ fun b u _ e => keep b u e⟩) hf
end
structure EntryT (tabs : List (Addr × Addr)) (K : PySem.W.Frag) (a : Addr) (H : Hp) : Prop where
  only : ∀ b, H b = none \/ (∃ o xs, H b = some (.frz o (.lst xs))) \/ (b ∈ tabs.map (·.2) /\ H b = some (.tbl #[]))
  tab : ∀ q ∈ tabs, H q.2 = some (.tbl #[])
def n7q (tabs : List (Addr × Addr)) (K : PySem.W.Frag) (a : Addr) (o : Obj) (xs : List V) : Hp := fun b =>
  if b ∈ tabs.map (·.2) then some (.tbl #[]) else if b = a then (if (K.lookup a).isSome then none else some (.frz o (.lst xs))) else none
section
variable {P : Program} {w : World} {K : PySem.W.Frag} {mg mb : Str -> Option Value} {k : Nat} {fa a : Addr} {fd : FuncData} {x : Str} {sp : Sp} {s₁ : Shared} {vs : List Value} {ns : List Int} {tabs : List (Addr × Addr)}
theorem n1q (KX : K.In s₁.heap) (hns : s₁.heap.Ns mainGlobals mg) (hb : s₁.heap.Ns builtinsNs mb) (hbb : ∀ x : Str, x ≠ "__name__" -> mb x = bootBuiltins x) (hlim : s₁.heap.NoLimit) (hg : s₁.gens = #[])
    (ha : s₁.heap.get? a = some { cls := .type "list", data := .seq vs.toArray }) (hi : IntsAre vs ns) (hl : ns.length <= sizeLine) (hr : Room k callerA)
 (hT : PySem.W.TabsAt tabs s₁.heap) (hK : PySem.W.noTabs K = true) (hB : gWq mg s₁.heap)
    (F : ∀ base : Heap, K.In base -> base.Ns mainGlobals mg -> (∀ q ∈ tabs, PySem.W.CodeHd base q.1 q.2) -> gWq mg base -> FnOk P w K mg base CX0 k fa fd [x] sp) (hbind : ∀ (s : Shared) (u : Value), BindsTo s fd ⟨[u], []⟩ [(x, u)])
    (hsp : ∀ H : Hp, EntryT tabs K a H -> SqL K H a (ns.map V.int) -> sp [.ref a] H (fun v _ => v = .bl true) fun _ _ _ => False) :
    codeAny (model P w) callerA (.call (.ref fa) ⟨[.ref a], []⟩) (fun r s' => r = .ok (.ret (.bool true)) /\ OldK s₁.heap s'.heap /\ s'.os = s₁.os /\ AllBare s'.gens) s₁ := by
  generalize hO : ({ cls := .type "list", data := .seq vs.toArray } : Obj) = oA at ha
  have dA : oA.data = .seq vs.toArray 0 /\ oA.cls = .type "list" /\ oA.dict = none := by rw [<- hO]; exact ⟨rfl, rfl, rfl⟩
  have rv := j2q hi
  have tabAt : ∀ b ∈ tabs.map (·.2), s₁.heap.get? b = some (PySem.W.tabObj #[]) := fun b hb => by
    obtain ⟨q, hq, rfl⟩ := List.mem_map.mp hb
    exact (hT q hq).2
  have aT : a ∉ tabs.map (·.2) := fun z => by
    have e := tabAt a z
    rw [ha] at e
    have := dA.2.1
    rw [Option.some.inj e] at this; cases this
  obtain ⟨H, eH⟩ : ∃ H, H = n7q tabs K a oA (ns.map V.int) := ⟨_, rfl⟩
  have inT : ∀ b ∈ tabs.map (·.2), H b = some (.tbl #[]) := fun b hb => by rw [eH]; exact if_pos hb
  have atA : H a = if (K.lookup a).isSome then none else some (.frz oA (.lst (ns.map V.int))) := by
    rw [eH]; unfold n7q; rw [if_neg aT, if_pos rfl]
  have off : ∀ b, b ∉ tabs.map (·.2) -> b ≠ a -> H b = none := fun b h1 h2 => by rw [eH]; unfold n7q; rw [if_neg h1, if_neg h2]
  have free : ∀ {b : Addr} {o : Obj}, s₁.heap.get? b = some o -> o ≠ PySem.W.tabObj #[] -> (b = a -> (K.lookup a).isSome = true) -> H b = none := fun {b o} e h1 h2 => by
    by_cases z : b ∈ tabs.map (·.2)
    . rw [tabAt b z] at e; exact absurd (Option.some.inj e).symm h1
    . by_cases y : b = a
      . subst y; rw [atA, if_pos (h2 rfl)]
      . exact off b z y
  have notA : ∀ {b : Addr} {o : Obj}, s₁.heap.get? b = some o -> o.cls ≠ .type "list" -> b ≠ a := fun {b o} e h1 z => by
    rw [z, ha] at e; exact h1 (by rw [<- Option.some.inj e]; exact dA.2.1)
  have get : ∀ {b : Addr} {o : Obj}, s₁.heap.get? b = some o -> H b = none -> (oOq s₁.heap H).get? b = some o := fun e n => oPq e n
  have nsK : ∀ {b : Addr} {m : Str -> Option Value}, s₁.heap.Ns b m -> (oOq s₁.heap H).Ns b m := fun {b m} ⟨o, es, ep, e, d, r⟩ =>
    ⟨o, es, ep, get e (free e (fun z => by rw [z] at d; cases d) fun z => by
      rw [z, ha] at e
      have d' := dA.1
      rw [Option.some.inj e, d] at d'; cases d'), d, r⟩
  have kb : K.In (oOq s₁.heap H) := fun b o e => get (KX b o e) (free (KX b o e) (fun z => by
      have h2 := List.all_eq_true.mp hK (b, o) (PySem.W.mem_of_lookupK e)
      subst z
      exact absurd (show false = true from h2) Bool.false_ne_true) fun z => by rw [<- z, e]; rfl)
  have cds : ∀ q ∈ tabs, PySem.W.CodeHd (oOq s₁.heap H) q.1 q.2 := fun q hq => by
    obtain ⟨o, us, file, tf, flags, tg, inF, text, tt, e1, r1, r2⟩ := (hT q hq).1
    refine ⟨o, us, file, tf, flags, tg, inF, text, tt, get e1 (free e1 (fun z => by rw [z] at r1; cases r1) fun z => absurd z (notA e1 (by rw [r1]; decide))), r1, r2⟩
  have bl : gWq mg (oOq s₁.heap H) := by
    obtain ⟨bm, ob, b1, b2, b3, b4, b5, b6⟩ := hB
    exact ⟨bm, ob, b1, b2, b3, get b4 (free b4 (fun z => by rw [z] at b5; cases b5) fun z => absurd z (notA b4 (by rw [b5]; decide))), b5, b6⟩
  have hok : HOk P w H s₁.heap := fun b u e => by
    by_cases z : b ∈ tabs.map (·.2)
    . rw [inT b z] at e; cases e; exact tabAt b z
    . by_cases y : b = a
      . subst y
        rw [atA] at e
        split at e
        . cases e
        . cases e
          refine ⟨ha, ?_⟩
          subst hO
          exact ⟨by rw [List.length_map]; exact hl, vs, _, rv, ha⟩
      . rw [off b z y] at e; cases e
  have ent : EntryT tabs K a H := ⟨fun b => by
    by_cases z : b ∈ tabs.map (·.2)
    . exact .inr (.inr ⟨z, inT b z⟩)
    . by_cases y : b = a
      . subst y
        cases hk : (K.lookup b).isSome with
        | true => exact .inl (by rw [atA, hk]; rfl)
        | false => exact .inr (.inl ⟨_, _, by rw [atA, hk]; rfl⟩)
      . exact .inl (off b z y), fun q hq => inT _ (List.mem_map_of_mem hq)⟩
  have sq : SqL K H a (ns.map V.int) := by
    cases hk : K.lookup a with
    | some o =>
      have e := KX a o hk
      rw [ha] at e
      obtain rfl := Option.some.inj e
      exact .inr ⟨_, vs.toArray, 0, hk, dA.2.1, dA.2.2, dA.1, by rw [List.size_toArray, hi.length]; exact hl, by simpa using rv⟩
    | none => exact .inl (.inr ⟨oA, by rw [atA, hk]; rfl⟩)
  have e0 : Env0 P w K mg (oOq s₁.heap H) callerA [] s₁ H := ⟨rfl, ⟨kb, nsK hns, ⟨mb, nsK hb, hbb⟩, let ⟨mc, h1, h2⟩ := hlim; ⟨mc, nsK h1, h2⟩⟩, fun b o e => sMq e, Nat.le_of_eq (lZq _ _), trivial, fun b hb => absurd (show b ∈ ([] : List Addr) from hb) (by simp), hok, .of_eq hg⟩
  refine codeAny_mono ((F _ kb (nsK hns) cds bl).run callerA [] s₁ H ⟨[.ref a], []⟩ [.ref a] [.ref a] _ _ hr e0 (hbind s₁ (.ref a)) (.cons rfl .nil) (hsp H ent sq)) fun r s' h => ?_
  match r, h with
  | .ok (.ret u), ⟨v, H', os, bare, un, hok', r', q⟩ =>
    obtain rfl : v = .bl true := q
    obtain rfl : u = Value.bool true := r'
    have no : ∀ b : Addr, b ∉ frs ([] : List Env) := fun b z => absurd (show b ∈ ([] : List Addr) from z) (by simp)
    refine ⟨rfl, ⟨fun b o e => ?_, fun b o e => un.there b o e (by simp)⟩, os, bare⟩
    rcases ent.only b with z | ⟨ob, xs, z⟩ | ⟨z, y⟩
    . exact .inl (un.keep b o e z (no b) (by simp))
    . refine .inl ?_
      have z2 := un.frzs b ob _ z
      obtain ⟨e1, _⟩ := hok b _ z
      rw [e] at e1; cases e1
      exact (hok' b _ z2).1
    . obtain ⟨mo, z2⟩ := un.tbls b _ y
      have e3 := tabAt b z
      rw [e] at e3
      obtain rfl := Option.some.inj e3
      obtain ⟨p, hp, rfl⟩ := List.mem_map.mp z
      exact .inr (.inl ⟨((hT p hp).1.tab (hT p hp).2).isCodeTable, rfl, #[], mo, rfl, hok' p.2 _ z2⟩)
end
theorem oSq {p : Program} {loose : List Str} {mean : ExcName -> Option Value} {mg mb : Str -> Option Value} {h : Heap} (T : Top p loose mean mg mb h) : gWq mg h := by
  obtain ⟨bm, ob, b1, b2, b3, b4, b5, b6⟩ := T.bmain
  refine ⟨bm, ob, b1, b2, fun z => ?_, b3, b4, b5, b6⟩
  obtain ⟨o, es, ep, e, hd, _⟩ := T.g
  rw [z, e] at b3; cases b3; rw [hd] at b6; cases b6
end L2
namespace L3
open PySem PySem.Spec L2
inductive D where
  | non | bl (b : Bool) | int (i : Int) | str (x : Str) | ref (a : Addr) | ty (n : String) | tup (ds : List D) | frl (ds : List D)
def FrL (K : PySem.W.Frag) (H : Hp) (a : Addr) (xs : List V) : Prop :=
  (∃ o, H a = some (.frz o (.lst xs))) \/ ∃ (o : Obj) (its : Array Value) (n : Nat), K.lookup a = some o /\ o.cls = .type "list" /\ o.dict = none /\ o.data = .seq its n /\ its.size <= sizeLine /\ Vals xs its.toList
theorem FrL.sq {K : PySem.W.Frag} {H : Hp} {a : Addr} {xs : List V} (h : FrL K H a xs) : SqL K H a xs := by
  rcases h with h | h
  . exact .inl (.inr h)
  . exact .inr h
mutual
def Abs (K : PySem.W.Frag) (H : Hp) : D -> V -> Prop
  | .non, v => v = .non
  | .bl b, v => v = .bl b
  | .int i, v => v = .int i
  | .str x, v => v = .str x
  | .ref a, v => v = .ref a
  | .ty n, v => v = .ty n
  | .tup ds, v => ∃ a vs, v = .ref a /\ SqT K H a vs /\ AbsL K H ds vs
  | .frl ds, v => ∃ a vs, v = .ref a /\ FrL K H a vs /\ AbsL K H ds vs
def AbsL (K : PySem.W.Frag) (H : Hp) : List D -> List V -> Prop
  | [], vs => vs = []
  | d :: ds, vs => ∃ v r, vs = v :: r /\ Abs K H d v /\ AbsL K H ds r
end
structure Mono (K : PySem.W.Frag) (H H' : Hp) : Prop where
  tp : ∀ a xs, SqT K H a xs -> SqT K H' a xs
  fr : ∀ a xs, FrL K H a xs -> FrL K H' a xs
  fz : ∀ a o, H a = some (fzn o) -> H' a = some (fzn o)
section
variable {K : PySem.W.Frag} {H H' : Hp}
mutual
theorem Abs.mono (h : Mono K H H') : ∀ {d : D} {v : V}, Abs K H d v -> Abs K H' d v
  | .non, _, r => r
  | .bl _, _, r => r
  | .int _, _, r => r
  | .str _, _, r => r
  | .ref _, _, r => r
  | .ty _, _, r => r
  | .tup _, _, ⟨a, vs, e, q, l⟩ => ⟨a, vs, e, h.tp a vs q, AbsL.mono h l⟩
  | .frl _, _, ⟨a, vs, e, q, l⟩ => ⟨a, vs, e, h.fr a vs q, AbsL.mono h l⟩
theorem AbsL.mono (h : Mono K H H') : ∀ {ds : List D} {vs : List V}, AbsL K H ds vs -> AbsL K H' ds vs
  | [], _, r => r
  | _ :: _, _, ⟨v, r, e, q, l⟩ => ⟨v, r, e, Abs.mono h q, AbsL.mono h l⟩
end
theorem AbsL.len : ∀ {ds : List D} {vs : List V}, AbsL K H ds vs -> vs.length = ds.length
  | [], _, r => by cases r; rfl
  | _ :: _, _, ⟨v, r, e, _, l⟩ => by subst e; simp [l.len]
theorem AbsL.append : ∀ {ds es : List D} {vs us : List V}, AbsL K H ds vs -> AbsL K H es us -> AbsL K H (ds ++ es) (vs ++ us)
  | [], _, _, _, r, s => by cases r; exact s
  | _ :: _, _, _, _, ⟨v, r, e, q, l⟩, s => by subst e; exact ⟨v, _, rfl, q, l.append s⟩
theorem AbsL.one {d : D} {v : V} (h : Abs K H d v) : AbsL K H [d] [v] := ⟨v, [], rfl, h, rfl⟩
theorem AbsL.get : ∀ {ds : List D} {vs : List V} {i : Nat} {d : D}, AbsL K H ds vs -> ds[i]? = some d -> ∃ v, vs[i]? = some v /\ Abs K H d v
  | [], _, _, _, _, e => by simp at e
  | _ :: _, _, 0, _, ⟨v, r, e', q, l⟩, e => by simp at e; subst e e'; exact ⟨v, rfl, q⟩
  | _ :: _, _, i + 1, d, ⟨v, r, e', q, l⟩, e => by
    subst e'
    obtain ⟨u, h1, h2⟩ := AbsL.get (i := i) (d := d) l (by simpa using e)
    exact ⟨u, by simpa using h1, h2⟩
theorem AbsL.take : ∀ {ds : List D} {vs : List V} (n : Nat), AbsL K H ds vs -> AbsL K H (ds.take n) (vs.take n)
  | _, _, 0, _ => by simp [AbsL]
  | [], _, n + 1, r => by cases r; simp [AbsL]
  | _ :: _, _, n + 1, ⟨v, r, e, q, l⟩ => by subst e; exact ⟨v, _, rfl, q, l.take n⟩
theorem AbsL.drop : ∀ {ds : List D} {vs : List V} (n : Nat), AbsL K H ds vs -> AbsL K H (ds.drop n) (vs.drop n)
  | _, _, 0, r => r
  | [], _, n + 1, r => by cases r; simp [AbsL]
  | _ :: _, _, n + 1, ⟨v, r, e, q, l⟩ => by subst e; exact l.drop n
theorem AbsL.set {d : D} {v : V} (h : Abs K H d v) : ∀ {ds : List D} {vs : List V} (i : Nat), AbsL K H ds vs -> AbsL K H (ds.set i d) (vs.set i v)
  | [], _, _, r => by cases r; simp [AbsL]
  | _ :: _, _, 0, ⟨u, r, e, q, l⟩ => by subst e; exact ⟨v, r, rfl, h, l⟩
  | _ :: _, _, i + 1, ⟨u, r, e, q, l⟩ => by subst e; exact ⟨u, _, rfl, q, l.set h i⟩
theorem AbsL.of_ints : ∀ (ns : List Int), AbsL K H (ns.map D.int) (ns.map V.int)
  | [] => rfl
  | n :: ns => ⟨_, _, rfl, rfl, AbsL.of_ints ns⟩
end
def cut {α : Type} (xs : List α) (lo hi : Option Int) : List α := (xs.drop (HT.sIx xs.length 0 lo)).take (HT.sIx xs.length xs.length hi - HT.sIx xs.length 0 lo)
theorem AbsL.cut {K : PySem.W.Frag} {H : Hp} {ds : List D} {vs : List V} (h : AbsL K H ds vs) (lo hi : Option Int) : AbsL K H (L3.cut ds lo hi) (lUq vs lo hi) := by
  have e := h.len
  rw [L3.cut, lUq, e]
  exact (h.drop _).take _
inductive DO where
  | lst (ds : List D)
  | ins (C : Addr) (fs : List (Str × D))
  | dK (kvs : List (Key × D))
  | dT (kvs : List (List Key × D))
  | tab (pos : Pos) (qual : Str) | made (env : Env) (name qual : Str) (st : Stmt) (fr : List Str) | clo (name qual : Str) (st : Stmt) (fr : List Str) (vals : List D)
abbrev DV := Addr -> Option DO
abbrev DSt := List (Option D)
def up (G : DV) (a : Addr) (o : DO) : DV := fun b => if b = a then some o else G b
theorem a2q {G : DV} {a : Addr} {o : DO} : up G a o a = some o := by unfold up; rw [if_pos rfl]
theorem a9q {G : DV} {a b : Addr} {o : DO} (h : b ≠ a) : up G a o b = G b := by unfold up; rw [if_neg h]
theorem c1q {G : DV} {a : Addr} {o u : DO} : up (up G a o) a u = up G a u := by funext b; unfold up; split <;> rfl
theorem oHq {G : DV} {a b : Addr} {o u : DO} (h : a ≠ b) : up (up G a o) b u = up (up G b u) a o := by
  funext c; unfold up; split <;> split <;> simp_all
theorem rTq {G : DV} {a : Addr} {o : DO} (h : G a = some o) : up G a o = G := by
  funext b; unfold up; split
  . next e => rw [e, h]
  . rfl
def AbsF {κ : Type} (K : PySem.W.Frag) (H : Hp) (fs : List (κ × D)) (gs : List (κ × V)) : Prop := fs.map (·.1) = gs.map (·.1) /\ AbsL K H (fs.map (·.2)) (gs.map (·.2))
def BearO (K : PySem.W.Frag) (H : Hp) (a : Addr) : DO -> Prop
  | .lst ds => ∃ vs, H a = some (.lst vs) /\ AbsL K H ds vs
  | .ins C fs => ∃ dx gs, H a = some (.ins C dx gs) /\ AbsF K H fs gs
  | .dK kvs => ∃ gs, H a = some (.dK gs) /\ AbsF K H kvs gs
  | .dT kvs => ∃ gs, H a = some (.dT gs) /\ AbsF K H kvs gs
  | .tab pos qual => Tab H a pos qual
  | .made env name qual st fr => MadeAt env H a name qual st fr
  | .clo name qual st fr vals => ∃ cl fvs, CloAt H a name qual st cl fvs /\ cl.map (·.1) = fr /\ AbsL K H vals fvs
def Vw (K : PySem.W.Frag) (G : DV) (H : Hp) : Prop := ∀ a o, G a = some o -> BearO K H a o
theorem BearO.some {K : PySem.W.Frag} {H : Hp} {a : Addr} {o : DO} (h : BearO K H a o) : ∃ u, H a = .some u := by
  cases o with
  | lst ds => obtain ⟨_, e, _⟩ := h; exact ⟨_, e⟩
  | ins C fs => obtain ⟨_, _, e, _⟩ := h; exact ⟨_, e⟩
  | dK kvs => obtain ⟨_, e, _⟩ := h; exact ⟨_, e⟩
  | dT kvs => obtain ⟨_, e, _⟩ := h; exact ⟨_, e⟩
  | tab pos qual => obtain ⟨_, e, _⟩ := h; exact ⟨_, e⟩
  | made env name qual st fr => obtain ⟨_, _, _, _, _, _, _, e, _⟩ := h.fn; exact ⟨_, e⟩
  | clo name qual st fr vals => obtain ⟨_, _, h, _⟩ := h; obtain ⟨_, _, _, _, _, _, _, e, _⟩ := h.fn; exact ⟨_, e⟩
theorem Vw.none {K : PySem.W.Frag} {G : DV} {H : Hp} (h : Vw K G H) {a : Addr} (e : H a = .none) : G a = .none := by
  cases q : G a with
  | none => rfl
  | some o => obtain ⟨u, z⟩ := (h a o q).some; rw [e] at z; cases z
theorem BearO.mono {K : PySem.W.Frag} {H H' : Hp} {a : Addr} {o : DO} (ht : Mono K H H') (e : H' a = H a) (h : BearO K H a o) : BearO K H' a o := by
  cases o with
  | lst ds => obtain ⟨vs, q, l⟩ := h; exact ⟨vs, by rw [e]; exact q, l.mono ht⟩
  | ins C fs => obtain ⟨dx, gs, q, l⟩ := h; exact ⟨dx, gs, by rw [e]; exact q, l.1, l.2.mono ht⟩
  | dK kvs => obtain ⟨gs, q, l⟩ := h; exact ⟨gs, by rw [e]; exact q, l.1, l.2.mono ht⟩
  | dT kvs => obtain ⟨gs, q, l⟩ := h; exact ⟨gs, by rw [e]; exact q, l.1, l.2.mono ht⟩
  | tab pos qual =>
    obtain ⟨ps, h1, h2, h3⟩ := h
    refine ⟨ps, by rw [e]; exact h1, h2, ?_⟩
    rcases h3 with h3 | ⟨c, o, vs, t, h3, h4, h5⟩
    . exact .inl h3
    . exact .inr ⟨c, o, vs, t, h3, ht.fz _ _ h4, h5⟩
  | made env name qual st fr =>
    obtain ⟨oc, od, doc, pm, cdv, ct, sl, h1, c, o, vs, t, h2, h3, h4⟩ := h.fn
    exact ⟨oc, od, doc, pm, cdv, ct, sl, ht.fz _ _ h1, c, o, vs, t, h2, ht.fz _ _ h3, h4⟩
  | clo name qual st fr vals =>
    obtain ⟨cl, fvs, C, h1, h2⟩ := h
    obtain ⟨oc, od, doc, pm, cdv, ct, sl, h3, c, o, vs, t, h4, h5, h6⟩ := C.fn
    exact ⟨cl, fvs, ⟨⟨oc, od, doc, pm, cdv, ct, sl, ht.fz _ _ h3, c, o, vs, t, h4, ht.fz _ _ h5, h6⟩, fun i x c hi => let ⟨v, u, o, z1, z2, z3, z4⟩ := C.cells i x c hi; ⟨v, u, o, z1, z2, ht.fz _ _ z3, z4⟩, C.len, C.nda⟩, h1, h2.mono ht⟩
structure Go (K : PySem.W.Frag) (G : DV) (H : Hp) (G' : DV) (H' : Hp) : Prop where
  tup : Mono K H H'
  dom : ∀ a o, H a = some o -> ∃ o', H' a = some o'
  same : ∀ a o, H a = some o -> G a = none -> H' a = some o
  new : ∀ a o, H a = some o -> G a = none -> G' a = none
  vw : Vw K G' H'
section
variable {K : PySem.W.Frag} {G G1 G2 G' : DV} {H H1 H2 H' : Hp}
theorem Go.refl (v : Vw K G H) : Go K G H G H := ⟨⟨fun _ _ h => h, fun _ _ h => h, fun _ _ h => h⟩, fun _ o e => ⟨o, e⟩, fun _ _ e _ => e, fun _ _ _ e => e, v⟩
theorem Go.trans (a : Go K G H G1 H1) (b : Go K G1 H1 G2 H2) : Go K G H G2 H2 :=
  ⟨⟨fun x xs h => b.tup.tp x xs (a.tup.tp x xs h), fun x xs h => b.tup.fr x xs (a.tup.fr x xs h), fun x o h => b.tup.fz x o (a.tup.fz x o h)⟩, fun x o e => let ⟨o', e'⟩ := a.dom x o e; b.dom x o' e', fun x o e n => b.same x o (a.same x o e n) (a.new x o e n),
   fun x o e n => b.new x o (a.same x o e n) (a.new x o e n), b.vw⟩
def Sub (G G' : DV) : Prop := ∀ a o, G a = some o -> G' a = some o
theorem Sub.refl (G : DV) : Sub G G := fun _ _ e => e
theorem Sub.trans {G G1 G2 : DV} (a : Sub G G1) (b : Sub G1 G2) : Sub G G2 := fun x o e => b x o (a x o e)
theorem Sub.none {G G' : DV} (h : Sub G G') {a : Addr} (e : G' a = .none) : G a = .none := by
  cases q : G a with
  | none => rfl
  | some o => rw [h a o q] at e; cases e
theorem Vw.sub (v : Vw K G' H) (h : Sub G G') : Vw K G H := fun a o e => v a o (h a o e)
theorem Go.sub (g : Go K G H G1 H1) (h : Sub G2 G1) : Go K G H G2 H1 := ⟨g.tup, g.dom, g.same, fun x o e n => h.none (g.new x o e n), g.vw.sub h⟩
theorem sVq {a p : Addr} {o : HO} {xs : List V} (hp : ∀ ys, ¬ Rd H p (.tup ys)) (h : SqT K H a xs) : SqT K (upd H p o) a xs := by
  rcases h with h | h
  . have ne : a ≠ p := by rintro rfl; exact hp _ h
    refine .inl ?_
    unfold Rd at h ⊢
    rw [aDq ne]; exact h
  . exact .inr h
theorem r6q {p : Addr} {ys : List V} (h : H p = none) : ¬ Rd H p (.tup ys) := by
  rintro (e | ⟨o, e⟩) <;> rw [h] at e <;> cases e
theorem tSq {p : Addr} {xs ys : List V} (h : H p = some (.lst xs)) : ¬ Rd H p (.tup ys) := by
  rintro (e | ⟨o, e⟩) <;> rw [h] at e <;> cases e
theorem i3q {p : Addr} {o : HO} (hp : ∀ ys, ¬ Rd H p (.tup ys)) (hl : ∀ o ys, H p ≠ some (.frz o ys)) : Mono K H (upd H p o) where
  tp := fun _ _ q => sVq hp q
  fr := fun a xs q => by
    rcases q with ⟨z, q⟩ | q
    . exact .inl ⟨z, by rw [aDq (by rintro rfl; exact hl _ _ q)]; exact q⟩
    . exact .inr q
  fz := fun a u q => by rw [aDq (by rintro rfl; exact hl _ _ q)]; exact q
theorem d9q {p : Addr} {o : HO} (h : H p = none) : Mono K H (upd H p o) := i3q (fun _ => r6q h) fun _ _ e => by rw [h] at e; cases e
theorem cCq {p : Addr} {o : HO} {xs : List V} (h : H p = some (.lst xs)) : Mono K H (upd H p o) := i3q (fun _ => tSq h) fun _ _ e => by rw [h] at e; cases e
theorem Go.newT (v : Vw K G H) {p : Addr} {o : HO} (h : H p = none) : Go K G H G (upd H p o) where
  tup := d9q h
  dom := fun a u e => ⟨u, by rw [aDq (aTq e h)]; exact e⟩
  same := fun a u e _ => by rw [aDq (aTq e h)]; exact e
  new := fun _ _ _ e => e
  vw := fun a u e => (v a u e).mono (d9q h) (aDq (by rintro rfl; obtain ⟨z, q⟩ := (v _ _ e).some; rw [h] at q; cases q))
theorem Go.newL (v : Vw K G H) {p : Addr} {ds : List D} {vs : List V} (h : H p = none) (r : AbsL K H ds vs) : Go K G H (up G p (.lst ds)) (upd H p (.lst vs)) where
  tup := d9q h
  dom := fun a u e => ⟨u, by rw [aDq (aTq e h)]; exact e⟩
  same := fun a u e _ => by rw [aDq (aTq e h)]; exact e
  new := fun a u e n => by rw [a9q (aTq e h)]; exact n
  vw := fun a u e => by
    by_cases c : a = p
    . subst c; rw [a2q] at e; cases e
      exact ⟨vs, aQq, r.mono (d9q h)⟩
    . rw [a9q c] at e
      exact (v a u e).mono (d9q h) (aDq c)
theorem Go.setL (v : Vw K G H) {p : Addr} {ds0 ds : List D} {vs : List V} (h : G p = some (.lst ds0)) (r : AbsL K H ds vs) : Go K G H (up G p (.lst ds)) (upd H p (.lst vs)) := by
  obtain ⟨us, hp, _⟩ := v p _ h
  exact {
    tup := cCq hp
    dom := fun a u e => by
      by_cases c : a = p
      . subst c; exact ⟨_, aQq⟩
      . exact ⟨u, by rw [aDq c]; exact e⟩
    same := fun a u e n => by
      have c : a ≠ p := by rintro rfl; rw [h] at n; cases n
      rw [aDq c]; exact e
    new := fun a u e n => by
      have c : a ≠ p := by rintro rfl; rw [h] at n; cases n
      rw [a9q c]; exact n
    vw := fun a u e => by
      by_cases c : a = p
      . subst c; rw [a2q] at e; cases e
        exact ⟨vs, aQq, r.mono (cCq hp)⟩
      . rw [a9q c] at e
        exact (v a u e).mono (cCq hp) (aDq c) }
theorem Go.grow (v : Vw K G H) (h : Same H H') : Go K G H G H' := by
  have ht : Mono K H H' := ⟨fun b xs q => by
    rcases q with q | q
    . rcases q with q | ⟨o, q⟩
      . exact .inl (.inl (h _ _ q))
      . exact .inl (.inr ⟨o, h _ _ q⟩)
    . exact .inr q, fun b xs q => by
    rcases q with ⟨o, q⟩ | q
    . exact .inl ⟨o, h _ _ q⟩
    . exact .inr q, fun b o q => h _ _ q⟩
  exact ⟨ht, fun a o e => ⟨o, h a o e⟩, fun a o e _ => h a o e, fun _ _ _ e => e, fun a u e => by
    obtain ⟨z, q⟩ := (v a u e).some
    exact (v a u e).mono ht (by rw [q]; exact h _ _ q)⟩
end
structure Bears (K : PySem.W.Frag) (ρ : DSt) (G : DV) (σ : St) (H : Hp) : Prop where
  len : ρ.length = σ.length
  st : ∀ (i : Nat) (d : D), ρ[i]? = some (some d) -> ∃ v, σ[i]? = some (some v) /\ Abs K H d v
  vw : Vw K G H
theorem Bears.go {K : PySem.W.Frag} {ρ : DSt} {G G' : DV} {σ : St} {H H' : Hp} (b : Bears K ρ G σ H) (g : Go K G H G' H') : Bears K ρ G' σ H' :=
  ⟨b.len, fun i d e => let ⟨v, h1, h2⟩ := b.st i d e; ⟨v, h1, h2.mono g.tup⟩, g.vw⟩
theorem Bears.set {K : PySem.W.Frag} {ρ : DSt} {G : DV} {σ : St} {H : Hp} {d : D} {v : V} (b : Bears K ρ G σ H) (h : Abs K H d v) (i : Nat) : Bears K (ρ.set i (some d)) G (σ.set i (some v)) H where
  len := by simp [b.len]
  vw := b.vw
  st := fun j e he => by
    by_cases c : j = i
    . subst c
      rw [List.getElem?_set] at he ⊢
      have l := b.len
      simp only [if_true] at he ⊢
      split at he
      . next q => rw [if_pos (by omega)]; simp at he; subst he; exact ⟨v, rfl, h⟩
      . cases he
    . rw [List.getElem?_set_ne (by omega)] at he ⊢
      exact b.st j e he
def StSub (ρ ρ' : DSt) : Prop := ρ.length = ρ'.length /\ ∀ (i : Nat) (d : D), ρ[i]? = some (some d) -> ρ'[i]? = some (some d)
theorem StSub.refl (ρ : DSt) : StSub ρ ρ := ⟨rfl, fun _ _ e => e⟩
theorem Bears.weak {K : PySem.W.Frag} {ρ ρ' : DSt} {G G' : DV} {σ : St} {H : Hp} (b : Bears K ρ' G' σ H) (s : StSub ρ ρ') (g : Sub G G') : Bears K ρ G σ H :=
  ⟨s.1.trans b.len, fun i d e => b.st i d (s.2 i d e), b.vw.sub g⟩
abbrev DK := D -> DV -> Prop
abbrev DTE := DSt -> DV -> DK -> Prop
abbrev DTT := DSt -> DV -> (Bool -> DV -> Prop) -> Prop
abbrev DTA := DSt -> DV -> (List D -> DV -> Prop) -> Prop
abbrev DTO := DSt -> DV -> (Option Int -> DV -> Prop) -> Prop
structure DEnds where
  nx : DSt -> DV -> Prop
  rt : DK
  bk : DSt -> DV -> Prop := fun _ _ => False
  ct : DSt -> DV -> Prop := fun _ _ => False
abbrev DTS := DEnds -> DSt -> DV -> Prop
abbrev Fin (K : PySem.W.Frag) (G : DV) (H : Hp) (DQ : DK) (Q : VK) : Prop := ∀ d G' v H', Go K G H G' H' -> Abs K H' d v -> DQ d G' -> Q v H'
abbrev xKq (K : PySem.W.Frag) (G : DV) (H : Hp) (DQ : Bool -> DV -> Prop) (Q : Bool -> Hp -> Prop) : Prop := ∀ b G' H', Go K G H G' H' -> DQ b G' -> Q b H'
abbrev FinO (K : PySem.W.Frag) (G : DV) (H : Hp) (DQ : Option Int -> DV -> Prop) (Q : Option Int -> Hp -> Prop) : Prop := ∀ b G' H', Go K G H G' H' -> DQ b G' -> Q b H'
abbrev FinL (K : PySem.W.Frag) (n : Nat) (G : DV) (H : Hp) (DQ : List D -> DV -> Prop) (Q : List V -> Hp -> Prop) : Prop := ∀ ds G' vs H', Go K G H G' H' -> AbsL K H' ds vs -> ds.length = n -> DQ ds G' -> Q vs H'
structure AE (X : Cx) (e : Expr) (t : DTE) : Prop where
  run : ∃ tc : TE, JE X e tc /\ ∀ ρ G DQ σ H Q, Bears X.K ρ G σ H -> t ρ G DQ -> Fin X.K G H DQ Q -> tc σ H Q
structure AT (X : Cx) (e : Expr) (t : DTT) : Prop where
  run : ∃ tc : TT, JT X e tc /\ ∀ ρ G DQ σ H Q, Bears X.K ρ G σ H -> t ρ G DQ -> xKq X.K G H DQ Q -> tc σ H Q
structure AW (X : Cx) (e : Expr) (t : DTT) : Prop where
  run : ∃ tc : TT, JW X e tc /\ ∀ ρ G DQ σ H Q, Bears X.K ρ G σ H -> t ρ G DQ -> xKq X.K G H DQ Q -> tc σ H Q
structure AA (X : Cx) (es : List Expr) (t : DTA) : Prop where
  run : ∃ tc : TA, JA X es tc /\ ∀ ρ G DQ σ H Q, Bears X.K ρ G σ H -> t ρ G DQ -> FinL X.K es.length G H DQ Q -> tc σ H Q
structure AO (X : Cx) (e : Option Expr) (t : DTO) : Prop where
  run : ∃ tc : TO, JO X e tc /\ ∀ ρ G DQ σ H Q, Bears X.K ρ G σ H -> t ρ G DQ -> FinO X.K G H DQ Q -> tc σ H Q
structure EndsOk (K : PySem.W.Frag) (G : DV) (H : Hp) (DD : DEnds) (Dc : Ends) : Prop where
  nx : ∀ ρ G' σ H', Go K G H G' H' -> Bears K ρ G' σ H' -> DD.nx ρ G' -> Dc.nx σ H'
  rt : Fin K G H DD.rt Dc.rt
  bk : ∀ ρ G' σ H', Go K G H G' H' -> Bears K ρ G' σ H' -> DD.bk ρ G' -> Dc.bk σ H'
  ct : ∀ ρ G' σ H', Go K G H G' H' -> Bears K ρ G' σ H' -> DD.ct ρ G' -> Dc.ct σ H'
structure AS (X : Cx) (st : Stmt) (t : DTS) : Prop where
  run : ∃ tc : TS, JS X st tc /\ ∀ DD Dc ρ G σ H, Bears X.K ρ G σ H -> t DD ρ G -> EndsOk X.K G H DD Dc -> tc Dc σ H
structure AB (X : Cx) (st : List Stmt) (t : DTS) : Prop where
  run : ∃ tc : TS, JB X st tc /\ ∀ DD Dc ρ G σ H, Bears X.K ρ G σ H -> t DD ρ G -> EndsOk X.K G H DD Dc -> tc Dc σ H
abbrev DTG := D -> DSt -> DV -> (DSt -> DV -> Prop) -> Prop
abbrev lVq := List D -> DSt -> DV -> (DSt -> DV -> Prop) -> Prop
abbrev y3q (K : PySem.W.Frag) (G : DV) (H : Hp) (DQ : DSt -> DV -> Prop) (Q : St -> Hp -> Prop) : Prop := ∀ ρ G' σ H', Go K G H G' H' -> Bears K ρ G' σ H' -> DQ ρ G' -> Q σ H'
structure AG (X : Cx) (tg : Expr) (t : DTG) : Prop where
  run : ∃ tc : TG, JG X tg tc /\ ∀ d v ρ G DQ σ H Q, Bears X.K ρ G σ H -> Abs X.K H d v -> t d ρ G DQ -> y3q X.K G H DQ Q -> tc v σ H Q
structure AGs (X : Cx) (tgs : List Expr) (t : lVq) : Prop where
  run : ∃ tc : TGs, JGs X tgs tc /\ ∀ ds vs ρ G DQ σ H Q, Bears X.K ρ G σ H -> AbsL X.K H ds vs -> t ds ρ G DQ -> y3q X.K G H DQ Q -> tc vs σ H Q
abbrev DR1 := D -> DV -> DK -> Prop
abbrev DR2 := D -> D -> DV -> DK -> Prop
abbrev DRL := List D -> DV -> DK -> Prop
structure AOp (X : Cx) (f : Value -> Value -> Sem Value) (r : DR2) : Prop where
  run : ∃ rc : R2, JOp X f rc /\ ∀ x y vx vy G H DQ Q, Vw X.K G H -> Abs X.K H x vx -> Abs X.K H y vy -> r x y G DQ -> Fin X.K G H DQ Q -> rc vx vy H Q
structure AUn (X : Cx) (f : Value -> Sem Value) (r : DR1) : Prop where
  run : ∃ rc : V -> Hp -> VK -> Prop, JUn X f rc /\ ∀ x vx G H DQ Q, Vw X.K G H -> Abs X.K H x vx -> r x G DQ -> Fin X.K G H DQ Q -> rc vx H Q
structure ACall (X : Cx) (f : Value) (r : DRL) : Prop where
  run : ∃ rc : List V -> Hp -> VK -> Prop, JCall X f rc /\ ∀ xs vs G H DQ Q, Vw X.K G H -> AbsL X.K H xs vs -> r xs G DQ -> Fin X.K G H DQ Q -> rc vs H Q
structure AIx (X : Cx) (r : DR2) : Prop where
  run : ∃ rc : R2, JIx X rc /\ ∀ x y vx vy G H DQ Q, Vw X.K G H -> Abs X.K H x vx -> Abs X.K H y vy -> r x y G DQ -> Fin X.K G H DQ Q -> rc vx vy H Q
structure ASl (X : Cx) (r : D -> Option Int -> Option Int -> DV -> DK -> Prop) : Prop where
  run : ∃ rc, JSl X rc /\ ∀ x vx lo hi G H DQ Q, Vw X.K G H -> Abs X.K H x vx -> r x lo hi G DQ -> Fin X.K G H DQ Q -> rc vx lo hi H Q
theorem Fin.after {K : PySem.W.Frag} {G G1 : DV} {H H1 : Hp} {DQ : DK} {Q : VK} (F : Fin K G H DQ Q) (g : Go K G H G1 H1) : Fin K G1 H1 DQ Q := fun d G' v H' g' a q => F d G' v H' (g.trans g') a q
theorem EndsOk.after {K : PySem.W.Frag} {G G1 : DV} {H H1 : Hp} {DD : DEnds} {Dc : Ends} (F : EndsOk K G H DD Dc) (g : Go K G H G1 H1) : EndsOk K G1 H1 DD Dc :=
  ⟨fun ρ G' σ H' g' b q => F.nx ρ G' σ H' (g.trans g') b q, fun d G' v H' g' a q => F.rt d G' v H' (g.trans g') a q, fun ρ G' σ H' g' b q => F.bk ρ G' σ H' (g.trans g') b q, fun ρ G' σ H' g' b q => F.ct ρ G' σ H' (g.trans g') b q⟩
end L3
namespace L3
open PySem PySem.Spec L2
section
variable {X : Cx} {a b c e o i : Expr} {es : List Expr} {ta tb te to ti : DTE} {t : DTA} {pos p apos cpos : Pos}
abbrev dC (d : D) : DTE := fun _ G Q => Q d G
abbrev yYq (k : Nat) : DTE := fun ρ G Q => match ρ[k]? with
  | some (some d) => Q d G
  | _ => False
theorem tCq {v : V} {d : D} (h : JE X e (tC v)) (r : ∀ H, Abs X.K H d v) : AE X e (dC d) := ⟨_, h, fun ρ G DQ σ H Q B q F => F d G v H (.refl B.vw) (r H) q⟩
theorem a4q {n : Int} {j} : AE X (.Constant (.int n) j pos) (dC (.int n)) := tCq w6q fun _ => rfl
theorem dVq {n : Bool} {j} : AE X (.Constant (.bool n) j pos) (dC (.bl n)) := tCq yKq fun _ => rfl
theorem h2q {j} : AE X (.Constant .none j pos) (dC .non) := tCq uYq fun _ => rfl
theorem aJq {x : Str} {j} : AE X (.Constant (.str x) j pos) (dC (.str x)) := tCq uTq fun _ => rfl
theorem a1q (k : Nat) {x : Str} (hN : X.N[k]? = some x := by rfl) (hv : Vis X.env.scope x := by first | exact Or.inl rfl | exact Or.inr (Or.inl rfl) | exact Or.inr (Or.inr rfl)) (hd : (x == ("__debug__" : Str)) = false := by decide)
    (hcd : (x == ("__classdict__" : Str)) = false := by decide) : AE X (.Name x pos) (yYq k) := ⟨_, jv k hN hv hd hcd, fun ρ G DQ σ H Q B q F => by
  unfold yYq at q
  split at q
  . next d h =>
    obtain ⟨v, h1, h2⟩ := B.st k d h
    exact ⟨v, h1, F d G v H (.refl B.vw) h2 q⟩
  . exact q.elim⟩
theorem f5q {x : Str} {n : String} (hg : Gl X x) (hm : X.mg x = none) (hv : bootBuiltins x = some (.type n)) (hn : x ≠ "__name__" := by decide) (hd : (x == ("__debug__" : Str)) = false := by decide) : AE X (.Name x pos) (dC (.ty n)) :=
  tCq (rBq (v := .ty n) hg hm hv rfl hn hd) fun _ => rfl
theorem k8q {x : Str} {v : V} {u : Value} {d : D} (hg : Gl X x) (hm : X.mg x = some u) (r : RelV v u) (ha : ∀ H, Abs X.K H d v) (hd : (x == ("__debug__" : Str)) = false := by decide) : AE X (.Name x pos) (dC d) := tCq (t5q hg hm r hd) ha
abbrev zJq : DTA := fun _ G Q => Q [] G
abbrev x1q (ta : DTE) (tr : DTA) : DTA := fun ρ G Q => ta ρ G fun x G1 => tr ρ G1 fun xs G2 => Q (x :: xs) G2
theorem a5q : AA X [] zJq := ⟨_, uHq, fun ρ G DQ σ H Q B q F => F [] G [] H (.refl B.vw) rfl rfl q⟩
theorem a0q (ha : AE X e te) (hr : AA X es t) (hs : b6q e = true := by rfl) : AA X (e :: es) (x1q te t) := by
  obtain ⟨ca, ja, ra⟩ := ha.run
  obtain ⟨cr, jr, rr⟩ := hr.run
  refine ⟨_, rXq ja jr hs, fun ρ G DQ σ H Q B q F => ?_⟩
  refine ra ρ G _ σ H _ B q fun x G1 v H1 g1 ax q1 => rr ρ G1 _ σ H1 _ (B.go g1) q1 fun xs G2 vs H2 g2 axs hl q2 => ?_
  exact F (x :: xs) G2 (v :: vs) H2 (g1.trans g2) ⟨v, vs, rfl, ax.mono g2.tup, axs⟩ (by simp [hl]) q2
abbrev zUq (t : DTA) : DTE := fun ρ G Q => t ρ G fun ds G1 => Q (.tup ds) G1
abbrev dLst (t : DTA) : DTE := fun ρ G Q => t ρ G fun ds G1 => ∀ p, G1 p = none -> Q (.ref p) (up G1 p (.lst ds))
theorem hTq {n : Nat} (h : Nat.ble n 1000 = true) : n <= sizeLine := by
  have := Nat.le_of_ble_eq_true h
  rw [sizeLine_eq]; omega
theorem aRq {x1} (h : AA X es t) (hl : Nat.ble es.length 1000 = true := by rfl) : AE X (.Tuple es x1 pos) (zUq t) := by
  obtain ⟨ca, ja, ra⟩ := h.run
  refine ⟨_, uRq ja, fun ρ G DQ σ H Q B q F => ra ρ G _ σ H _ B q fun ds G1 vs H1 g1 al hn q1 => ⟨by rw [al.len, hn]; exact hTq hl, fun p hp => ?_⟩⟩
  have g2 := Go.newT (o := .tup vs) g1.vw hp
  exact F (.tup ds) G1 _ _ (g1.trans g2) ⟨p, vs, rfl, .of aQq, al.mono g2.tup⟩ q1
theorem eQq (h : AA X es t) (hl : Nat.ble es.length 1000 = true := by rfl) : AE X (.List es pos) (dLst t) := by
  obtain ⟨ca, ja, ra⟩ := h.run
  refine ⟨_, qQq ja, fun ρ G DQ σ H Q B q F => ra ρ G _ σ H _ B q fun ds G1 vs H1 g1 al hn q1 => ⟨by rw [al.len, hn]; exact hTq hl, fun p hp => ?_⟩⟩
  exact F (.ref p) _ _ _ (g1.trans (Go.newL g1.vw hp al)) rfl (q1 p (g1.vw.none hp))
def atN (ds : List D) : Int -> Option D
  | .ofNat k => ds[k]?
  | .negSucc k => atI ds (.negSucc k)
theorem qYq (ds : List D) (i : Int) : atN ds i = atI ds i := by
  cases i with
  | negSucc k => rfl
  | ofNat k =>
    show ds[k]? = atI ds (k : Int)
    by_cases h : k < ds.length
    . rw [List.getElem?_eq_getElem h]
      exact (e6q (List.getElem?_eq_getElem h)).symm
    . rw [List.getElem?_eq_none (by omega)]
      unfold atI ixN
      rw [if_pos (by omega), if_neg (by omega)]; rfl
def atD (ds : List D) (i : Int) (G : DV) (Q : DK) : Prop := match atN ds i with
  | some d => Q d G
  | none => False
theorem jGq {ds : List D} {i : Int} {G : DV} {Q : DK} {d : D} (h : atI ds i = some d) (q : Q d G) : atD ds i G Q := by unfold atD; rw [qYq, h]; exact q
@[irreducible] def onL (G : DV) (l : Addr) (k : List D -> Prop) : Prop := match G l with
  | some (.lst ds) => k ds
  | _ => False
@[irreducible] def onM (G : DV) (l : Addr) (k : List D -> Prop) : Prop := match G l with
  | some (.lst ds) => k ds
  | _ => False
theorem aAq {G : DV} {l : Addr} {k : List D -> Prop} {ds : List D} (h : G l = some (.lst ds)) (q : k ds) : onL G l k := by unfold onL; rw [h]; exact q
theorem aBq {G : DV} {l : Addr} {k : List D -> Prop} {ds : List D} (h : G l = some (.lst ds)) (q : k ds) : onM G l k := by unfold onM; rw [h]; exact q
theorem cYq {K : PySem.W.Frag} {G : DV} {H : Hp} {l : Addr} {k : List D -> Prop} (v : Vw K G H) (h : onL G l k) : ∃ ds vs, k ds /\ SqL K H l vs /\ AbsL K H ds vs := by
  unfold onL at h
  split at h
  . next ds e => obtain ⟨vs, z, r⟩ := v _ _ e; exact ⟨ds, vs, h, .of z, r⟩
  . exact h.elim
theorem dIq {K : PySem.W.Frag} {G : DV} {H : Hp} {l : Addr} {k : List D -> Prop} (v : Vw K G H) (h : onM G l k) : ∃ ds vs, k ds /\ G l = some (.lst ds) /\ H l = some (.lst vs) /\ AbsL K H ds vs := by
  unfold onM at h
  split at h
  . next ds e => obtain ⟨vs, z, r⟩ := v _ _ e; exact ⟨ds, vs, h, e, z, r⟩
  . exact h.elim
abbrev dOp (r : DR2) (ta tb : DTE) : DTE := fun ρ G Q => ta ρ G fun x G1 => tb ρ G1 fun y G2 => r x y G2 Q
abbrev dUn (r : DR1) (ta : DTE) : DTE := fun ρ G Q => ta ρ G fun x G1 => r x G1 Q
theorem bCq {op : Operator} {r : DR2} (ho : AOp X (binaryOp op) r) (ha : AE X a ta) (hb : AE X b tb) : AE X (.BinOp a op b pos) (dOp r ta tb) := by
  obtain ⟨ca, ja, ra⟩ := ha.run
  obtain ⟨cb, jb, rb⟩ := hb.run
  obtain ⟨co, jo, ro⟩ := ho.run
  refine ⟨_, yJq jo ja jb, fun ρ G DQ σ H Q B q F => ?_⟩
  exact ra ρ G _ σ H _ B q fun x G1 v H1 g1 ax q1 => rb ρ G1 _ σ H1 _ (B.go g1) q1 fun y G2 u H2 g2 ay q2 => ro x y v u G2 H2 DQ Q g2.vw (ax.mono g2.tup) ay q2 (F.after (g1.trans g2))
theorem e4q {op : CmpOp} {r : DR2} (ho : AOp X (compareOp op) r) (ha : AE X a ta) (hb : AE X b tb) (hm : behindInMarks op b = false) : AE X (.Compare a [op] [b] pos) (dOp r ta tb) := by
  obtain ⟨ca, ja, ra⟩ := ha.run
  obtain ⟨cb, jb, rb⟩ := hb.run
  obtain ⟨co, jo, ro⟩ := ho.run
  refine ⟨_, sPq jo ja jb hm, fun ρ G DQ σ H Q B q F => ?_⟩
  exact ra ρ G _ σ H _ B q fun x G1 v H1 g1 ax q1 => rb ρ G1 _ σ H1 _ (B.go g1) q1 fun y G2 u H2 g2 ay q2 => ro x y v u G2 H2 DQ Q g2.vw (ax.mono g2.tup) ay q2 (F.after (g1.trans g2))
theorem rOq {op : UnaryOp} {r : DR1} (ho : AUn X (unaryOp op) r) (ha : AE X a ta) : AE X (.UnaryOp op a pos) (dUn r ta) := by
  obtain ⟨ca, ja, ra⟩ := ha.run
  obtain ⟨co, jo, ro⟩ := ho.run
  refine ⟨_, xFq jo ja, fun ρ G DQ σ H Q B q F => ?_⟩
  exact ra ρ G _ σ H _ B q fun x G1 v H1 g1 ax q1 => ro x v G1 H1 DQ Q g1.vw ax q1 (F.after g1)
theorem aMq {r : DR2} (hr : AIx X r) (ha : AE X a ta) (hb : AE X b tb) (hs : iKq b) : AE X (.Subscript a b pos) (dOp r ta tb) := by
  obtain ⟨ca, ja, ra⟩ := ha.run
  obtain ⟨cb, jb, rb⟩ := hb.run
  obtain ⟨co, jo, ro⟩ := hr.run
  refine ⟨_, v6q jo ja jb hs, fun ρ G DQ σ H Q B q F => ?_⟩
  exact ra ρ G _ σ H _ B q fun x G1 v H1 g1 ax q1 => rb ρ G1 _ σ H1 _ (B.go g1) q1 fun y G2 u H2 g2 ay q2 => ro x y v u G2 H2 DQ Q g2.vw (ax.mono g2.tup) ay q2 (F.after (g1.trans g2))
def Br (c : Bool) (A B : Prop) : Prop := (c = true -> A) /\ (c = false -> B)
theorem Br.yes {c : Bool} {A B : Prop} (h : c = true) (q : A) : Br c A B := ⟨fun _ => q, fun z => absurd (h.symm.trans z) (by decide)⟩
theorem Br.no {c : Bool} {A B : Prop} (h : c = false) (q : B) : Br c A B := ⟨fun z => absurd (h.symm.trans z) (by decide), fun _ => q⟩
abbrev blD (x : D) (k : Bool -> Prop) : Prop := match x with
  | .bl c => k c
  | _ => False
theorem k7q {K : PySem.W.Frag} {H : Hp} {x : D} {v : V} {k : Bool -> Prop} (h : blD x k) (r : Abs K H x v) : ∃ c, v = .bl c /\ x = .bl c /\ k c := by
  unfold blD at h
  split at h
  . exact ⟨_, r, rfl, h⟩
  . exact h.elim
abbrev yUq (ta tb : DTE) : DTE := fun ρ G Q => ta ρ G fun x G1 => blD x fun c => Br c (tb ρ G1 Q) (Q (.bl false) G1)
abbrev yGq (ta : DTE) : DTE := fun ρ G Q => ta ρ G fun x G1 => blD x fun c => Q (.bl (!c)) G1
theorem n9q {op} (h : AE X a ta) : AE X (.BoolOp op [a] pos) ta := by
  obtain ⟨ca, ja, ra⟩ := h.run
  exact ⟨_, uMq ja, ra⟩
theorem l2q {rest : List Expr} (ha : AE X a ta) (hb : AE X (.BoolOp .And (b :: rest) pos) tb) : AE X (.BoolOp .And (a :: b :: rest) pos) (yUq ta tb) := by
  obtain ⟨ca, ja, ra⟩ := ha.run
  obtain ⟨cb, jb, rb⟩ := hb.run
  refine ⟨_, uEq ja jb, fun ρ G DQ σ H Q B q F => ra ρ G _ σ H _ B q fun x G1 v H1 g1 ax q1 => ?_⟩
  obtain ⟨c, e1, e2, q2⟩ := k7q q1 ax
  refine ⟨c, e1, ?_⟩
  cases c with
  | true => exact rb ρ G1 _ σ H1 _ (B.go g1) (q2.1 rfl) (F.after g1)
  | false => exact F (.bl false) _ _ _ g1 rfl (q2.2 rfl)
theorem qVq (ha : AE X a ta) : AE X (.UnaryOp .Not a pos) (yGq ta) := by
  obtain ⟨ca, ja, ra⟩ := ha.run
  refine ⟨_, u4q ja, fun ρ G DQ σ H Q B q F => ra ρ G _ σ H _ B q fun x G1 v H1 g1 ax q1 => ?_⟩
  obtain ⟨c, e1, e2, q2⟩ := k7q q1 ax
  exact ⟨c, e1, F (.bl (!c)) _ _ _ g1 rfl q2⟩
abbrev dIf (tc : DTT) (ta tb : DTE) : DTE := fun ρ G Q => tc ρ G fun c G1 => Br c (ta ρ G1 Q) (tb ρ G1 Q)
theorem eYq {tc : DTT} (hc : AT X c tc) (ha : AE X a ta) (hb : AE X b tb) : AE X (.IfExp c a b pos) (dIf tc ta tb) := by
  obtain ⟨cc, jc, rc⟩ := hc.run
  obtain ⟨ca, ja, ra⟩ := ha.run
  obtain ⟨cb, jb, rb⟩ := hb.run
  refine ⟨_, p6q jc ja jb, fun ρ G DQ σ H Q B q F => rc ρ G _ σ H _ B q fun c G1 H1 g1 q1 => ?_⟩
  cases c with
  | true => exact ra ρ G1 _ σ H1 _ (B.go g1) (q1.1 rfl) (F.after g1)
  | false => exact rb ρ G1 _ σ H1 _ (B.go g1) (q1.2 rfl) (F.after g1)
abbrev xTq (t : DTE) : DTT := fun ρ G Q => t ρ G fun x G1 => blD x fun c => Q c G1
theorem aUq {op : CmpOp} {r : DR2} (ho : AOp X (compareOp op) r) (ha : AE X a ta) (hb : AE X b tb) (hm : behindInMarks op b = false) : AT X (.Compare a [op] [b] pos) (xTq (dOp r ta tb)) := by
  obtain ⟨ca, ja, ra⟩ := ha.run
  obtain ⟨cb, jb, rb⟩ := hb.run
  obtain ⟨co, jo, ro⟩ := ho.run
  refine ⟨_, sDq jo ja jb hm, fun ρ G DQ σ H Q B q F => ?_⟩
  refine ra ρ G _ σ H _ B q fun x G1 v H1 g1 ax q1 => rb ρ G1 _ σ H1 _ (B.go g1) q1 fun y G2 u H2 g2 ay q2 => ro x y v u G2 H2 _ _ g2.vw (ax.mono g2.tup) ay q2 fun z G3 w H3 g3 az q3 => ?_
  obtain ⟨c, e1, e2, q4⟩ := k7q q3 az
  exact ⟨c, e1, F c G3 H3 ((g1.trans g2).trans g3) q4⟩
abbrev zRq (tc : DTT) : DTT := fun ρ G Q => tc ρ G fun c G1 => Q (!c) G1
abbrev dOr (tc td : DTT) : DTT := fun ρ G Q => tc ρ G fun c G1 => Br c (Q true G1) (td ρ G1 Q)
theorem g6q {tc : DTT} (ha : AT X a tc) : AT X (.UnaryOp .Not a pos) (zRq tc) := by
  obtain ⟨ca, ja, ra⟩ := ha.run
  exact ⟨_, v5q ja, fun ρ G DQ σ H Q B q F => ra ρ G _ σ H _ B q fun c G1 H1 g1 q1 => F _ _ _ g1 q1⟩
theorem j6q {tc : DTT} (ha : AT X a tc) : AW X (.BoolOp .Or [a] pos) tc := by
  obtain ⟨ca, ja, ra⟩ := ha.run
  exact ⟨_, vSq ja, ra⟩
theorem lRq {tc td : DTT} {rest : List Expr} (ha : AT X a tc) (hb : AW X (.BoolOp .Or (b :: rest) pos) td) : AW X (.BoolOp .Or (a :: b :: rest) pos) (dOr tc td) := by
  obtain ⟨ca, ja, ra⟩ := ha.run
  obtain ⟨cb, jb, rb⟩ := hb.run
  refine ⟨_, xYq ja jb, fun ρ G DQ σ H Q B q F => ra ρ G _ σ H _ B q fun c G1 H1 g1 q1 => ?_⟩
  cases c with
  | false => exact rb ρ G1 _ σ H1 _ (B.go g1) (q1.2 rfl) fun c G' H' g' => F c G' H' (g1.trans g')
  | true => exact F _ _ _ g1 (q1.1 rfl)
theorem AW.at {tc : DTT} (h : AW X e tc) : AT X e tc := by
  obtain ⟨ca, ja, ra⟩ := h.run
  exact ⟨_, ja.pt, ra⟩
def truD (x : D) (G : DV) (k : Bool -> Prop) : Prop := match x with
  | .non => k false
  | .bl b => k b
  | .int i => k (i != 0)
  | .str y => y.length <= sizeLine /\ k ((y.length : Int) != 0)
  | .tup ds => k (!ds.isEmpty)
  | .ref p => onL G p fun ds => k (!ds.isEmpty)
  | _ => False
theorem AbsL.isEmpty {K : PySem.W.Frag} {H : Hp} {ds : List D} {vs : List V} (h : AbsL K H ds vs) : vs.isEmpty = ds.isEmpty := by
  have := h.len
  cases ds <;> cases vs <;> simp_all
abbrev wJq (t : DTE) : DTT := fun ρ G Q => t ρ G fun x G1 => truD x G1 fun c => Q c G1
theorem b7q (ha : AE X a ta) (he : ∀ whole, isTrue a X.env whole = (do let v ← whole; standAt a.pos; holding [v] (truthy v)) := by intro _; rfl) : AT X a (wJq ta) := by
  obtain ⟨ca, ja, ra⟩ := ha.run
  refine ⟨_, pOq ja he, fun ρ G DQ σ H Q B q F => ra ρ G _ σ H _ B q fun x G1 v H1 g1 ax q1 => ?_⟩
  cases x with
  | non => cases ax; exact ⟨_, rfl, F _ _ _ g1 q1⟩
  | bl b => cases ax; exact ⟨_, rfl, F _ _ _ g1 q1⟩
  | int i => cases ax; exact ⟨_, rfl, F _ _ _ g1 q1⟩
  | str y => cases ax; exact ⟨_, ⟨q1.1, rfl⟩, F _ _ _ g1 q1.2⟩
  | ref l =>
    cases ax
    obtain ⟨ds, vs, k, s, r⟩ := cYq g1.vw q1
    exact ⟨_, .inl ⟨vs, s, rfl⟩, by rw [r.isEmpty]; exact F _ _ _ g1 k⟩
  | tup ds =>
    obtain ⟨l, vs, rfl, s, r⟩ := ax
    exact ⟨_, .inr (.inl ⟨vs, s, rfl⟩), by rw [r.isEmpty]; exact F _ _ _ g1 q1⟩
  | ty n => exact (show False from q1).elim
  | frl ds => exact (show False from q1).elim
abbrev t4q : DTO := fun _ G Q => Q none G
abbrev xDq (t : DTE) : DTO := fun ρ G Q => t ρ G fun x G1 => match x with
  | .int i => Q (some i) G1
  | _ => False
theorem n2q : AO X none t4q := ⟨_, sGq, fun ρ G DQ σ H Q B q F => F none G H (.refl B.vw) q⟩
theorem nWq (h : AE X e te) : AO X (some e) (xDq te) := by
  obtain ⟨ca, ja, ra⟩ := h.run
  refine ⟨_, sJq ja, fun ρ G DQ σ H Q B q F => ra ρ G _ σ H _ B q fun x G1 v H1 g1 ax q1 => ?_⟩
  split at q1
  . next i => exact ⟨i, ax, F _ _ _ g1 q1⟩
  . exact q1.elim
abbrev dSl (r : D -> Option Int -> Option Int -> DV -> DK -> Prop) (te : DTE) (tl th : DTO) : DTE := fun ρ G Q => te ρ G fun x G1 => tl ρ G1 fun l G2 => th ρ G2 fun u G3 => r x l u G3 Q
theorem l0q {r : D -> Option Int -> Option Int -> DV -> DK -> Prop} {lo hi : Option Expr} {tl th : DTO} {p2 : Pos} (hr : ASl X r) (he : AE X e te) (hl : AO X lo tl) (hu : AO X hi th) : AE X (.Subscript e (.Slice lo hi none p2) pos) (dSl r te tl th) := by
  obtain ⟨ce, je, re⟩ := he.run
  obtain ⟨cl, jl, rl⟩ := hl.run
  obtain ⟨cu, ju, ru⟩ := hu.run
  obtain ⟨cr, jr, rr⟩ := hr.run
  refine ⟨_, oYq jr je jl ju, fun ρ G DQ σ H Q B q F => re ρ G _ σ H _ B q fun x G1 v H1 g1 ax q1 => rl ρ G1 _ σ H1 _ (B.go g1) q1 fun l G2 H2 g2 q2 => ru ρ G2 _ σ H2 _ ((B.go g1).go g2) q2 fun u G3 H3 g3 q3 => ?_⟩
  exact rr x v l u G3 H3 DQ Q g3.vw ((ax.mono g2.tup).mono g3.tup) q3 (F.after ((g1.trans g2).trans g3))
abbrev xOq : DTS := fun D ρ G => D.nx ρ G
abbrev zVq (t u : DTS) : DTS := fun D ρ G => t { D with nx := u D } ρ G
abbrev xAq (te : DTE) : DTS := fun D ρ G => te ρ G fun _ G1 => D.nx ρ G1
abbrev dRet (te : DTE) : DTS := fun D ρ G => te ρ G D.rt
abbrev dIfS (c : DTT) (t u : DTS) : DTS := fun D ρ G => c ρ G fun b G1 => Br b (t D ρ G1) (u D ρ G1)
theorem b0q : AB X [] xOq := ⟨_, tQq, fun DD Dc ρ G σ H B q F => F.nx ρ G σ H (.refl B.vw) B q⟩
theorem a7q {st : Stmt} {rest : List Stmt} {ts us : DTS} (h1 : AS X st ts) (h2 : AB X rest us) : AB X (st :: rest) (zVq ts us) := by
  obtain ⟨c1, j1, r1⟩ := h1.run
  obtain ⟨c2, j2, r2⟩ := h2.run
  refine ⟨_, r7q j1 j2, fun DD Dc ρ G σ H B q F => r1 _ _ ρ G σ H B q ⟨fun ρ' G' σ' H' g b q => r2 DD Dc ρ' G' σ' H' b q (F.after g), F.rt, F.bk, F.ct⟩⟩
theorem a8q {st : Stmt} {ts : DTS} (h1 : AS X st ts) : AB X [st] ts := by
  obtain ⟨c1, j1, r1⟩ := h1.run
  exact ⟨_, tPq j1, r1⟩
theorem bOq (he : AE X e te) (hs : swapsWith e none pos.line X.env = pure false := by rfl) : AS X (.Expr e pos) (xAq te) := by
  obtain ⟨c1, j1, r1⟩ := he.run
  exact ⟨_, s2q j1 hs, fun DD Dc ρ G σ H B q F => r1 ρ G _ σ H _ B q fun d G' v H' g _ q => F.nx ρ G' σ H' g (B.go g) q⟩
theorem aLq (he : AE X e te) : AS X (.Return (some e) pos) (dRet te) := by
  obtain ⟨c1, j1, r1⟩ := he.run
  exact ⟨_, vAq j1, fun DD Dc ρ G σ H B q F => r1 ρ G _ σ H _ B q F.rt⟩
theorem bDq {ss us : List Stmt} {tc : DTT} {ts tu : DTS} (hc : AT X c tc) (ha : AB X ss ts) (hb : AB X us tu) : AS X (.If c ss us pos) (dIfS tc ts tu) := by
  obtain ⟨cc, jc, rc⟩ := hc.run
  obtain ⟨ca, ja, ra⟩ := ha.run
  obtain ⟨cb, jb, rb⟩ := hb.run
  refine ⟨_, yWq jc ja jb, fun DD Dc ρ G σ H B q F => rc ρ G _ σ H _ B q fun c G1 H1 g1 q1 => ?_⟩
  cases c with
  | true => exact ra DD Dc ρ G1 σ H1 (B.go g1) (q1.1 rfl) (F.after g1)
  | false => exact rb DD Dc ρ G1 σ H1 (B.go g1) (q1.2 rfl) (F.after g1)
abbrev h6q (k : Nat) : DTG := fun d ρ G Q => Q (ρ.set k (some d)) G
abbrev sBq : lVq := fun ds ρ G Q => match ds with
  | [] => Q ρ G
  | _ => False
abbrev nRq (t : DTG) (u : lVq) : lVq := fun ds ρ G Q => match ds with
  | d :: r => t d ρ G fun ρ' G' => u r ρ' G' Q
  | [] => False
abbrev v7q (t : lVq) : DTG := fun d ρ G Q => match d with
  | .tup ds => t ds ρ G Q
  | _ => False
theorem bFq {k : Nat} {x : Str} (hN : X.N.Nodup) (hi : X.N[k]? = some x) (hx : Loc X.env.scope x) (hf : X.fn x = true \/ X.env.scope.names.lookup x = some .local := by first | exact .inl rfl | exact .inr rfl | assumption) : AG X (.Name x pos) (h6q k) :=
  ⟨_, s5q hN hi hx hf, fun d v ρ G DQ σ H Q B a q F => F _ G _ H (.refl B.vw) (B.set a k) q⟩
abbrev wSq (te : DTE) (g : DTG) : DTS := fun D ρ G => te ρ G fun x G1 => g x ρ G1 D.nx
theorem nHq {tg : Expr} {g : DTG} (he : AE X e te) (hg : AG X tg g) (hs : swapsWithSole [tg] e pos.line X.env = pure false := by rfl) (hw : swappedStores [tg] e X.env = pure none := by rfl) (h1 : (assignEach [tg] X.env).map (·.2) = [assign tg X.env] := by rfl) : AS X (.Assign [tg] e pos) (wSq te g) := by
  obtain ⟨c1, j1, r1⟩ := he.run
  obtain ⟨c2, j2, r2⟩ := hg.run
  exact ⟨_, w8q j1 j2 hs hw h1, fun DD Dc ρ G σ H B q F => r1 ρ G _ σ H _ B q fun d G1 v H1 g1 a q1 => r2 d v ρ G1 _ σ H1 _ (B.go g1) a q1 fun ρ' G' σ' H' g' b q' => F.nx ρ' G' σ' H' (g1.trans g') b q'⟩
theorem aZq {k : Nat} {x : Str} {pos' : Pos} (hN : X.N.Nodup) (hi : X.N[k]? = some x) (hx : Loc X.env.scope x) (he : AE X e te) (hs : swapsWith e (some (.Name x pos')) pos.line X.env = pure false := by rfl) (hf : X.fn x = true \/ X.env.scope.names.lookup x = some .local := by first | exact .inl rfl | exact .inr rfl | assumption) :
    AS X (.Assign [.Name x pos'] e pos) (wSq te (h6q k)) := by
  obtain ⟨c1, j1, r1⟩ := he.run
  exact ⟨_, v8q hN hi hx j1 hs hf, fun DD Dc ρ G σ H B q F => r1 ρ G _ σ H _ B q fun d G1 v H1 g1 a q1 => F.nx _ G1 _ H1 g1 ((B.go g1).set a k) q1⟩
theorem kCq : AGs X [] sBq := ⟨_, r3q, fun ds vs ρ G DQ σ H Q B a q F => by
  cases ds with
  | nil => cases a; exact ⟨rfl, F ρ G σ H (.refl B.vw) B q⟩
  | cons d r => exact (show False from q).elim⟩
theorem dAq {tg : DTG} {u : lVq} (h1 : AG X e tg) (h2 : AGs X es u) (hs : (assignEach (e :: es) X.env).map (·.2) = assign e X.env :: (assignEach es X.env).map (·.2) := by rfl) : AGs X (e :: es) (nRq tg u) := by
  obtain ⟨c1, j1, r1⟩ := h1.run
  obtain ⟨c2, j2, r2⟩ := h2.run
  refine ⟨_, pQq j1 j2 hs, fun ds vs ρ G DQ σ H Q B a q F => ?_⟩
  cases ds with
  | nil => exact (show False from q).elim
  | cons d r =>
    obtain ⟨v, us, rfl, ad, ar⟩ := a
    exact ⟨v, us, rfl, r1 d v ρ G _ σ H _ B ad q fun ρ' G' σ' H' g b q' => r2 r us ρ' G' _ σ' H' _ b (ar.mono g.tup) q' fun ρ2 G2 σ2 H2 g2 b2 q2 => F ρ2 G2 σ2 H2 (g.trans g2) b2 q2⟩
theorem mAq {k n : Nat} {tg : lVq} (hc : X.calm = true) (h : AGs X es tg) (hl : es.length = n := by rfl) (hn : (assignEach es X.env).length = n := by rfl) (hst : (assignEach es X.env).findIdx? (·.1) = none := by rfl)
    (hlen : ∀ ds ρ G Q, tg ds ρ G Q -> ds.length = n := by intro ds ρ G Q h; match ds, h with | [], h => (first | rfl | exact (show False from h).elim) | [_], h => (first | rfl | exact (show False from h).elim) | [_, _], h => (first | rfl | exact (show False from h).elim) | [_, _, _], h => (first | rfl | exact (show False from h).elim) | _ :: _ :: _ :: _ :: _, h => exact (show False from h).elim) : AG X (.Tuple es k pos) (v7q tg) := by
  obtain ⟨c1, j1, r1⟩ := h.run
  refine ⟨_, v9q (n := n) hc j1 hn hst, fun d v ρ G DQ σ H Q B a q F => ?_⟩
  cases d with
  | tup ds =>
    obtain ⟨l, vs, rfl, s, r⟩ := a
    exact ⟨l, vs, rfl, s, by rw [r.len]; exact hlen _ _ _ _ q, r1 ds vs ρ G DQ σ H Q B r q F⟩
  | _ => exact (show False from q).elim
end
end L3
namespace L3
open PySem PySem.Spec L2
section
variable {X : Cx}
def addD : DR2 := fun x y G Q => match x, y with
  | .int i, .int j => Q (.int (i + j)) G
  | .str i, .str j => i.length + j.length <= sizeLine /\ Q (.str (i ++ j)) G
  | .tup xs, .tup ys => xs.length + ys.length <= sizeLine /\ Q (.tup (xs ++ ys)) G
  | .ref l, .ref m => onM G l fun xs => onM G m fun ys => xs.length + ys.length <= sizeLine /\ ∀ p, G p = none -> Q (.ref p) (up G p (.lst (xs ++ ys)))
  | _, _ => False
theorem bNq : AOp X (binaryOp .Add) addD := by
  refine ⟨_, ⟨op_add.or (op_add_str.or (op_catW.or uSq))⟩, fun x y vx vy G H DQ Q v ax ay r F => ?_⟩
  cases x with
  | int i =>
    cases y with
    | int j => cases ax; cases ay; exact .inl ⟨i, j, rfl, rfl, F (.int (i + j)) G _ H (.refl v) rfl r⟩
    | _ => exact (show False from r).elim
  | str i =>
    cases y with
    | str j => cases ax; cases ay; exact .inr (.inl ⟨i, j, rfl, rfl, r.1, F (.str (i ++ j)) G _ H (.refl v) rfl r.2⟩)
    | _ => exact (show False from r).elim
  | tup xs =>
    cases y with
    | tup ys =>
      obtain ⟨l, vs, rfl, s1, r1⟩ := ax
      obtain ⟨m, us, rfl, s2, r2⟩ := ay
      have l1 := r1.len
      have l2 := r2.len
      refine .inr (.inr (.inl ⟨l, m, vs, us, rfl, rfl, s1, s2, by rw [l1, l2]; exact r.1, fun e => ?_, fun e e2 => ?_, fun e e2 p hp => ?_⟩))
      . subst e
        have e' : xs = [] := by cases xs <;> simp_all
        subst e'
        exact F (.tup ys) G _ H (.refl v) ⟨m, us, rfl, s2, r2⟩ (by simpa using r.2)
      . subst e2
        have e' : ys = [] := by cases ys <;> simp_all
        subst e'
        exact F (.tup xs) G _ H (.refl v) ⟨l, vs, rfl, s1, r1⟩ (by simpa using r.2)
      . have g := Go.newT (o := .tup (vs ++ us)) v hp
        exact F (.tup (xs ++ ys)) G _ _ g ⟨p, _, rfl, .of aQq, (r1.append r2).mono g.tup⟩ r.2
    | _ => exact (show False from r).elim
  | ref l =>
    cases y with
    | ref m =>
      cases ax; cases ay
      obtain ⟨xs, vs, k1, e1, h1, r1⟩ := dIq v r
      obtain ⟨ys, us, k2, e2, h2, r2⟩ := dIq v k1
      have l1 := r1.len
      have l2 := r2.len
      exact .inr (.inr (.inr ⟨l, m, vs, us, rfl, rfl, h1, h2, by rw [l1, l2]; exact k2.1, fun p hp => F (.ref p) _ _ _ (Go.newL v hp (r1.append r2)) rfl (k2.2 p (v.none hp))⟩))
    | _ => exact (show False from r).elim
  | _ => exact (show False from r).elim
def vCq (C : Int -> Int -> Prop) (g : Int -> Int -> D) : DR2 := fun x y G Q => match x, y with
  | .int i, .int j => C i j /\ Q (g i j) G
  | _, _ => False
def lPq (g : Int -> Int -> D) : DR2 := fun x y G Q => match x, y with
  | .int i, .int j => Q (g i j) G
  | _, _ => False
theorem qBq {f : Value -> Value -> Sem Value} {C : Int -> Int -> Prop} {g : Int -> Int -> Int} (h : OpR X f (rI C fun i j => .int (g i j))) : AOp X f (vCq C fun i j => .int (g i j)) := by
  refine ⟨_, ⟨h⟩, fun x y vx vy G H DQ Q v ax ay r F => ?_⟩
  cases x with
  | int i =>
    cases y with
    | int j => cases ax; cases ay; exact ⟨i, j, rfl, rfl, r.1, F (.int (g i j)) G _ H (.refl v) rfl r.2⟩
    | _ => exact (show False from r).elim
  | _ => exact (show False from r).elim
theorem uVq {f : Value -> Value -> Sem Value} {g : Int -> Int -> Int} (h : OpR X f (rI0 fun i j => .int (g i j))) : AOp X f (lPq fun i j => .int (g i j)) := by
  refine ⟨_, ⟨h⟩, fun x y vx vy G H DQ Q v ax ay r F => ?_⟩
  cases x with
  | int i =>
    cases y with
    | int j => cases ax; cases ay; exact ⟨i, j, rfl, rfl, F (.int (g i j)) G _ H (.refl v) rfl r⟩
    | _ => exact (show False from r).elim
  | _ => exact (show False from r).elim
theorem o7q {f : Value -> Value -> Sem Value} {g : Int -> Int -> Bool} (h : OpR X f (rI0 fun i j => .bl (g i j))) : AOp X f (lPq fun i j => .bl (g i j)) := by
  refine ⟨_, ⟨h⟩, fun x y vx vy G H DQ Q v ax ay r F => ?_⟩
  cases x with
  | int i =>
    cases y with
    | int j => cases ax; cases ay; exact ⟨i, j, rfl, rfl, F (.bl (g i j)) G _ H (.refl v) rfl r⟩
    | _ => exact (show False from r).elim
  | _ => exact (show False from r).elim
theorem f1q : AOp X (binaryOp .Sub) (lPq fun i j => .int (i - j)) := uVq wMq
theorem dKq : AOp X (binaryOp .Mult) (vCq CMul fun i j => .int (i * j)) := qBq tTq
theorem kXq : AOp X (binaryOp .FloorDiv) (vCq (fun _ j => 0 < j /\ j < 2 ^ 64) fun i j => .int (i / j)) := qBq q6q
theorem dQq : AOp X (binaryOp .Mod) (vCq (fun _ j => 0 < j) fun i j => .int (i % j)) := qBq v1q
theorem s9q : AOp X (binaryOp .Pow) (vCq z7q fun i j => .int (i ^ j.toNat)) := qBq vPq
theorem kPq : AOp X (compareOp .Lt) (lPq fun i j => .bl (decide (i < j))) := o7q x8q
theorem qKq : AOp X (compareOp .Gt) (lPq fun i j => .bl (decide (j < i))) := o7q yAq
theorem mZq : AOp X (compareOp .GtE) (lPq fun i j => .bl (decide (j <= i))) := o7q ySq
def negD : DR1 := fun x G Q => match x with
  | .int i => Q (.int (-i)) G
  | _ => False
theorem kBq : AUn X (unaryOp .USub) negD := by
  refine ⟨_, ⟨u5q⟩, fun x vx G H DQ Q v ax r F => ?_⟩
  cases x with
  | int i => cases ax; exact ⟨i, rfl, F (.int (-i)) G _ H (.refl v) rfl r⟩
  | _ => exact (show False from r).elim
def uXq : D -> Bool
  | .non => true
  | _ => false
def isN (neg : Bool) : DR2 := fun x y G Q => match y with
  | .non => Q (.bl (neg ^^ uXq x)) G
  | _ => False
theorem mVq {K : PySem.W.Frag} {H : Hp} {x : D} {v : V} (a : Abs K H x v) : decide (v = .non) = uXq x := by
  cases x with
  | tup ds => obtain ⟨_, _, rfl, _⟩ := a; rfl
  | frl ds => obtain ⟨_, _, rfl, _⟩ := a; rfl
  | _ => cases a; rfl
theorem r0q : AOp X (compareOp .Is) (isN false) := by
  refine ⟨_, ⟨uWq⟩, fun x y vx vy G H DQ Q v ax ay r F => ?_⟩
  cases y with
  | non => cases ay; exact ⟨rfl, by rw [mVq ax]; exact F (.bl _) G _ H (.refl v) rfl (by simpa [isN] using r)⟩
  | _ => exact (show False from r).elim
theorem mMq : AOp X (compareOp .IsNot) (isN true) := by
  refine ⟨_, ⟨rZq⟩, fun x y vx vy G H DQ Q v ax ay r F => ?_⟩
  cases y with
  | non => cases ay; exact ⟨rfl, by rw [mVq ax]; exact F (.bl _) G _ H (.refl v) rfl (by simpa [isN] using r)⟩
  | _ => exact (show False from r).elim
theorem i1q {K : PySem.W.Frag} {H : Hp} {ds : List D} {vs : List V} {i : Int} {d : D} (r : AbsL K H ds vs) (h : atI ds i = some d) : ∃ v, atI vs i = some v /\ Abs K H d v := by
  unfold atI at h ⊢
  rw [r.len]
  cases e : ixN ds.length i with
  | none => rw [e] at h; cases h
  | some j =>
    rw [e] at h
    exact r.get h
theorem hPq {ds : List D} {i : Int} {G : DV} {Q : DK} (h : atD ds i G Q) : ∃ d, atI ds i = some d /\ Q d G := by
  unfold atD at h
  rw [qYq] at h
  split at h
  . next d e => exact ⟨d, e, h⟩
  . exact h.elim
def ixD : DR2 := fun x y G Q => match x, y with
  | .tup ds, .int i => atD ds i G Q
  | .ref l, .int i => onL G l fun ds => atD ds i G Q
  | .frl ds, .int i => atD ds i G Q
  | .str z, .int i => z.length <= sizeLine /\ ∃ c, atI z.cps.toList i = some c /\ Q (.str ⟨#[c]⟩) G
  | _, _ => False
theorem c5q {ds : List D} {i : Int} {G : DV} {Q : DK} {d : D} (h : atI ds i = some d) (q : Q d G) : ixD (.tup ds) (.int i) G Q := jGq h q
theorem qOq {ds : List D} {i : Int} {G : DV} {Q : DK} {d : D} (h : atI ds i = some d) (q : Q d G) : ixD (.frl ds) (.int i) G Q := jGq h q
theorem bUq {l : Addr} {ds : List D} {i : Int} {G : DV} {Q : DK} {d : D} (hl : G l = some (.lst ds)) (h : atI ds i = some d) (q : Q d G) : ixD (.ref l) (.int i) G Q := aAq hl (jGq h q)
theorem aix : AIx X ixD := by
  refine ⟨_, ⟨qUq⟩, fun x y vx vy G H DQ Q v ax ay r F => ?_⟩
  cases x with
  | tup ds =>
    cases y with
    | int i =>
      cases ay
      obtain ⟨l, vs, rfl, s, rl⟩ := ax
      obtain ⟨d, hd, q⟩ := hPq r
      obtain ⟨u, hu, ad⟩ := i1q rl hd
      exact .inr (.inl ⟨l, vs, i, u, rfl, rfl, s, hu, F d G u H (.refl v) ad q⟩)
    | _ => exact (show False from r).elim
  | ref l =>
    cases y with
    | int i =>
      cases ax; cases ay
      obtain ⟨ds, vs, k, s, rl⟩ := cYq v r
      obtain ⟨d, hd, q⟩ := hPq k
      obtain ⟨u, hu, ad⟩ := i1q rl hd
      exact .inl ⟨l, vs, i, u, rfl, rfl, s, hu, F d G u H (.refl v) ad q⟩
    | _ => exact (show False from r).elim
  | frl ds =>
    cases y with
    | int i =>
      cases ay
      obtain ⟨l, vs, rfl, s, rl⟩ := ax
      obtain ⟨d, hd, q⟩ := hPq r
      obtain ⟨u, hu, ad⟩ := i1q rl hd
      exact .inl ⟨l, vs, i, u, rfl, rfl, s.sq, hu, F d G u H (.refl v) ad q⟩
    | _ => exact (show False from r).elim
  | str z =>
    cases y with
    | int i =>
      cases ax; cases ay
      obtain ⟨hz, c, hc, q⟩ := r
      exact .inr (.inr ⟨z, i, c, rfl, rfl, hz, hc, F (.str ⟨#[c]⟩) G _ H (.refl v) rfl q⟩)
    | _ => exact (show False from r).elim
  | _ => exact (show False from r).elim
def slD : D -> Option Int -> Option Int -> DV -> DK -> Prop := fun x lo hi G Q => match x with
  | .tup ds => Q (.tup (cut ds lo hi)) G
  | .ref l => onL G l fun ds => ∀ p, G p = none -> Q (.ref p) (up G p (.lst (cut ds lo hi)))
  | .frl ds => ∀ p, G p = none -> Q (.ref p) (up G p (.lst (cut ds lo hi)))
  | _ => False
theorem asl : ASl X slD := by
  refine ⟨_, ⟨sl_tupU.or t3q⟩, fun x vx lo hi G H DQ Q v ax r F => ?_⟩
  cases x with
  | tup ds =>
    obtain ⟨l, vs, rfl, s, rl⟩ := ax
    refine .inl ⟨l, vs, rfl, s, fun t H2 sm st => ?_⟩
    have g := Go.grow v sm
    exact F (.tup (cut ds lo hi)) G _ _ g ⟨t, _, rfl, st, (rl.cut lo hi).mono g.tup⟩ r
  | ref l =>
    cases ax
    obtain ⟨ds, vs, k, s, rl⟩ := cYq v r
    exact .inr ⟨l, vs, rfl, s, fun p hp => F (.ref p) _ _ _ (Go.newL v hp (rl.cut lo hi)) rfl (k p (v.none hp))⟩
  | frl ds =>
    obtain ⟨l, vs, rfl, s, rl⟩ := ax
    exact .inr ⟨l, vs, rfl, s.sq, fun p hp => F (.ref p) _ _ _ (Go.newL v hp (rl.cut lo hi)) rfl (r p (v.none hp))⟩
  | _ => exact (show False from r).elim
def eBq : D -> Bool
  | .non => true
  | .bl _ => true
  | .int _ => true
  | .str _ => true
  | _ => false
def toV : D -> V
  | .non => .non
  | .bl b => .bl b
  | .int i => .int i
  | .str x => .str x
  | _ => .non
theorem oLq {K : PySem.W.Frag} {H : Hp} {d : D} {v : V} (a : Abs K H d v) (h : eBq d = true) : v = toV d /\ gVq v = true := by
  cases d with
  | non => cases a; exact ⟨rfl, rfl⟩
  | bl b => cases a; exact ⟨rfl, rfl⟩
  | int b => cases a; exact ⟨rfl, rfl⟩
  | str b => cases a; exact ⟨rfl, rfl⟩
  | _ => exact absurd h (by simp [eBq])
theorem xBq {K : PySem.W.Frag} {H : Hp} : ∀ {ds : List D} {vs : List V}, AbsL K H ds vs -> ds.all eBq = true -> vs = ds.map toV /\ vs.all gVq = true
  | [], _, r, _ => by cases r; exact ⟨rfl, rfl⟩
  | _ :: _, _, ⟨v, r, e, q, l⟩, h => by
    subst e
    rw [List.all_cons, Bool.and_eq_true] at h
    obtain ⟨h1, h2⟩ := oLq q h.1
    obtain ⟨h3, h4⟩ := xBq l h.2
    exact ⟨by rw [List.map_cons, <- h1, <- h3], by rw [List.all_cons, h2, h4]; rfl⟩
def eqF : D -> D -> Bool
  | .non, .non => true
  | .bl a, .bl b => a == b
  | .bl a, .int b => (if a then 1 else 0) == b
  | .int a, .bl b => a == (if b then 1 else 0)
  | .int a, .int b => a == b
  | .str a, .str b => a == b
  | _, _ => false
theorem yOq {x y : D} (hx : eBq x = true) (hy : eBq y = true) : eqV (toV x) (toV y) = eqF x y := by
  cases x <;> cases y <;> first | rfl | (simp [eBq] at hx; done) | (simp [eBq] at hy; done)
def inL (x : D) (ds : List D) : Bool := ds.any fun y => eqF y x
theorem s6q {x : D} (hx : eBq x = true) : ∀ {ds : List D}, ds.all eBq = true -> inV (toV x) (ds.map toV) = inL x ds
  | [], _ => rfl
  | d :: ds, h => by
    rw [List.all_cons, Bool.and_eq_true] at h
    have ih := s6q hx h.2
    unfold inV inL at *
    rw [List.map_cons, List.any_cons, List.any_cons, ih, yOq h.1 hx]
def inD (neg : Bool) : DR2 := fun x y G Q => match y with
  | .tup ds => eBq x = true /\ ds.all eBq = true /\ Q (.bl (neg ^^ inL x ds)) G
  | .ref l => onL G l fun ds => eBq x = true /\ ds.all eBq = true /\ Q (.bl (neg ^^ inL x ds)) G
  | .str j => (match x with
      | .str i => Q (.bl (neg ^^ !(Builtin.Str.occurrences j i 0 j.length 1).isEmpty)) G
      | _ => False)
  | _ => False
theorem kKq : AOp X (compareOp .In) (inD false) := by
  refine ⟨_, ⟨op_in_seq.or nPq⟩, fun x y vx vy G H DQ Q v ax ay r F => ?_⟩
  cases y with
  | tup ds =>
    obtain ⟨h1, h2, q⟩ := r
    obtain ⟨l, vs, rfl, s, rl⟩ := ay
    obtain ⟨e1, f1⟩ := oLq ax h1
    obtain ⟨e2, f2⟩ := xBq rl h2
    refine .inl ⟨l, vs, rfl, .inr s, f1, f2, ?_⟩
    rw [e1, e2, s6q h1 h2]
    exact F (.bl _) G _ H (.refl v) rfl (by simpa using q)
  | ref l =>
    cases ay
    obtain ⟨ds, vs, ⟨h1, h2, q⟩, s, rl⟩ := cYq v r
    obtain ⟨e1, f1⟩ := oLq ax h1
    obtain ⟨e2, f2⟩ := xBq rl h2
    refine .inl ⟨l, vs, rfl, .inl s, f1, f2, ?_⟩
    rw [e1, e2, s6q h1 h2]
    exact F (.bl _) G _ H (.refl v) rfl (by simpa using q)
  | str j =>
    cases x with
    | str i => cases ax; cases ay; exact .inr ⟨i, j, rfl, rfl, F (.bl _) G _ H (.refl v) rfl (by simpa [inD] using r)⟩
    | _ => exact (show False from r).elim
  | _ => exact (show False from r).elim
variable {e o : Expr} {es : List Expr} {te to : DTE} {t : DTA} {pos p apos cpos : Pos}
abbrev dCB (r : DRL) (t : DTA) : DTE := fun ρ G Q => t ρ G fun ds G1 => r ds G1 Q
theorem b1q {x : Str} {id : String} {r : DRL} (hc : ACall X (.builtin id) r) (hg : Gl X x) (hm : X.mg x = none) (hv : bootBuiltins x = some (.builtin id)) (ha : AA X (e :: es) t) (hn : x ≠ "__name__" := by decide) (hdb : (x == ("__debug__" : Str)) = false := by decide)
    (hs : (e :: es).all b6q = true := by rfl) : AE X (.Call (.Name x p) (e :: es) [] pos) (dCB r t) := by
  obtain ⟨ca, ja, ra⟩ := ha.run
  obtain ⟨cc, jc, rc⟩ := hc.run
  exact ⟨_, pIq jc hg hm hv ja hn hdb hs, fun ρ G DQ σ H Q B q F => ra ρ G _ σ H _ B q fun ds G1 vs H1 g1 al _ q1 => rc ds vs G1 H1 DQ Q g1.vw al q1 (F.after g1)⟩
theorem eRq {x : Str} {T : String} {r : DRL} (hc : ACall X (.type T) r) (hg : Gl X x) (hm : X.mg x = none) (hv : bootBuiltins x = some (.type T)) (ha : AA X (e :: es) t) (hn : x ≠ "__name__" := by decide) (hdb : (x == ("__debug__" : Str)) = false := by decide)
    (hs : (e :: es).all b6q = true := by rfl) : AE X (.Call (.Name x p) (e :: es) [] pos) (dCB r t) := by
  obtain ⟨ca, ja, ra⟩ := ha.run
  obtain ⟨cc, jc, rc⟩ := hc.run
  exact ⟨_, nIq jc hg hm hv ja hn hdb hs, fun ρ G DQ σ H Q B q F => ra ρ G _ σ H _ B q fun ds G1 vs H1 g1 al _ q1 => rc ds vs G1 H1 DQ Q g1.vw al q1 (F.after g1)⟩
abbrev tMq (r : D -> DV -> DK -> Prop) : DRL := fun xs G Q => match xs with
  | [x] => r x G Q
  | _ => False
abbrev xLq (r : D -> D -> DV -> DK -> Prop) : DRL := fun xs G Q => match xs with
  | [x, y] => r x y G Q
  | _ => False
theorem iEq {K : PySem.W.Frag} {H : Hp} {r : D -> DV -> DK -> Prop} {xs : List D} {vs : List V} {G : DV} {Q : DK} (h : tMq r xs G Q) (a : AbsL K H xs vs) : ∃ x v, xs = [x] /\ vs = [v] /\ Abs K H x v /\ r x G Q := by
  unfold tMq at h
  split at h
  . obtain ⟨v, r, rfl, q, l⟩ := a; cases l; exact ⟨_, v, rfl, rfl, q, h⟩
  . exact h.elim
theorem q7q {K : PySem.W.Frag} {H : Hp} {r : D -> D -> DV -> DK -> Prop} {xs : List D} {vs : List V} {G : DV} {Q : DK} (h : xLq r xs G Q) (a : AbsL K H xs vs) : ∃ x y v u, xs = [x, y] /\ vs = [v, u] /\ Abs K H x v /\ Abs K H y u /\ r x y G Q := by
  unfold xLq at h
  split at h
  . obtain ⟨v, r, rfl, q, u, r2, rfl, q2, l⟩ := a; cases l; exact ⟨_, _, v, u, rfl, rfl, q, q2, h⟩
  . exact h.elim
def lenD : D -> DV -> DK -> Prop := fun x G Q => match x with
  | .tup ds => Q (.int ds.length) G
  | .ref l => onL G l fun ds => Q (.int ds.length) G
  | .frl ds => Q (.int ds.length) G
  | .str z => z.length <= sizeLine /\ Q (.int z.length) G
  | _ => False
theorem b9q : ACall X (.builtin "len") (tMq lenD) := by
  refine ⟨_, ⟨call_len_seq.or iTq⟩, fun xs vs G H DQ Q v a r F => ?_⟩
  obtain ⟨x, u, rfl, rfl, ax, r⟩ := iEq r a
  cases x with
  | tup ds =>
    obtain ⟨l, ws, rfl, s, rl⟩ := ax
    exact .inl ⟨l, ws, rfl, .inr s, by rw [rl.len]; exact F (.int ds.length) G _ H (.refl v) rfl r⟩
  | ref l =>
    cases ax
    obtain ⟨ds, ws, k, s, rl⟩ := cYq v r
    exact .inl ⟨l, ws, rfl, .inl s, by rw [rl.len]; exact F (.int ds.length) G _ H (.refl v) rfl k⟩
  | frl ds =>
    obtain ⟨l, ws, rfl, s, rl⟩ := ax
    exact .inl ⟨l, ws, rfl, .inl s.sq, by rw [rl.len]; exact F (.int ds.length) G _ H (.refl v) rfl r⟩
  | str z => cases ax; exact .inr ⟨z, rfl, r.1, F (.int z.length) G _ H (.refl v) rfl r.2⟩
  | _ => exact (show False from r).elim
def intD : D -> DV -> DK -> Prop := fun x G Q => match x with
  | .int i => Q (.int i) G
  | .bl k => Q (.int (if k then 1 else 0)) G
  | _ => False
theorem mXq : ACall X (.type "int") (tMq intD) := by
  refine ⟨_, ⟨n4q⟩, fun xs vs G H DQ Q v a r F => ?_⟩
  obtain ⟨x, u, rfl, rfl, ax, r⟩ := iEq r a
  cases x with
  | int i => cases ax; exact .inl ⟨i, rfl, F (.int i) G _ H (.refl v) rfl r⟩
  | bl k => cases ax; exact .inr ⟨k, rfl, F (.int (if k then 1 else 0)) G _ H (.refl v) rfl r⟩
  | _ => exact (show False from r).elim
def zPq : D -> DV -> DK -> Prop := fun x G Q => match x with
  | .tup ds => Q (.tup ds) G
  | .ref l => onL G l fun ds => Q (.tup ds) G
  | _ => False
theorem e5q : ACall X (.type "tuple") (tMq zPq) := by
  refine ⟨_, ⟨hYq⟩, fun xs vs G H DQ Q v a r F => ?_⟩
  obtain ⟨x, u, rfl, rfl, ax, r⟩ := iEq r a
  cases x with
  | tup ds =>
    obtain ⟨l, ws, rfl, s, rl⟩ := ax
    exact ⟨l, ws, rfl, .inr ⟨s, F (.tup ds) G _ H (.refl v) ⟨l, ws, rfl, s, rl⟩ r⟩⟩
  | ref l =>
    cases ax
    obtain ⟨ds, ws, k, s, rl⟩ := cYq v r
    refine ⟨l, ws, rfl, .inl ⟨s, fun p hp => ?_⟩⟩
    have g := Go.newT (o := .tup ws) v hp
    exact F (.tup ds) G _ _ g ⟨p, ws, rfl, .of aQq, rl.mono g.tup⟩ k
  | _ => exact (show False from r).elim
end
end L3
namespace L2
open PySem PySem.Spec PyProof.Rows
def z8q (K : PySem.W.Frag) (tl : TE) : TI := fun σ H R => tl σ H fun x H1 => ∃ a, x = .ref a /\ (((∃ xs, SqL K H1 a xs) /\ R (Itl K a) H1) \/ ((∃ xs, SqT K H1 a xs) /\ R (Itt K a) H1))
theorem vYq {X : Cx} {tg l : Expr} {tl : TE} (hl : PE X l tl) : PI X tg l (z8q X.K tl) := by
  intro pins s σ H R I h
  refine thn (hl pins s σ H _ I h) fun v s1 ⟨x, H1, I1, r1, q1⟩ => ?_
  obtain ⟨a, e, q1⟩ := q1
  subst e
  cases r1
  rcases q1 with ⟨⟨xs, hq⟩, q⟩ | ⟨⟨xs, hq⟩, q⟩
  . obtain ⟨its, rv, p, hz⟩ := I1.list hq
    refine wpAny_pyIter_list p.isList ?_
    refine ⟨s1.heap.objs.size, [s1.heap.objs.size], _, _, H1, rfl, I1.kept (t' := s1.toks) fun b o e => Heap.get?_push_of_some _ e, nFq a _, ⟨_, Heap.get?_push_size _ rfl, rfl, rfl⟩, fun b hb => ?_, q⟩
    have e : b = s1.heap.objs.size := by simpa using hb
    subst e
    exact I1.fpOk (Nat.le_refl _) (I1.hok.fresh (Nat.le_refl _))
  . obtain ⟨its, rv, p, hz⟩ := I1.tuple hq
    refine wpAny_pyIter_tuple (show s1.heap.IsTuple a its.toArray from p) ?_
    refine ⟨s1.heap.objs.size, [s1.heap.objs.size], _, _, H1, rfl, I1.kept (t' := s1.toks) fun b o e => Heap.get?_push_of_some _ e, lAq a _, ⟨_, Heap.get?_push_size _ rfl, rfl, rfl⟩, fun b hb => ?_, q⟩
    have e : b = s1.heap.objs.size := by simpa using hb
    subst e
    exact I1.fpOk (Nat.le_refl _) (I1.hok.fresh (Nat.le_refl _))
end L2
namespace L3
open PySem PySem.Spec L2
section
variable {X : Cx} {a b c e o i tg iter : Expr} {es : List Expr} {ta tb te to ti : DTE} {t : DTA} {pos p apos cpos : Pos}
structure DIt where
  items : List D
  held : DV -> Prop
abbrev DTI := DSt -> DV -> (DIt -> DV -> Prop) -> Prop
def yMq (K : PySem.W.Frag) (J : DIt) (Jc : It) (G : DV) (H : Hp) : Prop := ∀ G1 H1, Go K G H G1 H1 -> J.held G1 →
  (∀ (i : Nat) (d : D), J.items[i]? = some d -> Jc.go i H1 /\ ∀ x H', Jc.yld i H1 x H' -> Go K G1 H1 G1 H' /\ Abs K H' d x) /\ ∀ i, J.items.length <= i -> Jc.stop i H1
structure AI (X : Cx) (tg iter : Expr) (wi : DTI) : Prop where
  run : ∃ wc : TI, JI X tg iter wc /\ ∀ ρ G DR σ H R, Bears X.K ρ G σ H -> wi ρ G DR -> (∀ J Jc G' H', Go X.K G H G' H' -> yMq X.K J Jc G' H' -> DR J G' -> R Jc H') -> wc σ H R
@[irreducible] def wOq (G : DV) (l : Addr) (k : DIt -> Prop) : Prop := match G l with
  | some (.lst ds) => k ⟨ds, fun G => G l = some (.lst ds)⟩
  | _ => False
abbrev yDq (ta : DTE) : DTI := fun ρ G R => ta ρ G fun x G1 => match x with
  | .tup ds => R ⟨ds, fun _ => True⟩ G1
  | .ref l => wOq G1 l fun J => R J G1
  | .frl ds => R ⟨ds, fun _ => True⟩ G1
  | _ => False
theorem f4q {G : DV} {l : Addr} {k : DIt -> Prop} {ds : List D} (h : G l = some (.lst ds)) (q : k ⟨ds, fun G => G l = some (.lst ds)⟩) : wOq G l k := by unfold wOq; rw [h]; exact q
theorem tKq {K : PySem.W.Frag} {ds : List D} {vs : List V} {l : Addr} {G1 : DV} {H1 : Hp} (v : Vw K G1 H1) (s : SqT K H1 l vs) (r : AbsL K H1 ds vs) :
    (∀ (i : Nat) (d : D), ds[i]? = some d -> (Itt K l).go i H1 /\ ∀ x H', (Itt K l).yld i H1 x H' -> Go K G1 H1 G1 H' /\ Abs K H' d x) /\ ∀ i, ds.length <= i -> (Itt K l).stop i H1 := by
  refine ⟨fun i d hd => ?_, fun i hi => ⟨vs, s, by rw [r.len]; exact hi⟩⟩
  obtain ⟨w, hw, aw⟩ := r.get hd
  refine ⟨⟨vs, w, s, hw⟩, fun x H' y => ?_⟩
  obtain ⟨rfl, y⟩ := y
  have z := y vs s
  rw [hw] at z
  cases z
  exact ⟨.refl v, aw⟩
theorem m8q {K : PySem.W.Frag} {ds : List D} {vs : List V} {l : Addr} {G1 : DV} {H1 : Hp} (v : Vw K G1 H1) (s : SqL K H1 l vs) (r : AbsL K H1 ds vs) :
    (∀ (i : Nat) (d : D), ds[i]? = some d -> (Itl K l).go i H1 /\ ∀ x H', (Itl K l).yld i H1 x H' -> Go K G1 H1 G1 H' /\ Abs K H' d x) /\ ∀ i, ds.length <= i -> (Itl K l).stop i H1 := by
  refine ⟨fun i d hd => ?_, fun i hi => ⟨vs, s, by rw [r.len]; exact hi⟩⟩
  obtain ⟨w, hw, aw⟩ := r.get hd
  refine ⟨⟨vs, w, s, hw⟩, fun x H' y => ?_⟩
  obtain ⟨rfl, y⟩ := y
  have z := y vs s
  rw [hw] at z
  cases z
  exact ⟨.refl v, aw⟩
theorem u8q {tc : TE} (hl : JE X a tc) : JI X tg a (z8q X.K tc) := ⟨vYq hl.run⟩
theorem eNq (ha : AE X a ta) : AI X tg a (yDq ta) := by
  obtain ⟨ca, ja, ra⟩ := ha.run
  refine ⟨_, u8q ja, fun ρ G DR σ H R B q F => ra ρ G _ σ H _ B q fun x G1 v H1 g1 ax q1 => ?_⟩
  cases x with
  | tup ds =>
    obtain ⟨l, vs, rfl, s, r⟩ := ax
    exact ⟨l, rfl, .inr ⟨⟨vs, s⟩, F ⟨ds, fun _ => True⟩ _ G1 H1 g1 (fun G2 H2 g2 _ => tKq g2.vw (g2.tup.tp _ _ s) (r.mono g2.tup)) q1⟩⟩
  | ref l =>
    cases ax
    refine ⟨l, rfl, .inl ?_⟩
    replace q1 : wOq G1 l fun J => DR J G1 := q1
    unfold wOq at q1
    split at q1
    . next ds hd =>
      obtain ⟨vs, z, r⟩ := g1.vw _ _ hd
      refine ⟨⟨vs, .of z⟩, F ⟨ds, fun G => G l = some (.lst ds)⟩ _ G1 H1 g1 (fun G2 H2 g2 h2 => ?_) q1⟩
      obtain ⟨us, z2, r2⟩ := g2.vw _ _ h2
      exact m8q g2.vw (.of z2) r2
    . exact q1.elim
  | frl ds =>
    obtain ⟨l, vs, rfl, s, r⟩ := ax
    exact ⟨l, rfl, .inl ⟨⟨vs, s.sq⟩, F ⟨ds, fun _ => True⟩ _ G1 H1 g1 (fun G2 H2 g2 _ => m8q g2.vw (g2.tup.fr _ _ s).sq (r.mono g2.tup)) q1⟩⟩
  | _ => exact (show False from q1).elim
def d0q (lo : Int) (n : Nat) : List D := (List.range n).map fun (i : Nat) => D.int (lo + (i : Int))
theorem dSq {lo : Int} {n i : Nat} {d : D} (h : (d0q lo n)[i]? = some d) : i < n /\ d = .int (lo + i) := by
  unfold d0q at h
  rw [List.getElem?_map] at h
  by_cases c : i < n
  . rw [List.getElem?_range c] at h
    simp at h
    exact ⟨c, h.symm⟩
  . rw [List.getElem?_eq_none (by simpa using c)] at h
    cases h
theorem c3q {lo : Int} {n : Nat} : (d0q lo n).length = n := by simp [d0q]
@[irreducible] def onR (r : List D -> Option (Int × Nat)) (ds : List D) (k : Int -> Nat -> Prop) : Prop := match r ds with
  | some (lo, n) => k lo n
  | none => False
abbrev oFq (r : List D -> Option (Int × Nat)) (t : DTA) : DTI := fun ρ G R => t ρ G fun ds G1 => onR r ds fun lo n => R ⟨d0q lo n, fun _ => True⟩ G1
def gSq (i : Int) : Bool := decide (-(2 ^ 62) <= i) && decide (i < 2 ^ 62)
def vZq : List D -> Option (Int × Nat)
  | [.int j] => if gSq j = true then some (0, j.toNat) else none
  | _ => none
def wAq : List D -> Option (Int × Nat)
  | [.int i, .int j] => if gSq i = true /\ gSq j = true then some (i, (j - i).toNat) else none
  | _ => none
theorem small62_iff {i : Int} : gSq i = true ↔ -(2 ^ 62) <= i /\ i < 2 ^ 62 := by unfold gSq; simp
theorem qRq {K : PySem.W.Frag} {lo : Int} {n : Nat} {G1 : DV} {H1 : Hp} (v : Vw K G1 H1) :
    (∀ (i : Nat) (d : D), (d0q lo n)[i]? = some d -> (Itr lo n).go i H1 /\ ∀ x H', (Itr lo n).yld i H1 x H' -> Go K G1 H1 G1 H' /\ Abs K H' d x) /\ ∀ i, (d0q lo n).length <= i -> (Itr lo n).stop i H1 := by
  refine ⟨fun i d hd => ?_, fun i hi => by rw [c3q] at hi; exact hi⟩
  obtain ⟨h1, rfl⟩ := dSq hd
  refine ⟨h1, fun x H' y => ?_⟩
  obtain ⟨rfl, rfl⟩ := y
  exact ⟨.refl v, rfl⟩
theorem pLq {ds : List D} {lo : Int} {n : Nat} (h : vZq ds = some (lo, n)) : ∃ j, ds = [.int j] /\ (-(2 ^ 62) <= j /\ j < 2 ^ 62) /\ lo = 0 /\ n = j.toNat := by
  unfold vZq at h
  split at h
  . next j =>
    split at h
    . next c => cases h; exact ⟨j, rfl, small62_iff.mp c, rfl, rfl⟩
    . cases h
  . cases h
theorem oZq {ds : List D} {lo : Int} {n : Nat} (h : wAq ds = some (lo, n)) : ∃ j, ds = [.int lo, .int j] /\ (-(2 ^ 62) <= lo /\ lo < 2 ^ 62 /\ -(2 ^ 62) <= j /\ j < 2 ^ 62) /\ n = (j - lo).toNat := by
  unfold wAq at h
  split at h
  . next i j =>
    split at h
    . next c =>
      cases h
      have c1 := small62_iff.mp c.1
      have c2 := small62_iff.mp c.2
      exact ⟨j, rfl, ⟨c1.1, c1.2, c2.1, c2.2⟩, rfl⟩
    . cases h
  . cases h
theorem hMq {j : Int} {k : Int -> Nat -> Prop} (h : -(2 ^ 62) <= j /\ j < 2 ^ 62) (q : k 0 j.toNat) : onR vZq [.int j] k := by
  have e : vZq [.int j] = some (0, j.toNat) := if_pos (small62_iff.mpr h)
  unfold onR; rw [e]; exact q
theorem sLq {i j : Int} {k : Int -> Nat -> Prop} (h1 : -(2 ^ 62) <= i /\ i < 2 ^ 62) (h2 : -(2 ^ 62) <= j /\ j < 2 ^ 62) (q : k i (j - i).toNat) : onR wAq [.int i, .int j] k := by
  have e : wAq [.int i, .int j] = some (i, (j - i).toNat) := if_pos ⟨small62_iff.mpr h1, small62_iff.mpr h2⟩
  unfold onR; rw [e]; exact q
theorem fXq {r : List D -> Option (Int × Nat)} {ds : List D} {R : DIt -> DV -> Prop} {G : DV} (h : onR r ds fun lo n => R ⟨d0q lo n, fun _ => True⟩ G) : ∃ lo n, r ds = some (lo, n) /\ R ⟨d0q lo n, fun _ => True⟩ G := by
  unfold onR at h
  split at h
  . next lo n e => exact ⟨lo, n, e, h⟩
  . exact h.elim
theorem f0q (hg : Gl X "range") (hm : X.mg "range" = none) (ha : AA X [a] t) (hs : b6q a = true := by rfl) : AI X tg (.Call (.Name "range" p) [a] [] pos) (oFq vZq t) := by
  obtain ⟨ca, ja, ra⟩ := ha.run
  refine ⟨_, lYq hg hm ja hs, fun ρ G DR σ H R B q F => ra ρ G _ σ H _ B q fun ds G1 vs H1 g1 al hl q1 => ?_⟩
  obtain ⟨lo, n, e, q2⟩ := fXq q1
  obtain ⟨j, rfl, c, rfl, rfl⟩ := pLq e
  obtain ⟨v, r, rfl, av, l⟩ := al
  cases l; cases av
  exact ⟨j, rfl, c.1, c.2, F _ _ G1 H1 g1 (fun G2 H2 g2 _ => qRq g2.vw) q2⟩
theorem m4q (hg : Gl X "range") (hm : X.mg "range" = none) (ha : AA X [a, b] t) (h1 : b6q a = true := by rfl) (h2 : b6q b = true := by rfl) : AI X tg (.Call (.Name "range" p) [a, b] [] pos) (oFq wAq t) := by
  obtain ⟨ca, ja, ra⟩ := ha.run
  refine ⟨_, mWq hg hm ja h1 h2, fun ρ G DR σ H R B q F => ra ρ G _ σ H _ B q fun ds G1 vs H1 g1 al hl q1 => ?_⟩
  obtain ⟨lo, n, e, q2⟩ := fXq q1
  obtain ⟨j, rfl, c, rfl⟩ := oZq e
  obtain ⟨v, r, rfl, av, u, r2, rfl, au, l⟩ := al
  cases l; cases av; cases au
  exact ⟨lo, j, rfl, c, F _ _ G1 H1 g1 (fun G2 H2 g2 _ => qRq g2.vw) q2⟩
def Wk (P : DSt -> DV -> Prop) : DSt -> DV -> Prop := fun ρ G => ∃ ρ' G', StSub ρ' ρ /\ Sub G' G /\ P ρ' G'
theorem Wk.of {P : DSt -> DV -> Prop} {ρ : DSt} {G : DV} (h : P ρ G) : Wk P ρ G := ⟨ρ, G, .refl _, .refl _, h⟩
abbrev dFor (wi : DTI) (g : DTG) (tb : DTS) : DTS := fun DD ρ G => wi ρ G fun J G1 => ∃ P : Nat -> DSt -> DV -> Prop, P 0 ρ G1 /\ (∀ i ρ G, i <= J.items.length -> P i ρ G -> J.held G) ∧
  (∀ (i : Nat) (d : D) (ρ : DSt) (G : DV), J.items[i]? = some d -> P i ρ G -> g d ρ G fun ρ' G' => tb { DD with nx := Wk (P (i + 1)), ct := Wk (P (i + 1)), bk := DD.nx } ρ' G') /\ ∀ ρ G, P J.items.length ρ G -> DD.nx ρ G
theorem g1q {body : List Stmt} {wi : DTI} {g : DTG} {tb : DTS} (hp : PassesOwn (model X.prog X.w) X.A X.env X.xe) (hc : X.calm = true) (hi : AI X tg iter wi) (hg : AG X tg g) (hb : AB X body tb) (hs : ∀ x, foldedSetIterable iter X.env x = pure x := by intro _; rfl) :
    AS X (.For tg iter body [] pos) (dFor wi g tb) := by
  obtain ⟨ci, ji, ri⟩ := hi.run
  obtain ⟨cg, jg, rg⟩ := hg.run
  obtain ⟨cb, jb, rb⟩ := hb.run
  refine ⟨_, wPq hp hc ji jg jb hs, fun DD Dc ρ G σ H B q F => ri ρ G _ σ H _ B q fun J Jc G1 H1 g1 ok q1 => ?_⟩
  obtain ⟨P, p0, held, turn, done⟩ := q1
  refine ⟨fun i m σ' H' => m = J.items.length - i /\ i <= J.items.length /\ ∃ ρ' G', P i ρ' G' /\ Bears X.K ρ' G' σ' H' /\ Go X.K G1 H1 G' H', ⟨_, rfl, Nat.zero_le _, ρ, G1, p0, B.go g1, .refl g1.vw⟩, ?_⟩
  rintro i m σ2 H2 ⟨rfl, hi, ρ2, G2, p2, b2, g2⟩
  have k2 := ok G2 H2 g2 (held i ρ2 G2 hi p2)
  by_cases hlt : i < J.items.length
  . have hd : J.items[i]? = some J.items[i] := by simp [hlt]
    obtain ⟨go, yl⟩ := k2.1 i _ hd
    refine .inr ⟨go, fun σ' H' => ∃ ρ' G', P (i + 1) ρ' G' /\ Bears X.K ρ' G' σ' H' /\ Go X.K G1 H1 G' H', fun σ' H' ⟨ρ', G', z1, z2, z3⟩ => ⟨J.items.length - (i + 1), by omega, rfl, hlt, ρ', G', z1, z2, z3⟩, fun x H' y => ?_⟩
    obtain ⟨g3, ax⟩ := yl x H' y
    refine rg _ x ρ2 G2 _ σ2 H' _ (b2.go g3) ax (turn i _ ρ2 G2 hd p2) fun ρ4 G4 σ4 H4 g4 b4 q4 => ?_
    have gg := (g2.trans g3).trans g4
    have again : ∀ ρ' G' σ' H', Go X.K G4 H4 G' H' -> Bears X.K ρ' G' σ' H' -> Wk (P (i + 1)) ρ' G' -> ∃ ρ' G', P (i + 1) ρ' G' /\ Bears X.K ρ' G' σ' H' /\ Go X.K G1 H1 G' H' := fun ρ' G' σ' H' g' b' ⟨ρ5, G5, s1, s2, w⟩ =>
      ⟨ρ5, G5, w, b'.weak s1 s2, (gg.trans g').sub s2⟩
    exact rb _ _ ρ4 G4 σ4 H4 b4 q4 ⟨fun ρ' G' σ' H' g' b' w => again ρ' G' σ' H' g' b' w, (F.after ((g1.trans gg))).rt, fun ρ' G' σ' H' g' b' w => F.nx ρ' G' σ' H' ((g1.trans gg).trans g') b' w, fun ρ' G' σ' H' g' b' w => again ρ' G' σ' H' g' b' w⟩
  . have e : i = J.items.length := by omega
    subst e
    exact .inl ⟨k2.2 _ (Nat.le_refl _), F.nx ρ2 G2 σ2 H2 (g1.trans g2) b2 (done ρ2 G2 p2)⟩
abbrev u2q (tc : DTT) (tb : DTS) : DTS := fun DD ρ G => ∃ W : Nat -> DSt -> DV -> Prop, (∃ m, W m ρ G) /\ ∀ m ρ G, W m ρ G →
  tc ρ G fun b G1 => Br b (tb { DD with nx := Wk fun ρ' G' => ∃ m', m' < m /\ W m' ρ' G', ct := Wk fun ρ' G' => ∃ m', m' < m /\ W m' ρ' G', bk := DD.nx } ρ G1) (DD.nx ρ G1)
theorem hOq {body : List Stmt} {tc : DTT} {tb : DTS} (hp : PassesOwn (model X.prog X.w) X.A X.env X.xe) (hc : AT X c tc) (hb : AB X body tb) : AS X (.While c body [] pos) (u2q tc tb) := by
  obtain ⟨cc, jc, rc⟩ := hc.run
  obtain ⟨cb, jb, rb⟩ := hb.run
  refine ⟨_, pUq hp jc jb, fun DD Dc ρ G σ H B q F => ?_⟩
  obtain ⟨W, ⟨m0, w0⟩, turn⟩ := q
  refine ⟨fun m σ' H' => ∃ ρ' G', W m ρ' G' /\ Bears X.K ρ' G' σ' H' /\ Go X.K G H G' H', ⟨m0, ρ, G, w0, B, .refl B.vw⟩, ?_⟩
  rintro m σ2 H2 ⟨ρ2, G2, w2, b2, g2⟩
  refine rc ρ2 G2 _ σ2 H2 _ b2 (turn m ρ2 G2 w2) fun k G3 H3 g3 q3 => ?_
  cases k with
  | true =>
    refine ⟨fun σ' H' => ∃ m', m' < m /\ ∃ ρ' G', W m' ρ' G' /\ Bears X.K ρ' G' σ' H' /\ Go X.K G H G' H', fun σ' H' ⟨m', z, ρ', G', z1, z2, z3⟩ => ⟨m', z, ρ', G', z1, z2, z3⟩, ?_⟩
    have gg := g2.trans g3
    have again : ∀ ρ' G' σ' H', Go X.K G3 H3 G' H' -> Bears X.K ρ' G' σ' H' -> Wk (fun ρ' G' => ∃ m', m' < m /\ W m' ρ' G') ρ' G' -> ∃ m', m' < m /\ ∃ ρ' G', W m' ρ' G' /\ Bears X.K ρ' G' σ' H' /\ Go X.K G H G' H' := fun ρ' G' σ' H' g' b' ⟨ρ5, G5, s1, s2, m', hm, w⟩ =>
      ⟨m', hm, ρ5, G5, w, b'.weak s1 s2, (gg.trans g').sub s2⟩
    exact rb _ _ ρ2 G3 σ2 H3 (b2.go g3) (q3.1 rfl) ⟨fun ρ' G' σ' H' g' b' w => again ρ' G' σ' H' g' b' w, (F.after gg).rt, fun ρ' G' σ' H' g' b' w => F.nx ρ' G' σ' H' (gg.trans g') b' w, fun ρ' G' σ' H' g' b' w => again ρ' G' σ' H' g' b' w⟩
  | false => exact F.nx ρ2 G3 σ2 H3 (g2.trans g3) (b2.go g3) (q3.2 rfl)
end
end L3
namespace L2
open PySem PySem.Spec PyProof.Rows
theorem JE.imp {X : Cx} {e : Expr} {t t' : TE} (h : JE X e t) (i : ∀ σ H Q, t' σ H Q -> t σ H Q) : JE X e t' := ⟨fun pins s σ H Q I q => h.run pins s σ H Q I (i σ H Q q)⟩
theorem JT.imp {X : Cx} {e : Expr} {t t' : TT} (h : JT X e t) (i : ∀ σ H Q, t' σ H Q -> t σ H Q) : JT X e t' := ⟨fun pins s σ H Q I q => h.run pins s σ H Q I (i σ H Q q)⟩
theorem JG.imp {X : Cx} {e : Expr} {t t' : TG} (h : JG X e t) (i : ∀ v σ H Q, t' v σ H Q -> t v σ H Q) : JG X e t' := ⟨fun pins s σ H x v Q I r q => h.run pins s σ H x v Q I r (i _ _ _ _ q)⟩
end L2
namespace L3
open PySem PySem.Spec L2
section
variable {X : Cx} {a b c e o i tg iter elt ct : Expr} {es : List Expr} {ta tb te to ti : DTE} {t : DTA} {pos p apos cpos : Pos}
abbrev tFq (K : PySem.W.Frag) (tc : TE) (t : DTE) : Prop := ∀ ρ G DQ σ H Q, Bears K ρ G σ H -> t ρ G DQ -> Fin K G H DQ Q -> tc σ H Q
abbrev xRq (K : PySem.W.Frag) (tc : TT) (t : DTT) : Prop := ∀ ρ G DQ σ H Q, Bears K ρ G σ H -> t ρ G DQ -> xKq K G H DQ Q -> tc σ H Q
abbrev wRq (K : PySem.W.Frag) (tc : TG) (t : DTG) : Prop := ∀ d v ρ G DQ σ H Q, Bears K ρ G σ H -> Abs K H d v -> t d ρ G DQ -> y3q K G H DQ Q -> tc v σ H Q
theorem AE.uni {ι : Type} {cx : ι -> Cx} {K : PySem.W.Frag} (hK : ∀ z, (cx z).K = K) (h : ∀ z, AE (cx z) e te) : ∃ tc : TE, (∀ z, JE (cx z) e tc) /\ tFq K tc te := by
  have h' : ∀ z, ∃ tc, JE (cx z) e tc /\ tFq K tc te := fun z => by
    have q := (h z).run
    rw [hK z] at q
    exact q
  exact ⟨fun σ H Q => ∀ z, Classical.choose (h' z) σ H Q, fun z => (Classical.choose_spec (h' z)).1.imp fun σ H Q q => q z, fun ρ G DQ σ H Q B q F z => (Classical.choose_spec (h' z)).2 ρ G DQ σ H Q B q F⟩
theorem AT.uni {ι : Type} {cx : ι -> Cx} {K : PySem.W.Frag} {te : DTT} (hK : ∀ z, (cx z).K = K) (h : ∀ z, AT (cx z) e te) : ∃ tc : TT, (∀ z, JT (cx z) e tc) /\ xRq K tc te := by
  have h' : ∀ z, ∃ tc, JT (cx z) e tc /\ xRq K tc te := fun z => by
    have q := (h z).run
    rw [hK z] at q
    exact q
  exact ⟨fun σ H Q => ∀ z, Classical.choose (h' z) σ H Q, fun z => (Classical.choose_spec (h' z)).1.imp fun σ H Q q => q z, fun ρ G DQ σ H Q B q F z => (Classical.choose_spec (h' z)).2 ρ G DQ σ H Q B q F⟩
theorem AG.uni {ι : Type} {cx : ι -> Cx} {K : PySem.W.Frag} {te : DTG} (hK : ∀ z, (cx z).K = K) (h : ∀ z, AG (cx z) e te) : ∃ tc : TG, (∀ z, JG (cx z) e tc) /\ wRq K tc te := by
  have h' : ∀ z, ∃ tc, JG (cx z) e tc /\ wRq K tc te := fun z => by
    have q := (h z).run
    rw [hK z] at q
    exact q
  exact ⟨fun v σ H Q => ∀ z, Classical.choose (h' z) v σ H Q, fun z => (Classical.choose_spec (h' z)).1.imp fun v σ H Q q => q z, fun d v ρ G DQ σ H Q B ad q F z => (Classical.choose_spec (h' z)).2 d v ρ G DQ σ H Q B ad q F⟩
def e7q (nt : Nat) (cap : List Nat) (ρ : DSt) : DSt := List.replicate nt none ++ cap.map fun i => (ρ[i]?).join
theorem eMq {nt : Nat} {cap : List Nat} {ρ : DSt} {i : Nat} {d : D} (h : (e7q nt cap ρ)[i]? = some (some d)) : nt <= i := by
  by_cases c : nt <= i
  . exact c
  . unfold e7q at h
    rw [List.getElem?_append_left (by simpa using c), List.getElem?_replicate] at h
    rw [if_pos (by omega)] at h
    cases h
theorem Bears.comp {K : PySem.W.Frag} {ρ : DSt} {G : DV} {σ : St} {H : Hp} (B : Bears K ρ G σ H) (nt : Nat) (cap : List Nat) : Bears K (e7q nt cap ρ) G (dYq nt cap σ) H := by
  refine ⟨by simp [e7q, dYq], fun i d h => ?_, B.vw⟩
  have hi := eMq h
  unfold e7q at h
  unfold dYq
  rw [List.getElem?_append_right (by simpa using hi)] at h ⊢
  rw [List.length_replicate, List.getElem?_map] at h ⊢
  cases e : cap[i - nt]? with
  | none => rw [e] at h; cases h
  | some k =>
    rw [e] at h
    have h' : (ρ[k]?).join = some d := by simpa using h
    have h2 : ρ[k]? = some (some d) := by
      cases q : ρ[k]? with
      | none => rw [q] at h'; cases h'
      | some z => rw [q] at h'; cases z with
        | none => cases h'
        | some y => simp at h'; rw [h']
    obtain ⟨v, h3, h4⟩ := B.st k d h2
    exact ⟨v, by simp [h3], h4⟩
def hUq (nt : Nat) (g : DTG) : Prop := ∀ d ρ G Q, g d ρ G Q -> g d ρ G fun ρ' G' => Q ρ' G' /\ ρ'.length = ρ.length /\ ∀ i, nt <= i -> ρ'[i]? = ρ[i]?
def l1q (nt : Nat) (g : lVq) : Prop := ∀ d ρ G Q, g d ρ G Q -> g d ρ G fun ρ' G' => Q ρ' G' /\ ρ'.length = ρ.length /\ ∀ i, nt <= i -> ρ'[i]? = ρ[i]?
theorem bLq {nt k : Nat} (h : k < nt) : hUq nt (h6q k) := fun d ρ G Q q => ⟨q, by simp, fun i hi => List.getElem?_set_ne (by omega)⟩
theorem lHq {nt : Nat} : l1q nt sBq := fun ds ρ G Q q => by
  cases ds with
  | nil => exact ⟨q, rfl, fun _ _ => rfl⟩
  | cons _ _ => exact (show False from q).elim
def xMq (g : DTG) : Prop := ∀ d ρ G Q Q', (∀ ρ' G', Q ρ' G' -> Q' ρ' G') -> g d ρ G Q -> g d ρ G Q'
def p9q (g : lVq) : Prop := ∀ d ρ G Q Q', (∀ ρ' G', Q ρ' G' -> Q' ρ' G') -> g d ρ G Q -> g d ρ G Q'
theorem iFq {k : Nat} : xMq (h6q k) := fun _ _ _ _ _ i q => i _ _ q
theorem kOq : p9q sBq := fun ds ρ G Q Q' i q => by
  cases ds with
  | nil => exact i _ _ q
  | cons _ _ => exact (show False from q).elim
theorem nDq {g : DTG} {u : lVq} (h1 : xMq g) (h2 : p9q u) : p9q (nRq g u) := fun ds ρ G Q Q' i q => by
  cases ds with
  | nil => exact (show False from q).elim
  | cons d r => exact h1 d ρ G _ _ (fun ρ' G' z => h2 r ρ' G' _ _ i z) q
theorem gHq {nt : Nat} {g : DTG} {u : lVq} (m1 : xMq g) (m2 : p9q u) (h1 : hUq nt g) (h2 : l1q nt u) : l1q nt (nRq g u) := fun ds ρ G Q q => by
  cases ds with
  | nil => exact (show False from q).elim
  | cons d r => exact m1 d ρ G _ _ (fun ρ' G' ⟨z, z1, z2⟩ => m2 r ρ' G' _ _ (fun ρ2 G2 ⟨y, y1, y2⟩ => ⟨y, y1.trans z1, fun i hi => (y2 i hi).trans (z2 i hi)⟩) (h2 r ρ' G' Q z)) (h1 d ρ G _ q)
theorem mBq {nt : Nat} {u : lVq} (h : l1q nt u) : hUq nt (v7q u) := fun d ρ G Q q => by
  cases d with
  | tup ds => exact h ds ρ G Q q
  | _ => exact (show False from q).elim
def WkV (P : DV -> Prop) : DV -> Prop := fun G => ∃ G', Sub G' G /\ P G'
theorem WkV.of {P : DV -> Prop} {G : DV} (h : P G) : WkV P G := ⟨G, .refl _, h⟩
@[irreducible] def l9q (g : DTG) (te : DTE) (nt : Nat) (cap : List Nat) (ρ : DSt) (Q : DK) (J : DIt) (G1 : DV) : Prop := J.items.length < sizeLine /\ ∃ P : Nat -> List D -> DV -> Prop, P 0 [] G1 /\ (∀ i ds G, i <= J.items.length -> P i ds G -> J.held G) ∧
  (∀ (i : Nat) (d : D) (ds : List D) (G : DV), J.items[i]? = some d -> P i ds G -> g d (e7q nt cap ρ) G fun ρ3 G3 => te ρ3 G3 fun y G4 => WkV (P (i + 1) (ds ++ [y])) G4) /\ ∀ ds G, P J.items.length ds G -> ∀ p, G p = none -> Q (.ref p) (up G p (.lst ds))
@[irreducible] def i2q (g : DTG) (tc : DTT) (te : DTE) (nt : Nat) (cap : List Nat) (ρ : DSt) (Q : DK) (J : DIt) (G1 : DV) : Prop := J.items.length < sizeLine /\ ∃ P : Nat -> List D -> DV -> Prop, P 0 [] G1 /\ (∀ i ds G, i <= J.items.length -> P i ds G -> J.held G) ∧
  (∀ (i : Nat) (d : D) (ds : List D) (G : DV), J.items[i]? = some d -> P i ds G -> g d (e7q nt cap ρ) G fun ρ3 G3 => tc ρ3 G3 fun b G5 => Br b (te ρ3 G5 fun y G4 => WkV (P (i + 1) (ds ++ [y])) G4) (WkV (P (i + 1) ds) G5)) /\ ∀ ds G, P J.items.length ds G -> ∀ p, G p = none -> Q (.ref p) (up G p (.lst ds))
abbrev rJq (wi : DTI) (g : DTG) (te : DTE) (nt : Nat) (cap : List Nat) : DTE := fun ρ G Q => wi ρ G (l9q g te nt cap ρ Q)
abbrev k3q (wi : DTI) (g : DTG) (tc : DTT) (te : DTE) (nt : Nat) (cap : List Nat) : DTE := fun ρ G Q => wi ρ G (i2q g tc te nt cap ρ Q)
theorem cIq {g : DTG} {te : DTE} {nt : Nat} {cap : List Nat} {ρ : DSt} {Q : DK} {J : DIt} {G1 : DV} (P : Nat -> List D -> DV -> Prop) (hz : J.items.length < sizeLine) (h0 : P 0 [] G1) (held : ∀ i ds G, i <= J.items.length -> P i ds G -> J.held G)
    (turn : ∀ (i : Nat) (d : D) (ds : List D) (G : DV), J.items[i]? = some d -> P i ds G -> g d (e7q nt cap ρ) G fun ρ3 G3 => te ρ3 G3 fun y G4 => WkV (P (i + 1) (ds ++ [y])) G4) (done : ∀ ds G, P J.items.length ds G -> ∀ p, G p = none -> Q (.ref p) (up G p (.lst ds))) : l9q g te nt cap ρ Q J G1 := by
  unfold l9q; exact ⟨hz, P, h0, held, turn, done⟩
theorem bBq {α : Type} {J : DIt} {G1 : DV} {g : DTG} {te : DTE} {nt : Nat} {cap : List Nat} {ρ : DSt} {Q : DK} (xs : List α) (en fn : α -> D) (he : J.items = xs.map en) (hz : xs.length < sizeLine) (held : J.held G1)
    (turn : ∀ x ∈ xs, ∀ R : DK, R (fn x) G1 -> g (en x) (e7q nt cap ρ) G1 fun ρ3 G3 => te ρ3 G3 R) (q : ∀ p, G1 p = none -> Q (.ref p) (up G1 p (.lst (xs.map fn)))) :
    l9q g te nt cap ρ Q J G1 := by
  unfold l9q
  refine ⟨by rw [he, List.length_map]; exact hz, fun i ds G => G = G1 /\ ds = (xs.take i).map fn, ⟨rfl, rfl⟩, fun i ds G _ h => h.1 ▸ held, ?_, ?_⟩
  . rintro i d ds G hd ⟨rfl, rfl⟩
    rw [he, List.getElem?_map] at hd
    cases e : xs[i]? with
    | none => rw [e] at hd; cases hd
    | some x =>
      rw [e] at hd
      cases hd
      refine turn x (List.mem_of_getElem? e) _ (WkV.of ⟨rfl, ?_⟩)
      rw [List.take_add_one, e, List.map_append]; rfl
  . rintro ds G ⟨rfl, rfl⟩ p hp
    rw [he, List.length_map, List.take_length]
    exact q p hp
theorem h8q {α : Type} {J : DIt} {G1 : DV} {g : DTG} {tc : DTT} {te : DTE} {nt : Nat} {cap : List Nat} {ρ : DSt} {Q : DK} (xs : List α) (en : α -> D) (fn : α -> Option D) (he : J.items = xs.map en) (hz : xs.length < sizeLine) (held : J.held G1)
    (turn : ∀ x ∈ xs, ∀ (R : DK) (S : DV -> Prop), (∀ y, fn x = some y -> R y G1) -> (fn x = none -> S G1) -> g (en x) (e7q nt cap ρ) G1 fun ρ3 G3 => tc ρ3 G3 fun b G5 => Br b (te ρ3 G5 R) (S G5)) (q : ∀ p, G1 p = none -> Q (.ref p) (up G1 p (.lst (xs.filterMap fn)))) :
    i2q g tc te nt cap ρ Q J G1 := by
  unfold i2q
  refine ⟨by rw [he, List.length_map]; exact hz, fun i ds G => G = G1 /\ ds = (xs.take i).filterMap fn, ⟨rfl, rfl⟩, fun i ds G _ h => h.1 ▸ held, ?_, ?_⟩
  . rintro i d ds G hd ⟨rfl, rfl⟩
    rw [he, List.getElem?_map] at hd
    cases e : xs[i]? with
    | none => rw [e] at hd; cases hd
    | some x =>
      rw [e] at hd
      cases hd
      refine turn x (List.mem_of_getElem? e) _ _ (fun y hy => WkV.of ⟨rfl, ?_⟩) (fun hy => WkV.of ⟨rfl, ?_⟩)
      . rw [List.take_add_one, e, List.filterMap_append]; simp [hy]
      . rw [List.take_add_one, e, List.filterMap_append]; simp [hy]
  . rintro ds G ⟨rfl, rfl⟩ p hp
    rw [he, List.length_map, List.take_length]
    exact q p hp
theorem Vw.priv {K : PySem.W.Frag} {G : DV} {H : Hp} {acc : Addr} {ys zs : List V} (v : Vw K G H) (h : H acc = some (.lst ys)) (n : G acc = Option.none) : Vw K G (upd H acc (.lst zs)) := fun a o e =>
  (v a o e).mono (cCq h) (aDq (by rintro rfl; rw [n] at e; cases e))
theorem Go.priv {K : PySem.W.Frag} {G G' : DV} {H H' : Hp} {acc : Addr} {ys zs : List V} (g : Go K G H G' H') (h0 : H acc = none) (h : H' acc = some (.lst ys)) (n : G' acc = none) : Go K G H G' (upd H' acc (.lst zs)) where
  tup := ⟨fun a xs q => (cCq h).tp a xs (g.tup.tp a xs q), fun a xs q => (cCq h).fr a xs (g.tup.fr a xs q), fun a o q => (cCq (K := K) h).fz a o (g.tup.fz a o q)⟩
  dom := fun a o e => by
    obtain ⟨o', e'⟩ := g.dom a o e
    exact ⟨o', by rw [aDq (aTq e h0)]; exact e'⟩
  same := fun a o e z => by rw [aDq (aTq e h0)]; exact g.same a o e z
  new := g.new
  vw := g.vw.priv h n
theorem Bears.priv {K : PySem.W.Frag} {ρ : DSt} {G : DV} {σ : St} {H : Hp} {acc : Addr} {ys zs : List V} (B : Bears K ρ G σ H) (h : H acc = some (.lst ys)) (n : G acc = none) : Bears K ρ G σ (upd H acc (.lst zs)) :=
  ⟨B.len, fun i d e => let ⟨v, h1, h2⟩ := B.st i d e; ⟨v, h1, h2.mono (cCq h)⟩, B.vw.priv h n⟩
theorem Go.held {K : PySem.W.Frag} {G G' : DV} {H H' : Hp} {acc : Addr} {ds : List D} {ys : List V} (g : Go K G H G' H') (h0 : H acc = none) (h : H' acc = some (.lst ys)) (r : AbsL K H' ds ys) : Go K G H (up G' acc (.lst ds)) H' where
  tup := g.tup
  dom := g.dom
  same := g.same
  new := fun a o e z => by rw [a9q (aTq e h0)]; exact g.new a o e z
  vw := fun a o e => by
    by_cases c : a = acc
    . subst c; rw [a2q] at e; cases e; exact ⟨ys, h, r⟩
    . rw [a9q c] at e; exact g.vw a o e
theorem j4q {K : PySem.W.Frag} {ci : TI} {cg : TG} {ce : TE} {wi : DTI} {g : DTG} {te : DTE} {nt : Nat} {cap : List Nat} (hk : hUq nt g)
    (ri : ∀ ρ G DR σ H R, Bears K ρ G σ H -> wi ρ G DR -> (∀ J Jc G' H', Go K G H G' H' -> yMq K J Jc G' H' -> DR J G' -> R Jc H') -> ci σ H R) (rg : wRq K cg g) (re : tFq K ce te) : tFq K (oIq ci cg ce nt cap) (rJq wi g te nt cap) := by
  intro ρ G DQ σ H Q B q F
  refine ri ρ G _ σ H _ B q fun J Jc G1 H1 g1 ok q1 => ?_
  unfold l9q at q1
  obtain ⟨hsz, P, p0, held, turn, done⟩ := q1
  intro acc hacc
  have n1 := g1.vw.none hacc
  have gN := Go.newT (o := .lst []) g1.vw hacc
  refine ⟨fun i m ys σ' H' => m = J.items.length - i /\ i <= J.items.length /\ ∃ ds G', P i ds G' /\ AbsL K H' ds ys /\ ds.length <= i /\ Bears K (e7q nt cap ρ) G' σ' H' /\ Go K G1 H1 G' H' /\ G' acc = none /\ H' acc = some (.lst ys),
    ⟨_, rfl, Nat.zero_le _, [], G1, p0, rfl, Nat.le_refl _, ((B.go g1).comp nt cap).go gN, gN, n1, aQq⟩, ?_⟩
  rintro i m ys σ2 H2 ⟨rfl, hi, ds, G2, p2, r2, l2, b2, g2, n2, h2⟩
  have k2 := ok G2 H2 g2 (held i ds G2 hi p2)
  by_cases hlt : i < J.items.length
  . have hd : J.items[i]? = some J.items[i] := by simp [hlt]
    obtain ⟨go, yl⟩ := k2.1 i _ hd
    refine .inr ⟨go, fun x H' y => ?_⟩
    obtain ⟨g3, ax⟩ := yl x H' y
    refine rg _ x _ G2 _ σ2 H' _ (b2.go g3) ax (hk _ _ _ _ (turn i _ ds G2 hd p2)) fun ρ4 G4 σ4 H4 g4 b4 ⟨q4, hl4, hs4⟩ => ?_
    refine re ρ4 G4 _ σ4 H4 _ b4 q4 fun z G5 u H5 g5 az q5 => ?_
    obtain ⟨G6, s6, p6⟩ := q5
    have gg := (g3.trans g4).trans g5
    have h5 := gg.same acc _ h2 n2
    have n5 := gg.new acc _ h2 n2
    have n6 := s6.none n5
    have b5 : Bears K (e7q nt cap ρ) G6 σ4 H5 := (b4.go g5).weak ⟨hl4.symm, fun j d e => by rw [hs4 j (eMq e)]; exact e⟩ s6
    refine ⟨h5, by rw [r2.len]; omega, J.items.length - (i + 1), by omega, rfl, hlt, ds ++ [z], G6, p6, ((r2.mono gg.tup).append (.one az)).mono (cCq h5), by simp; omega, b5.priv h5 n6, (((g2.trans gg).sub s6)).priv hacc h5 n6, n6, aQq⟩
  . have e : i = J.items.length := by omega
    subst e
    refine .inl ⟨k2.2 _ (Nat.le_refl _), F (.ref acc) (up G2 acc (.lst ds)) _ _ ((g1.trans g2).held ?_ h2 r2) rfl (done ds G2 p2 acc n2)⟩
    cases z : H acc with
    | none => rfl
    | some o => obtain ⟨o', e'⟩ := g1.dom acc o z; rw [hacc] at e'; cases e'
theorem fVq {K : PySem.W.Frag} {ci : TI} {cg : TG} {cc : TT} {ce : TE} {wi : DTI} {g : DTG} {tc : DTT} {te : DTE} {nt : Nat} {cap : List Nat} (hk : hUq nt g)
    (ri : ∀ ρ G DR σ H R, Bears K ρ G σ H -> wi ρ G DR -> (∀ J Jc G' H', Go K G H G' H' -> yMq K J Jc G' H' -> DR J G' -> R Jc H') -> ci σ H R) (rg : wRq K cg g) (rt : xRq K cc tc) (re : tFq K ce te) : tFq K (gAq ci cg cc ce nt cap) (k3q wi g tc te nt cap) := by
  intro ρ G DQ σ H Q B q F
  refine ri ρ G _ σ H _ B q fun J Jc G1 H1 g1 ok q1 => ?_
  unfold i2q at q1
  obtain ⟨hsz, P, p0, held, turn, done⟩ := q1
  intro acc hacc
  have n1 := g1.vw.none hacc
  have gN := Go.newT (o := .lst []) g1.vw hacc
  refine ⟨fun i m ys σ' H' => m = J.items.length - i /\ i <= J.items.length /\ ∃ ds G', P i ds G' /\ AbsL K H' ds ys /\ ds.length <= i /\ Bears K (e7q nt cap ρ) G' σ' H' /\ Go K G1 H1 G' H' /\ G' acc = none /\ H' acc = some (.lst ys),
    ⟨_, rfl, Nat.zero_le _, [], G1, p0, rfl, Nat.le_refl _, ((B.go g1).comp nt cap).go gN, gN, n1, aQq⟩, ?_⟩
  rintro i m ys σ2 H2 ⟨rfl, hi, ds, G2, p2, r2, l2, b2, g2, n2, h2⟩
  have k2 := ok G2 H2 g2 (held i ds G2 hi p2)
  by_cases hlt : i < J.items.length
  . have hd : J.items[i]? = some J.items[i] := by simp [hlt]
    obtain ⟨go, yl⟩ := k2.1 i _ hd
    refine .inr ⟨go, fun x H' y => ?_⟩
    obtain ⟨g3, ax⟩ := yl x H' y
    refine rg _ x _ G2 _ σ2 H' _ (b2.go g3) ax (hk _ _ _ _ (turn i _ ds G2 hd p2)) fun ρ4 G4 σ4 H4 g4 b4 ⟨q4, hl4, hs4⟩ => ?_
    refine rt ρ4 G4 _ σ4 H4 _ b4 q4 fun bb G7 H7 g7 q7 => ?_
    cases bb with
    | true =>
      refine re ρ4 G7 _ σ4 H7 _ (b4.go g7) (q7.1 rfl) fun z G5 u H5 g5 az q5 => ?_
      obtain ⟨G6, s6, p6⟩ := q5
      have gg := ((g3.trans g4).trans g7).trans g5
      have h5 := gg.same acc _ h2 n2
      have n5 := gg.new acc _ h2 n2
      have n6 := s6.none n5
      have b5 : Bears K (e7q nt cap ρ) G6 σ4 H5 := ((b4.go g7).go g5).weak ⟨hl4.symm, fun j d e => by rw [hs4 j (eMq e)]; exact e⟩ s6
      exact ⟨h5, by rw [r2.len]; omega, J.items.length - (i + 1), by omega, rfl, hlt, ds ++ [z], G6, p6, ((r2.mono gg.tup).append (.one az)).mono (cCq h5), by simp; omega, b5.priv h5 n6, (((g2.trans gg).sub s6)).priv hacc h5 n6, n6, aQq⟩
    | false =>
      obtain ⟨G6, s6, p6⟩ := q7.2 rfl
      have gg := (g3.trans g4).trans g7
      have h5 := gg.same acc _ h2 n2
      have n5 := gg.new acc _ h2 n2
      have n6 := s6.none n5
      have b5 : Bears K (e7q nt cap ρ) G6 σ4 H7 := (b4.go g7).weak ⟨hl4.symm, fun j d e => by rw [hs4 j (eMq e)]; exact e⟩ s6
      exact ⟨J.items.length - (i + 1), by omega, rfl, hlt, ds, G6, p6, r2.mono gg.tup, by omega, b5, (g2.trans gg).sub s6, n6, h5⟩
  . have e : i = J.items.length := by omega
    subst e
    refine .inl ⟨k2.2 _ (Nat.le_refl _), F (.ref acc) (up G2 acc (.lst ds)) _ _ ((g1.trans g2).held ?_ h2 r2) rfl (done ds G2 p2 acc n2)⟩
    cases z : H acc with
    | none => rfl
    | some o => obtain ⟨o', e'⟩ := g1.dom acc o z; rw [hacc] at e'; cases e'
theorem nMq {scope : Scope} {N' : List Str} {nt : Nat} {cap : List Nat} {wi : DTI} {g : DTG} (hc : X.calm = true) (ok : CompOk X scope N' nt cap) (hk : hUq nt g) (hi : AI X tg iter wi) (hg : ∀ C ex s H, AG (aFq X scope N' C ex s H) tg g) (he : ∀ C ex s H, AE (aFq X scope N' C ex s H) elt te)
    (hs : ∀ x, foldedSetIterable iter X.env x = pure x := by intro _; rfl) : AE X (.ListComp elt [⟨tg, iter, [], 0⟩] scope pos) (rJq wi g te nt cap) := by
  obtain ⟨ci, ji, ri⟩ := hi.run
  obtain ⟨cg, jg, rg⟩ := AG.uni (ι := Addr × List Addr × Shared × Hp) (cx := fun z => aFq X scope N' z.1 z.2.1 z.2.2.1 z.2.2.2) (K := X.K) (fun _ => rfl) fun z => hg _ _ _ _
  obtain ⟨ce, je, re⟩ := AE.uni (ι := Addr × List Addr × Shared × Hp) (cx := fun z => aFq X scope N' z.1 z.2.1 z.2.2.1 z.2.2.2) (K := X.K) (fun _ => rfl) fun z => he _ _ _ _
  exact ⟨_, tBq hc ok ji (fun C ex s H => jg (C, ex, s, H)) (fun C ex s H => je (C, ex, s, H)) hs, j4q hk ri rg re⟩
theorem o5q {scope : Scope} {N' : List Str} {nt : Nat} {cap : List Nat} {wi : DTI} {g : DTG} {tc : DTT} (hc : X.calm = true) (ok : CompOk X scope N' nt cap) (hk : hUq nt g) (hi : AI X tg iter wi) (hg : ∀ C ex s H, AG (aFq X scope N' C ex s H) tg g) (ht : ∀ C ex s H, AT (aFq X scope N' C ex s H) ct tc) (he : ∀ C ex s H, AE (aFq X scope N' C ex s H) elt te)
    (hs : ∀ x, foldedSetIterable iter X.env x = pure x := by intro _; rfl) : AE X (.ListComp elt [⟨tg, iter, [ct], 0⟩] scope pos) (k3q wi g tc te nt cap) := by
  obtain ⟨ci, ji, ri⟩ := hi.run
  obtain ⟨cg, jg, rg⟩ := AG.uni (ι := Addr × List Addr × Shared × Hp) (cx := fun z => aFq X scope N' z.1 z.2.1 z.2.2.1 z.2.2.2) (K := X.K) (fun _ => rfl) fun z => hg _ _ _ _
  obtain ⟨cc, jt, rt⟩ := AT.uni (ι := Addr × List Addr × Shared × Hp) (cx := fun z => aFq X scope N' z.1 z.2.1 z.2.2.1 z.2.2.2) (K := X.K) (fun _ => rfl) fun z => ht _ _ _ _
  obtain ⟨ce, je, re⟩ := AE.uni (ι := Addr × List Addr × Shared × Hp) (cx := fun z => aFq X scope N' z.1 z.2.1 z.2.2.1 z.2.2.2) (K := X.K) (fun _ => rfl) fun z => he _ _ _ _
  exact ⟨_, oDq hc ok ji (fun C ex s H => jg (C, ex, s, H)) (fun C ex s H => jt (C, ex, s, H)) (fun C ex s H => je (C, ex, s, H)) hs, fVq hk ri rg rt re⟩
theorem d2q {scope : Scope} {N' : List Str} {nt : Nat} {cap : List Nat} {wi : DTI} {g : DTG} {y : Str} {py spos : Pos} {k : Nat} (hc : X.calm = true) (hN : X.N.Nodup) (hy : X.N[k]? = some y) (hl : Loc X.env.scope y) (ok : CompOk X scope N' nt cap) (hk : hUq nt g) (hi : AI X tg iter wi) (hg : ∀ C ex s H, AG (aFq X scope N' C ex s H) tg g) (he : ∀ C ex s H, AE (aFq X scope N' C ex s H) elt te)
    (hs : ∀ x, foldedSetIterable iter X.env x = pure x := by intro _; rfl) (hsw : swapsWith (.ListComp elt [⟨tg, iter, [], 0⟩] scope pos) (some (.Name y py)) spos.line X.env = pure true := by rfl) (hf : X.fn y = true \/ X.env.scope.names.lookup y = some .local := by first | exact .inl rfl | exact .inr rfl | assumption) :
    AS X (.Assign [.Name y py] (.ListComp elt [⟨tg, iter, [], 0⟩] scope pos) spos) (wSq (rJq wi g te nt cap) (h6q k)) := by
  obtain ⟨ci, ji, ri⟩ := hi.run
  obtain ⟨cg, jg, rg⟩ := AG.uni (ι := Addr × List Addr × Shared × Hp) (cx := fun z => aFq X scope N' z.1 z.2.1 z.2.2.1 z.2.2.2) (K := X.K) (fun _ => rfl) fun z => hg _ _ _ _
  obtain ⟨ce, je, re⟩ := AE.uni (ι := Addr × List Addr × Shared × Hp) (cx := fun z => aFq X scope N' z.1 z.2.1 z.2.2.1 z.2.2.2) (K := X.K) (fun _ => rfl) fun z => he _ _ _ _
  exact ⟨_, l7q hc hN hy hl ok ji (fun C ex s H => jg (C, ex, s, H)) (fun C ex s H => je (C, ex, s, H)) hs hsw hf, fun DD Dc ρ G σ H B q F => j4q hk ri rg re ρ G _ σ H _ B q fun d G1 v H1 g1 a q1 => F.nx _ G1 _ H1 g1 ((B.go g1).set a k) q1⟩
theorem j9q {scope : Scope} {N' : List Str} {nt : Nat} {cap : List Nat} {wi : DTI} {g : DTG} {tc : DTT} {y : Str} {py spos : Pos} {k : Nat} (hc : X.calm = true) (hN : X.N.Nodup) (hy : X.N[k]? = some y) (hl : Loc X.env.scope y) (ok : CompOk X scope N' nt cap) (hk : hUq nt g) (hi : AI X tg iter wi) (hg : ∀ C ex s H, AG (aFq X scope N' C ex s H) tg g) (ht : ∀ C ex s H, AT (aFq X scope N' C ex s H) ct tc) (he : ∀ C ex s H, AE (aFq X scope N' C ex s H) elt te)
    (hs : ∀ x, foldedSetIterable iter X.env x = pure x := by intro _; rfl) (hsw : swapsWith (.ListComp elt [⟨tg, iter, [ct], 0⟩] scope pos) (some (.Name y py)) spos.line X.env = pure true := by rfl) (hf : X.fn y = true \/ X.env.scope.names.lookup y = some .local := by first | exact .inl rfl | exact .inr rfl | assumption) :
    AS X (.Assign [.Name y py] (.ListComp elt [⟨tg, iter, [ct], 0⟩] scope pos) spos) (wSq (k3q wi g tc te nt cap) (h6q k)) := by
  obtain ⟨ci, ji, ri⟩ := hi.run
  obtain ⟨cg, jg, rg⟩ := AG.uni (ι := Addr × List Addr × Shared × Hp) (cx := fun z => aFq X scope N' z.1 z.2.1 z.2.2.1 z.2.2.2) (K := X.K) (fun _ => rfl) fun z => hg _ _ _ _
  obtain ⟨cc, jt, rt⟩ := AT.uni (ι := Addr × List Addr × Shared × Hp) (cx := fun z => aFq X scope N' z.1 z.2.1 z.2.2.1 z.2.2.2) (K := X.K) (fun _ => rfl) fun z => ht _ _ _ _
  obtain ⟨ce, je, re⟩ := AE.uni (ι := Addr × List Addr × Shared × Hp) (cx := fun z => aFq X scope N' z.1 z.2.1 z.2.2.1 z.2.2.2) (K := X.K) (fun _ => rfl) fun z => he _ _ _ _
  exact ⟨_, jNq hc hN hy hl ok ji (fun C ex s H => jg (C, ex, s, H)) (fun C ex s H => jt (C, ex, s, H)) (fun C ex s H => je (C, ex, s, H)) hs hsw hf, fun DD Dc ρ G σ H B q F => fVq hk ri rg rt re ρ G _ σ H _ B q fun d G1 v H1 g1 a q1 => F.nx _ G1 _ H1 g1 ((B.go g1).set a k) q1⟩
structure AMt (X : Cx) (T id : String) (ty : D -> DV -> Prop) (r : D -> List D -> DV -> DK -> Prop) : Prop where
  run : ∃ rc : V -> List V -> Hp -> VK -> Prop, JMt X id rc /\ (∀ x v G H, Vw X.K G H -> Abs X.K H x v -> ty x G -> tyV X.K T v H) ∧
    ∀ x xs vx vs G H DQ Q, Vw X.K G H -> Abs X.K H x vx -> AbsL X.K H xs vs -> r x xs G DQ -> Fin X.K G H DQ Q -> rc vx vs H Q
abbrev dBM (ty : D -> DV -> Prop) (r : D -> List D -> DV -> DK -> Prop) (to : DTE) (t : DTA) : DTE := fun ρ G Q => to ρ G fun x G1 => ty x G1 /\ t ρ G1 fun xs G2 => r x xs G2 Q
abbrev dBM0 (ty : D -> DV -> Prop) (r : D -> List D -> DV -> DK -> Prop) (to : DTE) : DTE := fun ρ G Q => to ρ G fun x G1 => ty x G1 /\ r x [] G1 Q
theorem eEq {name : Str} {T id : String} {ty : D -> DV -> Prop} {r : D -> List D -> DV -> DK -> Prop} (pa : PlainAttrs T) (slot : Slot T name id) (hty : typeOf (.builtin id) = pure (.type "method_descriptor")) (hm : AMt X T id ty r) (ho : AE X o to) (ha : AA X [e] t)
    (hbase : attributeBase o name X.env (eval o X.env) = eval o X.env := by rfl) (hline : (apos.endLine == cpos.line) = true := by rfl) (hs : b6q e = true := by rfl) : AE X (.Call (.Attribute o name apos) [e] [] cpos) (dBM ty r to t) := by
  obtain ⟨co, jo, ro⟩ := ho.run
  obtain ⟨ca, ja, ra⟩ := ha.run
  obtain ⟨cm, jm, hy, rm⟩ := hm.run
  refine ⟨_, y8q pa slot hty jm jo ja hbase hline hs, fun ρ G DQ σ H Q B q F => ro ρ G _ σ H _ B q fun x G1 v H1 g1 ax ⟨h1, q1⟩ => ⟨hy x v G1 H1 g1.vw ax h1, ?_⟩⟩
  exact ra ρ G1 _ σ H1 _ (B.go g1) q1 fun xs G2 vs H2 g2 al _ q2 => rm x xs v vs G2 H2 DQ Q g2.vw (ax.mono g2.tup) al q2 (F.after (g1.trans g2))
theorem h9q {name : Str} {T id : String} {ty : D -> DV -> Prop} {r : D -> List D -> DV -> DK -> Prop} (pa : PlainAttrs T) (slot : Slot T name id) (hty : typeOf (.builtin id) = pure (.type "method_descriptor")) (hm : AMt X T id ty r) (ho : AE X o to)
    (hbase : attributeBase o name X.env (eval o X.env) = eval o X.env := by rfl) (hline : (apos.endLine == cpos.line) = true := by rfl) : AE X (.Call (.Attribute o name apos) [] [] cpos) (dBM0 ty r to) := by
  obtain ⟨co, jo, ro⟩ := ho.run
  obtain ⟨cm, jm, hy, rm⟩ := hm.run
  exact ⟨_, tHq pa slot hty jm jo hbase hline, fun ρ G DQ σ H Q B q F => ro ρ G _ σ H _ B q fun x G1 v H1 g1 ax ⟨h1, q1⟩ => ⟨hy x v G1 H1 g1.vw ax h1, rm x [] v [] G1 H1 DQ Q g1.vw ax rfl q1 (F.after g1)⟩⟩
def q5q : D -> DV -> Prop := fun x G => match x with
  | .ref l => onL G l fun _ => True
  | _ => False
theorem iLq {K : PySem.W.Frag} {x : D} {v : V} {G : DV} {H : Hp} (w : Vw K G H) (ax : Abs K H x v) (h : q5q x G) : tyV K "list" v H := by
  cases x with
  | ref l => cases ax; obtain ⟨ds, vs, _, s, _⟩ := cYq w h; exact .inl ⟨rfl, vs, s⟩
  | _ => exact (show False from h).elim
def zLq : D -> List D -> DV -> DK -> Prop := fun x xs G Q => match x, xs with
  | .ref l, [y] => onM G l fun ds => ds.length < sizeLine /\ Q .non (up G l (.lst (ds ++ [y])))
  | _, _ => False
theorem bSq : AMt X "list" "list.append" q5q zLq := by
  refine ⟨_, ⟨dGq⟩, fun x v G H w ax h => iLq w ax h, fun x xs vx vs G H DQ Q v ax al r F => ?_⟩
  unfold zLq at r
  split at r
  . next l y =>
    cases ax
    obtain ⟨u, us, rfl, au, z⟩ := al
    cases z
    obtain ⟨ds, ws, k, e1, h1, r1⟩ := dIq v r
    exact ⟨l, ws, u, rfl, rfl, h1, by rw [r1.len]; exact k.1, F .non _ _ _ (Go.setL v e1 (r1.append (.one au))) rfl k.2⟩
  . exact r.elim
def zAq : D -> List D -> DV -> DK -> Prop := fun x xs G Q => match x, xs with
  | .ref l, [.tup es] => onM G l fun ds => ds.length + es.length <= sizeLine /\ Q .non (up G l (.lst (ds ++ es)))
  | .ref l, [.ref m] => onM G l fun ds => onM G m fun es => ds.length + es.length <= sizeLine /\ Q .non (up G l (.lst (ds ++ es)))
  | _, _ => False
theorem JMt.or {id : String} {r r' : V -> List V -> Hp -> VK -> Prop} (h : JMt X id r) (h' : JMt X id r') : JMt X id (fun x xs H Q => r x xs H Q \/ r' x xs H Q) := ⟨h.run.or h'.run⟩
theorem f2q : AMt X "list" "list.extend" q5q zAq := by
  refine ⟨_, JMt.or ⟨t7q⟩ ⟨o3q⟩, fun x v G H w ax h => iLq w ax h, fun x xs vx vs G H DQ Q v ax al r F => ?_⟩
  unfold zAq at r
  split at r
  . next l es' =>
    cases ax
    obtain ⟨u, us, rfl, ⟨m, zs, rfl, s, rz⟩, z⟩ := al
    cases z
    obtain ⟨ds, ws, k, e1, h1, r1⟩ := dIq v r
    exact .inl ⟨l, m, ws, zs, rfl, rfl, h1, s, by rw [r1.len, rz.len]; exact k.1, F .non _ _ _ (Go.setL v e1 (r1.append rz)) rfl k.2⟩
  . next l m =>
    cases ax
    obtain ⟨u, us, rfl, au, z⟩ := al
    cases z; cases au
    obtain ⟨ds, ws, k, e1, h1, r1⟩ := dIq v r
    obtain ⟨es', zs, k2, e2, h2, r2⟩ := dIq v k
    exact .inr ⟨l, m, ws, zs, rfl, rfl, h1, h2, by rw [r1.len, r2.len]; exact k2.1, F .non _ _ _ (Go.setL v e1 (r1.append r2)) rfl k2.2⟩
  . exact r.elim
def yXq : D -> List D -> DV -> DK -> Prop := fun x xs G Q => match x, xs with
  | .ref l, [] => onM G l fun ds => ∃ es d, ds = es ++ [d] /\ Q d (up G l (.lst es))
  | _, _ => False
theorem fAq : AMt X "list" "list.pop" q5q yXq := by
  refine ⟨_, ⟨vRq⟩, fun x v G H w ax h => iLq w ax h, fun x xs vx vs G H DQ Q v ax al r F => ?_⟩
  unfold yXq at r
  split at r
  . next l =>
    cases ax; cases al
    obtain ⟨ds, ws, ⟨es', d, rfl, k⟩, e1, h1, r1⟩ := dIq v r
    have hl := r1.len
    have hd : (es' ++ [d])[es'.length]? = some d := by simp
    obtain ⟨u, hu, au⟩ := r1.get hd
    have e : ws.length - 1 = es'.length := by rw [hl]; simp
    have r2 : AbsL X.K H es' ws.dropLast := by
      have z := r1.take es'.length
      rw [List.take_left] at z
      rw [List.dropLast_eq_take, e]; exact z
    have g := Go.setL v e1 r2
    exact ⟨l, ws, u, rfl, rfl, h1, by rw [e]; exact hu, F d _ _ _ g (au.mono g.tup) k⟩
  . exact r.elim
abbrev DSp := List D -> DV -> DK -> Prop
def aWq (K : PySem.W.Frag) (dsp : DSp) : Sp := fun vs H Q _ => ∃ ds G DQ, AbsL K H ds vs /\ Vw K G H /\ dsp ds G DQ /\ Fin K G H DQ Q
abbrev yTq (dsp : DSp) (t : DTA) : DTE := fun ρ G Q => t ρ G fun ds G1 => dsp ds G1 Q
theorem b5q {k j : Nat} {x : Str} {ps : List Str} {dsp : DSp} (Gt : Got X.prog X.w X.K X.mg X.base k x ps (aWq X.K dsp)) (hr : Room j X.A) (hk : k <= j) (hg : Gl X x) (ha : AA X (e :: es) t) (hdb : (x == ("__debug__" : Str)) = false := by decide)
    (hs : (e :: es).all b6q = true := by rfl) : AE X (.Call (.Name x p) (e :: es) [] pos) (yTq dsp t) := by
  obtain ⟨ca, ja, ra⟩ := ha.run
  exact ⟨_, x3q Gt hr hk hg ja hdb hs, fun ρ G DQ σ H Q B q F => ra ρ G _ σ H _ B q fun ds G1 vs H1 g1 al _ q1 => ⟨ds, G1, DQ, by rw [List.append_nil]; exact al, g1.vw, q1, F.after g1⟩⟩
def Dr (DQ : DK) : DK := fun d G => ∃ G', Sub G' G /\ DQ d G'
theorem Dr.of {DQ : DK} {d : D} {G : DV} (h : DQ d G) : Dr DQ d G := ⟨G, .refl _, h⟩
def g9q (N : List Str) (ds : List D) : DSt := ds.map some ++ List.replicate (N.length - ds.length) none
theorem g2q {K : PySem.W.Frag} {N : List Str} {ds : List D} {vs : List V} {G : DV} {H : Hp} (r : AbsL K H ds vs) (v : Vw K G H) : Bears K (g9q N ds) G (L2.eWq N vs) H := by
  have hl := r.len
  refine ⟨by simp [g9q, L2.eWq, hl], fun i d h => ?_, v⟩
  unfold g9q at h
  unfold L2.eWq
  by_cases c : i < ds.length
  . rw [List.getElem?_append_left (by simpa using c), List.getElem?_map] at h
    rw [List.getElem?_append_left (by simpa [hl] using c), List.getElem?_map]
    cases e : ds[i]? with
    | none => rw [e] at h; cases h
    | some z =>
      rw [e] at h
      simp at h
      subst h
      obtain ⟨u, h1, h2⟩ := r.get e
      exact ⟨u, by rw [h1]; rfl, h2⟩
  . rw [List.getElem?_append_right (by simpa using c), List.getElem?_replicate] at h
    split at h <;> cases h
theorem okD {P : Program} {w : World} {K : PySem.W.Frag} {mg : Str -> Option Value} {base : Heap} {x qual : Str} {st : Stmt} {f : Addr} {fd : FuncData} {N ps : List Str} {k : Nat} {dsp : DSp} (F : Fun K x qual st f fd) (S : FnScope N ps (a3q st)) (len : ∀ ds G DQ, dsp ds G DQ -> ds.length = ps.length)
    (hbody : ∀ (cdv : Value) (A : Around) (outer : List Env) (s : Shared) (H : Hp) (E : XK), Room k (A.deeper (PyProof.Rows.envOfC qual (a3q st) s.heap.objs.size f cdv)) -> ∀ (ds : List D) (G : DV) (DQ : DK), dsp ds G DQ →
      ∃ t, AB (oXq CX0 P w K mg base N qual (a3q st) f cdv A outer s H E).nox (aGq st) t /\ t { nx := fun _ G' => Dr DQ .non G', rt := Dr DQ } (g9q N ds) G) : FnOk P w K mg base CX0 (k + 1) f fd ps (aWq K dsp) := by
  refine F.okJ S (fun vs H Q E h => ?_) (fun cdv A outer s H vs Q E hr h => ?_)
  . obtain ⟨ds, G, DQ, r, _, h, _⟩ := h
    rw [r.len]; exact len ds G DQ h
  . obtain ⟨ds, G, DQ, r, v, h, Fn⟩ := h
    obtain ⟨t, ⟨tc, j, imp⟩, q⟩ := hbody cdv A outer s H E hr ds G DQ h
    refine ⟨tc, j, imp _ _ (g9q N ds) G (L2.eWq N vs) H (g2q r v) q ⟨fun ρ' G' σ' H' g b ⟨G2, s2, q2⟩ => Fn .non G2 .non H' (g.sub s2) rfl q2, fun d G' v H' g a ⟨G2, s2, q2⟩ => Fn d G2 v H' (g.sub s2) a q2, fun _ _ _ _ _ _ z => z.elim, fun _ _ _ _ _ _ z => z.elim⟩⟩
end
end L3
namespace L3
open PySem PySem.Spec L2
mutual
def eqD : D -> D -> Bool
  | .non, .non => true
  | .bl a, .bl b => a == b
  | .bl a, .int b => (if a then 1 else 0) == b
  | .int a, .bl b => a == (if b then 1 else 0)
  | .int a, .int b => a == b
  | .str a, .str b => a == b
  | .tup xs, .tup ys => kIq xs ys
  | _, _ => false
def kIq : List D -> List D -> Bool
  | [], [] => true
  | x :: xs, y :: ys => eqD x y && kIq xs ys
  | _, _ => false
end
mutual
def D.data : D -> Bool
  | .ref _ => false
  | .ty _ => false
  | .frl _ => false
  | .tup ds => eZq ds
  | _ => true
def eZq : List D -> Bool
  | [] => true
  | d :: ds => d.data && eZq ds
end
mutual
def D.dp : D -> Nat
  | .tup ds => 1 + k9q ds
  | _ => 0
def k9q : List D -> Nat
  | [] => 0
  | d :: ds => max d.dp (k9q ds)
end
def eqJ (ds es : List D) (j : Nat) : Bool := match ds[j]?, es[j]? with
  | some d, some e => eqD d e
  | _, _ => false
theorem cZq : ∀ (ds es : List D), ((List.range (min ds.length es.length)).all (eqJ ds es) && ds.length == es.length) = kIq ds es
  | [], [] => by simp [kIq]
  | [], e :: es => by simp [kIq]
  | d :: ds, [] => by simp [kIq]
  | d :: ds, e :: es => by
    rw [kIq, <- cZq ds es, List.length_cons, List.length_cons, Nat.succ_min_succ, List.range_succ_eq_map, List.all_cons, List.all_map]
    have h1 : eqJ (d :: ds) (e :: es) 0 = eqD d e := rfl
    have h2 : (eqJ (d :: ds) (e :: es) ∘ Nat.succ) = eqJ ds es := by funext j; simp [eqJ]
    rw [h1, h2, Bool.and_assoc]
    congr 2
    rw [Bool.eq_iff_iff]; simp
section
variable {X : Cx} {pins : List (Addr × Obj)} {σ : L2.St} {H : Hp} {s : Shared}
mutual
theorem r5q (I : Inv X pins σ H s) : ∀ {d e : D} {v : V}, d.data = true -> e.data = true -> Abs X.K H d v -> Abs X.K H e v -> d = e
  | .non, e, v, _, h, a, b => by
    cases a
    cases e <;> first | rfl | (cases b; done) | (obtain ⟨_, _, z, _⟩ := b; cases z)
  | .bl _, e, v, _, h, a, b => by
    cases a
    cases e <;> first | (cases b; rfl) | (cases b; done) | (obtain ⟨_, _, z, _⟩ := b; cases z)
  | .int _, e, v, _, h, a, b => by
    cases a
    cases e <;> first | (cases b; rfl) | (cases b; done) | (obtain ⟨_, _, z, _⟩ := b; cases z)
  | .str _, e, v, _, h, a, b => by
    cases a
    cases e <;> first | (cases b; rfl) | (cases b; done) | (obtain ⟨_, _, z, _⟩ := b; cases z)
  | .ref _, _, _, h, _, _, _ => by simp [D.data] at h
  | .ty _, _, _, h, _, _, _ => by simp [D.data] at h
  | .frl _, _, _, h, _, _, _ => by simp [D.data] at h
  | .tup ds, e, v, h0, h, a, b => by
    obtain ⟨l, vs, rfl, s1, r1⟩ := a
    cases e with
    | tup es =>
      obtain ⟨m, us, z, s2, r2⟩ := b
      cases z
      have e := I.tuple_inj s1 s2
      subst e
      rw [iCq I (by simpa [D.data] using h0) (by simpa [D.data] using h) r1 r2]
    | ref m => simp [D.data] at h
    | frl m => simp [D.data] at h
    | _ => cases b
theorem iCq (I : Inv X pins σ H s) : ∀ {ds es : List D} {vs : List V}, eZq ds = true -> eZq es = true -> AbsL X.K H ds vs -> AbsL X.K H es vs -> ds = es
  | [], [], _, _, _, _, _ => rfl
  | [], e :: es, _, _, _, a, b => by cases a; obtain ⟨_, _, z, _⟩ := b; cases z
  | d :: ds, [], _, _, _, a, b => by cases b; obtain ⟨_, _, z, _⟩ := a; cases z
  | d :: ds, e :: es, vs, h1, h2, ⟨v, r, e1, a1, l1⟩, ⟨u, q, e2, a2, l2⟩ => by
    subst e1
    cases e2
    simp only [eZq, Bool.and_eq_true] at h1 h2
    rw [r5q I h1.1 h2.1 a1 a2, iCq I h1.2 h2.2 l1 l2]
end
mutual
theorem kFq : ∀ {d : D}, d.data = true -> eqD d d = true
  | .non, _ => rfl
  | .bl _, _ => by simp [eqD]
  | .int _, _ => by simp [eqD]
  | .str _, _ => by simp [eqD]
  | .ref _, h => by simp [D.data] at h
  | .ty _, h => by simp [D.data] at h
  | .frl _, h => by simp [D.data] at h
  | .tup ds, h => by rw [eqD]; exact jDq (by simpa [D.data] using h)
theorem jDq : ∀ {ds : List D}, eZq ds = true -> kIq ds ds = true
  | [], _ => rfl
  | d :: ds, h => by
    simp only [eZq, Bool.and_eq_true] at h
    rw [kIq, kFq h.1, jDq h.2]; rfl
end
mutual
theorem xQq (I : Inv X pins σ H s) : ∀ (d e : D) (A : Around) (x y : V) (u v : Value), d.data = true -> e.data = true -> Abs X.K H d x -> Abs X.K H e y -> RelV x u -> RelV y v -> A.units + d.dp < cLine -> SeqAt.EqAt A s u v (eqD d e)
  | .tup ds, e, A, x, y, u, v, hd, he, ax, ay, ru, rv, hu => by
    obtain ⟨a, vs, rfl, s1, r1⟩ := ax
    cases ru
    obtain ⟨its, rr, t1, _⟩ := I.tuple s1
    have hu0 : A.units < cLine := by omega
    cases e with
    | non => cases ay; cases rv; exact SeqAt.EqAt.tuple_none t1 hu0
    | bl b => cases ay; cases rv; exact SeqAt.EqAt.tuple_bool b t1 hu0
    | int b => cases ay; obtain ⟨t, rfl⟩ := rv; exact SeqAt.EqAt.tuple_int b t t1 hu0
    | str b => cases ay; obtain ⟨t, rfl⟩ := rv; exact SeqAt.EqAt.tuple_str b t t1 hu0
    | ref b => simp [D.data] at he
    | ty b => simp [D.data] at he
    | frl b => simp [D.data] at he
    | tup es =>
      obtain ⟨b, us, rfl, s2, r2⟩ := ay
      cases rv
      by_cases hab : a = b
      . subst hab
        have e1 := I.tuple_inj s1 s2
        subst e1
        have e2 := iCq I (by simpa [D.data] using hd) (by simpa [D.data] using he) r1 r2
        subst e2
        rw [kFq hd]
        exact SeqAt.EqAt.same _
      . obtain ⟨its2, rr2, t2, _⟩ := I.tuple s2
        have l1 := rr.length
        have l2 := rr2.length
        have l3 := r1.len
        have l4 := r2.len
        simp only [D.dp] at hu
        have z := SeqAt.RcAt.tuples (A := A) (e := eqJ ds es) t1 t2 hu0 (fun j h1 h2 => by
          have q := hIq I ds es A.in1 vs us its its2 (by simpa [D.data] using hd) (by simpa [D.data] using he) r1 r2 rr rr2 (by show A.units + 1 + k9q ds < cLine; omega) j (by simpa using h1) (by simpa using h2)
          simpa using q)
        have ez : ((List.range (min its.toArray.size its2.toArray.size)).all (eqJ ds es) && its.toArray.size == its2.toArray.size) = eqD (.tup ds) (.tup es) := by
          rw [List.size_toArray, List.size_toArray, <- l1, <- l2, l3, l4, cZq]; rfl
        rw [ez] at z
        exact SeqAt.EqAt.of_refs hab z
  | .ref _, _, _, _, _, _, _, hd, _, _, _, _, _, _ => by simp [D.data] at hd
  | .ty _, _, _, _, _, _, _, hd, _, _, _, _, _, _ => by simp [D.data] at hd
  | .frl _, _, _, _, _, _, _, hd, _, _, _, _, _, _ => by simp [D.data] at hd
  | .non, e, A, x, y, u, v, hd, he, ax, ay, ru, rv, hu => by
    cases ax; cases ru
    have hu0 : A.units < cLine := by omega
    cases e with
    | non => cases ay; cases rv; exact SeqAt.EqAt.same _
    | bl b => cases ay; cases rv; exact SeqAt.EqAt.none_bool b
    | int b => cases ay; obtain ⟨t, rfl⟩ := rv; exact SeqAt.EqAt.none_int b t
    | str b => cases ay; obtain ⟨t, rfl⟩ := rv; exact SeqAt.EqAt.none_str b t
    | ref b => simp [D.data] at he
    | ty b => simp [D.data] at he
    | frl b => simp [D.data] at he
    | tup es => obtain ⟨b, us, rfl, s2, r2⟩ := ay; cases rv; obtain ⟨its2, rr2, t2, _⟩ := I.tuple s2; exact SeqAt.EqAt.none_tuple t2 hu0
  | .bl a, e, A, x, y, u, v, hd, he, ax, ay, ru, rv, hu => by
    cases ax; cases ru
    have hu0 : A.units < cLine := by omega
    cases e with
    | non => cases ay; cases rv; exact SeqAt.EqAt.bool_none a
    | bl b => cases ay; cases rv; exact SeqAt.EqAt.bool_bool a b
    | int b => cases ay; obtain ⟨t, rfl⟩ := rv; exact SeqAt.EqAt.bool_int a b t
    | str b => cases ay; obtain ⟨t, rfl⟩ := rv; exact SeqAt.EqAt.bool_str a b t
    | ref b => simp [D.data] at he
    | ty b => simp [D.data] at he
    | frl b => simp [D.data] at he
    | tup es => obtain ⟨b, us, rfl, s2, r2⟩ := ay; cases rv; obtain ⟨its2, rr2, t2, _⟩ := I.tuple s2; exact SeqAt.EqAt.bool_tuple a t2 hu0
  | .int a, e, A, x, y, u, v, hd, he, ax, ay, ru, rv, hu => by
    cases ax; obtain ⟨t', rfl⟩ := ru
    have hu0 : A.units < cLine := by omega
    cases e with
    | non => cases ay; cases rv; exact SeqAt.EqAt.int_none a t'
    | bl b => cases ay; cases rv; exact SeqAt.EqAt.int_bool a t' b
    | int b => cases ay; obtain ⟨t, rfl⟩ := rv; exact SeqAt.EqAt.int_int a t' b t
    | str b => cases ay; obtain ⟨t, rfl⟩ := rv; exact SeqAt.EqAt.int_str a t' b t
    | ref b => simp [D.data] at he
    | ty b => simp [D.data] at he
    | frl b => simp [D.data] at he
    | tup es => obtain ⟨b, us, rfl, s2, r2⟩ := ay; cases rv; obtain ⟨its2, rr2, t2, _⟩ := I.tuple s2; exact SeqAt.EqAt.int_tuple a t' t2 hu0
  | .str a, e, A, x, y, u, v, hd, he, ax, ay, ru, rv, hu => by
    cases ax; obtain ⟨t', rfl⟩ := ru
    have hu0 : A.units < cLine := by omega
    cases e with
    | non => cases ay; cases rv; exact SeqAt.EqAt.str_none a t'
    | bl b => cases ay; cases rv; exact SeqAt.EqAt.str_bool a t' b
    | int b => cases ay; obtain ⟨t, rfl⟩ := rv; exact SeqAt.EqAt.str_int a t' b t
    | str b => cases ay; obtain ⟨t, rfl⟩ := rv; exact SeqAt.EqAt.str_str a t' b t
    | ref b => simp [D.data] at he
    | ty b => simp [D.data] at he
    | frl b => simp [D.data] at he
    | tup es => obtain ⟨b, us, rfl, s2, r2⟩ := ay; cases rv; obtain ⟨its2, rr2, t2, _⟩ := I.tuple s2; exact SeqAt.EqAt.str_tuple a t' t2 hu0
theorem hIq (I : Inv X pins σ H s) : ∀ (ds es : List D) (A : Around) (vs us : List V) (its its2 : List Value), eZq ds = true -> eZq es = true -> AbsL X.K H ds vs -> AbsL X.K H es us -> Vals vs its -> Vals us its2 -> A.units + k9q ds < cLine →
    ∀ j (h1 : j < its.length) (h2 : j < its2.length), SeqAt.EqAt A s its[j] its2[j] (eqJ ds es j)
  | [], es, A, vs, us, its, its2, _, _, e, e', rr, rr2, _, j, h1, h2 => by
    rw [show vs = [] from e] at rr
    cases rr
    exact absurd h1 (by simp)
  | d :: ds, [], A, vs, us, its, its2, _, _, e, e', rr, rr2, _, j, h1, h2 => by
    rw [show us = [] from e'] at rr2
    cases rr2
    exact absurd h2 (by simp)
  | d :: ds, e0 :: es, A, vs, us, its, its2, hd, he, ⟨v, r, e, q, t⟩, ⟨v', r', e', q', t'⟩, rr, rr2, hu, j, h1, h2 => by
    subst e e'
    cases rr with
    | cons r1 rt =>
      cases rr2 with
      | cons r2 rt2 =>
        simp only [k9q] at hu
        simp only [eZq, Bool.and_eq_true] at hd he
        cases j with
        | zero => exact xQq I d e0 A _ _ _ _ hd.1 he.1 q q' r1 r2 (by omega)
        | succ j =>
          have z := hIq I ds es A _ _ _ _ hd.2 he.2 t t' rt rt2 (by omega) j (by simpa using h1) (by simpa using h2)
          simpa [eqJ] using z
end
theorem xXq (I : Inv X pins σ H s) (d e : D) (A : Around) (x y : V) (u v : Value) (hd : d.data = true) (he : e.data = true) (ax : Abs X.K H d x) (ay : Abs X.K H e y) (ru : RelV x u) (rv : RelV y v) (hu : A.units + d.dp < cLine) : SeqAt.RcAt A s u v (eqD d e) := by
  have hu0 : A.units < cLine := by omega
  cases d with
  | tup ds =>
    obtain ⟨a, vs, rfl, s1, r1⟩ := ax
    cases ru
    obtain ⟨its, rr, t1, _⟩ := I.tuple s1
    cases e with
    | non => cases ay; cases rv; exact SeqAt.RcAt.tuple_none t1 hu0
    | bl b => cases ay; cases rv; exact SeqAt.RcAt.tuple_bool b t1 hu0
    | int b => cases ay; obtain ⟨t, rfl⟩ := rv; exact SeqAt.RcAt.tuple_int b t t1 hu0
    | str b => cases ay; obtain ⟨t, rfl⟩ := rv; exact SeqAt.RcAt.tuple_str b t t1 hu0
    | ref b => simp [D.data] at he
    | ty b => simp [D.data] at he
    | frl b => simp [D.data] at he
    | tup es =>
      obtain ⟨b, us, rfl, s2, r2⟩ := ay
      cases rv
      obtain ⟨its2, rr2, t2, _⟩ := I.tuple s2
      have l1 := rr.length
      have l2 := rr2.length
      have l3 := r1.len
      have l4 := r2.len
      simp only [D.dp] at hu
      have z := SeqAt.RcAt.tuples (A := A) (e := eqJ ds es) t1 t2 hu0 (fun j h1 h2 => by
        have q := hIq I ds es A.in1 vs us its its2 (by simpa [D.data] using hd) (by simpa [D.data] using he) r1 r2 rr rr2 (by show A.units + 1 + k9q ds < cLine; omega) j (by simpa using h1) (by simpa using h2)
        simpa using q)
      have ez : ((List.range (min its.toArray.size its2.toArray.size)).all (eqJ ds es) && its.toArray.size == its2.toArray.size) = eqD (.tup ds) (.tup es) := by
        rw [List.size_toArray, List.size_toArray, <- l1, <- l2, l3, l4, cZq]; rfl
      rw [ez] at z
      exact z
  | ref a => simp [D.data] at hd
  | ty a => simp [D.data] at hd
  | frl a => simp [D.data] at hd
  | non =>
    cases ax; cases ru
    cases e with
    | non => cases ay; cases rv; exact SeqAt.RcAt.none_none
    | bl b => cases ay; cases rv; exact SeqAt.RcAt.none_bool b
    | int b => cases ay; obtain ⟨t, rfl⟩ := rv; exact SeqAt.RcAt.none_int b t
    | str b => cases ay; obtain ⟨t, rfl⟩ := rv; exact SeqAt.RcAt.none_str b t
    | ref b => simp [D.data] at he
    | ty b => simp [D.data] at he
    | frl b => simp [D.data] at he
    | tup es => obtain ⟨b, us, rfl, s2, r2⟩ := ay; cases rv; obtain ⟨its2, rr2, t2, _⟩ := I.tuple s2; exact SeqAt.RcAt.none_tuple t2 hu0
  | bl a =>
    cases ax; cases ru
    cases e with
    | non => cases ay; cases rv; exact SeqAt.RcAt.bool_none a
    | bl b => cases ay; cases rv; exact SeqAt.RcAt.bool_bool a b
    | int b => cases ay; obtain ⟨t, rfl⟩ := rv; exact SeqAt.RcAt.bool_int a b t
    | str b => cases ay; obtain ⟨t, rfl⟩ := rv; exact SeqAt.RcAt.bool_str a b t
    | ref b => simp [D.data] at he
    | ty b => simp [D.data] at he
    | frl b => simp [D.data] at he
    | tup es => obtain ⟨b, us, rfl, s2, r2⟩ := ay; cases rv; obtain ⟨its2, rr2, t2, _⟩ := I.tuple s2; exact SeqAt.RcAt.bool_tuple a t2 hu0
  | int a =>
    cases ax; obtain ⟨t', rfl⟩ := ru
    cases e with
    | non => cases ay; cases rv; exact SeqAt.RcAt.int_none a t'
    | bl b => cases ay; cases rv; exact SeqAt.RcAt.int_bool a t' b
    | int b => cases ay; obtain ⟨t, rfl⟩ := rv; exact SeqAt.RcAt.int_int a t' b t
    | str b => cases ay; obtain ⟨t, rfl⟩ := rv; exact SeqAt.RcAt.int_str a t' b t
    | ref b => simp [D.data] at he
    | ty b => simp [D.data] at he
    | frl b => simp [D.data] at he
    | tup es => obtain ⟨b, us, rfl, s2, r2⟩ := ay; cases rv; obtain ⟨its2, rr2, t2, _⟩ := I.tuple s2; exact SeqAt.RcAt.int_tuple a t' t2 hu0
  | str a =>
    cases ax; obtain ⟨t', rfl⟩ := ru
    cases e with
    | non => cases ay; cases rv; exact SeqAt.RcAt.str_none a t'
    | bl b => cases ay; cases rv; exact SeqAt.RcAt.str_bool a t' b
    | int b => cases ay; obtain ⟨t, rfl⟩ := rv; exact SeqAt.RcAt.str_int a t' b t
    | str b => cases ay; obtain ⟨t, rfl⟩ := rv; exact SeqAt.RcAt.str_str a t' b t
    | ref b => simp [D.data] at he
    | ty b => simp [D.data] at he
    | frl b => simp [D.data] at he
    | tup es => obtain ⟨b, us, rfl, s2, r2⟩ := ay; cases rv; obtain ⟨its2, rr2, t2, _⟩ := I.tuple s2; exact SeqAt.RcAt.str_tuple a t' t2 hu0
end
end L3
namespace L3
open PySem PySem.Spec L2
section
variable {X : Cx} {pins : List (Addr × Obj)} {σ : L2.St} {H : Hp} {s : Shared}
theorem x6q (I : Inv X pins σ H s) (d e : D) (A : Around) (x y : V) (u v : Value) (hd : d.data = true) (he : e.data = true) (ax : Abs X.K H d x) (ay : Abs X.K H e y) (ru : RelV x u) (rv : RelV y v) (hu : A.units + d.dp < cLine) : SeqAt.RcNeAt A s u v (!eqD d e) := by
  have hu0 : A.units < cLine := by omega
  cases d with
  | tup ds =>
    obtain ⟨a, vs, rfl, s1, r1⟩ := ax
    cases ru
    obtain ⟨its, rr, t1, _⟩ := I.tuple s1
    cases e with
    | non => cases ay; cases rv; exact SeqAt.RcNeAt.tuple_none t1 hu0
    | bl b => cases ay; cases rv; exact SeqAt.RcNeAt.tuple_bool b t1 hu0
    | int b => cases ay; obtain ⟨t, rfl⟩ := rv; exact SeqAt.RcNeAt.tuple_int b t t1 hu0
    | str b => cases ay; obtain ⟨t, rfl⟩ := rv; exact SeqAt.RcNeAt.tuple_str b t t1 hu0
    | ref b => simp [D.data] at he
    | ty b => simp [D.data] at he
    | frl b => simp [D.data] at he
    | tup es =>
      obtain ⟨b, us, rfl, s2, r2⟩ := ay
      cases rv
      obtain ⟨its2, rr2, t2, _⟩ := I.tuple s2
      have l1 := rr.length
      have l2 := rr2.length
      have l3 := r1.len
      have l4 := r2.len
      simp only [D.dp] at hu
      have z := SeqAt.RcNeAt.tuples (A := A) (e := eqJ ds es) t1 t2 hu0 (fun j h1 h2 => by
        have q := hIq I ds es A.in1 vs us its its2 (by simpa [D.data] using hd) (by simpa [D.data] using he) r1 r2 rr rr2 (by show A.units + 1 + k9q ds < cLine; omega) j (by simpa using h1) (by simpa using h2)
        simpa using q)
      have ez : ((List.range (min its.toArray.size its2.toArray.size)).all (eqJ ds es) && its.toArray.size == its2.toArray.size) = eqD (.tup ds) (.tup es) := by
        rw [List.size_toArray, List.size_toArray, <- l1, <- l2, l3, l4, cZq]; rfl
      rw [ez] at z
      exact z
  | ref a => simp [D.data] at hd
  | ty a => simp [D.data] at hd
  | frl a => simp [D.data] at hd
  | non =>
    cases ax; cases ru
    cases e with
    | non => cases ay; cases rv; exact SeqAt.RcNeAt.none_none
    | bl b => cases ay; cases rv; exact SeqAt.RcNeAt.none_bool b
    | int b => cases ay; obtain ⟨t, rfl⟩ := rv; exact SeqAt.RcNeAt.none_int b t
    | str b => cases ay; obtain ⟨t, rfl⟩ := rv; exact SeqAt.RcNeAt.none_str b t
    | ref b => simp [D.data] at he
    | ty b => simp [D.data] at he
    | frl b => simp [D.data] at he
    | tup es => obtain ⟨b, us, rfl, s2, r2⟩ := ay; cases rv; obtain ⟨its2, rr2, t2, _⟩ := I.tuple s2; exact SeqAt.RcNeAt.none_tuple t2 hu0
  | bl a =>
    cases ax; cases ru
    cases e with
    | non => cases ay; cases rv; exact SeqAt.RcNeAt.bool_none a
    | bl b => cases ay; cases rv; exact SeqAt.RcNeAt.bool_bool a b
    | int b => cases ay; obtain ⟨t, rfl⟩ := rv; exact SeqAt.RcNeAt.bool_int a b t
    | str b => cases ay; obtain ⟨t, rfl⟩ := rv; exact SeqAt.RcNeAt.bool_str a b t
    | ref b => simp [D.data] at he
    | ty b => simp [D.data] at he
    | frl b => simp [D.data] at he
    | tup es => obtain ⟨b, us, rfl, s2, r2⟩ := ay; cases rv; obtain ⟨its2, rr2, t2, _⟩ := I.tuple s2; exact SeqAt.RcNeAt.bool_tuple a t2 hu0
  | int a =>
    cases ax; obtain ⟨t', rfl⟩ := ru
    cases e with
    | non => cases ay; cases rv; exact SeqAt.RcNeAt.int_none a t'
    | bl b => cases ay; cases rv; exact SeqAt.RcNeAt.int_bool a t' b
    | int b => cases ay; obtain ⟨t, rfl⟩ := rv; exact SeqAt.RcNeAt.int_int a t' b t
    | str b => cases ay; obtain ⟨t, rfl⟩ := rv; exact SeqAt.RcNeAt.int_str a t' b t
    | ref b => simp [D.data] at he
    | ty b => simp [D.data] at he
    | frl b => simp [D.data] at he
    | tup es => obtain ⟨b, us, rfl, s2, r2⟩ := ay; cases rv; obtain ⟨its2, rr2, t2, _⟩ := I.tuple s2; exact SeqAt.RcNeAt.int_tuple a t' t2 hu0
  | str a =>
    cases ax; obtain ⟨t', rfl⟩ := ru
    cases e with
    | non => cases ay; cases rv; exact SeqAt.RcNeAt.str_none a t'
    | bl b => cases ay; cases rv; exact SeqAt.RcNeAt.str_bool a t' b
    | int b => cases ay; obtain ⟨t, rfl⟩ := rv; exact SeqAt.RcNeAt.str_int a t' b t
    | str b => cases ay; obtain ⟨t, rfl⟩ := rv; exact SeqAt.RcNeAt.str_str a t' b t
    | ref b => simp [D.data] at he
    | ty b => simp [D.data] at he
    | frl b => simp [D.data] at he
    | tup es => obtain ⟨b, us, rfl, s2, r2⟩ := ay; cases rv; obtain ⟨its2, rr2, t2, _⟩ := I.tuple s2; exact SeqAt.RcNeAt.str_tuple a t' t2 hu0
end
end L3
namespace L3
open PySem PySem.Spec L2
section
variable {X : Cx} {a b c e o i tg iter : Expr} {es : List Expr} {ta tb te to ti tc : DTE} {t : DTA} {pos p apos cpos : Pos}
theorem bXq {A : Around} {k : Nat} (hr : Room k A) : A.units + 200 < cLine := by have := hr.un; omega
def wUq (K : PySem.W.Frag) (f : Bool -> Bool) : R2 := fun x y H Q => ∃ d e, Abs K H d x /\ Abs K H e y /\ d.data = true /\ e.data = true /\ d.dp <= 150 /\ Q (.bl (f (eqD d e))) H
def t2q (K : PySem.W.Frag) (f : Bool -> Bool) : R2 := fun x y H Q => ∃ l m vs us ds es, x = .ref l /\ y = .ref m /\ SqL K H l vs /\ SqL K H m us /\ AbsL K H ds vs /\ AbsL K H es us /\ eZq ds = true /\ eZq es = true /\ k9q ds <= 150 /\ Q (.bl (f (kIq ds es))) H
theorem vWq (hu : X.A.units + 200 < cLine) : OpR X (compareOp .Eq) (wUq X.K id) := by
  intro pins s σ H x y v u Q I rx ry h
  obtain ⟨d, e, ax, ay, hd, he, hz, q⟩ := h
  exact xXq I d e X.A x y v u hd he ax ay rx ry (by omega) X.prog X.w X.xe _ ⟨.bl _, H, I, rfl, q⟩
theorem vTq (hu : X.A.units + 200 < cLine) : OpR X (compareOp .NotEq) (wUq X.K (!·)) := by
  intro pins s σ H x y v u Q I rx ry h
  obtain ⟨d, e, ax, ay, hd, he, hz, q⟩ := h
  exact x6q I d e X.A x y v u hd he ax ay rx ry (by omega) X.prog X.w X.xe _ ⟨.bl _, H, I, rfl, q⟩
theorem iIq : ∀ {ds es : List D}, ds.length ≠ es.length -> kIq ds es = false
  | [], [], h => absurd rfl h
  | [], _ :: _, _ => rfl
  | _ :: _, [], _ => rfl
  | d :: ds, e :: es, h => by rw [kIq, iIq (by simpa using h), Bool.and_false]
theorem kNq {ds es : List D} (h : ds.length = es.length) : (List.range ds.length).all (eqJ ds es) = kIq ds es := by
  rw [<- cZq, <- h, Nat.min_self]; simp
theorem sXq (hu : X.A.units + 200 < cLine) : OpR X (compareOp .Eq) (t2q X.K id) := by
  intro pins s σ H x y v u Q I rx ry h
  obtain ⟨l, m, vs, us, ds, es, rfl, rfl, s1, s2, r1, r2, hd, he, hz, q⟩ := h
  cases rx; cases ry
  obtain ⟨its, rr, t1, _⟩ := I.list s1
  obtain ⟨its2, rr2, t2, _⟩ := I.list s2
  have l1 := rr.length
  have l2 := rr2.length
  have l3 := r1.len
  have l4 := r2.len
  by_cases hl : ds.length = es.length
  . refine SeqAt.RcAt.lists (e := eqJ ds es) t1.isList t2.isList (by rw [List.size_toArray, List.size_toArray]; omega) (by omega) (fun j h1 h2 => ?_) X.prog X.w X.xe _ ⟨.bl _, H, I, ?_, q⟩
    . have q := hIq I ds es X.A.in1 vs us its its2 hd he r1 r2 rr rr2 (by show X.A.units + 1 + k9q ds < cLine; omega) j (by simpa using h1) (by simpa using h2)
      simpa using q
    . show Value.bool _ = Value.bool _
      rw [List.size_toArray, <- l1, l3, kNq hl]; rfl
  . refine SeqAt.RcAt.lists_lengths t1.isList t2.isList (by rw [List.size_toArray, List.size_toArray]; simp; omega) (by omega) X.prog X.w X.xe _ ⟨.bl _, H, I, ?_, q⟩
    rw [iIq hl]; rfl
theorem rAq (hu : X.A.units + 200 < cLine) : OpR X (compareOp .NotEq) (t2q X.K (!·)) := by
  intro pins s σ H x y v u Q I rx ry h
  obtain ⟨l, m, vs, us, ds, es, rfl, rfl, s1, s2, r1, r2, hd, he, hz, q⟩ := h
  cases rx; cases ry
  obtain ⟨its, rr, t1, _⟩ := I.list s1
  obtain ⟨its2, rr2, t2, _⟩ := I.list s2
  have l1 := rr.length
  have l2 := rr2.length
  have l3 := r1.len
  have l4 := r2.len
  by_cases hl : ds.length = es.length
  . refine SeqAt.RcNeAt.lists (e := eqJ ds es) t1.isList t2.isList (by rw [List.size_toArray, List.size_toArray]; omega) (by omega) (fun j h1 h2 => ?_) X.prog X.w X.xe _ ⟨.bl _, H, I, ?_, q⟩
    . have q := hIq I ds es X.A.in1 vs us its its2 hd he r1 r2 rr rr2 (by show X.A.units + 1 + k9q ds < cLine; omega) j (by simpa using h1) (by simpa using h2)
      simpa using q
    . show Value.bool _ = Value.bool _
      rw [List.size_toArray, <- l1, l3, kNq hl]
  . refine SeqAt.RcNeAt.lists_lengths t1.isList t2.isList (by rw [List.size_toArray, List.size_toArray]; simp; omega) (by omega) X.prog X.w X.xe _ ⟨.bl _, H, I, ?_, q⟩
    rw [iIq hl]; rfl
def eqR (f : Bool -> Bool) : DR2 := fun x y G Q => match x, y with
  | .int i, .int j => Q (.bl (f (i == j))) G
  | .str i, .str j => Q (.bl (f (i == j))) G
  | .tup _, .str _ => Q (.bl (f false)) G
  | .str _, .tup _ => Q (.bl (f false)) G
  | .ref l, .ref m => onL G l fun ds => onL G m fun es => eZq ds = true /\ eZq es = true /\ k9q ds <= 150 /\ Q (.bl (f (kIq ds es))) G
  | x, y => x.data = true /\ y.data = true /\ x.dp <= 150 /\ Q (.bl (f (eqD x y))) G
def rTS (K : PySem.W.Frag) (f : Bool -> Bool) : R2 := fun x y H Q => (∃ a vs z, x = .ref a /\ SqT K H a vs /\ y = .str z /\ Q (.bl (f false)) H) \/ ∃ a vs z, y = .ref a /\ SqT K H a vs /\ x = .str z /\ Q (.bl (f false)) H
theorem r4q (hu : X.A.units + 200 < cLine) : OpR X (compareOp .Eq) (rTS X.K id) := by
  intro pins s σ H x y v u Q I rx ry h
  rcases h with ⟨a, vs, z, rfl, sq, rfl, q⟩ | ⟨a, vs, z, rfl, sq, rfl, q⟩
  . cases rx; obtain ⟨t, rfl⟩ := ry
    obtain ⟨its, rr, t1, _⟩ := I.tuple sq
    exact SeqAt.RcAt.tuple_str z t t1 (by omega) X.prog X.w X.xe _ ⟨.bl false, H, I, rfl, q⟩
  . cases ry; obtain ⟨t, rfl⟩ := rx
    obtain ⟨its, rr, t1, _⟩ := I.tuple sq
    exact SeqAt.RcAt.str_tuple z t t1 (by omega) X.prog X.w X.xe _ ⟨.bl false, H, I, rfl, q⟩
theorem rQq (hu : X.A.units + 200 < cLine) : OpR X (compareOp .NotEq) (rTS X.K (!·)) := by
  intro pins s σ H x y v u Q I rx ry h
  rcases h with ⟨a, vs, z, rfl, sq, rfl, q⟩ | ⟨a, vs, z, rfl, sq, rfl, q⟩
  . cases rx; obtain ⟨t, rfl⟩ := ry
    obtain ⟨its, rr, t1, _⟩ := I.tuple sq
    exact SeqAt.RcNeAt.tuple_str z t t1 (by omega) X.prog X.w X.xe _ ⟨.bl true, H, I, rfl, q⟩
  . cases ry; obtain ⟨t, rfl⟩ := rx
    obtain ⟨its, rr, t1, _⟩ := I.tuple sq
    exact SeqAt.RcNeAt.str_tuple z t t1 (by omega) X.prog X.w X.xe _ ⟨.bl true, H, I, rfl, q⟩
theorem qTq {f : Bool -> Bool} {op : CmpOp} (h1 : OpR X (compareOp op) (wUq X.K f)) (h2 : OpR X (compareOp op) (t2q X.K f)) (h3 : OpR X (compareOp op) (rTS X.K f)) : AOp X (compareOp op) (eqR f) := by
  refine ⟨_, ⟨h1.or (h2.or h3)⟩, fun x y vx vy G H DQ Q v ax ay r F => ?_⟩
  have fin : ∀ b : Bool, DQ (.bl b) G -> Q (.bl b) H := fun b q => F (.bl b) G _ H (.refl v) rfl q
  have gen : x.data = true /\ y.data = true /\ x.dp <= 150 /\ DQ (.bl (f (eqD x y))) G -> wUq X.K f vx vy H Q := fun ⟨z1, z2, z3, z4⟩ => ⟨x, y, ax, ay, z1, z2, z3, fin _ z4⟩
  unfold eqR at r
  split at r
  . exact .inl (gen ⟨rfl, rfl, Nat.zero_le _, r⟩)
  . exact .inl (gen ⟨rfl, rfl, Nat.zero_le _, r⟩)
  . obtain ⟨l, vs, rfl, s1, _⟩ := ax
    cases ay
    exact .inr (.inr (.inl ⟨l, vs, _, rfl, s1, rfl, fin _ r⟩))
  . obtain ⟨l, vs, rfl, s1, _⟩ := ay
    cases ax
    exact .inr (.inr (.inr ⟨l, vs, _, rfl, s1, rfl, fin _ r⟩))
  . cases ax; cases ay
    obtain ⟨ds, vs, k1, s1, r1⟩ := cYq v r
    obtain ⟨es, us, ⟨z1, z2, z3, k2⟩, s2, r2⟩ := cYq v k1
    exact .inr (.inl ⟨_, _, vs, us, ds, es, rfl, rfl, s1, s2, r1, r2, z1, z2, z3, fin _ k2⟩)
  . exact .inl (gen r)
theorem bEq (hu : X.A.units + 200 < cLine) : AOp X (compareOp .Eq) (eqR id) := qTq (vWq hu) (sXq hu) (r4q hu)
theorem nNq (hu : X.A.units + 200 < cLine) : AOp X (compareOp .NotEq) (eqR (!·)) := qTq (vTq hu) (rAq hu) (rQq hu)
@[irreducible] def atS (ds : List D) (i : Int) (G : DV) (Q : DK) : Prop := atD ds i G Q
theorem tOq {ds : List D} {i : Int} {G : DV} {Q : DK} (h : atD ds i G Q) : atS ds i G Q := by unfold atS; exact h
abbrev dIxD (t : DTA) (tb : DTE) : DTE := fun ρ G Q => t ρ G fun ds G1 => tb ρ G1 fun y G2 => match y with
  | .int i => atS ds i G2 Q
  | _ => False
theorem nOq {lp : Pos} (h : AA X es t) (hb : AE X b tb) (hs : iKq b) (hl : Nat.ble es.length 1000 = true := by rfl) : AE X (.Subscript (.List es lp) b pos) (dIxD t tb) := by
  obtain ⟨ca, ja, ra⟩ := h.run
  obtain ⟨cb, jb, rb⟩ := hb.run
  refine ⟨_, v6q ⟨qUq⟩ (qQq ja) jb hs, fun ρ G DQ σ H Q B q F => ra ρ G _ σ H _ B q fun ds G1 vs H1 g1 al hn q1 => ⟨by rw [al.len, hn]; exact hTq hl, fun p hp => ?_⟩⟩
  have g2 := Go.newT (o := .lst vs) g1.vw hp
  have n1 := g1.vw.none hp
  refine rb ρ G1 _ σ _ _ ((B.go g1).go g2) q1 fun y G3 u H3 g3 ay q3 => ?_
  have h3 := g3.same p _ aQq n1
  split at q3
  . next i =>
    cases ay
    unfold atS at q3
    obtain ⟨d, hd, q4⟩ := hPq q3
    obtain ⟨w, hw, aw⟩ := i1q ((al.mono g2.tup).mono g3.tup) hd
    exact .inl ⟨p, vs, i, w, rfl, rfl, .of h3, hw, F d G3 w H3 ((g1.trans g2).trans g3) aw q4⟩
  . exact q3.elim
def oBq (sc : Scope) (N : List Str) (scope : Scope) (N' : List Str) (nt : Nat) (cap : List Nat) : Bool :=
  scope.names.all (fun y => y.2 != .cell) && scope.names.all (fun y => y.2 != .local || scope.names.lookup y.1 == some .local) &&
  scope.names.all (fun y => y.2 != .free || (sc.names.lookup y.1 == some .cell || sc.names.lookup y.1 == some .free)) && N'.length == nt + cap.length &&
  (List.range cap.length).all fun j => match cap[j]?, N'[nt + j]? with
    | some i, some x => N[i]? == some x && scope.names.lookup x == some .free
    | _, _ => true
theorem CompOk.of {scope : Scope} {N' : List Str} {nt : Nat} {cap : List Nat} (hk : scope.kind = .function) (h : oBq X.env.scope X.N scope N' nt cap = true) : CompOk X scope N' nt cap := by
  unfold oBq at h
  simp only [Bool.and_eq_true, List.all_eq_true] at h
  obtain ⟨⟨⟨⟨h1, h2⟩, h3⟩, h4⟩, h5⟩ := h
  refine ⟨hk, fun y hy => by simpa using h1 y hy, fun y hy e => ?_, fun y hy e => ?_, by simpa using h4, fun j i x hj hx => ?_⟩
  . have z := h2 y hy
    rw [e] at z
    simpa using z
  . have z := h3 y hy
    rw [e] at z
    simpa using z
  . have lt : j < cap.length := by
      rcases Nat.lt_or_ge j cap.length with z | z
      . exact z
      . rw [List.getElem?_eq_none z] at hj; cases hj
    have z := h5 j (List.mem_range.mpr lt)
    rw [hj, hx] at z
    simpa using z
abbrev x0q (to ti : DTE) : DTG := fun d ρ G Q => to ρ G fun x G1 => ti ρ G1 fun y G2 => match x, y with
  | .ref l, .int k => onM G2 l fun ds => ∃ j, ixN ds.length k = some j /\ Q ρ (up G2 l (.lst (ds.set j d)))
  | _, _ => False
theorem qMq (ho : AE X o to) (hi : AE X i ti) (ha : ∀ v, assign (.Subscript o i pos) X.env v = (do
      let ov ← holding [v] (eval o X.env)
      let iv ← holding [v, ov] (eval i X.env)
      standAt pos
      holding [v, ov, iv] (setItem ov iv v)
      release [v, ov, iv] []) := by intro _; rfl) : AG X (.Subscript o i pos) (x0q to ti) := by
  obtain ⟨co, jo, ro⟩ := ho.run
  obtain ⟨ci, ji, ri⟩ := hi.run
  refine ⟨_, tZq jo ji ⟨oUq⟩ ha, fun d v ρ G DQ σ H Q B ad q F => ro ρ G _ σ H _ B q fun x G1 vx H1 g1 ax q1 => ri ρ G1 _ σ H1 _ (B.go g1) q1 fun y G2 vy H2 g2 ay q2 => ?_⟩
  split at q2
  . next l k =>
    cases ax; cases ay
    obtain ⟨ds, vs, ⟨j, hj, q3⟩, e1, h1, r1⟩ := dIq g2.vw q2
    have ad2 := (ad.mono g1.tup).mono g2.tup
    have g3 := Go.setL g2.vw e1 (r1.set ad2 j)
    have gg := (g1.trans g2).trans g3
    exact ⟨l, vs, k, j, rfl, rfl, h1, by rw [r1.len]; exact hj, F ρ _ σ _ gg (B.go gg) q3⟩
  . exact q2.elim
abbrev wVq (te : DTE) : DTE := fun ρ G Q => te ρ G fun x G1 => match x with
  | .tup ds => ∀ p, G1 p = none -> Q (.ref p) (up G1 p (.lst ds.reverse))
  | _ => False
def tyN (x : D) (G : DV) (k : String -> Prop) : Prop := match x with
  | .non => k "NoneType"
  | .bl _ => k "bool"
  | .int _ => k "int"
  | .str _ => k "str"
  | .tup _ => k "tuple"
  | .ref l => onL G l fun _ => k "list"
  | _ => False
def xHq (t T : String) : Option Bool :=
  if (t = "NoneType" \/ t = "bool" \/ t = "int" \/ t = "str" \/ t = "tuple" \/ t = "list") /\ (T = "bool" \/ T = "int" \/ T = "str" \/ T = "tuple" \/ T = "list") then some (decide (t = T) || (decide (t = "bool") && decide (T = "int"))) else none
theorem dRq {K : PySem.W.Frag} {t T : String} {b : Bool} (h : xHq t T = some b) : PySem.W.kitOne K (.type t) (.type T) = some b := by
  unfold xHq at h
  split at h
  . next c =>
    obtain ⟨c1, c2⟩ := c
    rcases c1 with rfl | rfl | rfl | rfl | rfl | rfl <;> rcases c2 with rfl | rfl | rfl | rfl | rfl <;> (simp at h; subst h; first | rfl | exact kit_other rfl (by decide))
  . cases h
def rIsI (K : PySem.W.Frag) : List V -> Hp -> VK -> Prop := fun xs H Q => ∃ x T t b, xs = [x, .ty T] /\ ((TyOf K H x (.type t)) \/ (t = "tuple" /\ ∃ a vs, x = .ref a /\ SqT K H a vs) \/ (t = "list" /\ ∃ a vs, x = .ref a /\ SqL K H a vs)) /\ PySem.W.kitOne K (.type t) (.type T) = some b /\ Q (.bl b) H
theorem nEq : CallR X (.builtin "isinstance") (rIsI X.K) := by
  intro pins s σ H xs us Q I r h
  obtain ⟨x, T, t, b, rfl, ty, hk, hQ⟩ := h
  obtain ⟨u, v, rfl, ru, rv⟩ := Vals.two r
  cases rv
  rcases ty with ty | ⟨rfl, a, vs, rfl, sq⟩ | ⟨rfl, a, vs, rfl, sq⟩
  . exact nLq I ru ty hk fun tk => ⟨.bl b, H, I.tok tk, rfl, hQ⟩
  . cases ru
    obtain ⟨its, _, ⟨o, h1, h2, _⟩, _⟩ := I.tuple sq
    exact PySem.W.kia_one PySem.W.kitx_tuple I.kIn ⟨o, h1, h2⟩ hk (fun z => nomatch z) fun tk => ⟨.bl b, H, I.tok tk, rfl, hQ⟩
  . cases ru
    obtain ⟨its, _, ⟨o, n, h1, h2, _⟩, _⟩ := I.list sq
    exact PySem.W.kia_one PySem.W.kitx_list I.kIn ⟨o, h1, h2⟩ hk (fun z => nomatch z) fun tk => ⟨.bl b, H, I.tok tk, rfl, hQ⟩
def zWq : D -> D -> DV -> DK -> Prop := fun x y G Q => match y with
  | .ty T => tyN x G fun t => ∃ b, xHq t T = some b /\ Q (.bl b) G
  | _ => False
theorem d1q : ACall X (.builtin "isinstance") (xLq zWq) := by
  refine ⟨_, ⟨nEq⟩, fun xs vs G H DQ Q v a r F => ?_⟩
  obtain ⟨x, y, u, w, rfl, rfl, ax, ay, r⟩ := q7q r a
  cases y with
  | ty T =>
    cases ay
    cases x with
    | non => cases ax; obtain ⟨b, hb, q⟩ := r; exact ⟨_, T, _, b, rfl, .inl .non, dRq hb, F (.bl b) G _ H (.refl v) rfl q⟩
    | bl z => cases ax; obtain ⟨b, hb, q⟩ := r; exact ⟨_, T, _, b, rfl, .inl (.bl z), dRq hb, F (.bl b) G _ H (.refl v) rfl q⟩
    | int z => cases ax; obtain ⟨b, hb, q⟩ := r; exact ⟨_, T, _, b, rfl, .inl (.int z), dRq hb, F (.bl b) G _ H (.refl v) rfl q⟩
    | str z => cases ax; obtain ⟨b, hb, q⟩ := r; exact ⟨_, T, _, b, rfl, .inl (.str z), dRq hb, F (.bl b) G _ H (.refl v) rfl q⟩
    | tup ds => obtain ⟨l, ws, rfl, s, _⟩ := ax; obtain ⟨b, hb, q⟩ := r; exact ⟨_, T, "tuple", b, rfl, .inr (.inl ⟨rfl, l, ws, rfl, s⟩), dRq hb, F (.bl b) G _ H (.refl v) rfl q⟩
    | ref l =>
      cases ax
      obtain ⟨ds, ws, ⟨b, hb, q⟩, s, _⟩ := cYq v r
      exact ⟨_, T, "list", b, rfl, .inr (.inr ⟨rfl, l, ws, rfl, s⟩), dRq hb, F (.bl b) G _ H (.refl v) rfl q⟩
    | ty z => exact (show False from r).elim
    | frl z => exact (show False from r).elim
  | _ => exact (show False from r).elim
abbrev xIq (t : DTA) : DTI := fun ρ G R => t ρ G fun ds G1 => match ds with
  | [.tup xs, .tup ys] => xs.length <= ys.length /\ R ⟨(xs.zip ys).map fun z => .tup [z.1, z.2], fun _ => True⟩ G1
  | _ => False
theorem vJq {k : Nat} {tp : Pos} (hg : Gl X "zip") (hm : X.mg "zip" = none) (ha : AA X [a, b] t) (h1 : b6q a = true := by rfl) (h2 : b6q b = true := by rfl) : AI X (.Tuple es k tp) (.Call (.Name "zip" p) [a, b] [] pos) (xIq t) := by
  obtain ⟨ca, ja, ra⟩ := ha.run
  refine ⟨_, uDq hg hm ja h1 h2, fun ρ G DR σ H R B q F => ra ρ G _ σ H _ B q fun ds G1 vs H1 g1 al hl q1 => ?_⟩
  split at q1
  . next xs ys =>
    obtain ⟨hle, q2⟩ := q1
    obtain ⟨v, r, rfl, ⟨l, ws, rfl, s1, r1⟩, u, r2, rfl, ⟨m, zs, rfl, s2, r2'⟩, z⟩ := al
    cases z
    refine ⟨l, m, rfl, ⟨ws, s1⟩, ⟨zs, s2⟩, F _ _ G1 H1 g1 (fun G2 H2 g2 _ => ⟨fun n d hd => ?_, fun n hn => ⟨ws, g2.tup.tp _ _ s1, ?_⟩⟩) q2⟩
    . rw [List.getElem?_map] at hd
      cases e : (xs.zip ys)[n]? with
      | none => rw [e] at hd; cases hd
      | some z =>
        rw [e] at hd
        simp at hd
        subst hd
        obtain ⟨e1, e2⟩ := List.getElem?_zip_eq_some.mp e
        obtain ⟨w1, k1, a1⟩ := (r1.mono g2.tup).get e1
        obtain ⟨w2, k2, a2⟩ := (r2'.mono g2.tup).get e2
        refine ⟨⟨ws, zs, w1, w2, g2.tup.tp _ _ s1, g2.tup.tp _ _ s2, k1, k2⟩, fun x H' y => ?_⟩
        obtain ⟨T, x1, y1, rfl, hT, rfl, hx, hy⟩ := y
        have z1 := hx ws (g2.tup.tp _ _ s1)
        have z2 := hy zs (g2.tup.tp _ _ s2)
        rw [k1] at z1; rw [k2] at z2
        cases z1; cases z2
        have g3 := Go.newT (o := .tup [w1, w2]) g2.vw hT
        exact ⟨g3, T, _, rfl, .of aQq, ⟨_, _, rfl, a1.mono g3.tup, .one (a2.mono g3.tup)⟩⟩
    . have := r1.len
      simp at hn
      omega
  . exact q1.elim
end
end L3
namespace L3
open PySem PyProof L2
open PySem.MeetsSeq
theorem dHq {K : PySem.W.Frag} {H : Hp} : ∀ ws : List Str, AbsL K H (ws.map D.str) (ws.map V.str)
  | [] => rfl
  | w :: ws => ⟨_, _, rfl, rfl, dHq ws⟩
section
variable {X : Cx}
variable {e : Expr} {t : DTA} {pos apos cpos : Pos}
end
theorem oAq {a b : String} (h : Str.ofString a = Str.ofString b) : a = b := by
  rw [Str.ofString_eq_toList, Str.ofString_eq_toList] at h
  have h1 : a.toList.map Char.toNat = b.toList.map Char.toNat := by simpa using h
  have h2 : a.toList = b.toList := by
    generalize a.toList = x at h1
    generalize b.toList = y at h1
    induction x generalizing y with
    | nil => cases y with
      | nil => rfl
      | cons _ _ => simp at h1
    | cons c x ih => cases y with
      | nil => simp at h1
      | cons d y =>
        simp only [List.map_cons, List.cons.injEq] at h1
        rw [Char.ext (UInt32.toNat_inj.mp h1.1), ih y h1.2]
  exact String.toList_inj.mp h2
theorem b4q {a b : String} : (Str.ofString a = Str.ofString b) = (a = b) := propext ⟨oAq, fun h => by rw [h]⟩
theorem bWq {a b : String} : (Str.ofString a == Str.ofString b) = (a == b) := by
  rw [Bool.eq_iff_iff]; simp [b4q]
inductive Tm where
  | name (k : Nat) | whole (n : Int) | way (t : Tm) | give (t u : Tm) | pair (t u : Tm) | first (t : Tm) | second (t : Tm) | plus (t u : Tm) | look (t u v : Tm)
def Tm.inn : Tm -> List Tm
  | .name _ => []
  | .whole _ => []
  | .way t => [t]
  | .give t u => [t, u]
  | .pair t u => [t, u]
  | .first t => [t]
  | .second t => [t]
  | .plus t u => [t, u]
  | .look t u v => [t, u, v]
def Tm.word : Tm -> Str
  | .name _ => "name" | .whole _ => "whole" | .way _ => "way" | .give _ _ => "give" | .pair _ _ => "pair" | .first _ => "first" | .second _ => "second" | .plus _ _ => "plus" | .look _ _ _ => "look"
def Tm.enc : Tm -> D
  | .name k => .tup [.str "name", .int k]
  | .whole n => .tup [.str "whole", .int n]
  | .way t => .tup [.str "way", t.enc]
  | .give t u => .tup [.str "give", t.enc, u.enc]
  | .pair t u => .tup [.str "pair", t.enc, u.enc]
  | .first t => .tup [.str "first", t.enc]
  | .second t => .tup [.str "second", t.enc]
  | .plus t u => .tup [.str "plus", t.enc, u.enc]
  | .look t u v => .tup [.str "look", t.enc, u.enc, v.enc]
def Tm.sz : Tm -> Nat
  | .name _ => 1
  | .whole _ => 1
  | .way t => 1 + t.sz
  | .give t u => 1 + t.sz + u.sz
  | .pair t u => 1 + t.sz + u.sz
  | .first t => 1 + t.sz
  | .second t => 1 + t.sz
  | .plus t u => 1 + t.sz + u.sz
  | .look t u v => 1 + t.sz + u.sz + v.sz
def Tm.dp : Tm -> Nat
  | .name _ => 0
  | .whole _ => 0
  | .way t => 1 + t.dp
  | .give t u => 1 + max t.dp u.dp
  | .pair t u => 1 + max t.dp u.dp
  | .first t => 1 + t.dp
  | .second t => 1 + t.dp
  | .plus t u => 1 + max t.dp u.dp
  | .look t u v => 1 + max t.dp (max u.dp v.dp)
theorem Tm.sz_pos (t : Tm) : 1 <= t.sz := by cases t <;> simp [Tm.sz] <;> omega
theorem Tm.enc_dp (t : Tm) : t.enc.dp = t.dp + 1 := by
  induction t <;> simp_all [Tm.enc, D.dp, k9q, Tm.dp] <;> omega
theorem Tm.dp_sz (t : Tm) : t.dp <= t.sz := by
  induction t <;> simp_all [Tm.dp, Tm.sz] <;> omega
def Tm.args : Tm -> List D
  | .name k => [.int k]
  | .whole n => [.int n]
  | t => t.inn.map Tm.enc
theorem Tm.enc_eq (t : Tm) : t.enc = .tup (.str t.word :: t.args) := by cases t <;> rfl
abbrev fed (x y : Int) : DO := .lst [.int x, .int y]
def Fd (G : DV) (a : Addr) : Prop := ∃ x y, G a = some (fed x y)
theorem Fd.up {G : DV} {a : Addr} {x y : Int} : Fd (up G a (fed x y)) a := ⟨x, y, a2q⟩
theorem Fd.new {G : DV} {a l : Addr} {o : DO} (h : Fd G a) (n : G l = none) : Fd (L3.up G l o) a := by
  obtain ⟨x, y, e⟩ := h
  exact ⟨x, y, by rw [a9q (by rintro rfl; rw [n] at e; cases e)]; exact e⟩
theorem Fd.ne {G : DV} {a l : Addr} (h : Fd G a) (n : G l = none) : l ≠ a := by
  obtain ⟨x, y, e⟩ := h
  rintro rfl
  rw [n] at e; cases e
theorem hAq {G : DV} {a l : Addr} {f o : DO} (n : up G a f l = none) : up (up G a f) l o = up (up G l o) a f /\ G l = none /\ l ≠ a := by
  have ne : l ≠ a := by rintro rfl; rw [a2q] at n; cases n
  exact ⟨oHq (Ne.symm ne), by rw [a9q ne] at n; exact n, ne⟩
theorem Sub.new {G G1 : DV} {p : Addr} {o : DO} (h : Sub G G1) (n : G p = Option.none) : Sub G (up G1 p o) := fun b u e => by
  rw [a9q (by rintro rfl; rw [n] at e; cases e)]; exact h b u e
theorem Sub.put {G G1 : DV} {a : Addr} {o : DO} (h : Sub G G1) : Sub (up G a o) (up G1 a o) := fun b u e => by
  by_cases c : b = a
  . subst c; rw [a2q] at e ⊢; exact e
  . rw [a9q c] at e ⊢; exact h b u e
def Fx (a : Addr) (G G' : DV) : Prop := ∃ x y, G' = up G a (fed x y)
theorem Fx.mk {a : Addr} {G : DV} {x y : Int} : Fx a G (up G a (fed x y)) := ⟨x, y, rfl⟩
theorem Fx.trans {a : Addr} {G G1 G2 : DV} (h : Fx a G G1) (k : Fx a G1 G2) : Fx a G G2 := by
  obtain ⟨x, y, rfl⟩ := h
  obtain ⟨z, u, rfl⟩ := k
  exact ⟨z, u, c1q⟩
theorem Fx.fd {a : Addr} {G G' : DV} (h : Fx a G G') : Fd G' a := by obtain ⟨x, y, rfl⟩ := h; exact .up
theorem Fx.refl {a : Addr} {G : DV} (h : Fd G a) : Fx a G G := by obtain ⟨x, y, e⟩ := h; exact ⟨x, y, (rTq e).symm⟩
theorem Fx.other {a l : Addr} {G G' : DV} (h : Fx a G G') (n : l ≠ a) : G' l = G l := by obtain ⟨x, y, rfl⟩ := h; exact a9q n
def gNq : DSp := fun ds G Q => match ds with
  | [.ref a, .int m] => Fd G a /\ 0 < m /\ m < 2 ^ 62 /\ ∀ d G', Fx a G G' -> 0 <= d -> d < m -> Q (.int d) G'
  | _ => False
def iQq : DSp := fun ds G Q => match ds with
  | [.frl ss, .int k] => ∃ ns : List Int, ss = ns.map D.int /\ ns.length <= 63 /\ 0 <= k /\ k < 2 ^ 32 /\ ∀ r x y, G r = none -> Q (.ref r) (up G r (fed x y))
  | _ => False
def fYq : DSp := fun ds G Q => match ds with
  | [.ref a] => Fd G a /\ ∀ n G', Fx a G G' -> -(2 ^ 40) < n -> n < 2 ^ 40 -> Q (Tm.enc (.whole n)) G'
  | _ => False
theorem zNq {P : Program} {w : World} {K : PySem.W.Frag} {mg : Str -> Option Value} {base : Heap} {f : Addr} {fd : FuncData} {ps : List Str} {k : Nat} {dsp : DSp} (no : ∀ ds G DQ, ¬ dsp ds G DQ) : FnOk P w K mg base CX0 k f fd ps (aWq K dsp) :=
  ⟨fun vs H Q E ⟨ds, G, DQ, _, _, h, _⟩ => absurd h (no ds G DQ), fun A outer s H args us vs Q E _ _ _ _ ⟨ds, G, DQ, _, _, h, _⟩ => absurd h (no ds G DQ)⟩
theorem at4 {x y z u : D} {G : DV} {Q : DK} {i : Int} (h0 : 0 <= i) (h1 : i < 4) (hx : i = 0 -> Q x G) (hy : i = 1 -> Q y G) (hz : i = 2 -> Q z G) (hu : i = 3 -> Q u G) : atS [x, y, z, u] i G Q := by
  refine tOq ?_
  rcases (by omega : i = 0 \/ i = 1 \/ i = 2 \/ i = 3) with rfl | rfl | rfl | rfl
  . exact hx rfl
  . exact hy rfl
  . exact hz rfl
  . exact hu rfl
def pPq {α : Type} (enc : α -> D) (inn : α -> List α) : DSp := fun ds G Q => ∃ x, ds = [enc x] /\ Q (.tup ((inn x).map enc)) G
section
variable {α : Type} {all : α -> List (List Int × α)} {inn : α -> List α}
theorem bTq {n : Nat} (h : n <= 200000) : n <= sizeLine := by rw [sizeLine_eq]; omega
theorem aEq {n : Nat} (h : n <= 200000) : n < sizeLine := by rw [sizeLine_eq]; omega
theorem up3 {G : DV} {p q : Addr} {x y z : DO} (h : p ≠ q) : up (up (up G q x) p y) q z = up (up G q z) p y := by
  rw [oHq h, c1q]
end
theorem Tm.inn_len (t : Tm) : t.inn.length <= 3 := by cases t <;> simp [Tm.inn]
mutual
def D.plain : D -> Bool
  | .int _ => true
  | .str _ => true
  | .tup ds => decide (ds.length <= 100000) && jBq ds
  | _ => false
def jBq : List D -> Bool
  | [] => true
  | d :: ds => d.plain && jBq ds
end
theorem h5q : ∀ {ds : List D} {d : D}, jBq ds = true -> d ∈ ds -> d.plain = true
  | d :: ds, e, h, m => by
    simp only [jBq, Bool.and_eq_true] at h
    rcases List.mem_cons.mp m with rfl | m
    . exact h.1
    . exact h5q h.2 m
theorem kMq : ∀ {ds : List D} {d : D}, d ∈ ds -> d.dp <= k9q ds
  | d :: ds, e, m => by
    rcases List.mem_cons.mp m with rfl | m
    . simp only [k9q]; omega
    . have := kMq m
      simp only [k9q]; omega
def f9q (n : Nat) : DSp := fun ds G Q => ∃ d : D, ds = [d, d] /\ d.plain = true /\ d.dp < n /\ Q (.bl true) G
theorem kTq {α β : Type} (f : α × α -> β) : ∀ xs : List α, (xs.zip xs).map f = xs.map fun x => f (x, x)
  | [] => rfl
  | x :: xs => by rw [List.zip_cons_cons, List.map_cons, List.map_cons, kTq f xs]
theorem Tm.plain_enc (t : Tm) : t.enc.plain = true := by
  induction t <;> simp_all [Tm.enc, D.plain, jBq]
end L3
namespace L3
open PySem PyProof L2
section
variable {X : Cx}
abbrev dDef (i : Nat) (T : Addr) (env : Env) (name qual : Str) (st : Stmt) (fr : List Str) (pos : Pos) : DTS := fun DD ρ G => G T = some (.tab pos qual) /\ ∀ f, G f = none -> DD.nx (ρ.set i (some (.ref f))) (up G f (.made env name qual st fr))
theorem Go.def {K : PySem.W.Frag} {G : DV} {H H' : Hp} {T f : Addr} {env : Env} {name qual : Str} {st : Stmt} {fr : List Str} {pos : Pos} (v : Vw K G H) (hT : G T = some (.tab pos qual)) (hf : H f = none) (M : MadeAt env H' f name qual st fr) (tb : Tab H' T pos qual) (kp : ∀ b u, b ≠ T -> H b = some u -> H' b = some u) :
    Go K G H (up G f (.made env name qual st fr)) H' := by
  obtain ⟨ps, eT, _⟩ := v T _ hT
  obtain ⟨ps', eT', _⟩ := id tb
  have nT : ∀ a u, H a = some u -> u ≠ .tbl ps -> a ≠ T := fun a u e n z => by rw [z, eT] at e; exact n (Option.some.inj e).symm
  have ht : Mono K H H' := by
    refine ⟨fun a xs q => ?_, fun a xs q => ?_, fun a o q => kp _ _ (nT _ _ q fun z => nomatch z) q⟩
    . rcases q with (q | ⟨o, q⟩) | q
      . exact .inl (.inl (kp _ _ (nT _ _ q fun z => nomatch z) q))
      . exact .inl (.inr ⟨o, kp _ _ (nT _ _ q fun z => nomatch z) q⟩)
      . exact .inr q
    . rcases q with ⟨o, q⟩ | q
      . exact .inl ⟨o, kp _ _ (nT _ _ q fun z => nomatch z) q⟩
      . exact .inr q
  refine ⟨ht, fun a o e => ?_, fun a o e n => ?_, fun a o e n => ?_, fun a u e => ?_⟩
  . by_cases z : a = T
    . subst z; exact ⟨_, eT'⟩
    . exact ⟨o, kp a o z e⟩
  . exact kp a o (fun z => by rw [z, hT] at n; cases n) e
  . rw [a9q (fun z => by rw [z, hf] at e; cases e)]; exact n
  . by_cases z : a = f
    . subst z; rw [a2q] at e; cases e; exact M
    . rw [a9q z] at e
      by_cases y : a = T
      . subst y; rw [hT] at e; cases e; exact tb
      . obtain ⟨z', q⟩ := (v a u e).some
        exact (v a u e).mono ht (by rw [q]; exact kp _ _ y q)
variable {i : Nat} {T c : Addr} {name : Str} {params : Arguments} {body : List Stmt} {scope : Scope} {pos : Pos} {fr : List Str}
theorem w1q (hN : X.N.Nodup) (hi : X.N[i]? = some name) (hl : Loc X.env.scope name) (hcode : X.env.code = .ref c) (hC : PySem.W.CodeHd X.base c T) (hB : gWq X.mg X.base)
    (hcl : closureFor scope X.env = pure (eVq X.env fr)) (hd0 : params.defaults = []) (hk0 : params.kw_defaults = []) (ha : annTrees params none X.env = [])
    (hf : X.fn name = true \/ X.env.scope.names.lookup name = some .local := by first | exact .inl rfl | exact .inr rfl | assumption) :
    AS X (.FunctionDef name params body [] none [] scope none name pos) (dDef i T X.env name (qualnameIn X.env name name) (.FunctionDef name params body [] none [] scope none name pos) fr pos) := by
  refine ⟨_, ⟨w5q (T := T) hN hi hl hcode hC hB hcl hd0 hk0 ha hf⟩, fun DD Dc ρ G σ H B q F => ?_⟩
  obtain ⟨hT, q⟩ := q
  refine ⟨B.vw T _ hT, fun f H' hf' M tb kp => ?_⟩
  have g := Go.def B.vw hT hf' M tb kp
  exact F.nx _ _ _ _ g ((B.go g).set (d := .ref f) rfl i) (q f (B.vw.none hf'))
end
end L3
namespace L2
open PySem PySem.Spec PyProof.Rows
def vIq (i : Nat) (name qual : Str) (st : Stmt) (fr : List Str) (sp : List V -> Sp) (t : TA) : TE := fun σ H Q => ∃ fvs, qSq i name qual st fr fvs (sp fvs) t σ H Q
theorem yFq {X : Cx} {k j i : Nat} {name qual : Str} {st : Stmt} {fr : List Str} {ps : List Str} {x : Str} {sp : List V -> Sp} {p pos : Pos} {e : Expr} {es : List Expr} {t : TA} (G : ∀ fvs, CloOk X.prog X.w X.K X.mg X.base k name qual st fr fvs ps (sp fvs)) (hr : Room j X.A) (hk : k <= j) (hN : X.N[i]? = some x) (hv : Vis X.env.scope x) (ha : PA X (e :: es) t)
    (hd : (x == ("__debug__" : Str)) = false) (hcd : (x == ("__classdict__" : Str)) = false) (he : starEach (e :: es) X.env = (false, eval e X.env) :: starEach es X.env) (hpl : (backTo pos (starEach es X.env)).any (·.1) = false) :
    PE X (.Call (.Name x p) (e :: es) [] pos) (vIq i name qual st fr sp t) := fun pins s σ H Q I ⟨fvs, h⟩ => yRq (G fvs) hr hk hN hv ha hd hcd he hpl pins s σ H Q I h
end L2
namespace L3
open PySem PyProof L2
def xSq (K : PySem.W.Frag) (vals : List D) (dsp : DSp) (fvs : List V) : Sp := fun vs H Q _ => ∃ ds G DQ, AbsL K H ds vs /\ AbsL K H vals fvs /\ Vw K G H /\ dsp ds G DQ /\ Fin K G H DQ Q
structure CloD (P : Program) (w : World) (K : PySem.W.Frag) (mg : Str -> Option Value) (base : Heap) (k : Nat) (name qual : Str) (st : Stmt) (fr : List Str) (vals : List D) (ps : List Str) (dsp : DSp) : Prop where
  ok : ∀ fvs, CloOk P w K mg base k name qual st fr fvs ps (xSq K vals dsp fvs)
section
variable {X : Cx} {k j : Nat} {name qual : Str} {st : Stmt} {fr : List Str} {vals : List D} {ps : List Str} {x : Str} {dsp : DSp} {p pos : Pos} {e : Expr} {es : List Expr} {t : DTA}
abbrev uBq (n : Nat) (name qual : Str) (st : Stmt) (fr : List Str) (vals : List D) (dsp : DSp) (t : DTA) : DTE := fun ρ G Q => ∃ f, ρ[n]? = some (some (.ref f)) /\ G f = some (.clo name qual st fr vals) /\ t ρ G fun ds G1 => G1 f = some (.clo name qual st fr vals) /\ dsp ds G1 Q
theorem Go.frz {K : PySem.W.Frag} {G G1 : DV} {H H1 : Hp} {f : Addr} {cl : List (Str × Addr)} {fvs : List V} (g : Go K G H G1 H1) (C : CloAt H f name qual st cl fvs) : CloAt H1 f name qual st cl fvs := by
  obtain ⟨oc, od, doc, pm, cdv, ct, sl, h3, c, o, vs, t, h4, h5, h6⟩ := C.fn
  exact ⟨⟨oc, od, doc, pm, cdv, ct, sl, g.tup.fz _ _ h3, c, o, vs, t, h4, g.tup.fz _ _ h5, h6⟩, fun i x c hi => let ⟨v, u, o, z1, z2, z3, z4⟩ := C.cells i x c hi; ⟨v, u, o, z1, z2, g.tup.fz _ _ z3, z4⟩, C.len, C.nda⟩
theorem y0q (n : Nat) (Ck : CloD X.prog X.w X.K X.mg X.base k name qual st fr vals ps dsp) (hr : Room j X.A) (hk : k <= j) (ha : AA X (e :: es) t) (hN : X.N[n]? = some x := by rfl) (hv : Vis X.env.scope x := by first | exact Or.inl rfl | exact Or.inr (Or.inl rfl) | exact Or.inr (Or.inr rfl))
    (hd : (x == ("__debug__" : Str)) = false := by decide) (hcd : (x == ("__classdict__" : Str)) = false := by decide) (hs : (e :: es).all b6q = true := by rfl) : AE X (.Call (.Name x p) (e :: es) [] pos) (uBq n name qual st fr vals dsp t) := by
  obtain ⟨ca, ja, ra⟩ := ha.run
  have h := hs
  rw [List.all_cons, Bool.and_eq_true] at h
  refine ⟨_, ⟨yFq Ck.ok hr hk hN hv ja.run hd hcd (aHq h.1) (bPq h.2)⟩, fun ρ G DQ σ H Q B q F => ?_⟩
  obtain ⟨f, q0, q1, q⟩ := q
  obtain ⟨v, h1, h2⟩ := B.st n _ q0
  cases h2
  obtain ⟨cl, fvs, C, hcl, hvals⟩ := B.vw f _ q1
  exact ⟨fvs, f, cl, h1, C, hcl, ra ρ G _ σ H _ B q fun ds G1 vs H1 g1 al _ ⟨_, q3⟩ => ⟨g1.frz C, ds, G1, DQ, al, hvals.mono g1.tup, g1.vw, q3, F.after g1⟩⟩
end
end L3
namespace L3
open PySem PyProof L2
section
variable {K : PySem.W.Frag} {H H' : Hp}
mutual
theorem Abs.mono2 (tp : ∀ a xs, SqT K H a xs -> SqT K H' a xs) (fr : ∀ a xs, FrL K H a xs -> FrL K H' a xs) : ∀ {d : D} {v : V}, Abs K H d v -> Abs K H' d v
  | .non, _, r => r
  | .bl _, _, r => r
  | .int _, _, r => r
  | .str _, _, r => r
  | .ref _, _, r => r
  | .ty _, _, r => r
  | .tup _, _, ⟨a, vs, e, q, l⟩ => ⟨a, vs, e, tp a vs q, AbsL.mono2 tp fr l⟩
  | .frl _, _, ⟨a, vs, e, q, l⟩ => ⟨a, vs, e, fr a vs q, AbsL.mono2 tp fr l⟩
theorem AbsL.mono2 (tp : ∀ a xs, SqT K H a xs -> SqT K H' a xs) (fr : ∀ a xs, FrL K H a xs -> FrL K H' a xs) : ∀ {ds : List D} {vs : List V}, AbsL K H ds vs -> AbsL K H' ds vs
  | [], _, r => r
  | _ :: _, _, ⟨v, r, e, q, l⟩ => ⟨v, r, e, Abs.mono2 tp fr q, AbsL.mono2 tp fr l⟩
end
def DO.vary : DO -> Bool
  | .lst _ => true
  | .ins _ _ => true
  | .dK _ => true
  | .dT _ => true
  | _ => false
theorem BearO.mono2 {a : Addr} {o : DO} (tp : ∀ a xs, SqT K H a xs -> SqT K H' a xs) (fr : ∀ a xs, FrL K H a xs -> FrL K H' a xs) (ho : o.vary = true) (e : H' a = H a) (h : BearO K H a o) : BearO K H' a o := by
  cases o with
  | lst ds => obtain ⟨vs, q, l⟩ := h; exact ⟨vs, by rw [e]; exact q, l.mono2 tp fr⟩
  | ins C fs => obtain ⟨dx, gs, q, l⟩ := h; exact ⟨dx, gs, by rw [e]; exact q, l.1, l.2.mono2 tp fr⟩
  | dK kvs => obtain ⟨gs, q, l⟩ := h; exact ⟨gs, by rw [e]; exact q, l.1, l.2.mono2 tp fr⟩
  | dT kvs => obtain ⟨gs, q, l⟩ := h; exact ⟨gs, by rw [e]; exact q, l.1, l.2.mono2 tp fr⟩
  | _ => cases ho
theorem BearO.nfz {a : Addr} {o : DO} (ho : o.vary = true) (h : BearO K H a o) {u : Obj} (e : H a = Option.some (fzn u)) : False := by
  cases o with
  | lst ds => obtain ⟨vs, q, l⟩ := h; rw [e] at q; cases q
  | ins C fs => obtain ⟨dx, gs, q, l⟩ := h; rw [e] at q; cases q
  | dK kvs => obtain ⟨gs, q, l⟩ := h; rw [e] at q; cases q
  | dT kvs => obtain ⟨gs, q, l⟩ := h; rw [e] at q; cases q
  | _ => cases ho
theorem Same.mono (h : Same H H') : Mono K H H' := ⟨fun b xs q => by
    rcases q with q | q
    . rcases q with q | ⟨o, q⟩
      . exact .inl (.inl (h _ _ q))
      . exact .inl (.inr ⟨o, h _ _ q⟩)
    . exact .inr q, fun b xs q => by
    rcases q with ⟨o, q⟩ | q
    . exact .inl ⟨o, h _ _ q⟩
    . exact .inr q, fun b o q => h _ _ q⟩
theorem eAq {as : List Addr} (fz : Frz H as) : ∀ a xs, SqT K H a xs -> SqT K (less H as) a xs := fun a xs q => by
  have out : ∀ {u}, H a = some u -> (∀ o, u ≠ fzn o) -> less H as a = some u := fun {u} e n => by
    rw [b2q fun z => ?_]; exact e
    obtain ⟨o, z⟩ := fz a z; rw [e] at z; exact n o (Option.some.inj z)
  rcases q with (q | ⟨o, q⟩) | q
  . exact .inl (.inl (out q fun o z => nomatch z))
  . exact .inl (.inr ⟨o, out q fun o z => nomatch z⟩)
  . exact .inr q
theorem eGq {as : List Addr} (fz : Frz H as) : ∀ a xs, FrL K H a xs -> FrL K (less H as) a xs := fun a xs q => by
  rcases q with ⟨o, q⟩ | q
  . refine .inl ⟨o, ?_⟩
    rw [b2q fun z => ?_]; exact q
    obtain ⟨o, z⟩ := fz a z; rw [q] at z; cases z
  . exact .inr q
end
def qWq (sc : Scope) (N : List Str) (fn : Str -> Bool) (fr : List Str) (ix : List Nat) : Bool :=
  ix.length == fr.length && (List.range fr.length).all fun i => match fr[i]?, ix[i]? with
    | some y, some j => N[j]? == some y && sc.names.lookup y == some .cell && fn y
    | _, _ => false
section
variable {X : Cx} {e : Expr} {es : List Expr} {t : DTA} {p pos : Pos}
abbrev u1q (env : Env) (name qual : Str) (st : Stmt) (fr : List Str) (ix : List Nat) (dsp : DSp) (t : DTA) : DTE := fun ρ G Q => t ρ G fun ds G1 => ∃ f vals, G1 f = some (.made env name qual st fr) /\ vals.length = fr.length ∧
  (∀ (i j : Nat), ix[i]? = some j -> ∃ d, ρ[j]? = some (some d) /\ vals[i]? = some d) /\ dsp ds (up G1 f (.clo name qual st fr vals)) fun d G2 => G2 = up G1 f (.clo name qual st fr vals) /\ Q d G1
theorem pAq {k j : Nat} {x : Str} {ps : List Str} {dsp : DSp} {name qual : Str} {st : Stmt} {fr : List Str} {ix : List Nat} (Gt : Got X.prog X.w X.K X.mg X.base k x ps (aWq X.K dsp)) (hr : Room j X.A) (hk : k <= j) (hg : Gl X x) (ndf : fr.Nodup) (hB : qWq X.env.scope X.N X.fn fr ix = true) (ha : AA X (e :: es) t)
    (hdb : (x == ("__debug__" : Str)) = false := by decide) (hs : (e :: es).all b6q = true := by rfl) : AE X (.Call (.Name x p) (e :: es) [] pos) (u1q X.env name qual st fr ix dsp t) := by
  obtain ⟨ca, ja, ra⟩ := ha.run
  have h := hs
  rw [List.all_cons, Bool.and_eq_true] at h
  unfold qWq at hB
  rw [Bool.and_eq_true, List.all_eq_true] at hB
  have hix : ix.length = fr.length := by simpa using hB.1
  have hfr : ∀ (i : Nat) (y : Str), fr[i]? = some y -> ∃ j, ix[i]? = some j /\ X.N[j]? = some y /\ X.env.scope.names.lookup y = some .cell /\ X.fn y = true := fun i y hy => by
    have lt : i < fr.length := (List.getElem?_eq_some_iff.mp hy).1
    have z := hB.2 i (List.mem_range.mpr lt)
    have ej : ix[i]? = some (ix[i]'(by omega)) := List.getElem?_eq_getElem (by omega)
    rw [hy, ej] at z
    simp only [Bool.and_eq_true, beq_iff_eq] at z
    exact ⟨_, ej, z.1.1, z.1.2, z.2⟩
  refine ⟨_, ⟨pNq (name := name) (qual := qual) (st := st) (ix := ix) Gt hr hk hg ja.run hdb ndf hix hfr (aHq h.1) (bPq h.2)⟩, fun ρ G DQ σ H Q B q F => ?_⟩
  refine ra ρ G _ σ H _ B q fun ds G1 vs H1 g1 al _ q1 => ?_
  obtain ⟨f, vals, hf, hvl, hvals, q2⟩ := q1
  have M : MadeAt X.env H1 f name qual st fr := g1.vw f _ hf
  let fvs : List V := ix.map fun j => match σ[j]? with
    | some (some v) => v
    | _ => .non
  have hfv : ∀ (i j : Nat), ix[i]? = some j -> ∃ d v, ρ[j]? = some (some d) /\ vals[i]? = some d /\ σ[j]? = some (some v) /\ fvs[i]? = some v /\ Abs X.K H1 d v := fun i j hj => by
    obtain ⟨d, h1, h2⟩ := hvals i j hj
    obtain ⟨v, h3, h4⟩ := B.st j d h1
    refine ⟨d, v, h1, h2, h3, ?_, h4.mono g1.tup⟩
    show (ix.map _)[i]? = _
    rw [List.getElem?_map, hj]
    simp only [Option.map_some, h3]
  have habs : AbsL X.K H1 vals fvs := by
    have key : ∀ (n : Nat) (ws : List D) (us : List V), ws.length = n -> us.length = n -> (∀ (i : Nat) (d : D), ws[i]? = some d -> ∃ v : V, us[i]? = some v /\ Abs X.K H1 d v) -> AbsL X.K H1 ws us := fun n => by
      induction n with
      | zero => intro ws us h1 h2 _; cases ws <;> cases us <;> simp_all [AbsL]
      | succ n ih =>
        intro ws us h1 h2 hh
        cases ws with
        | nil => simp at h1
        | cons w ws =>
          cases us with
          | nil => simp at h2
          | cons u us =>
            obtain ⟨v, e1, e2⟩ := hh 0 w rfl
            cases e1
            exact ⟨u, us, rfl, e2, ih ws us (by simpa using h1) (by simpa using h2) fun i d hd => by simpa using hh (i + 1) d (by simpa using hd)⟩
    refine key vals.length vals fvs rfl (by show (ix.map _).length = _; rw [List.length_map]; omega) fun i d hd => ?_
    have lt : i < ix.length := by have := (List.getElem?_eq_some_iff.mp hd).1; omega
    obtain ⟨d', v, _, h2, _, h4, h5⟩ := hfv i ix[i] (List.getElem?_eq_getElem lt)
    rw [hd] at h2; cases h2
    exact ⟨v, h4, h5⟩
  refine ⟨f, fvs, M, fun i j hj => let ⟨d, v, _, _, h3, h4, _⟩ := hfv i j hj; ⟨v, h3, h4⟩, by show (ix.map _).length = _; rw [List.length_map]; exact hix, fun H2 out no C => ?_⟩
  have s12 : Same H1 H2 := fun b u eb => by
    rw [out b fun z => ?_]; exact eb
    rw [no b z] at eb; cases eb
  have m12 : Mono X.K H1 H2 := Same.mono s12
  have v2 : Vw X.K (up G1 f (.clo name qual st fr vals)) H2 := fun a o ea => by
    by_cases z : a = f
    . subst z; rw [a2q] at ea; cases ea
      refine ⟨_, fvs, C, ?_, habs.mono m12⟩
      rw [eVq, List.map_map]
      exact List.map_id fr
    . rw [a9q z] at ea
      obtain ⟨u, eu⟩ := (g1.vw a o ea).some
      exact (g1.vw a o ea).mono m12 (by rw [eu]; exact s12 a u eu)
  refine ⟨ds, _, _, by rw [show vs = vs from rfl]; exact al.mono m12, v2, q2, fun d G2 v H' g2 ad hq => ?_⟩
  obtain ⟨rfl, hq⟩ := hq
  have fz2 : Frz H2 ((eVq X.env fr).map (·.2)) := C.frz
  have fz' : Frz H' ((eVq X.env fr).map (·.2)) := fun a ha => let ⟨o, z⟩ := fz2 a ha; ⟨o, g2.tup.fz a o z⟩
  have nin : ∀ {b u}, H1 b = some u -> b ∉ (eVq X.env fr).map (·.2) := fun {b u} eb z => by rw [no b z] at eb; cases eb
  have m' : Mono X.K H1 (less H' ((eVq X.env fr).map (·.2))) := ⟨fun a xs q => eAq fz' a xs (g2.tup.tp a xs (m12.tp a xs q)), fun a xs q => eGq fz' a xs (g2.tup.fr a xs (m12.fr a xs q)), fun a o q => by rw [b2q (nin q)]; exact g2.tup.fz a o (m12.fz a o q)⟩
  refine F d G1 v _ (g1.trans ⟨m', fun a o ea => ?_, fun a o ea n => ?_, fun _ _ _ n => n, fun a o ea => ?_⟩) (ad.mono2 (eAq fz') (eGq fz')) hq
  . rw [b2q (nin ea)]
    exact g2.dom a o (s12 a o ea)
  . rw [b2q (nin ea)]
    refine g2.same a o (s12 a o ea) ?_
    rw [a9q (by rintro rfl; rw [hf] at n; cases n)]; exact n
  . have b1 := g1.vw a o ea
    obtain ⟨u, eu⟩ := b1.some
    by_cases ho : o.vary = true
    . have z : a ≠ f := by rintro rfl; rw [hf] at ea; cases ea; cases ho
      exact (g2.vw a o (by rw [a9q z]; exact ea)).mono2 (eAq fz') (eGq fz') ho (b2q (nin eu))
    . cases o with
      | made env' name' qual' st' fr' =>
        obtain ⟨_, _, _, _, _, _, _, z, _⟩ := (show MadeAt env' H1 a name' qual' st' fr' from b1).fn
        exact b1.mono m' (by rw [z]; exact m'.fz _ _ z)
      | clo name' qual' st' fr' vals' =>
        obtain ⟨cl, us, C', _⟩ := id b1
        obtain ⟨_, _, _, _, _, _, _, z, _⟩ := C'.fn
        exact b1.mono m' (by rw [z]; exact m'.fz _ _ z)
      | tab pos' qual' =>
        have z : a ≠ f := by rintro rfl; rw [hf] at ea; cases ea
        obtain ⟨ps', t1, t2, t3⟩ := g2.vw a (.tab pos' qual') (by rw [a9q z]; exact ea)
        refine ⟨ps', by rw [b2q (nin eu)]; exact t1, t2, ?_⟩
        rcases t3 with t3 | ⟨c, o, us, tt, t3, t4, t5, t6⟩
        . exact .inl t3
        . refine .inr ⟨c, o, us, tt, t3, ?_, t5, t6⟩
          rw [b2q fun zc => ?_]; exact t4
          obtain ⟨⟨y, c'⟩, hm, hc⟩ := List.mem_map.mp zc
          cases hc
          obtain ⟨i, hi, ei⟩ := List.getElem_of_mem hm
          obtain ⟨_, _, oc, _, _, z3, z4⟩ := C.cells i y c' (by rw [List.getElem?_eq_getElem hi, ei])
          have z5 := g2.tup.fz _ _ z3
          rw [t4] at z5
          cases z5
          rw [t5] at z4; cases z4
      | _ => exact absurd rfl ho
end
def vry (G : DV) : DV := fun a => match G a with
  | some o => if o.vary then some o else none
  | none => none
theorem vry_get {G : DV} {a : Addr} {o : DO} : vry G a = some o ↔ G a = some o /\ o.vary = true := by
  unfold vry
  cases e : G a with
  | none => simp
  | some u =>
    by_cases h : u.vary = true
    . simp only [h, if_true, Option.some.injEq]
      exact ⟨fun z => (by subst z; exact ⟨rfl, h⟩), fun z => z.1⟩
    . simp only [if_neg h]
      exact ⟨fun z => (by cases z), fun z => (by rw [Option.some.inj z.1] at h; exact absurd z.2 h)⟩
def g7q (N : List Str) (ds vals : List D) : DSt := ds.map some ++ List.replicate (N.length - ds.length - vals.length) none ++ vals.map some
theorem iVq {K : PySem.W.Frag} {N : List Str} {ds vals : List D} {vs fvs : List V} {G : DV} {H : Hp} (r : AbsL K H ds vs) (r2 : AbsL K H vals fvs) (v : Vw K G H) : Bears K (g7q N ds vals) G (dOq N vs fvs) H := by
  have hl := r.len
  have hl2 := r2.len
  have one : ∀ {ws : List D} {us : List V} {i : Nat} {d : D}, AbsL K H ws us -> (ws.map some)[i]? = some (some d) -> ∃ v, (us.map some)[i]? = some (some v) /\ Abs K H d v := fun {ws us i d} r h => by
    rw [List.getElem?_map] at h
    cases e : ws[i]? with
    | none => rw [e] at h; cases h
    | some z =>
      rw [e] at h
      simp at h
      subst h
      obtain ⟨u, h1, h2⟩ := r.get e
      exact ⟨u, by rw [List.getElem?_map, h1]; rfl, h2⟩
  refine ⟨by simp [g7q, dOq, hl, hl2], fun i d h => ?_, v⟩
  unfold g7q at h
  unfold dOq
  rw [hl, hl2]
  by_cases c : i < (ds.map some ++ List.replicate (N.length - ds.length - vals.length) (none : Option D)).length
  . rw [List.getElem?_append_left c] at h
    rw [List.getElem?_append_left (by simpa [hl] using c)]
    by_cases c2 : i < (ds.map (some : D -> Option D)).length
    . rw [List.getElem?_append_left c2] at h
      rw [List.getElem?_append_left (by simpa [hl] using c2)]
      exact one r h
    . rw [List.getElem?_append_right (by omega), List.getElem?_replicate] at h
      split at h <;> cases h
  . rw [List.getElem?_append_right (by omega)] at h
    rw [List.getElem?_append_right (by simpa [hl] using c)]
    have e1 : (ds.map some ++ List.replicate (N.length - ds.length - vals.length) (none : Option D)).length = (vs.map some ++ List.replicate (N.length - ds.length - vals.length) (none : Option V)).length := by simp [hl]
    rw [<- e1]
    exact one r2 h
theorem x7q {P : Program} {w : World} {K : PySem.W.Frag} {mg : Str -> Option Value} {base : Heap} {k : Nat} {name qual : Str} {st : Stmt} {fr N ps : List Str} {vals : List D} {dsp : DSp} (S : CloScope N ps fr (a3q st)) (len : ∀ ds G DQ, dsp ds G DQ -> ds.length = ps.length)
    (hbind : ∀ (cl : List (Str × Addr)) (doc pm cdv ct : Value) (us : List Value), us.length = ps.length -> bindArgs (PySem.W.fnX name qual (aKq st) (aGq st) (a3q st) cl .none .none doc pm none cdv ct) ⟨us, []⟩ = pure (ps.zip us))
    (hbody : ∀ (f : Addr) (cdv : Value) (cl : List (Str × Addr)) (A : Around) (outer : List Env) (s : Shared) (H : Hp), Room k (A.deeper (PySem.W.envX qual (a3q st) s.heap.objs.size f cdv cl)) -> ∀ (ds : List D) (G : DV) (DQ : DK), dsp ds G DQ →
      ∃ t, AB (jYq P w K mg base N qual (a3q st) f cdv cl A outer s H) (aGq st) t /\ t { nx := fun _ G' => Sub (vry G) G' /\ DQ .non G, rt := fun d G' => Sub (vry G) G' /\ DQ d G } (g7q N ds vals) (vry G)) : CloD P w K mg base (k + 1) name qual st fr vals ps dsp := by
  refine ⟨fun fvs => vLq S (fun vs H Q E h => ?_) hbind fun f cdv cl A outer s H vs Q E hr hcl fz hsp => ?_⟩
  . obtain ⟨ds, G, DQ, r, _, _, h, _⟩ := h
    rw [r.len]; exact len ds G DQ h
  . obtain ⟨ds, G, DQ, r, r2, v, h, Fn⟩ := hsp
    obtain ⟨t, ⟨tc, j, imp⟩, q⟩ := hbody f cdv cl A outer s (less H (cl.map (·.2))) hr ds G DQ h
    have v0 : Vw K (vry G) (less H (cl.map (·.2))) := fun a o e => by
      obtain ⟨e1, ho⟩ := vry_get.mp e
      refine (v a o e1).mono2 (eAq fz) (eGq fz) ho (b2q fun z => ?_)
      obtain ⟨u, z⟩ := fz a z
      exact (v a o e1).nfz ho z
    have fin : ∀ {d G' v H'}, Go K (vry G) (less H (cl.map (·.2))) G' H' -> Abs K H' d v -> Sub (vry G) G' /\ DQ d G -> (∀ a ∈ cl.map (·.2), H' a = none) -> Q v (more H' (cl.map (·.2)) H) := fun {d G' u H'} g ad q no => by
      have sm : Same H' (more H' (cl.map (·.2)) H) := fun b u eb => by
        rw [cEq fun z => ?_]; exact eb
        rw [no b z] at eb; cases eb
      have mm : Mono K H' (more H' (cl.map (·.2)) H) := Same.mono sm
      have m : Mono K H (more H' (cl.map (·.2)) H) := ⟨fun a xs q => mm.tp a xs (g.tup.tp a xs (eAq fz a xs q)), fun a xs q => mm.fr a xs (g.tup.fr a xs (eGq fz a xs q)), fun a o q => by
        by_cases z : a ∈ cl.map (·.2)
        . rw [g8q z]; exact q
        . exact mm.fz a o (g.tup.fz a o (by rw [b2q z]; exact q))⟩
      have same : ∀ a o, H a = some o -> vry G a = none -> more H' (cl.map (·.2)) H a = some o := fun a o e n => by
        by_cases z : a ∈ cl.map (·.2)
        . rw [g8q z]; exact e
        . rw [cEq z]; exact g.same a o (by rw [b2q z]; exact e) n
      refine Fn d G u _ ⟨m, fun a o e => ?_, fun a o e n => same a o e ?_, fun _ _ _ n => n, fun a o e => ?_⟩ (ad.mono mm) q.2
      . by_cases z : a ∈ cl.map (·.2)
        . rw [g8q z]; exact ⟨o, e⟩
        . rw [cEq z]; exact g.dom a o (by rw [b2q z]; exact e)
      . unfold vry; rw [n]
      . by_cases ho : o.vary = true
        . have b := g.vw a o (q.1 a o (vry_get.mpr ⟨e, ho⟩))
          obtain ⟨x, ex⟩ := b.some
          exact b.mono mm (by rw [ex]; exact sm a x ex)
        . obtain ⟨x, ex⟩ := (v a o e).some
          refine (v a o e).mono m ?_
          rw [ex]
          refine same a x ex ?_
          cases z : vry G a with
          | none => rfl
          | some y =>
            obtain ⟨z1, z2⟩ := vry_get.mp z
            rw [e] at z1; cases z1; exact absurd z2 ho
    refine ⟨tc, j.run, imp _ _ (g7q N ds vals) (vry G) (dOq N vs fvs) _ (iVq (r.mono2 (eAq fz) (eGq fz)) (r2.mono2 (eAq fz) (eGq fz)) v0) q ⟨fun ρ' G' σ' H' g b z no => fin (d := .non) (v := .non) g rfl z no, fun d G' v H' g a z no => fin g a z no, fun _ _ _ _ _ _ z => z.elim, fun _ _ _ _ _ _ z => z.elim⟩⟩
structure FunC (K : PySem.W.Frag) (x qual : Str) (st : Stmt) (f : Addr) (fd : FuncData) (c : Addr) : Prop where
  ex : ∃ (oc : Value) (od : Option Addr) (kV doc pm : Value) (an : Option Addr) (ct : Value) (osl : Array (Option Value)),
    fd = PySem.W.fnOf x qual (aKq st) (aGq st) (a3q st) .none kV doc pm an (.ref c) ct /\ K.lookup f = some ⟨oc, od, .func fd, osl⟩ /\ PySem.W.codeIn K (.ref c) qual = true
theorem zQq {P : Program} {w : World} {K : PySem.W.Frag} {mg : Str -> Option Value} {base : Heap} {x qual : Str} {st : Stmt} {f c : Addr} {fd : FuncData} {N ps : List Str} {k : Nat} {dsp : DSp} (F : FunC K x qual st f fd c) (S : FnScope N ps (a3q st)) (len : ∀ ds G DQ, dsp ds G DQ -> ds.length = ps.length)
    (hbody : ∀ (A : Around) (outer : List Env) (s : Shared) (H : Hp) (E : XK), Room k (A.deeper (PyProof.Rows.envOfC qual (a3q st) s.heap.objs.size f (.ref c))) -> ∀ (ds : List D) (G : DV) (DQ : DK), dsp ds G DQ →
      ∃ t, AB (oXq CX0 P w K mg base N qual (a3q st) f (.ref c) A outer s H E).nox (aGq st) t /\ t { nx := fun _ G' => Dr DQ .non G', rt := Dr DQ } (g9q N ds) G) : FnOk P w K mg base CX0 (k + 1) f fd ps (aWq K dsp) := by
  obtain ⟨oc, od, kV, doc, pm, an, ct, osl, rfl, lk, hcd⟩ := F.ex
  refine uFq lk hcd S (fun vs H Q E h => ?_) fun A outer s H vs Q E hr h => ?_
  . obtain ⟨ds, G, DQ, r, _, h, _⟩ := h
    rw [r.len]; exact len ds G DQ h
  . obtain ⟨ds, G, DQ, r, v, h, Fn⟩ := h
    obtain ⟨t, ⟨tc, j, imp⟩, q⟩ := hbody A outer s H E hr ds G DQ h
    refine ⟨tc, (j.run).nox, imp _ _ (g9q N ds) G (L2.eWq N vs) H (g2q r v) q ⟨fun ρ' G' σ' H' g b ⟨G2, s2, q2⟩ => Fn .non G2 .non H' (g.sub s2) rfl q2, fun d G' v H' g a ⟨G2, s2, q2⟩ => Fn d G2 v H' (g.sub s2) a q2, fun _ _ _ _ _ _ z => z.elim, fun _ _ _ _ _ _ z => z.elim⟩⟩
end L3
namespace L3
open PySem PyProof L2
section
variable {K : PySem.W.Frag} {H : Hp}
def m3q (f : Str) (v : D) : List (Str × D) -> List (Str × D)
  | [] => [(f, v)]
  | (g, x) :: r => if g = f then (g, v) :: r else (g, x) :: m3q f v r
theorem fUq (f : Str) (v : D) : ∀ fs : List (Str × D), (m3q f v fs).length <= fs.length + 1
  | [] => Nat.le_refl _
  | (g, x) :: r => by
    have := fUq f v r
    unfold m3q; split <;> simp only [List.length_cons] <;> omega
theorem AbsF.lookup {f : Str} {d : D} : ∀ {fs : List (Str × D)} {gs : List (Str × V)}, AbsF K H fs gs -> fs.lookup f = some d -> ∃ v, gs.lookup f = some v /\ Abs K H d v
  | [], _, _, e => by cases e
  | (x, y) :: r, [], ⟨h, _⟩, _ => by cases h
  | (x, y) :: r, (x', y') :: s, ⟨h1, h2⟩, e => by
    simp only [List.map_cons, List.cons.injEq] at h1
    obtain ⟨v, us, e1, a1, a2⟩ := h2
    simp only [List.map_cons, List.cons.injEq] at e1
    obtain ⟨rfl, h1⟩ := h1
    obtain ⟨rfl, rfl⟩ := e1
    rw [List.lookup_cons] at e ⊢
    cases c : (f == x) with
    | true => rw [c] at e; cases e; exact ⟨_, rfl, a1⟩
    | false => rw [c] at e; exact AbsF.lookup (fs := r) (gs := s) ⟨h1, a2⟩ e
theorem AbsF.none {f : Str} : ∀ {fs : List (Str × D)} {gs : List (Str × V)}, AbsF K H fs gs -> fs.lookup f = none -> gs.lookup f = none
  | [], [], _, _ => rfl
  | [], _ :: _, ⟨h, _⟩, _ => by cases h
  | (x, y) :: r, [], ⟨h, _⟩, _ => by cases h
  | (x, y) :: r, (x', y') :: s, ⟨h1, h2⟩, e => by
    simp only [List.map_cons, List.cons.injEq] at h1
    obtain ⟨v, us, e1, a1, a2⟩ := h2
    simp only [List.map_cons, List.cons.injEq] at e1
    obtain ⟨rfl, h1⟩ := h1
    obtain ⟨rfl, rfl⟩ := e1
    rw [List.lookup_cons] at e ⊢
    cases c : (f == x) with
    | true => rw [c] at e; cases e
    | false => rw [c] at e; exact AbsF.none (fs := r) (gs := s) ⟨h1, a2⟩ e
theorem AbsF.len {fs : List (Str × D)} {gs : List (Str × V)} (h : AbsF K H fs gs) : gs.length = fs.length := by
  have := congrArg List.length h.1
  simpa using this.symm
theorem AbsF.put {f : Str} {d : D} {v : V} (hd : Abs K H d v) : ∀ {fs : List (Str × D)} {gs : List (Str × V)}, AbsF K H fs gs -> AbsF K H (m3q f d fs) (i0q f v gs)
  | [], [], _ => ⟨rfl, v, [], rfl, hd, rfl⟩
  | [], _ :: _, ⟨h, _⟩ => by cases h
  | (x, y) :: r, [], ⟨h, _⟩ => by cases h
  | (x, y) :: r, (x', y') :: s, ⟨h1, h2⟩ => by
    simp only [List.map_cons, List.cons.injEq] at h1
    obtain ⟨u, us, e1, a1, a2⟩ := h2
    simp only [List.map_cons, List.cons.injEq] at e1
    obtain ⟨rfl, h1⟩ := h1
    obtain ⟨rfl, rfl⟩ := e1
    unfold m3q i0q
    by_cases c : x = f
    . rw [if_pos c, if_pos c]
      exact ⟨by simp [h1], v, _, rfl, hd, a2⟩
    . rw [if_neg c, if_neg c]
      obtain ⟨p1, p2⟩ := AbsF.put (f := f) hd (fs := r) (gs := s) ⟨h1, a2⟩
      exact ⟨by simp [p1], _, _, rfl, a1, p2⟩
end
@[irreducible] def onI (G : DV) (a C : Addr) (k : List (Str × D) -> Prop) : Prop := match G a with
  | some (.ins C' fs) => C' = C /\ k fs
  | _ => False
theorem a6q {G : DV} {a C : Addr} {k : List (Str × D) -> Prop} {fs : List (Str × D)} (h : G a = some (.ins C fs)) (q : k fs) : onI G a C k := by unfold onI; rw [h]; exact ⟨rfl, q⟩
theorem f8q {K : PySem.W.Frag} {G : DV} {H : Hp} {a C : Addr} {k : List (Str × D) -> Prop} (v : Vw K G H) (h : onI G a C k) : ∃ fs dx gs, k fs /\ G a = some (.ins C fs) /\ H a = some (.ins C dx gs) /\ AbsF K H fs gs := by
  unfold onI at h
  split at h
  . next C' fs e =>
    obtain ⟨rfl, q⟩ := h
    obtain ⟨dx, gs, z, r⟩ := v _ _ e
    exact ⟨fs, dx, gs, q, e, z, r⟩
  . exact h.elim
def s4q (fs : List (Str × D)) (f : Str) (k : D -> Prop) : Prop := match fs.lookup f with
  | some d => k d
  | none => False
section
variable {K : PySem.W.Frag} {G : DV} {H : Hp}
theorem i6q {p C dx : Addr} {gs : List (Str × V)} {o : HO} (h : H p = some (.ins C dx gs)) : Mono K H (upd H p o) := i3q (fun ys => by rintro (e | ⟨o, e⟩) <;> rw [h] at e <;> cases e) fun _ _ e => by rw [h] at e; cases e
theorem Go.setI (v : Vw K G H) {p C dx : Addr} {fs0 fs : List (Str × D)} {gs0 gs : List (Str × V)} (h : G p = some (.ins C fs0)) (hp : H p = some (.ins C dx gs0)) (r : AbsF K H fs gs) : Go K G H (up G p (.ins C fs)) (upd H p (.ins C dx gs)) where
  tup := i6q hp
  dom := fun a u e => by
    by_cases c : a = p
    . subst c; exact ⟨_, aQq⟩
    . exact ⟨u, by rw [aDq c]; exact e⟩
  same := fun a u e n => by
    have c : a ≠ p := by rintro rfl; rw [h] at n; cases n
    rw [aDq c]; exact e
  new := fun a u e n => by
    have c : a ≠ p := by rintro rfl; rw [h] at n; cases n
    rw [a9q c]; exact n
  vw := fun a u e => by
    by_cases c : a = p
    . subst c; rw [a2q] at e; cases e
      exact ⟨dx, gs, aQq, r.1, r.2.mono (i6q hp)⟩
    . rw [a9q c] at e
      exact (v a u e).mono (i6q hp) (aDq c)
theorem Go.newI (v : Vw K G H) {x dx C : Addr} (hx : H x = none) (hd : H dx = none) (ne : dx ≠ x) : Go K G H (up G x (.ins C [])) (upd (upd H dx (.own x)) x (.ins C dx [])) := by
  have g1 := Go.newT (o := .own x) v hd
  have hx1 : upd H dx (.own x) x = none := by rw [aDq (Ne.symm ne)]; exact hx
  refine g1.trans ⟨d9q hx1, fun a u e => ⟨u, by rw [aDq (aTq e hx1)]; exact e⟩, fun a u e _ => by rw [aDq (aTq e hx1)]; exact e, fun a u e n => by rw [a9q (aTq e hx1)]; exact n, fun a u e => ?_⟩
  by_cases c : a = x
  . subst c; rw [a2q] at e; cases e
    exact ⟨dx, [], aQq, rfl, rfl⟩
  . rw [a9q c] at e
    exact (g1.vw a u e).mono (d9q hx1) (aDq c)
end
section
variable {X : Cx} {o e value : Expr} {es : List Expr} {f m : Str} {C : Addr} {pos pos' tpos apos p : Pos} {ta tv : DTE} {t : DTA}
abbrev dFld (C : Addr) (f : Str) (ta : DTE) : DTE := fun ρ G Q => ta ρ G fun x G1 => match x with
  | .ref a => onI G1 a C fun fs => s4q fs f fun d => Q d G1
  | _ => False
theorem aNq (c : Cls X.K C) (n : NoAttr X.K C f) (ha : AE X e ta) (hb : attributeBase e f X.env (eval e X.env) = eval e X.env := by rfl) : AE X (.Attribute e f pos) (dFld C f ta) := by
  obtain ⟨ca, ja, ra⟩ := ha.run
  refine ⟨_, ⟨uUq ja.run hb⟩, fun ρ G DQ σ H Q B q F => ra ρ G _ σ H _ B q fun x G1 v H1 g1 ax q1 => ?_⟩
  cases x with
  | ref a =>
    cases ax
    obtain ⟨fs, dx, gs, q2, e1, e2, r⟩ := f8q g1.vw q1
    unfold s4q at q2
    split at q2
    . next d hl =>
      obtain ⟨u, h1, h2⟩ := r.lookup hl
      exact ⟨a, C, dx, gs, u, rfl, e2, c, n, h1, F d G1 u H1 g1 h2 q2⟩
    . exact q2.elim
  | _ => exact (show False from q1).elim
abbrev wXq (C : Addr) (f : Str) (tv ta : DTE) : DTS := fun DD ρ G => tv ρ G fun y G1 => ta ρ G1 fun x G2 => match x with
  | .ref a => onI G2 a C fun fs => fs.length < 1000 /\ DD.nx ρ (up G2 a (.ins C (m3q f y fs)))
  | _ => False
theorem cVq (c : Cls X.K C) (n : NoAttr X.K C f) (ha : AE X o ta) (hv : AE X value tv) (hs : swapsWith value (some (.Attribute o f pos')) pos.line X.env = pure false := by rfl) : AS X (.Assign [.Attribute o f pos'] value pos) (wXq C f tv ta) := by
  obtain ⟨ca, ja, ra⟩ := ha.run
  obtain ⟨cv, jv, rv⟩ := hv.run
  refine ⟨_, ⟨wQq ja.run jv.run hs⟩, fun DD Dc ρ G σ H B q F => ?_⟩
  refine rv ρ G _ σ H _ B q fun y G1 v H1 g1 ay q1 => ra ρ G1 _ σ H1 _ (B.go g1) q1 fun x G2 u H2 g2 ax q2 => ?_
  cases x with
  | ref a =>
    cases ax
    obtain ⟨fs, dx, gs, ⟨hl, q3⟩, e1, e2, r⟩ := f8q g2.vw q2
    have g3 := Go.setI g2.vw e1 e2 (r.put (f := f) (ay.mono g2.tup))
    exact ⟨a, C, dx, gs, rfl, e2, c, n, by rw [r.len]; exact hl, F.nx _ _ _ _ ((g1.trans g2).trans g3) (((B.go g1).go g2).go g3) q3⟩
  | _ => exact (show False from q2).elim
structure MGot (P : Program) (w : World) (K : PySem.W.Frag) (mg : Str -> Option Value) (base : Heap) (k : Nat) (C : Addr) (m : Str) (ps : List Str) (sp : Sp) : Prop where
  ex : ∃ (f : Addr) (fd : FuncData), FnOk P w K mg base CX0 k f fd ps sp /\ Meth K C m f /\ Binds K fd ps []
abbrev u9q (C : Addr) (m : Str) (dsp : DSp) (ta : DTE) (t : DTA) : DTE := fun ρ G Q => ta ρ G fun x G1 => match x with
  | .ref a => onI G1 a C (fun fs => fs.lookup m = none) /\ t ρ G1 fun ds G2 => dsp (.ref a :: ds) G2 Q
  | _ => False
theorem gJq {k j : Nat} {ps : List Str} {dsp : DSp} {pl : Sem Bool} (c : Cls X.K C) (Gt : MGot X.prog X.w X.K X.mg X.base k C m ps (aWq X.K dsp)) (hr : Room j X.A) (hk : k <= j) (ho : AE X o ta) (ha : AA X (e :: es) t) (hs : (e :: es).all b6q = true := by rfl)
    (ht : eval (.Call (.Attribute o m apos) (e :: es) [] pos) X.env = (do
      let ov ← eval o X.env
      standAt apos.atName
      let (f, first) ← holding [ov] (getMethod ov m pl)
      callWith pos f first (backTo pos (starEach (e :: es) X.env)) (backToKw pos (keywordEach [] X.env))) := by rfl) : AE X (.Call (.Attribute o m apos) (e :: es) [] pos) (u9q C m dsp ta t) := by
  obtain ⟨co, jo, ro⟩ := ho.run
  obtain ⟨ca, ja, ra⟩ := ha.run
  obtain ⟨f, fd, Fk, hm, hb⟩ := Gt.ex
  have h := hs
  rw [List.all_cons, Bool.and_eq_true] at h
  refine ⟨_, ⟨rFq (pl := pl) (dvs := []) jo.run c hm Fk (hr.mono hk) hb .nil pMq ja.run (aHq h.1) (bPq h.2) ht⟩, fun ρ G DQ σ H Q B q F => ro ρ G _ σ H _ B q fun x G1 v H1 g1 ax q1 => ?_⟩
  cases x with
  | ref a =>
    cases ax
    obtain ⟨q1, q2⟩ := q1
    obtain ⟨fs, dx, gs, hl, e1, e2, r⟩ := f8q g1.vw q1
    exact ⟨a, dx, gs, rfl, e2, r.none hl, ra ρ G1 _ σ H1 _ (B.go g1) q2 fun ds G2 vs H2 g2 al _ q3 => ⟨.ref a :: ds, G2, DQ, ⟨_, _, rfl, rfl, by rw [List.append_nil]; exact al⟩, g2.vw, q3, F.after (g1.trans g2)⟩⟩
  | _ => exact (show False from q1).elim
theorem aVq {k j : Nat} {ps : List Str} {dsp : DSp} {pl : Sem Bool} (c : Cls X.K C) (Gt : MGot X.prog X.w X.K X.mg X.base k C m ps (aWq X.K dsp)) (hr : Room j X.A) (hk : k <= j) (ho : AE X o ta)
    (ht : eval (.Call (.Attribute o m apos) [] [] pos) X.env = (do
      let ov ← eval o X.env
      standAt apos.atName
      let (f, first) ← holding [ov] (getMethod ov m pl)
      callWith pos f first (backTo pos (starEach [] X.env)) (backToKw pos (keywordEach [] X.env))) := by rfl) : AE X (.Call (.Attribute o m apos) [] [] pos) (u9q C m dsp ta zJq) := by
  obtain ⟨co, jo, ro⟩ := ho.run
  obtain ⟨f, fd, Fk, hm, hb⟩ := Gt.ex
  refine ⟨_, ⟨p3q (pl := pl) (dvs := []) jo.run c hm Fk (hr.mono hk) hb .nil pMq ht⟩, fun ρ G DQ σ H Q B q F => ro ρ G _ σ H _ B q fun x G1 v H1 g1 ax q1 => ?_⟩
  cases x with
  | ref a =>
    cases ax
    obtain ⟨q1, q2⟩ := q1
    obtain ⟨fs, dx, gs, hl, e1, e2, r⟩ := f8q g1.vw q1
    exact ⟨a, dx, gs, rfl, e2, r.none hl, [.ref a], G1, DQ, ⟨_, _, rfl, rfl, rfl⟩, g1.vw, q2, F.after g1⟩
  | _ => exact (show False from q1).elim
structure MkGot (P : Program) (w : World) (K : PySem.W.Frag) (mg : Str -> Option Value) (base : Heap) (k : Nat) (C : Addr) (x : Str) (ps : List Str) (sp : Sp) : Prop where
  ex : ∃ (f : Addr) (fd : FuncData), FnOk P w K mg base CX0 k f fd ps sp /\ Mk K C f /\ mg x = some (.ref C) /\ Binds K fd ps []
abbrev xZq (C : Addr) (dsp : DSp) (t : DTA) : DTE := fun ρ G Q => t ρ G fun ds G1 => ∀ x, G1 x = none -> dsp (.ref x :: ds) (up G1 x (.ins C [])) fun d G2 => d = .non /\ Q (.ref x) G2
theorem f7q {k j : Nat} {x : Str} {ps : List Str} {dsp : DSp} (Gt : MkGot X.prog X.w X.K X.mg X.base k C x ps (aWq X.K dsp)) (hr : Room j X.A) (hk : k + 1 <= j) (hg : Gl X x) (ha : AA X (e :: es) t) (hdb : (x == ("__debug__" : Str)) = false := by decide) (hs : (e :: es).all b6q = true := by rfl) :
    AE X (.Call (.Name x p) (e :: es) [] pos) (xZq C dsp t) := by
  obtain ⟨ca, ja, ra⟩ := ha.run
  obtain ⟨f, fd, Fk, M, hm, hb⟩ := Gt.ex
  have h := hs
  rw [List.all_cons, Bool.and_eq_true] at h
  refine ⟨_, ⟨r9q (dvs := []) M Fk (hr.mono hk) hg hm hb .nil pMq ja.run hdb (aHq h.1) (bPq h.2)⟩, fun ρ G DQ σ H Q B q F => ra ρ G _ σ H _ B q fun ds G1 vs H1 g1 al _ q1 z dx hz hd ne => ?_⟩
  have g2 := Go.newI (C := C) g1.vw hz hd ne
  refine ⟨.ref z :: ds, _, _, ⟨_, _, rfl, rfl, by rw [List.append_nil]; exact al.mono g2.tup⟩, g2.vw, q1 z (g1.vw.none hz), fun d G3 v H3 g3 ad hq => ?_⟩
  obtain ⟨rfl, hq⟩ := hq
  cases ad
  exact ⟨rfl, F (.ref z) G3 _ H3 ((g1.trans g2).trans g3) rfl hq⟩
end
end L3
namespace L2
open PySem PySem.Spec PyProof.Rows
section
variable {X : Cx} {e : Expr} {ta : TA} {p p2 pos pos2 : Pos}
end
end L2
namespace L3
open PySem PyProof L2
section
variable {X : Cx} {e : Expr} {t : DTA} {p p2 pos pos2 : Pos}
end
end L3
namespace L2
open PySem PySem.Spec PyProof.Rows
theorem pHq {l : PySem.W.OpenLaw} {n k : Nat} {q : Program} {loose : List Str} {XP : (Str -> Option Value) -> Heap -> Prop} {YP : World -> Heap -> Prop} {d : DefRec} {K : Params -> PySem.W.Frag} {sp : PySem.W.Frag -> Sp} {x : Str} {tabs : List (Addr × Addr)}
    (hn : l.most = some n) (hn2 : n <= sizeLine) (hdf : d.params.defaults = []) (hr : Room k callerA) (hY : ∀ (w : World) (h : Heap), YP w h -> (K w.params).In h) (hK : ∀ w : World, PySem.W.noTabs (K w.params) = true)
    (hTab : ∀ (w : World) (h : Heap), YP w h -> PySem.W.TabsAt tabs h)
    (F : ∀ (w : World) (mg : Str -> Option Value) (fa : Addr) (h : Heap), (K w.params).In h -> h.Ns mainGlobals mg -> mg d.name = some (.ref fa) →
      ∃ fd : FuncData, (∀ (s : Shared) (u : Value), BindsTo s fd ⟨[u], []⟩ [(x, u)]) ∧
        ∀ base : Heap, (K w.params).In base -> base.Ns mainGlobals mg -> (∀ q ∈ tabs, PySem.W.CodeHd base q.1 q.2) -> gWq mg base -> FnOk l.prog w (K w.params) mg base CX0 k fa fd [x] (sp (K w.params)))
    (hsp : ∀ (K : PySem.W.Frag) (H : Hp) (a : Addr) (ns : List Int), ns.length <= n -> EntryT tabs K a H -> SqL K H a (ns.map V.int) -> sp K [.ref a] H (fun v _ => v = .bl true) fun _ _ _ => False) :
    PySem.W.WalkO q loose XP YP l.row.toRowW d [] (fun f vs => PySem.call f vs) := by
  refine Att.attach_call hn hdf fun w s₀ s₁ mg mb fa o pm cd doc a vs ns G Y ho hd hcd hmg hobj hints hlen hg => ?_
  have KX := hY w _ Y
  obtain ⟨fd, hb, hF⟩ := F w mg fa _ KX G.T.g hmg
  exact n1q KX G.T.g G.T.b G.T.builtins G.T.nolimit hg hobj hints (Nat.le_trans hlen hn2) hr (hTab w _ Y) (hK w) (oSq G.T) hF hb fun H hE hS => hsp _ H a ns hlen hE hS
end L2
namespace L3
open PySem PyProof L2
def gEq (tl : List (Addr × Pos × Str)) : DSp := fun ds G Q => ∃ ns : List Int, ds = [.frl (ns.map D.int)] /\ ns.length <= 63 /\ (∀ q ∈ tl, G q.1 = some (.tab q.2.1 q.2.2)) /\ ∀ G', Q (.bl true) G'
def ndA : List Addr -> Bool
  | [] => true
  | a :: r => !r.contains a && ndA r
theorem jHq : ∀ {tl : List (Addr × Pos × Str)} {q : Addr × Pos × Str}, ndA (tl.map (·.1)) = true -> q ∈ tl -> tl.lookup q.1 = some q.2
  | (p1, p2) :: r, (q1, q2), nd, h => by
    simp only [List.map_cons, ndA, Bool.and_eq_true, Bool.not_eq_true', List.contains_eq_mem, decide_eq_false_iff_not] at nd
    show ((p1, p2) :: r).lookup q1 = some q2
    rcases List.mem_cons.mp h with e | h
    . cases e; rw [List.lookup_cons, beq_self_eq_true]
    . have ne : q1 ≠ p1 := fun z => nd.1 (by rw [<- z]; exact List.mem_map_of_mem (f := (·.1)) h)
      rw [List.lookup_cons, beq_false_of_ne ne]
      exact jHq nd.2 h
theorem hHq : ∀ {tl : List (Addr × Pos × Str)} {a : Addr} {z : Pos × Str}, tl.lookup a = some z -> (a, z) ∈ tl
  | (p1, p2) :: r, a, z, h => by
    rw [List.lookup_cons] at h
    cases e : (a == p1) with
    | true =>
      rw [e] at h; cases h
      obtain rfl : a = p1 := by simpa using e
      exact List.mem_cons_self ..
    | false => rw [e] at h; exact List.mem_cons_of_mem _ (hHq h)
theorem pDq {K : PySem.W.Frag} {H : Hp} {a : Addr} {ns : List Int} {tabs : List (Addr × Addr)} {tl : List (Addr × Pos × Str)} (hm : tl.map (·.1) = tabs.map (·.2)) (nd : ndA (tl.map (·.1)) = true) (hl : ns.length <= 63) (o : EntryT tabs K a H) (h : SqL K H a (ns.map V.int)) :
    aWq K (gEq tl) [.ref a] H (fun v _ => v = .bl true) fun _ _ _ => False := by
  have f : FrL K H a (ns.map V.int) := by
    rcases h with (h | h) | h
    . rcases o.only a with z | ⟨_, _, z⟩ | ⟨_, z⟩ <;> (rw [h] at z; cases z)
    . exact .inl h
    . exact .inr h
  refine ⟨[.frl (ns.map D.int)], fun b => (tl.lookup b).map fun z => .tab z.1 z.2, fun d _ => d = .bl true, ⟨.ref a, [], rfl, ⟨a, _, rfl, f, AbsL.of_ints ns⟩, rfl⟩, fun b u e => ?_, ⟨ns, rfl, hl, fun q hq => by simp only [jHq nd hq, Option.map_some], fun _ => rfl⟩, fun d G' v H' g ad e => ?_⟩
  . cases z : tl.lookup b with
    | none => simp only [z, Option.map_none] at e; cases e
    | some y =>
      simp only [z, Option.map_some] at e
      cases e
      have hb : b ∈ tabs.map (·.2) := by rw [<- hm]; exact List.mem_map_of_mem (hHq z)
      obtain ⟨q, hq, rfl⟩ := List.mem_map.mp hb
      exact ⟨#[], o.tab q hq, trivial, .inl rfl⟩
  . subst e
    exact ad
end L3
namespace L3
open PySem PyProof L2
section
variable {K : PySem.W.Frag} {H : Hp} {G : DV}
end
section
variable {X : Cx} {o i e value : Expr} {pos pos' tpos : Pos} {td ti tv : DTE}
end
end L3
namespace L2
open PySem PySem.Spec PyProof.Rows
section
variable {X : Cx}
theorem qGq {x : Str} {ad : Addr} {tab : Str -> Option V} {e f : Expr} {ty tx : TE} {p apos cpos : Pos} (hg : Gl X x) (hm : X.mg x = some (.ref ad)) (T : KTab X.K X.w ad tab) (he : PE X e ty) (hf : PE X f tx) (m : M2 X (.Name x p) "get" apos e f cpos) (hd : (x == ("__debug__" : Str)) = false := by decide) :
    PE X (.Call (.Attribute (.Name x p) "get" apos) [e, f] [] cpos) (fun σ H Q => ty σ H fun y H1 => tx σ H1 fun d H2 => ∃ z, y = .str z /\ Q ((tab z).getD d) H2) := by
  intro pins s σ H Q I h
  obtain ⟨⟨es, n, hl, hk, ht⟩, lo⟩ := T
  refine wpAny_Call_method m.base m.few m.line PySem.F.plainAttrs_dict PySem.F.slot_dict_get PySem.F.type_dict_get (thn (jWq (v := .ref ad) hg hm rfl hd pins s σ H (fun v H1 => v = .ref ad /\ H1 = H) I ⟨rfl, rfl⟩) fun u s1 ⟨x1, H1, I1, rx, ex, eH⟩ => ?_)
  subst ex eH
  obtain rfl : u = Value.ref ad := rx
  have mp : ∀ {s' : Shared}, X.K.In s'.heap -> s'.heap.MapOf (strKind X.prog X.w) ad (fun k => findBy Value.isStrOf es k) := fun k => PySem.W.mapOf_K k hl hk
  refine ⟨(mp I1.kIn).typeIs, (mp I1.kIn).noDict, ?_⟩
  rw [m.trees]
  refine Calls.callWith_builtin rfl (Calls.evalArgs_plain (Calls.spliced_cons (thn (he pins s1 σ H1 _ I1 h) fun iv s2 ⟨y, H2, I2, ry, q2⟩ => Calls.spliced_cons (thn (hf pins s2 σ H2 _ I2 q2) fun fv s3 ⟨d, H3, I3, rd, z, ey, q3⟩ => Calls.spliced_nil ?_))))
  subst ey
  obtain ⟨t, rfl⟩ := ry
  refine call_meetsIn PySem.F.slot_dict_get (mp I3.kIn).typeIs PySem.F.entry_dict_get (PySem.F.args_dict_get_3 _ _ _) (meets_dict_get_default (strKind X.prog X.w) ad (strKind_is X.prog X.w z t) lo fv) ⟨_, mp I3.kIn, (tab z).getD d, H3, I3.tok _, ?_, q3⟩
  exact (ht z).getD rd
theorem vHq {x : Str} {ad : Addr} {tab : Str -> Option V} {e : Expr} {ty : TE} {p pos : Pos} (hg : Gl X x) (hm : X.mg x = some (.ref ad)) (T : KTab X.K X.w ad tab) (he : PE X e ty) (hs : y6q e) (hd : (x == ("__debug__" : Str)) = false := by decide) :
    PE X (.Subscript (.Name x p) e pos) (fun σ H Q => ty σ H fun y H1 => ∃ z v, y = .str z /\ tab z = some v /\ Q v H1) := by
  intro pins s σ H Q I h
  obtain ⟨⟨es, n, hl, hk, ht⟩, lo⟩ := T
  have mp : ∀ {s' : Shared}, X.K.In s'.heap -> s'.heap.MapOf (strKind X.prog X.w) ad (fun k => findBy Value.isStrOf es k) := fun k => PySem.W.mapOf_K k hl hk
  refine s0q PySem.F.slot_dict_getitem.lookup hs (thn (jWq (v := .ref ad) hg hm rfl hd pins s σ H (fun v H1 => v = .ref ad /\ H1 = H) I ⟨rfl, rfl⟩) fun u s1 ⟨x1, H1, I1, rx, ex, eH⟩ => thn (he pins s1 σ H _ (eH ▸ I1) h) fun iv s2 ⟨y, H2, I2, ry, z, v, ey, ev, q2⟩ => ?_)
  subst ex
  obtain rfl : u = Value.ref ad := rx
  subst ey
  obtain ⟨t, rfl⟩ := ry
  obtain ⟨w', hw, rw'⟩ := RelO.some_of (v := v) (o := findBy Value.isStrOf es z) (by rw [<- ev]; exact ht z)
  exact ⟨(mp I2.kIn).typeIs, wpAny_getItem_of (strKind_is X.prog X.w z t) (mp I2.kIn) hw ⟨v, H2, I2.tok _, rw', q2⟩⟩
def rKIn (ad : Addr) (tab : Str -> Option V) : R2 := fun x y H Q => ∃ z, x = .str z /\ y = .ref ad /\ Q (.bl (tab z).isSome) H
theorem vBq {ad : Addr} {tab : Str -> Option V} (T : KTab X.K X.w ad tab) : OpR X (compareOp .In) (rKIn ad tab) := by
  intro pins s σ H x y v u Q I rx ry h
  obtain ⟨⟨es, n, hl, hk, ht⟩, lo⟩ := T
  obtain ⟨z, rfl, rfl, q⟩ := h
  obtain ⟨t, rfl⟩ := rx
  cases ry
  refine wpAny_in_of (strKind_is X.prog X.w z t) lo (PySem.W.mapOf_K I.kIn hl hk) ?_
  rw [<- (ht z).isSome_eq]
  exact ⟨.bl _, H, I.tok _, rfl, q⟩
def Itv (K : PySem.W.Frag) (a : Addr) (n : Nat) : It :=
  ⟨fun i H => i < n /\ ∃ xs, SqL K H a xs /\ xs.length = n, fun i H x H' => H' = H /\ ∀ xs, SqL K H a xs -> xs[n - 1 - i]? = some x, fun i _ => n <= i⟩
theorem pJq {P : Program} {w : World} {K : PySem.W.Frag} {tg : Expr} (a it : Addr) (n : Nat) : Turn P w K tg (Itv K a n) [it] it (fun i h => i <= n /\ h.IsRevIter it a ((n : Int) - 1 - (i : Int))) where
  mem := by simp
  obj := fun i h st b hb => by
    have e : b = it := by simpa using hb
    subst e
    obtain ⟨_, o, e, c, d⟩ := st
    exact ⟨o, e, fun v z => by rw [d] at z; cases z⟩
  keep := fun i h h' st k => ⟨st.1, st.2.at fun o e => k it (by simp) o e⟩
  item := by
    intro X hP hw hK hc i pins s σ H E I hf st hg
    subst hP hw hK
    obtain ⟨hi, xs, hq, hx⟩ := hg
    obtain ⟨_, st⟩ := st
    obtain ⟨its, rv, p, hz⟩ := I.list hq
    have hlt : n - 1 - i < xs.length := by omega
    have hx' : xs[n - 1 - i]? = some xs[n - 1 - i] := List.getElem?_eq_getElem hlt
    obtain ⟨u, hu, ru⟩ := rv.get hx'
    obtain ⟨f0, f1, f2, f3, f4, f5⟩ := hf it (by simp)
    rw [show (n : Int) - 1 - (i : Int) = ((n - 1 - i : Nat) : Int) by omega] at st
    refine wpAny_pyNext_rev_item st p.isList (x := u) (by simpa using hu) fun h' st' sb => ?_
    have I1 : Inv X pins σ H { s with heap := h' } := I.turned (t' := s.toks) (fun b o hb e => (sb.2 b hb).trans e) f0 f1 f3 f4 f5
    obtain ⟨o, e, c, d⟩ := id st'
    exact ⟨u, rfl, oTq (s := { s with heap := h' }) e c d (by decide) ⟨_, H, I1, ru, ⟨rfl, fun ys hy => by rw [I.list_inj hy hq]; exact hx'⟩, ⟨hi, by rw [show (n : Int) - 1 - ((i + 1 : Nat) : Int) = ((n - 1 - i : Nat) : Int) - 1 by omega]; exact st'⟩, fun b hb => (hf b hb).1⟩⟩
  done := by
    intro X hP hw hK hc i pins s σ H E I hf st hg
    subst hP hw hK
    have hg' : n <= i := hg
    obtain ⟨hi, st⟩ := st
    obtain ⟨f0, f1, f2, f3, f4, f5⟩ := hf it (by simp)
    rw [show (n : Int) - 1 - (i : Int) = -1 by omega] at st
    exact wpAny_pyNext_rev_end (I.ok.hd hc) st fun h' eb => ⟨rfl, I.turned (t' := s.toks) (fun b o hb e => eb b o hb e) f0 f1 f3 f4 f5⟩
  self := fun _ _ _ _ _ st h => wpAny_pyIter_revIter st.2 h
def zGq (K : PySem.W.Frag) (tl : TE) : TI := fun σ H R => tl σ H fun x H1 => ∃ a xs, x = .ref a /\ SqL K H1 a xs /\ R (Itv K a xs.length) H1
theorem tGq {tg e : Expr} {tl : TE} {p pos : Pos} (hg : Gl X "reversed") (hm : X.mg "reversed" = none) (hl : PE X e tl) (hs : b6q e = true) : PI X tg (.Call (.Name "reversed" p) [e] [] pos) (zGq X.K tl) := by
  intro pins s σ H R I h
  refine thn (sRq (R := fun a xs H1 => R (Itv X.K a xs.length) H1) hg hm hl hs I h) fun v s1 h1 => ?_
  obtain ⟨a, it, xs, its, H1, rfl, I1, hit, ht, hne, rv, hz, _, fp, q⟩ := h1
  have hl' := rv.length
  refine wpAny_pyIter_revIter hit ⟨it, [it], _, _, H1, rfl, I1, pJq a it xs.length, ?_, fun b hb => ?_, q⟩
  . rw [List.size_toArray, <- hl'] at hit
    exact ⟨Nat.zero_le _, by simpa using hit⟩
  . have e : b = it := by simpa using hb
    subst e
    exact fp
end
end L2
namespace L3
open PySem PySem.Spec L2
structure KTabD (K : PySem.W.Frag) (w : World) (ad : Addr) (tab : Str -> Option D) : Prop where
  ex : ∃ tv : Str -> Option V, KTab K w ad tv /\ (∀ z, tab z = none -> tv z = none) /\ ∀ z d, tab z = some d -> ∃ v, tv z = some v /\ ∀ H, Abs K H d v
section
variable {X : Cx} {a b c e f o i tg iter value : Expr} {x : Str} {ad C : Addr} {tab : Str -> Option D} {ta tv te tf to ti : DTE} {pos pos' tpos p apos cpos : Pos}
abbrev vQq (tab : Str -> Option D) (te tf : DTE) : DTE := fun ρ G Q => te ρ G fun y G1 => tf ρ G1 fun d G2 => match y with
  | .str z => Q ((tab z).getD d) G2
  | _ => False
theorem pXq (hg : Gl X x) (hm : X.mg x = some (.ref ad)) (T : KTabD X.K X.w ad tab) (he : AE X e te) (hf : AE X f tf) (m : M2 X (.Name x p) "get" apos e f cpos := by exact ⟨rfl, rfl, rfl, rfl⟩) (hd : (x == ("__debug__" : Str)) = false := by decide) :
    AE X (.Call (.Attribute (.Name x p) "get" apos) [e, f] [] cpos) (vQq tab te tf) := by
  obtain ⟨tv, T, t1, t2⟩ := T
  obtain ⟨ce, je, re⟩ := he.run
  obtain ⟨cf, jf, rf⟩ := hf.run
  refine ⟨_, ⟨qGq hg hm T je.run jf.run m hd⟩, fun ρ G DQ σ H Q B q F => re ρ G _ σ H _ B q fun y G1 v H1 g1 ay q1 => rf ρ G1 _ σ H1 _ (B.go g1) q1 fun d G2 u H2 g2 ad q2 => ?_⟩
  cases y with
  | str z =>
    cases ay
    refine ⟨z, rfl, ?_⟩
    replace q2 : DQ ((tab z).getD d) G2 := q2
    cases ez : tab z with
    | none => rw [t1 z ez]; rw [ez] at q2; exact F d G2 u H2 (g1.trans g2) ad q2
    | some d' =>
      obtain ⟨v', e1, e2⟩ := t2 z d' ez
      rw [e1]; rw [ez] at q2
      exact F d' G2 v' H2 (g1.trans g2) (e2 _) q2
  | _ => exact (show False from q2).elim
abbrev zTq (tab : Str -> Option D) (te : DTE) : DTE := fun ρ G Q => te ρ G fun y G1 => match y with
  | .str z => ∃ d, tab z = some d /\ Q d G1
  | _ => False
theorem tUq (hg : Gl X x) (hm : X.mg x = some (.ref ad)) (T : KTabD X.K X.w ad tab) (he : AE X e te) (hs : y6q e) (hd : (x == ("__debug__" : Str)) = false := by decide) : AE X (.Subscript (.Name x p) e pos) (zTq tab te) := by
  obtain ⟨tv, T, t1, t2⟩ := T
  obtain ⟨ce, je, re⟩ := he.run
  refine ⟨_, ⟨vHq hg hm T je.run hs hd⟩, fun ρ G DQ σ H Q B q F => re ρ G _ σ H _ B q fun y G1 v H1 g1 ay q1 => ?_⟩
  cases y with
  | str z =>
    cases ay
    obtain ⟨d, ed, q2⟩ := q1
    obtain ⟨v', e1, e2⟩ := t2 z d ed
    exact ⟨z, v', rfl, e1, F d G1 v' H1 g1 (e2 _) q2⟩
  | _ => exact (show False from q1).elim
abbrev inK (ad : Addr) (tab : Str -> Option D) : DR2 := fun x y G Q => match x with
  | .str z => y = .ref ad /\ Q (.bl (tab z).isSome) G
  | _ => False
theorem s8q (T : KTabD X.K X.w ad tab) : AOp X (compareOp .In) (inK ad tab) := by
  obtain ⟨tv, T, t1, t2⟩ := T
  refine ⟨_, ⟨vBq T⟩, fun x y vx vy G H DQ Q v ax ay r F => ?_⟩
  cases x with
  | str z =>
    cases ax
    obtain ⟨rfl, q⟩ := r
    cases ay
    refine ⟨z, rfl, rfl, ?_⟩
    have e : (tv z).isSome = (tab z).isSome := by
      cases ez : tab z with
      | none => rw [t1 z ez]; rfl
      | some d => obtain ⟨v', e1, _⟩ := t2 z d ez; rw [e1]; rfl
    rw [e]
    exact F (.bl _) G _ H (.refl v) rfl q
  | _ => exact (show False from r).elim
abbrev oVq (C : Addr) (f : Str) (ta te : DTE) (g : Int -> Int -> Int) : DTS := fun DD ρ G => ta ρ G fun x G1 => match x with
  | .ref a => onI G1 a C fun fs => s4q fs f fun d => te ρ G1 fun y G2 => match d, y with
    | .int i, .int j => onI G2 a C fun fs' => fs'.length < 1000 /\ DD.nx ρ (up G2 a (.ins C (m3q f (.int (g i j)) fs')))
    | _, _ => False
  | _ => False
theorem ePq {f : Str} (c : Cls X.K C) (n : NoAttr X.K C f) (ha : AE X o ta) (he : AE X value te) : AS X (.AugAssign (.Attribute o f tpos) .Add value pos) (oVq C f ta te (· + ·)) := by
  obtain ⟨ca, ja, ra⟩ := ha.run
  obtain ⟨ce, je, re⟩ := he.run
  refine ⟨_, ⟨o9q ja.run je.run wNq⟩, fun DD Dc ρ G σ H B q F => ra ρ G _ σ H _ B q fun x G1 v H1 g1 ax q1 => ?_⟩
  cases x with
  | ref a =>
    cases ax
    obtain ⟨fs, dx, gs, q2, e1, e2, r⟩ := f8q g1.vw q1
    unfold s4q at q2
    split at q2
    . next d hl =>
      obtain ⟨u, h1, h2⟩ := r.lookup hl
      refine ⟨a, C, dx, gs, u, rfl, e2, c, n, h1, re ρ G1 _ σ H1 _ (B.go g1) q2 fun y G2 u2 H2 g2 ay q3 => ?_⟩
      split at q3
      . next i j =>
        cases h2; cases ay
        obtain ⟨fs', dx', gs', ⟨hl', q4⟩, e1', e2', r'⟩ := f8q g2.vw q3
        have g3 := Go.setI g2.vw e1' e2' (r'.put (f := f) (d := .int (i + j)) (v := .int (i + j)) rfl)
        exact ⟨i, j, rfl, rfl, dx', gs', e2', by rw [r'.len]; exact hl', F.nx _ _ _ _ ((g1.trans g2).trans g3) (((B.go g1).go g2).go g3) q4⟩
      . exact q3.elim
    . exact q2.elim
  | _ => exact (show False from q1).elim
@[irreducible] def vDq (G : DV) (l : Addr) (k : DIt -> Prop) : Prop := match G l with
  | some (.lst ds) => k ⟨ds.reverse, fun G => G l = some (.lst ds)⟩
  | _ => False
theorem sAq {G : DV} {l : Addr} {k : DIt -> Prop} {ds : List D} (h : G l = some (.lst ds)) (q : k ⟨ds.reverse, fun G => G l = some (.lst ds)⟩) : vDq G l k := by unfold vDq; rw [h]; exact q
abbrev xVq (ta : DTE) : DTI := fun ρ G R => ta ρ G fun x G1 => match x with
  | .ref l => vDq G1 l fun J => R J G1
  | _ => False
theorem uNq {tc : TE} (hg : Gl X "reversed") (hm : X.mg "reversed" = none) (hl : JE X a tc) (hs : b6q a = true) : JI X tg (.Call (.Name "reversed" p) [a] [] pos) (zGq X.K tc) := ⟨tGq hg hm hl.run hs⟩
theorem v3q (hg : Gl X "reversed") (hm : X.mg "reversed" = none) (ha : AE X a ta) (hs : b6q a = true := by rfl) : AI X tg (.Call (.Name "reversed" p) [a] [] pos) (xVq ta) := by
  obtain ⟨ca, ja, ra⟩ := ha.run
  refine ⟨_, uNq hg hm ja hs, fun ρ G DR σ H R B q F => ra ρ G _ σ H _ B q fun x G1 v H1 g1 ax q1 => ?_⟩
  cases x with
  | ref l =>
    cases ax
    replace q1 : vDq G1 l fun J => DR J G1 := q1
    unfold vDq at q1
    split at q1
    . next ds hd =>
      obtain ⟨vs, z, r⟩ := g1.vw _ _ hd
      refine ⟨l, vs, rfl, .of z, F ⟨ds.reverse, fun G => G l = some (.lst ds)⟩ _ G1 H1 g1 (fun G2 H2 g2 h2 => ?_) q1⟩
      obtain ⟨us, z2, r2⟩ := g2.vw _ _ h2
      have n1 := r.len
      have n2 := r2.len
      refine ⟨fun i d hd' => ?_, fun i hi => ?_⟩
      . have hi : i < ds.length := by
          rcases Nat.lt_or_ge i ds.length with c | c
          . exact c
          . rw [List.getElem?_eq_none (by rw [List.length_reverse]; exact c)] at hd'; cases hd'
        rw [List.getElem?_reverse hi] at hd'
        obtain ⟨w, hw, aw⟩ := r2.get hd'
        refine ⟨⟨by omega, us, .of z2, by omega⟩, fun x H' y => ?_⟩
        obtain ⟨rfl, y⟩ := y
        have z := y us (.of z2)
        rw [show vs.length = ds.length by omega, hw] at z
        cases z
        exact ⟨.refl g2.vw, aw⟩
      . show vs.length <= i
        rw [List.length_reverse] at hi
        omega
    . exact q1.elim
  | _ => exact (show False from q1).elim
end
end L3
namespace L2
open PySem PySem.Spec PyProof.Rows
theorem m7q {X : Cx} : OpR X (compareOp .IsNot) (fun x y H Q => ∃ a b, x = .bl a /\ y = .bl b /\ Q (.bl (a != b)) H) := by
  intro pins s σ H x y v u Q I rx ry h
  obtain ⟨a, b, rfl, rfl, q⟩ := h
  cases rx; cases ry
  have e : compareOp .IsNot (.bool a) (.bool b) = pure (.bool (a != b)) := by cases a <;> cases b <;> rfl
  rw [e]
  exact wpAny_pure ⟨.bl _, H, I, rfl, q⟩
end L2
namespace L3
open PySem PySem.Spec L2
abbrev wIq : DR2 := fun x y G Q => match x, y with
  | .bl a, .bl b => Q (.bl (a != b)) G
  | _, _ => False
theorem h7q {X : Cx} : AOp X (compareOp .IsNot) wIq := by
  refine ⟨_, ⟨m7q⟩, fun x y vx vy G H DQ Q v ax ay r F => ?_⟩
  cases x with
  | bl a =>
    cases y with
    | bl b => cases ax; cases ay; exact ⟨a, b, rfl, rfl, F (.bl (a != b)) G _ H (.refl v) rfl r⟩
    | _ => exact (show False from r).elim
  | _ => exact (show False from r).elim
end L3
namespace L2
open PySem PySem.Spec PyProof.Rows
section
variable {X : Cx}
def hBq (i : Str) (n : Nat) : Str := ⟨(List.replicate n i.cps.toList).flatten.toArray⟩
theorem iYq {α : Type} (x : Array α) : ∀ (n : Nat) (a : Array α), ((List.replicate n x).foldl (· ++ ·) a).toList = a.toList ++ (List.replicate n x.toList).flatten
  | 0, a => by simp
  | n + 1, a => by rw [List.replicate_succ, List.foldl_cons, iYq x n, List.replicate_succ, List.flatten_cons, Array.toList_append, List.append_assoc]
theorem mPq (i : Str) (n : Nat) : (⟨(List.replicate n i.cps).foldl (· ++ ·) #[]⟩ : Str) = hBq i n := by
  unfold hBq
  congr 1
  apply Array.toList_inj.mp
  rw [iYq]; rfl
theorem qFq (i : Str) : hBq i 1 = i := by
  unfold hBq
  cases i; simp
theorem qCq (i : Str) (n : Nat) (h : i.length = 0) : hBq i n = i := by
  obtain ⟨c⟩ := i
  have e : c = #[] := Array.eq_empty_of_size_eq_zero h
  subst e
  unfold hBq
  simp
theorem eDq (i : Str) (n : Nat) : (hBq i n).length = n * i.length := by
  unfold hBq Str.length
  simp
def yBq : V -> V -> Hp -> VK -> Prop := fun x y H Q => ∃ (i : Str) (n : Nat), x = .str i /\ y = .int n /\ n <= 1000 /\ i.length <= 1000 /\ Q (.str (hBq i n)) H
theorem lKq : OpR X (binaryOp .Mult) yBq := by
  intro pins s σ H x y v u Q I rx ry h
  obtain ⟨i, n, rfl, rfl, hn, hi, q⟩ := h
  obtain ⟨t, rfl⟩ := rx
  obtain ⟨t', rfl⟩ := ry
  have hm : i.length * n <= 1000000 := Nat.le_trans (Nat.mul_le_mul hi hn) (by decide)
  refine PySem.P.mul_str ?_ (fun h1 _ h2 => ?_) (fun _ _ => ?_) ?_
  . simp; omega
  . have : (1000 : Int) <= (2 ^ 63 - 1) / n := by
      apply Int.le_ediv_of_mul_le (by omega)
      omega
    omega
  . unfold Builtin.Str.tooLong; rw [Int.toNat_natCast]; exact decide_eq_false (by rw [sizeLine_eq]; omega)
  . rw [Int.toNat_natCast]
    split
    . next c =>
      have e : n = 0 := by omega
      subst e
      exact ⟨by decide, ⟨.str (hBq i 0), H, I.tok _, ⟨_, rfl⟩, q⟩⟩
    . split
      . next c c2 =>
        have e : hBq i n = i := by
          rcases Bool.or_eq_true_iff.mp c2 with z | z
          . have : n = 1 := by have := eq_of_beq z; omega
            subst this; exact qFq i
          . exact qCq i n (eq_of_beq z)
        exact ⟨.str i, H, I, ⟨_, rfl⟩, e ▸ q⟩
      . rw [mPq]
        exact ⟨by rw [eDq, Nat.mul_comm, sizeLine_eq]; omega, ⟨.str (hBq i n), H, I.tok _, ⟨_, rfl⟩, q⟩⟩
def rSlS : V -> Option Int -> Option Int -> Hp -> VK -> Prop := fun x lo hi H Q => ∃ z : Str, x = .str z /\ z.length <= sizeLine /\ Q (.str (Txt.slice z lo hi)) H
theorem tYq : SlR X rSlS := by
  intro pins s σ H x v vl vu lo hi sl Q I rx hs pl pu h
  obtain ⟨z, rfl, hz, q⟩ := h
  obtain ⟨t, rfl⟩ := rx
  refine ⟨"str", _, F.slot_str_getitem.lookup, typeIs_str _ _ _, ?_⟩
  have fin : ∀ t' k, EP X pins σ Q (.str (Txt.slice z lo hi) t') { s with toks := k } := fun t' k => ⟨.str _, H, I.tok _, ⟨_, rfl⟩, q⟩
  cases pl with
  | none => cases pu with
    | none => exact wpAny_getItem_str_slice (l := none) (u := none) (st := none) hs rfl (post_val_or_str ⟨Nat.le_trans (Txt.slice_le z _ _) hz, fin⟩)
    | int j u => exact wpAny_getItem_str_slice (l := none) (u := some (j, u)) (st := none) hs rfl (post_val_or_str ⟨Nat.le_trans (Txt.slice_le z _ _) hz, fin⟩)
  | int i t0 => cases pu with
    | none => exact wpAny_getItem_str_slice (l := some (i, t0)) (u := none) (st := none) hs rfl (post_val_or_str ⟨Nat.le_trans (Txt.slice_le z _ _) hz, fin⟩)
    | int j u => exact wpAny_getItem_str_slice (l := some (i, t0)) (u := some (j, u)) (st := none) hs rfl (post_val_or_str ⟨Nat.le_trans (Txt.slice_le z _ _) hz, fin⟩)
def vUq : V -> List V -> Hp -> VK -> Prop := fun x xs H Q => ∃ (z y : Str), x = .str z /\ xs = [.str y] /\ Q (.int (Txt.count z y)) H
theorem pYq : MtR X "str.count" vUq := by
  intro pins s σ H x xs v us Q I rx rv h
  obtain ⟨z, y, rfl, rfl, q⟩ := h
  obtain ⟨t, rfl⟩ := rx
  obtain ⟨u, rfl, ru⟩ := rv.one
  obtain ⟨t', rfl⟩ := ru
  exact PySem.SC.count ⟨.int _, H, I.tok _, ⟨_, rfl⟩, q⟩
end
end L2
namespace L3
open PySem PySem.Spec L2
section
variable {X : Cx}
def yHq : DR2 := fun x y G Q => match x, y with
  | .str z, .int n => 0 <= n /\ n <= 1000 /\ z.length <= 1000 /\ Q (.str (hBq z n.toNat)) G
  | _, _ => False
theorem kVq : AOp X (binaryOp .Mult) yHq := by
  refine ⟨_, ⟨lKq⟩, fun x y vx vy G H DQ Q v ax ay r F => ?_⟩
  cases x with
  | str z =>
    cases y with
    | int n => cases ax; cases ay; exact ⟨z, n.toNat, rfl, by rw [Int.toNat_of_nonneg r.1], by have := r.2.1; omega, r.2.2.1, F (.str (hBq z n.toNat)) G _ H (.refl v) rfl r.2.2.2⟩
    | _ => exact (show False from r).elim
  | _ => exact (show False from r).elim
def slSD : D -> Option Int -> Option Int -> DV -> DK -> Prop := fun x lo hi G Q => match x with
  | .str z => z.length <= sizeLine /\ Q (.str (Txt.slice z lo hi)) G
  | _ => False
theorem aslS : ASl X slSD := by
  refine ⟨_, ⟨tYq⟩, fun x vx lo hi G H DQ Q v ax r F => ?_⟩
  cases x with
  | str z => cases ax; exact ⟨z, rfl, r.1, F (.str (Txt.slice z lo hi)) G _ H (.refl v) rfl r.2⟩
  | _ => exact (show False from r).elim
def vNq : D -> DV -> Prop := fun x _ => match x with
  | .str _ => True
  | _ => False
theorem p0q {K : PySem.W.Frag} {x : D} {v : V} {G : DV} {H : Hp} (ax : Abs K H x v) (h : vNq x G) : tyV K "str" v H := by
  cases x with
  | str z => cases ax; exact rfl
  | _ => exact (show False from h).elim
def uPq : D -> List D -> DV -> DK -> Prop := fun x xs G Q => match x, xs with
  | .str z, [.str y] => Q (.int (Txt.count z y)) G
  | _, _ => False
theorem gBq : AMt X "str" "str.count" vNq uPq := by
  refine ⟨_, ⟨pYq⟩, fun x v G H _ ax h => p0q ax h, fun x xs vx vs G H DQ Q v ax al r F => ?_⟩
  cases x with
  | str z =>
    cases ax
    rcases xs with _ | ⟨y, _ | ⟨_, _⟩⟩
    . exact (show False from r).elim
    . cases y with
      | str y =>
        obtain ⟨u, r', e, a, l⟩ := al
        subst e
        cases a
        cases (show r' = [] from l)
        exact ⟨z, y, rfl, rfl, F (.int (Txt.count z y)) G _ H (.refl v) rfl r⟩
      | _ => exact (show False from r).elim
    . exact (show False from by cases y <;> exact r).elim
  | _ => exact (show False from r).elim
end
end L3
namespace L2
open PySem PySem.Spec PyProof.Rows
end L2
namespace L3
open PySem L2
theorem xPq {p : Prop} (c : false = true) : p := nomatch c
theorem yIq {p : Prop} (c : true = false) : p := nomatch c
def Tm.wbl : Tm -> Nat -> Nat
  | .way _, w => w + 1
  | _, w => w
def Tm.mapN (φ : Nat -> Nat -> Tm) : Nat -> Tm -> Tm
  | w, .name n => φ n w
  | _, .whole k => .whole k
  | w, .way t => .way (t.mapN φ (w + 1))
  | w, .give t u => .give (t.mapN φ w) (u.mapN φ w)
  | w, .pair t u => .pair (t.mapN φ w) (u.mapN φ w)
  | w, .first t => .first (t.mapN φ w)
  | w, .second t => .second (t.mapN φ w)
  | w, .plus t u => .plus (t.mapN φ w) (u.mapN φ w)
  | w, .look t u v => .look (t.mapN φ w) (u.mapN φ w) (v.mapN φ w)
def Tm.nmsR : Nat -> Tm -> List (Nat × Nat)
  | w, .name n => [(n, w)]
  | _, .whole _ => []
  | w, .way t => t.nmsR (w + 1)
  | w, .give t u => u.nmsR w ++ t.nmsR w
  | w, .pair t u => u.nmsR w ++ t.nmsR w
  | w, .first t => t.nmsR w
  | w, .second t => t.nmsR w
  | w, .plus t u => u.nmsR w ++ t.nmsR w
  | w, .look t u v => v.nmsR w ++ (u.nmsR w ++ t.nmsR w)
def Tm.leaf : Tm -> Bool
  | .name _ => true
  | .whole _ => true
  | _ => false
theorem Tm.nmsR_inn {t : Tm} (h : t.leaf = false) (w : Nat) : t.nmsR w = t.inn.reverse.flatMap (fun u => u.nmsR (t.wbl w)) := by
  cases t <;> simp [Tm.nmsR, Tm.inn, Tm.wbl, Tm.leaf] at h ⊢
theorem Tm.nmsR_mem {t u : Tm} (h : t.leaf = false) (hu : u ∈ t.inn) {w : Nat} {z : Nat × Nat} (hz : z ∈ u.nmsR (t.wbl w)) : z ∈ t.nmsR w := by
  rw [Tm.nmsR_inn h]
  exact List.mem_flatMap.mpr ⟨u, List.mem_reverse.mpr hu, hz⟩
theorem Tm.nmsR_len (t : Tm) : ∀ w, (t.nmsR w).length <= t.sz := by
  induction t <;> intro w <;> simp only [Tm.nmsR, Tm.sz, List.length_append, List.length_cons, List.length_nil] <;> first | omega | skip
  case way t ih => have := ih (w + 1); omega
  case give t u i1 i2 => have := i1 w; have := i2 w; omega
  case pair t u i1 i2 => have := i1 w; have := i2 w; omega
  case first t ih => have := ih w; omega
  case second t ih => have := ih w; omega
  case plus t u i1 i2 => have := i1 w; have := i2 w; omega
  case look t u v i1 i2 i3 => have := i1 w; have := i2 w; have := i3 w; omega
def Tm.rebuild : Tm -> List Tm -> Tm
  | .way _, [a] => .way a
  | .give _ _, [a, b] => .give a b
  | .pair _ _, [a, b] => .pair a b
  | .first _, [a] => .first a
  | .second _, [a] => .second a
  | .plus _ _, [a, b] => .plus a b
  | .look _ _ _, [a, b, c] => .look a b c
  | t, _ => t
theorem Tm.mapN_eq {φ : Nat -> Nat -> Tm} {t : Tm} (h : t.leaf = false) (w : Nat) : t.mapN φ w = t.rebuild (t.inn.map fun u => u.mapN φ (t.wbl w)) := by
  cases t <;> first | rfl | cases h
theorem Tm.enc_rebuild {t : Tm} {cs : List Tm} (h : t.leaf = false) (hl : cs.length = t.inn.length) : (t.rebuild cs).enc = .tup (.str t.word :: cs.map Tm.enc) := by
  cases t <;> simp only [Tm.leaf, reduceCtorEq] at h <;> simp only [Tm.inn, List.length_cons, List.length_nil] at hl
  all_goals (rcases cs with _ | ⟨a, _ | ⟨b, _ | ⟨c, _ | ⟨d, r⟩⟩⟩⟩ <;> simp at hl <;> rfl)
abbrev Ent := Tm × Nat × Bool
def cWq (z : Ent) : D := .tup [z.1.enc, .int z.2.1, .bl z.2.2]
def eff (φ : Nat -> Nat -> Tm) (z : Ent) (m : List Tm) : Option (List Tm) := match z.1 with
  | .name n => some (φ n z.2.1 :: m)
  | .whole k => some (.whole k :: m)
  | t => if z.2.2 then (if t.inn.length <= m.length then some (t.rebuild (m.take t.inn.length) :: m.drop t.inn.length) else none) else some (t.mapN φ z.2.1 :: m)
def j0q (φ : Nat -> Nat -> Tm) : List Ent -> List Tm -> Option (List Tm)
  | [], m => some m
  | z :: zs, m => match eff φ z m with
    | some m' => j0q φ zs m'
    | none => none
theorem gCq {φ : Nat -> Nat -> Tm} (t : Tm) (w : Nat) (m : List Tm) : eff φ (t, w, false) m = some (t.mapN φ w :: m) := by cases t <;> rfl
theorem cXq {φ : Nat -> Nat -> Tm} {t : Tm} (h : t.leaf = false) (w : Nat) (m : List Tm) : eff φ (t, w, true) m = if t.inn.length <= m.length then some (t.rebuild (m.take t.inn.length) :: m.drop t.inn.length) else none := by
  cases t <;> first | rfl | cases h
theorem kUq {φ : Nat -> Nat -> Tm} {w : Nat} {zs : List Ent} : ∀ (xs : List Tm) (m : List Tm), j0q φ (xs.map (fun u => (u, w, false)) ++ zs) m = j0q φ zs ((xs.map fun u => u.mapN φ w).reverse ++ m)
  | [], m => rfl
  | x :: xs, m => by
    rw [List.map_cons, List.cons_append, j0q, gCq]
    simp only []
    rw [kUq xs]
    simp
theorem cOq {φ : Nat -> Nat -> Tm} {t : Tm} (h : t.leaf = false) (w : Nat) (zs : List Ent) (m : List Tm) : j0q φ ((t.inn.map fun u => ((u, t.wbl w, false) : Ent)).reverse ++ (t, w, true) :: zs) m = j0q φ ((t, w, false) :: zs) m := by
  rw [<- List.map_reverse, kUq, j0q, j0q, gCq, cXq h]
  rw [List.map_reverse, List.reverse_reverse, if_pos (by simp)]
  simp only [List.length_map, List.take_left', List.drop_left', Tm.mapN_eq h]
def wtE (z : Ent) : Nat := if z.2.2 then 1 else 2 * z.1.sz
def wtS (zs : List Ent) : Nat := (zs.map wtE).sum
theorem cDq (z : Ent) (zs : List Ent) : wtS (z :: zs) = wtE z + wtS zs := by simp [wtS]
theorem dMq (w : Nat) (zs : List Ent) : ∀ xs : List Tm, wtS (xs.map (fun u => ((u, w, false) : Ent)) ++ zs) = 2 * (xs.map Tm.sz).sum + wtS zs
  | [] => by simp
  | x :: xs => by rw [List.map_cons, List.cons_append, cDq, dMq w zs xs, List.map_cons, List.sum_cons]; simp only [wtE]; simp; omega
theorem mYq : ∀ zs : List Ent, zs.length <= wtS zs
  | [] => Nat.zero_le _
  | z :: zs => by
    have := mYq zs
    have := z.1.sz_pos
    have h : 1 <= wtE z := by unfold wtE; split <;> omega
    rw [cDq, List.length_cons]; omega
theorem Tm.sz_sum {t : Tm} (h : t.leaf = false) : (t.inn.map Tm.sz).sum + 1 = t.sz := by
  cases t <;> simp [Tm.inn, Tm.sz, Tm.leaf] at h ⊢ <;> omega
def hNq : DSp := fun ds G Q => ∃ (t : Tm) (w : Nat), ds = [t.enc, .int w] /\ Q (.int (t.wbl w : Nat)) G
def prD (z : Nat × Nat) : D := .tup [.int z.1, .int z.2]
def gMq : DSp := fun ds G Q => ∃ t : Tm, ds = [t.enc] /\ t.sz <= 10000 /\ ∀ l, G l = none -> Q (.ref l) (up G l (.lst ((t.nmsR 0).map prD)))
def clD (φ : Nat -> Nat -> Tm) (C : Nat -> Nat -> Prop) (L : List (Addr × DO)) : DSp := fun ds G Q => ∃ n w : Nat, ds = [.int n, .int w] /\ C n w /\ (∀ q ∈ L, G q.1 = some q.2) /\ Q (φ n w).enc G
def nAq (P : Program) (w : World) (K : PySem.W.Frag) (mg : Str -> Option Value) (base : Heap) (k : Nat) : DSp := fun ds G Q => ∃ (t : Tm) (f : Addr) (name qual : Str) (st : Stmt) (fr : List Str) (vals : List D) (ps : List Str) (φ : Nat -> Nat -> Tm) (C : Nat -> Nat -> Prop) (L : List (Addr × DO)),
  ds = [t.enc, .ref f] /\ G f = some (.clo name qual st fr vals) /\ CloD P w K mg base k name qual st fr vals ps (clD φ C L) /\ (∀ q ∈ L, G q.1 = some q.2) /\ t.sz <= 10000 /\ (∀ z ∈ t.nmsR 0, C z.1 z.2) /\ Q (t.mapN φ 0).enc G
def iMq : Stmt -> Pos
  | .FunctionDef _ _ _ _ _ _ _ _ _ p => p
  | _ => ⟨0, 0, 0, 0⟩
def e2D (z : Tm × Nat) : D := .tup [z.1.enc, .int z.2]
def sz2 (zs : List (Tm × Nat)) : Nat := (zs.map fun z => z.1.sz).sum
theorem hZq (z : Tm × Nat) (zs : List (Tm × Nat)) : sz2 (z :: zs) = z.1.sz + sz2 zs := by simp [sz2]
theorem bIq (w : Nat) (zs : List (Tm × Nat)) : ∀ xs : List Tm, sz2 (xs.map (fun u => (u, w)) ++ zs) = (xs.map Tm.sz).sum + sz2 zs
  | [] => by simp
  | x :: xs => by rw [List.map_cons, List.cons_append, hZq, bIq w zs xs, List.map_cons, List.sum_cons]; simp only []; omega
theorem n0q : ∀ zs : List (Tm × Nat), zs.length <= sz2 zs
  | [] => Nat.zero_le _
  | z :: zs => by
    have := n0q zs
    have := z.1.sz_pos
    rw [hZq, List.length_cons]; omega
theorem Tm.sz_inns (t : Tm) : (t.inn.map Tm.sz).sum + 1 <= t.sz := by cases t <;> simp [Tm.inn, Tm.sz] <;> omega
def bHq : Stmt -> List Stmt
  | .ClassDef _ _ _ b _ _ _ _ _ _ _ => b
  | _ => []
structure Sl where
  t : Tm
  rs : List Addr
  due : Tm
abbrev Sls := Addr -> Option Sl
def t9q (S : Sls) (r : Addr) : Tm := match S r with
  | some x => x.due
  | none => .name 0
def d6q (S : Sls) (rs : List Addr) : Nat -> Nat -> Tm := fun n w => if w <= n then (match rs[n - w]? with
  | some r => t9q S r
  | none => .name n) else .name n
structure SOk (S : Sls) (rk : Addr -> Nat) : Prop where
  sub : ∀ a x, S a = some x -> ∀ r ∈ x.rs, (∃ y, S r = some y) /\ rk r < rk a
  nm : ∀ a x, S a = some x -> ∀ z ∈ x.t.nmsR 0, z.2 <= z.1 -> z.1 - z.2 < x.rs.length
  sz : ∀ a x, S a = some x -> x.t.sz <= 100
  due : ∀ a x, S a = some x -> x.due = x.t.mapN (d6q S x.rs) 0
  top : ∀ a x, S a = some x -> rk a <= 100
def Sl.used (x : Sl) : List Addr := (x.t.nmsR 0).filterMap fun z => if z.2 <= z.1 then x.rs[z.1 - z.2]? else none
theorem Sl.used_mem {x : Sl} {r : Addr} (h : r ∈ x.used) : r ∈ x.rs := by
  obtain ⟨z, _, hz⟩ := List.mem_filterMap.mp h
  split at hz
  . exact List.mem_of_getElem? hz
  . cases hz
theorem Sl.used_len (x : Sl) : x.used.length <= x.t.sz := Nat.le_trans (List.length_filterMap_le _ _) (x.t.nmsR_len 0)
def rCq (told : Addr -> Bool) (x : Sl) : List Addr := x.used.filter fun r => !told r
def bAq (S : Sls) (told : Addr -> Bool) (a : Addr) : List Addr := match S a with
  | some x => if told a then [] else rCq told x
  | none => []
def kRq (told : Addr -> Bool) (a : Addr) : Addr -> Bool := fun b => if b = a then true else told b
theorem j7q {told : Addr -> Bool} {a : Addr} : kRq told a a = true := by unfold kRq; rw [if_pos rfl]
theorem o4q {told : Addr -> Bool} {a b : Addr} (h : told b = true) : kRq told a b = true := by unfold kRq; split <;> first | rfl | exact h
theorem e8q {S : Sls} {rk : Addr -> Nat} (ok : SOk S rk) {told : Addr -> Bool} {a r : Addr} (h : r ∈ bAq S told a) : (∃ y, S r = some y) /\ rk r < rk a := by
  unfold bAq at h
  split at h
  . next x e =>
    split at h
    . cases h
    . exact ok.sub a x e r (Sl.used_mem (List.mem_filter.mp h).1)
  . cases h
inductive Ends (S : Sls) : Nat -> (Addr -> Bool) -> List Addr -> (Addr -> Bool) -> Prop where
  | nil {told} : Ends S 0 told [] told
  | pop {n told a st told'} : bAq S told a = [] -> Ends S n (kRq told a) st told' -> Ends S (n + 1) told (a :: st) told'
  | push {n told a st told'} : bAq S told a ≠ [] -> Ends S n told ((bAq S told a).reverse ++ a :: st) told' -> Ends S (n + 1) told (a :: st) told'
def Le (told told' : Addr -> Bool) : Prop := ∀ b, told b = true -> told' b = true
theorem kQq {S : Sls} {rk : Addr -> Nat} (ok : SOk S rk) : ∀ (r : Nat) (told : Addr -> Bool) (a : Addr), rk a < r -> (∃ x, S a = some x) →
    ∃ told', Le told told' /\ told' a = true /\ ∀ st n told'', Ends S n told' st told'' -> ∃ k, Ends S k told (a :: st) told''
  | 0, _, _, h, _ => by omega
  | r + 1, told, a, h, ⟨x, ex⟩ => by
    by_cases hm : bAq S told a = []
    . exact ⟨kRq told a, fun b => o4q, j7q, fun st n told'' e => ⟨_, .pop hm e⟩⟩
    . have row : ∀ (xs : List Addr) (told : Addr -> Bool), (∀ b ∈ xs, (∃ y, S b = some y) /\ rk b < rk a) -> ∃ told', Le told told' /\ (∀ b ∈ xs, told' b = true) /\ ∀ st n told'', Ends S n told' st told'' -> ∃ k, Ends S k told (xs ++ st) told'' := by
        intro xs
        induction xs with
        | nil => intro told _; exact ⟨told, fun b h => h, by simp, fun st n told'' e => ⟨n, e⟩⟩
        | cons b xs ih =>
          intro told hb
          obtain ⟨hb1, hb2⟩ := hb b (List.mem_cons_self ..)
          obtain ⟨t1, l1, m1, c1⟩ := kQq ok r told b (by omega) hb1
          obtain ⟨t2, l2, m2, c2⟩ := ih t1 fun c hc => hb c (List.mem_cons_of_mem _ hc)
          refine ⟨t2, fun c hc => l2 c (l1 c hc), fun c hc => ?_, fun st n told'' e => ?_⟩
          . rcases List.mem_cons.mp hc with rfl | hc
            . exact l2 _ m1
            . exact m2 c hc
          . obtain ⟨k, e1⟩ := c2 st n told'' e
            exact c1 _ _ _ e1
      obtain ⟨t1, l1, m1, c1⟩ := row (bAq S told a).reverse told fun b hb => e8q ok (List.mem_reverse.mp hb)
      have hm1 : bAq S t1 a = [] := by
        unfold bAq
        rw [ex]
        simp only []
        split
        . rfl
        . next ht =>
          unfold rCq
          rw [List.filter_eq_nil_iff]
          intro b hb
          by_cases hbt : told b = true
          . simp [l1 b hbt]
          . have hta : told a = false := by
              cases h' : told a with
              | false => rfl
              | true => exact absurd (l1 a h') ht
            have : b ∈ bAq S told a := by
              unfold bAq; rw [ex]; simp only [hta, Bool.false_eq_true, if_false]
              exact List.mem_filter.mpr ⟨hb, by simp [hbt]⟩
            simp [m1 b (List.mem_reverse.mpr this)]
      refine ⟨kRq t1 a, fun b hb => o4q (l1 b hb), j7q, fun st n told'' e => ?_⟩
      obtain ⟨k, e1⟩ := c1 (a :: st) _ _ (.pop hm1 e)
      exact ⟨_, .push hm e1⟩
def p7q (rk : Addr -> Nat) : List Addr -> Prop
  | [] => True
  | c :: r => (c :: r).length + 100 * rk c <= 10001 /\ p7q rk r
theorem h3q {rk : Addr -> Nat} {a : Addr} {st : List Addr} (h : p7q rk (a :: st)) : ∀ (xs : List Addr), xs.length <= 100 -> (∀ b ∈ xs, rk b < rk a) -> p7q rk (xs ++ a :: st)
  | [], _, _ => h
  | x :: xs, hl, hb => by
    have ih := h3q h xs (by simp at hl; omega) fun b hb' => hb b (List.mem_cons_of_mem _ hb')
    have hx := hb x (List.mem_cons_self ..)
    have h1 := h.1
    refine ⟨?_, ih⟩
    have e : (x :: (xs ++ a :: st)).length = xs.length + (st.length + 1) + 1 := by simp
    rw [List.length_cons] at hl h1
    show (x :: (xs ++ a :: st)).length + 100 * rk x <= 10001
    rw [e]
    omega
theorem k6q {S : Sls} {rk : Addr -> Nat} (ok : SOk S rk) {told : Addr -> Bool} {a : Addr} : (bAq S told a).length <= 100 := by
  unfold bAq
  split
  . next x e =>
    split
    . exact Nat.zero_le _
    . exact Nat.le_trans (List.length_filter_le _ _) (Nat.le_trans x.used_len (ok.sz a x e))
  . exact Nat.zero_le _
theorem mSq {told : Addr -> Bool} {a : Addr} (h : told a = true) : kRq told a = told := by
  funext b; unfold kRq; split
  . next e => rw [e, h]
  . rfl
theorem mHq {α : Type} (xs : List α) (y : α) : atI (xs ++ [y]) (-1) = some y := by
  unfold atI ixN
  rw [if_neg (by decide), List.length_append, List.length_singleton]
  rw [if_pos (by omega)]
  show (xs ++ [y])[((-1 : Int) + ((xs.length + 1 : Nat) : Int)).toNat]? = some y
  rw [show ((-1 : Int) + ((xs.length + 1 : Nat) : Int)).toNat = xs.length by omega]
  simp
def d0 : Sl := ⟨.name 0, [], .name 0⟩
theorem Sl.used_of {x : Sl} {z : Nat × Nat} {r : Addr} (hz : z ∈ x.t.nmsR 0) (hw : z.2 <= z.1) (hr : x.rs[z.1 - z.2]? = some r) : r ∈ x.used := List.mem_filterMap.mpr ⟨z, hz, by rw [if_pos hw]; exact hr⟩
theorem pZq (x : Sl) : (x.t.nmsR 0).filterMap (fun z => if z.2 <= z.1 then (x.rs[z.1 - z.2]?).map D.ref else none) = x.used.map D.ref := by
  unfold Sl.used
  rw [List.map_filterMap]
  congr 1
  funext z
  split <;> simp
theorem q0q (told : Addr -> Bool) (x : Sl) : x.used.filterMap (fun r => if told r then none else some (D.ref r)) = (rCq told x).map D.ref := by
  unfold rCq
  induction x.used with
  | nil => rfl
  | cons r rs ih => by_cases c : told r = true <;> simp [List.filterMap_cons, List.filter_cons, c, ih]
def slO (C : Addr) (x : Sl) (told : Bool) : DO := .ins C [("part", x.t.enc), ("row", .tup (x.rs.map D.ref)), ("told", if told then x.due.enc else .non)]
def upS (C : Addr) (S : Sls) (told : Addr -> Bool) (G : DV) : DV := fun b => match S b with
  | some x => some (slO C x (told b))
  | none => G b
theorem cGq {C : Addr} {S : Sls} {told : Addr -> Bool} {G : DV} {a : Addr} {x : Sl} (h : S a = some x) : upS C S told G a = some (slO C x (told a)) := by unfold upS; rw [h]
theorem dFq {C : Addr} {S : Sls} {told : Addr -> Bool} {G : DV} {a : Addr} (h : S a = none) : upS C S told G a = G a := by unfold upS; rw [h]
theorem hLq {C : Addr} {S : Sls} {told : Addr -> Bool} {G : DV} {a : Addr} (h : upS C S told G a = none) : S a = none /\ G a = none := by
  unfold upS at h
  split at h
  . cases h
  . next e => exact ⟨e, h⟩
theorem iRq {C : Addr} {S : Sls} {told : Addr -> Bool} {G : DV} {l : Addr} {o : DO} (h : S l = none) : up (upS C S told G) l o = upS C S told (up G l o) := by
  funext b
  unfold up upS
  by_cases c : b = l
  . subst c; rw [if_pos rfl, h]; simp only [if_pos]
  . rw [if_neg c]
    split
    . rfl
    . simp only [if_neg c]
theorem oMq {C : Addr} {S : Sls} {told : Addr -> Bool} {G G' : DV} (h : Sub G G') : Sub (upS C S told G) (upS C S told G') := fun a o e => by
  unfold upS at e ⊢
  split at e
  . next z => exact e
  . next z => exact h a o e
theorem rRq {C : Addr} {S : Sls} {told : Addr -> Bool} {G : DV} {a : Addr} {x : Sl} (h : S a = some x) : up (upS C S told G) a (slO C x true) = upS C S (kRq told a) G := by
  funext b
  unfold up upS kRq
  by_cases c : b = a
  . subst c; rw [if_pos rfl, h]; simp
  . rw [if_neg c]
    split
    . rw [if_neg c]
    . rfl
def iXq (C : Addr) : DSp := fun ds G Q => ∃ (a : Addr) (t : Tm) (rs : List Addr) (d : D), ds = [.ref a, t.enc, d] /\ G a = some (.ins C []) /\ (d = .tup (rs.map D.ref) \/ ∃ l, d = .ref l /\ G l = some (.lst (rs.map D.ref)) /\ rs.length <= 1000) /\ Q .non (up G a (.ins C [("part", t.enc), ("row", .tup (rs.map D.ref)), ("told", .non)]))
def i4q (C : Addr) : DSp := fun ds G Q => ∃ (S : Sls) (rk : Addr -> Nat) (told : Addr -> Bool) (G0 : DV) (a : Addr) (x : Sl), ds = [.ref a] /\ SOk S rk /\ S a = some x /\ G = upS C S told G0 /\ ∀ l, G l = none -> Q (.ref l) (up G l (.lst ((bAq S told a).map D.ref)))
def nSq (C T : Addr) (pos : Pos) : DSp := fun ds G Q => ∃ (S : Sls) (rk : Addr -> Nat) (told : Addr -> Bool) (G0 : DV) (a : Addr) (x : Sl), ds = [.ref a] /\ SOk S rk /\ S a = some x /\ G = upS C S told G0 /\ bAq S told a = [] /\ S T = none /\ G0 T = some (.tab pos "Slip.read.<locals>.filled") /\ Q .non (upS C S (kRq told a) G0)
def mQq (C T : Addr) (pos : Pos) : DSp := fun ds G Q => ∃ (S : Sls) (rk : Addr -> Nat) (told : Addr -> Bool) (G0 : DV) (a : Addr) (x : Sl), ds = [.ref a] /\ SOk S rk /\ S a = some x /\ G = upS C S told G0 /\ S T = none /\ G0 T = some (.tab pos "Slip.read.<locals>.filled") /\ ∀ told', Q x.due.enc (upS C S told' G0)
section
variable {C T : Addr} {tp : Pos} {G G' : DV} {lp ld : Addr} {as : List Addr} {us : List Tm} {S : Sls} {rk : Addr -> Nat} {told : Addr -> Bool}
end
def nD (k : Nat) : D := .int (k : Int)
inductive Mk where
  | slip (a : Addr) | first | second | plus (a : Addr) | had (n : Int) | look (a b : Addr) | both (a : Addr) | beside (a : Addr)
def Mk.enc : Mk -> D
  | .slip a => .tup [.str "slip", .ref a]
  | .first => .tup [.str "first"]
  | .second => .tup [.str "second"]
  | .plus a => .tup [.str "plus", .ref a]
  | .had n => .tup [.str "had", .int n]
  | .look a b => .tup [.str "look", .ref a, .ref b]
  | .both a => .tup [.str "both", .ref a]
  | .beside a => .tup [.str "beside", .ref a]
def Mk.word : Mk -> Str
  | .slip _ => "slip" | .first => "first" | .second => "second" | .plus _ => "plus" | .had _ => "had" | .look _ _ => "look" | .both _ => "both" | .beside _ => "beside"
def Mk.refs : Mk -> List Addr
  | .slip a => [a] | .first => [] | .second => [] | .plus a => [a] | .had _ => [] | .look a b => [a, b] | .both a => [a] | .beside a => [a]
structure MS where
  here : Addr
  paired : Bool
  stack : List Mk
  steps : Nat
  rules : Nat
  slips : Nat
  looks : Nat
structure Cf where
  S : Sls
  rk : Addr -> Nat
  m : MS
def bMq (S : Sls) (p : Addr) (x : Sl) : Sls := fun b => if b = p then some x else S b
def dWq (rk : Addr -> Nat) (p : Addr) (n : Nat) : Addr -> Nat := fun b => if b = p then n else rk b
theorem aCq {S : Sls} {p : Addr} {x : Sl} : bMq S p x p = some x := by unfold bMq; rw [if_pos rfl]
theorem d8q {S : Sls} {p b : Addr} {x : Sl} (h : b ≠ p) : bMq S p x b = S b := by unfold bMq; rw [if_neg h]
theorem c4q {S : Sls} {p b : Addr} {x y : Sl} (h : S p = none) (e : S b = some y) : bMq S p x b = some y := by
  rw [d8q (by rintro rfl; rw [h] at e; cases e)]; exact e
def dUq (rk : Addr -> Nat) : List Addr -> Nat
  | [] => 0
  | a :: r => max (rk a + 1) (dUq rk r)
def aSq (S : Sls) (t : Tm) (rs : List Addr) : Sl := ⟨t, rs, t.mapN (d6q S rs) 0⟩
def Cf.add (c : Cf) (p : Addr) (t : Tm) (rs : List Addr) : Cf := { c with S := bMq c.S p (aSq c.S t rs), rk := dWq c.rk p (dUq c.rk rs) }
def Cf.alloc (c : Cf) (t : Tm) (rs : List Addr) (k : Addr -> Cf -> Prop) : Prop := ∀ p, c.S p = none -> k p (c.add p t rs)
theorem Cf.alloc.mono {c : Cf} {t : Tm} {rs : List Addr} {k k' : Addr -> Cf -> Prop} (h : c.alloc t rs k) (f : ∀ p c', k p c' -> k' p c') : c.alloc t rs k' := fun p hp => f _ _ (h p hp)
def b8q : Bool -> Tm -> List Mk -> Bool
  | true, _, .both _ :: _ => true
  | true, _, .beside _ :: _ => true
  | true, _, _ => false
  | false, .way _, .slip _ :: _ => true
  | false, .way _, .both _ :: _ => true
  | false, .way _, .beside _ :: _ => true
  | false, .pair _ _, .first :: _ => true
  | false, .pair _ _, .second :: _ => true
  | false, .whole _, .plus _ :: _ => true
  | false, .whole _, .had _ :: _ => true
  | false, .whole _, .look _ _ :: _ => true
  | false, .whole _, .both _ :: _ => true
  | false, .whole _, .beside _ :: _ => true
  | _, _, _ => false
def hCq : List Mk -> Bool
  | [] => true
  | .both _ :: _ => true
  | .beside _ :: _ => true
  | _ => false
def cJq : Bool -> Tm -> List Mk -> Bool
  | p, .pair _ _, st => !p && hCq st
  | _, .give _ _, _ => true
  | _, .first _, _ => true
  | _, .second _, _ => true
  | _, .plus _ _, _ => true
  | _, .look _ _ _, _ => true
  | _, _, _ => false
def Tm.isName : Tm -> Bool
  | .name _ => true
  | _ => false
def dEq (p : Bool) (t : Tm) (st : List Mk) : Bool := b8q p t st || (cJq p t st || t.isName)
def Cf.t (c : Cf) : Tm := match c.S c.m.here with
  | some x => x.t
  | none => .name 0
def Cf.going (c : Cf) : Bool := dEq c.m.paired c.t c.m.stack
def meetP (c : Cf) (x : Sl) (P : Cf -> Prop) : Prop := match c.m.stack with
  | [] => False
  | k :: st => match k, x.t with
    | .slip a, .way b => x.rs.length < 100000 /\ c.alloc b (a :: x.rs) fun p c' => P { c' with m := { c.m with here := p, paired := false, stack := st, rules := c.m.rules + 1 } }
    | .first, .pair a _ => c.alloc a x.rs fun p c' => P { c' with m := { c.m with here := p, paired := false, stack := st, rules := c.m.rules + 1 } }
    | .second, .pair _ b => c.alloc b x.rs fun p c' => P { c' with m := { c.m with here := p, paired := false, stack := st, rules := c.m.rules + 1 } }
    | .plus u, .whole n => P { c with m := { c.m with here := u, paired := false, stack := .had n :: st } }
    | .had k, .whole n => c.alloc (.whole (k + n)) [] fun p c' => P { c' with m := { c.m with here := p, paired := false, stack := st, rules := c.m.rules + 1 } }
    | .look u v, .whole n => P { c with m := { c.m with here := if n = 0 then u else v, paired := false, stack := st, rules := c.m.rules + 1 } }
    | .both u, _ => P { c with m := { c.m with here := u, paired := false, stack := .beside c.m.here :: st } }
    | .beside a, _ => c.alloc (.pair (.name 0) (.name 1)) [a, c.m.here] fun p c' => P { c' with m := { c.m with here := p, paired := true, stack := st } }
    | _, _ => False
def Cf.allocs : Cf -> List Tm -> List Addr -> (List Addr -> Cf -> Prop) -> Prop
  | c, [], _, k => k [] c
  | c, t :: ts, rs, k => c.alloc t rs fun p c1 => c1.allocs ts rs fun ps c2 => k (p :: ps) c2
def Tm.isGive : Tm -> Bool
  | .give _ _ => true
  | _ => false
def qHq : Tm -> List Addr -> Mk
  | .first _, _ => .first
  | .second _, _ => .second
  | .give _ _, [q] => .slip q
  | .plus _ _, [q] => .plus q
  | .pair _ _, [q] => .both q
  | .look _ _ _, [q, r] => .look q r
  | _, _ => .first
def enterP (c : Cf) (x : Sl) (P : Cf -> Prop) : Prop := match x.t.inn with
  | [] => False
  | u :: ts => c.allocs ts x.rs fun qs c1 => c1.alloc u x.rs fun p c' => P { c' with m := { c.m with here := p, stack := qHq x.t qs :: c.m.stack, slips := c.m.slips + (if x.t.isGive then 1 else 0) } }
def Cf.tick (c : Cf) : Cf := { c with m := { c.m with steps := c.m.steps + 1 } }
def stepP (c : Cf) (P : Cf -> Prop) : Prop := match c.S c.m.here with
  | none => False
  | some x => match x.t with
    | .name n => match x.rs[n]? with
      | some r => P { c.tick with m := { c.tick.m with here := r, looks := c.m.looks + 1 } }
      | none => False
    | _ => if b8q c.m.paired x.t c.m.stack = true then meetP c.tick x P else enterP c.tick x P
structure SW (S : Sls) (rk : Addr -> Nat) : Prop where
  sub : ∀ a x, S a = some x -> ∀ r ∈ x.rs, (∃ y, S r = some y) /\ rk r < rk a
  nm : ∀ a x, S a = some x -> ∀ z ∈ x.t.nmsR 0, z.2 <= z.1 -> z.1 - z.2 < x.rs.length
  sz : ∀ a x, S a = some x -> x.t.sz <= 100
  due : ∀ a x, S a = some x -> x.due = x.t.mapN (d6q S x.rs) 0
theorem SW.ok {S : Sls} {rk : Addr -> Nat} (h : SW S rk) (top : ∀ a x, S a = some x -> rk a <= 100) : SOk S rk := ⟨h.sub, h.nm, h.sz, h.due, top⟩
theorem nJq {rk : Addr -> Nat} : ∀ {rs : List Addr} {r : Addr}, r ∈ rs -> rk r < dUq rk rs
  | a :: rs, r, h => by
    rcases List.mem_cons.mp h with rfl | h
    . exact Nat.lt_of_lt_of_le (Nat.lt_succ_self _) (Nat.le_max_left _ _)
    . exact Nat.lt_of_lt_of_le (nJq h) (Nat.le_max_right _ _)
theorem kWq {S : Sls} {p : Addr} {x : Sl} {rs : List Addr} (h : S p = none) (hr : ∀ r ∈ rs, ∃ y, S r = some y) : d6q (bMq S p x) rs = d6q S rs := by
  funext n w
  unfold d6q
  split
  . cases e : rs[n - w]? with
    | none => rfl
    | some r =>
      obtain ⟨y, hy⟩ := hr r (List.mem_of_getElem? e)
      show t9q (bMq S p x) r = t9q S r
      unfold t9q
      rw [c4q h hy, hy]
  . rfl
theorem SW.add {c : Cf} {p : Addr} {t : Tm} {rs : List Addr} (h : SW c.S c.rk) (hp : c.S p = none) (hr : ∀ r ∈ rs, ∃ y, c.S r = some y) (hn : ∀ z ∈ t.nmsR 0, z.2 <= z.1 -> z.1 - z.2 < rs.length) (hz : t.sz <= 100) : SW (c.add p t rs).S (c.add p t rs).rk where
  sub := fun a x e r hr' => by
    have rp : ∀ r, (∃ y, c.S r = some y) -> dWq c.rk p (dUq c.rk rs) r = c.rk r := fun r ⟨y, hy⟩ => by unfold dWq; rw [if_neg (by rintro rfl; rw [hp] at hy; cases hy)]
    show (∃ y, bMq c.S p _ r = some y) /\ dWq c.rk p _ r < dWq c.rk p _ a
    by_cases ca : a = p
    . subst ca
      rw [show (c.add a t rs).S = bMq c.S a (aSq c.S t rs) from rfl, aCq] at e
      cases e
      obtain ⟨y, hy⟩ := hr r hr'
      refine ⟨⟨y, c4q hp hy⟩, ?_⟩
      rw [rp r ⟨y, hy⟩]
      show _ < dWq c.rk a _ a
      unfold dWq
      rw [if_pos rfl]
      exact nJq hr'
    . rw [show (c.add p t rs).S = bMq c.S p (aSq c.S t rs) from rfl, d8q ca] at e
      obtain ⟨⟨y, hy⟩, hk⟩ := h.sub a x e r hr'
      exact ⟨⟨y, c4q hp hy⟩, by rw [rp r ⟨y, hy⟩, rp a ⟨x, e⟩]; exact hk⟩
  nm := fun a x e => by
    by_cases ca : a = p
    . subst ca
      rw [show (c.add a t rs).S = bMq c.S a (aSq c.S t rs) from rfl, aCq] at e
      cases e
      exact hn
    . rw [show (c.add p t rs).S = bMq c.S p (aSq c.S t rs) from rfl, d8q ca] at e
      exact h.nm a x e
  sz := fun a x e => by
    by_cases ca : a = p
    . subst ca
      rw [show (c.add a t rs).S = bMq c.S a (aSq c.S t rs) from rfl, aCq] at e
      cases e
      exact hz
    . rw [show (c.add p t rs).S = bMq c.S p (aSq c.S t rs) from rfl, d8q ca] at e
      exact h.sz a x e
  due := fun a x e => by
    show x.due = x.t.mapN (d6q (bMq c.S p _) x.rs) 0
    by_cases ca : a = p
    . subst ca
      rw [show (c.add a t rs).S = bMq c.S a (aSq c.S t rs) from rfl, aCq] at e
      cases e
      show t.mapN (d6q c.S rs) 0 = t.mapN (d6q (bMq c.S a _) rs) 0
      rw [kWq hp hr]
    . rw [show (c.add p t rs).S = bMq c.S p (aSq c.S t rs) from rfl, d8q ca] at e
      rw [kWq hp fun r hr' => (h.sub a x e r hr').1]
      exact h.due a x e
def mFs (lm : Addr) (m : MS) : List (Str × D) := [("here", .ref m.here), ("paired", .bl m.paired), ("stack", .ref lm), ("steps_done", .int m.steps), ("rules_done", .int m.rules), ("slips_made", .int m.slips), ("looked_up", .int m.looks)]
structure MAt (C CM : Addr) (G : DV) (a lm : Addr) (c : Cf) : Prop where
  im : G a = some (.ins CM (mFs lm c.m))
  il : G lm = some (.lst (c.m.stack.reverse.map Mk.enc))
  sl : ∀ b x, c.S b = some x -> ∃ tb, G b = some (slO C x tb)
  hs : ∃ x, c.S c.m.here = some x
  ms : ∀ k ∈ c.m.stack, ∀ b ∈ k.refs, ∃ x, c.S b = some x
  sw : SW c.S c.rk
def Fr (a lm : Addr) (G G' : DV) : Prop := ∀ b o, b ≠ a -> b ≠ lm -> G b = some o -> G' b = some o
theorem Fr.refl {a lm : Addr} {G : DV} : Fr a lm G G := fun _ _ _ _ h => h
theorem Fr.trans {a lm : Addr} {G G1 G2 : DV} (h : Fr a lm G G1) (k : Fr a lm G1 G2) : Fr a lm G G2 := fun b o n1 n2 e => k b o n1 n2 (h b o n1 n2 e)
theorem Fr.a {a lm : Addr} {G : DV} {o : DO} : Fr a lm G (up G a o) := fun b o' n1 _ e => by rw [a9q n1]; exact e
theorem Fr.l {a lm : Addr} {G : DV} {o : DO} : Fr a lm G (up G lm o) := fun b o' _ n2 e => by rw [a9q n2]; exact e
theorem Fr.new {a lm p : Addr} {G : DV} {o : DO} (h : G p = none) : Fr a lm G (up G p o) := fun b o' _ _ e => by rw [a9q (by rintro rfl; rw [h] at e; cases e)]; exact e
section
variable {C CM : Addr} {G G' : DV} {a lm p : Addr} {c : Cf}
theorem MAt.ne (h : MAt C CM G a lm c) : a ≠ lm := by rintro rfl; have := h.im; rw [h.il] at this; cases this
theorem MAt.nl {x : Sl} (h : MAt C CM G a lm c) (e : c.S p = some x) : p ≠ lm := by
  rintro rfl; obtain ⟨tb, z⟩ := h.sl _ _ e; rw [h.il] at z; cases z
theorem MAt.na {x : Sl} (h : MAt C CM G a lm c) (e : c.S p = some x) : p ≠ a := by
  rintro rfl; obtain ⟨tb, z⟩ := h.sl _ _ e; rw [h.im] at z
  simp only [slO, mFs, Option.some.injEq, DO.ins.injEq, List.cons.injEq, Prod.mk.injEq] at z
  exact absurd z.2.1.1 (by decide)
theorem MAt.fresh (h : MAt C CM G a lm c) (e : G p = none) : c.S p = none := by
  cases q : c.S p with
  | none => rfl
  | some x => obtain ⟨tb, z⟩ := h.sl _ _ q; rw [e] at z; cases z
theorem MAt.putA (h : MAt C CM G a lm c) {m : MS} (hst : m.stack = c.m.stack) (hh : ∃ x, c.S m.here = some x) : MAt C CM (up G a (.ins CM (mFs lm m))) a lm { c with m := m } where
  im := a2q
  il := by rw [a9q (Ne.symm h.ne)]; show G lm = some (.lst (m.stack.reverse.map Mk.enc)); rw [hst]; exact h.il
  sl := fun b x e => by rw [a9q (h.na e)]; exact h.sl b x e
  hs := hh
  ms := by show ∀ k ∈ m.stack, _; rw [hst]; exact h.ms
  sw := h.sw
theorem MAt.putL (h : MAt C CM G a lm c) {st : List Mk} (hm : ∀ k ∈ st, ∀ b ∈ k.refs, ∃ x, c.S b = some x) : MAt C CM (up G lm (.lst (st.reverse.map Mk.enc))) a lm { c with m := { c.m with stack := st } } where
  im := by rw [a9q h.ne]; exact h.im
  il := a2q
  sl := fun b x e => by rw [a9q (h.nl e)]; exact h.sl b x e
  hs := h.hs
  ms := hm
  sw := h.sw
theorem MAt.new (h : MAt C CM G a lm c) (e : G p = none) {o : DO} : MAt C CM (up G p o) a lm c where
  im := by rw [a9q (by rintro rfl; rw [h.im] at e; cases e)]; exact h.im
  il := by rw [a9q (by rintro rfl; rw [h.il] at e; cases e)]; exact h.il
  sl := fun b x z => by
    obtain ⟨tb, w⟩ := h.sl b x z
    exact ⟨tb, by rw [a9q (by rintro rfl; rw [e] at w; cases w)]; exact w⟩
  hs := h.hs
  ms := h.ms
  sw := h.sw
theorem MAt.add (h : MAt C CM G a lm c) (e : G p = none) {t : Tm} {rs : List Addr} (hr : ∀ r ∈ rs, ∃ y, c.S r = some y) (hn : ∀ z ∈ t.nmsR 0, z.2 <= z.1 -> z.1 - z.2 < rs.length) (hz : t.sz <= 100) :
    MAt C CM (up G p (slO C (aSq c.S t rs) false)) a lm (c.add p t rs) where
  im := (h.new e).im
  il := (h.new e).il
  sl := fun b x z => by
    have fp := h.fresh e
    by_cases cb : b = p
    . subst cb
      rw [show (c.add b t rs).S = bMq c.S b (aSq c.S t rs) from rfl, aCq] at z
      cases z
      exact ⟨false, a2q⟩
    . rw [show (c.add p t rs).S = bMq c.S p (aSq c.S t rs) from rfl, d8q cb] at z
      exact (h.new e (o := slO C (aSq c.S t rs) false)).sl b x z
  hs := let ⟨x, hx⟩ := h.hs; ⟨x, c4q (h.fresh e) hx⟩
  ms := fun k hk b hb => let ⟨x, hx⟩ := h.ms k hk b hb; ⟨x, c4q (h.fresh e) hx⟩
  sw := h.sw.add (h.fresh e) hr hn hz
end
section
variable (C CM : Addr)
def jQq : List Mk -> D
  | [] => .non
  | k :: _ => .str k.word
def gOq (c : Cf) : Str := if c.going then "going" else if c.m.stack.isEmpty then "answer" else "stuck"
def dDq (f : MS -> D) : DSp := fun ds G Q => ∃ a lm c, ds = [.ref a] /\ MAt C CM G a lm c /\ Q (f c.m) G
def pBq : DSp := fun ds G Q => ∃ a lm c, ds = [.ref a] /\ MAt C CM G a lm c /\ Q (jQq c.m.stack) G
def hXq : DSp := fun ds G Q => ∃ a lm c, ds = [.ref a] /\ MAt C CM G a lm c /\ Q (.bl (b8q c.m.paired c.t c.m.stack)) G
def i7q : DSp := fun ds G Q => ∃ a lm c, ds = [.ref a] /\ MAt C CM G a lm c /\ Q (.bl (cJq c.m.paired c.t c.m.stack)) G
def kJq : DSp := fun ds G Q => ∃ a lm c, ds = [.ref a] /\ MAt C CM G a lm c /\ Q (.str (gOq c)) G
def fTq : DSp := fun ds G Q => ∃ (a lm : Addr) (c : Cf) (x : Sl) (k : Nat) (u : Tm), ds = [.ref a, .int (k + 1)] /\ MAt C CM G a lm c /\ c.S c.m.here = some x /\ x.t.inn[k]? = some u /\ x.t.leaf = false /\ ∀ p, G p = none -> Q (.ref p) (up G p (slO C (aSq c.S u x.rs) false))
def iAq : DSp := fun ds G Q => ∃ a lm c x n r, ds = [.ref a] /\ MAt C CM G a lm c /\ c.S c.m.here = some x /\ x.t = .name n /\ x.rs[n]? = some r /\ Q .non (up G a (.ins CM (mFs lm { c.m with here := r, looks := c.m.looks + 1 })))
def k2q : DSp := fun ds G Q => ∃ a lm c x, ds = [.ref a] /\ MAt C CM G a lm c /\ c.S c.m.here = some x /\ cJq c.m.paired x.t c.m.stack = true /\ c.m.stack.length < 100000 /\ enterP c x fun c' => ∀ G', MAt C CM G' a lm c' -> Fr a lm G G' -> Q .non G'
def k0q (c : Cf) (x : Sl) (k : Mk) (P : Addr -> Cf -> Prop) : Prop := match k, x.t with
  | .slip a, .way b => x.rs.length < 100000 /\ c.alloc b (a :: x.rs) P
  | .first, .pair a _ => c.alloc a x.rs P
  | .second, .pair _ b => c.alloc b x.rs P
  | .plus u, _ => P u c
  | .had k, .whole n => c.alloc (.whole (k + n)) [] P
  | .look u v, .whole n => P (if n = 0 then u else v) c
  | .both u, _ => P u c
  | .beside a, _ => c.alloc (.pair (.name 0) (.name 1)) [a, c.m.here] P
  | _, _ => False
def hWq : DSp := fun ds G Q => ∃ a lm c x k, ds = [.ref a, k.enc] /\ MAt C CM G a lm c /\ c.S c.m.here = some x /\ (∀ b ∈ k.refs, ∃ y, c.S b = some y) /\ k0q c x k fun r c' => ∀ G', MAt C CM G' a lm c' -> Fr a lm G G' -> Q (.ref r) G'
def mJq : DSp := fun ds G Q => ∃ a lm c x, ds = [.ref a] /\ MAt C CM G a lm c /\ c.S c.m.here = some x /\ b8q c.m.paired x.t c.m.stack = true /\ c.m.stack.length < 100000 /\ meetP c x fun c' => ∀ G', MAt C CM G' a lm c' -> Fr a lm G G' -> Q .non G'
def mKq : DSp := fun ds G Q => ∃ a lm c, ds = [.ref a] /\ MAt C CM G a lm c /\ c.m.stack.length < 100000 /\ (c.going = true -> stepP c fun c' => ∀ G', MAt C CM G' a lm c' -> Fr a lm G G' -> Q (.bl true) G') /\ (c.going = false -> Q (.bl false) G)
def jTq : DSp := fun ds G Q => ∃ a t, ds = [.ref a, t.enc] /\ G a = some (.ins CM []) /\ (∀ z ∈ t.nmsR 0, ¬ z.2 <= z.1) /\ t.sz <= 100 ∧
  ∀ p lm G', MAt C CM G' a lm ⟨bMq (fun _ => none) p ⟨t, [], t⟩, fun _ => 0, ⟨p, false, [], 0, 0, 0, 0⟩⟩ -> (∀ b o, b ≠ a -> G b = some o -> G' b = some o) -> Q .non G'
def kDq (T : Addr) (tp : Pos) : DSp := fun ds G Q => ∃ a lm c x, ds = [.ref a] /\ MAt C CM G a lm c /\ c.S c.m.here = some x /\ c.m.stack = [] /\ (∀ b y, c.S b = some y -> c.rk b <= 100) /\ G T = some (.tab tp "Slip.read.<locals>.filled") ∧
  ∀ G', MAt C CM G' a lm c -> (∀ b o, c.S b = none -> G b = some o -> G' b = some o) -> Q x.due.enc G'
end
def e3q (z : Str) : Option D := if z = "way" then some (.tup [.str "slip", .str "both", .str "beside"]) else if z = "pair" then some (.tup [.str "first", .str "second"]) else if z = "whole" then some (.tup [.str "plus", .str "had", .str "look", .str "both", .str "beside"]) else none
def eKq (z : Str) : Option D := if z = "give" then some (.str "slip") else if z = "first" then some (.str "first") else if z = "second" then some (.str "second") else if z = "plus" then some (.str "plus") else if z = "look" then some (.str "look") else if z = "pair" then some (.str "both") else none
theorem aOq {fs : List (Str × D)} {f : Str} {d : D} {k : D -> Prop} (h : fs.lookup f = some d) (q : k d) : s4q fs f k := by unfold s4q; rw [h]; exact q
theorem Tm.enc_nd {t : Tm} (h : t.leaf = false) : t.enc = .tup (.str t.word :: t.inn.map Tm.enc) := by cases t <;> first | rfl | cases h
theorem pEq {t : Tm} {G : DV} {Q : DK} (q : Q (.str t.word) G) : ixD t.enc (.int 0) G Q := by cases t <;> exact c5q rfl q
theorem hQq (st : List Mk) : eBq (jQq st) = true := by cases st <;> rfl
theorem sOq (t : Tm) (st : List Mk) : inL (jQq st) [.str "both", .str "beside"] = b8q true t st := by
  cases st with
  | nil => simp [inL, eqF, jQq, b8q]
  | cons k st => cases k <;> simp [inL, eqF, jQq, Mk.word, b8q, b4q, bWq]
theorem v4q (st : List Mk) : inL (jQq st) [.non, .str "both", .str "beside"] = hCq st := by
  cases st with
  | nil => simp [inL, eqF, jQq, hCq]
  | cons k st => cases k <;> simp [inL, eqF, jQq, Mk.word, hCq, b4q, bWq]
theorem m6q (t : Tm) : ∃ ds, (e3q t.word).getD (.tup []) = .tup ds /\ ds.all eBq = true /\ ∀ st, inL (jQq st) ds = b8q false t st := by
  cases t
  case way =>
    refine ⟨[.str "slip", .str "both", .str "beside"], by simp [e3q, Tm.word, b4q], rfl, fun st => ?_⟩
    cases st with
    | nil => simp [inL, eqF, jQq, b8q]
    | cons k st => cases k <;> simp [inL, eqF, jQq, Mk.word, b8q, b4q, bWq]
  case pair =>
    refine ⟨[.str "first", .str "second"], by simp [e3q, Tm.word, b4q], rfl, fun st => ?_⟩
    cases st with
    | nil => simp [inL, eqF, jQq, b8q]
    | cons k st => cases k <;> simp [inL, eqF, jQq, Mk.word, b8q, b4q, bWq]
  case whole =>
    refine ⟨[.str "plus", .str "had", .str "look", .str "both", .str "beside"], by simp [e3q, Tm.word, b4q], rfl, fun st => ?_⟩
    cases st with
    | nil => simp [inL, eqF, jQq, b8q]
    | cons k st => cases k <;> simp [inL, eqF, jQq, Mk.word, b8q, b4q, bWq]
  all_goals exact ⟨[], by simp [e3q, Tm.word, b4q], rfl, fun st => by simp [inL, b8q]⟩
theorem pSq {t : Tm} (h : ∀ a b, t ≠ .pair a b) (p : Bool) (st : List Mk) : (eKq t.word).isSome = cJq p t st := by
  cases t <;> first | (simp [eKq, Tm.word, b4q, cJq]; done) | exact absurd rfl (h _ _)
theorem j8q (t : Tm) : eqD (.str t.word) (.str "pair") = true ↔ ∃ a b, t = .pair a b := by
  cases t <;> simp [Tm.word, eqD, b4q, bWq]
theorem eLq (t : Tm) : eqD (.str t.word) (.str "name") = t.isName := by
  cases t <;> simp [Tm.word, eqD, b4q, bWq, Tm.isName]
theorem Cf.allocs.mono : ∀ {c : Cf} {ts : List Tm} {rs : List Addr} {k k' : List Addr -> Cf -> Prop}, c.allocs ts rs k -> (∀ p c', k p c' -> k' p c') -> c.allocs ts rs k'
  | _, [], _, _, _, h, f => f _ _ h
  | _, _ :: _, _, _, _, h, f => fun p hp => Cf.allocs.mono (h p hp) fun ps c' => f (p :: ps) c'
theorem enterP.mono {c : Cf} {x : Sl} {P P' : Cf -> Prop} (h : enterP c x P) (f : ∀ c', P c' -> P' c') : enterP c x P' := by
  unfold enterP at h ⊢
  split at h
  . exact h
  . exact Cf.allocs.mono h fun qs c1 h1 => h1.mono fun p c' h2 => f _ h2
theorem meetP.mono {c : Cf} {x : Sl} {P P' : Cf -> Prop} (h : meetP c x P) (f : ∀ c', P c' -> P' c') : meetP c x P' := by
  unfold meetP at h ⊢
  split at h
  . exact h
  . split at h <;> first | exact h.elim | exact Cf.alloc.mono h fun p c' h2 => f _ h2 | exact f _ h | exact ⟨h.1, Cf.alloc.mono h.2 fun p c' h2 => f _ h2⟩
theorem stepP.mono {c : Cf} {P P' : Cf -> Prop} (h : stepP c P) (f : ∀ c', P c' -> P' c') : stepP c P' := by
  unfold stepP at h ⊢
  split at h
  . exact h
  . split at h
    . split at h
      . exact f _ h
      . exact h
    . split at h
      . next hm => rw [if_pos hm]; exact meetP.mono h f
      . next hm => rw [if_neg hm]; exact enterP.mono h f
theorem fZq (c : Cf) : (gOq c == "going") = c.going := by
  unfold gOq
  cases c.going with
  | true => rfl
  | false => cases c.m.stack.isEmpty <;> rfl
theorem MAt.told {C CM : Addr} {G : DV} {a lm : Addr} {c : Cf} (M : MAt C CM G a lm c) : ∃ told : Addr -> Bool, G = upS C c.S told G := by
  have h : ∀ b, ∃ tb, ∀ x, c.S b = some x -> G b = some (slO C x tb) := fun b => by
    cases e : c.S b with
    | none => exact ⟨false, fun x z => by cases z⟩
    | some y => obtain ⟨tb, z⟩ := M.sl b y e; exact ⟨tb, fun x w => by cases w; exact z⟩
  obtain ⟨told, ht⟩ := Classical.axiomOfChoice h
  refine ⟨told, funext fun b => ?_⟩
  unfold upS
  cases e : c.S b with
  | none => rfl
  | some x => exact ht b x e
theorem MAt.noA {C CM : Addr} {G : DV} {a lm : Addr} {c : Cf} (M : MAt C CM G a lm c) : c.S a = none := by
  cases e : c.S a with
  | none => rfl
  | some x => exact absurd rfl (M.na e)
theorem MAt.noL {C CM : Addr} {G : DV} {a lm : Addr} {c : Cf} (M : MAt C CM G a lm c) : c.S lm = none := by
  cases e : c.S lm with
  | none => rfl
  | some x => exact absurd rfl (M.nl e)
theorem MAt.tell {C CM : Addr} {G : DV} {a lm : Addr} {c : Cf} (M : MAt C CM G a lm c) (told : Addr -> Bool) : MAt C CM (upS C c.S told G) a lm c :=
  ⟨by rw [dFq M.noA]; exact M.im, by rw [dFq M.noL]; exact M.il, fun b x e => ⟨told b, cGq e⟩, M.hs, M.ms, M.sw⟩
theorem MAt.noT {C CM : Addr} {G : DV} {a lm T : Addr} {tp : Pos} {q : Str} {c : Cf} (M : MAt C CM G a lm c) (h : G T = some (.tab tp q)) : c.S T = none := by
  cases e : c.S T with
  | none => rfl
  | some x => obtain ⟨tb, z⟩ := M.sl _ _ e; rw [h] at z; cases z
theorem aXq {S : Sls} {rs : List Addr} : ∀ {t : Tm} {w : Nat}, (∀ z ∈ t.nmsR w, ¬ z.2 <= z.1) -> t.mapN (d6q S rs) w = t
  | .name n, w, h => by
    show d6q S rs n w = .name n
    unfold d6q
    rw [if_neg (h (n, w) (List.mem_cons_self ..))]
  | .whole _, _, _ => rfl
  | .way t, w, h => by show Tm.way _ = _; rw [aXq (t := t) (w := w + 1) h]
  | .first t, w, h => by show Tm.first _ = _; rw [aXq (t := t) (w := w) h]
  | .second t, w, h => by show Tm.second _ = _; rw [aXq (t := t) (w := w) h]
  | .give t u, w, h => by
    show Tm.give _ _ = _
    rw [aXq (t := t) (w := w) fun z hz => h z (List.mem_append_right _ hz), aXq (t := u) (w := w) fun z hz => h z (List.mem_append_left _ hz)]
  | .pair t u, w, h => by
    show Tm.pair _ _ = _
    rw [aXq (t := t) (w := w) fun z hz => h z (List.mem_append_right _ hz), aXq (t := u) (w := w) fun z hz => h z (List.mem_append_left _ hz)]
  | .plus t u, w, h => by
    show Tm.plus _ _ = _
    rw [aXq (t := t) (w := w) fun z hz => h z (List.mem_append_right _ hz), aXq (t := u) (w := w) fun z hz => h z (List.mem_append_left _ hz)]
  | .look t u v, w, h => by
    show Tm.look _ _ _ = _
    rw [aXq (t := t) (w := w) fun z hz => h z (List.mem_append_right _ (List.mem_append_right _ hz)), aXq (t := u) (w := w) fun z hz => h z (List.mem_append_right _ (List.mem_append_left _ hz)), aXq (t := v) (w := w) fun z hz => h z (List.mem_append_left _ hz)]
theorem sNe {a b : String} (h : (a == b) = false) : id (Str.ofString a == Str.ofString b) = false := by rw [id, bWq]; exact h
theorem sEq (a : String) : id (Str.ofString a == Str.ofString a) = true := by rw [id, bWq]; exact beq_self_eq_true a
theorem bGq : ∀ (t : Tm) (w : Nat), t.nmsR (w + 1) = (t.nmsR w).map fun z => (z.1, z.2 + 1)
  | .name _, _ => rfl
  | .whole _, _ => rfl
  | .way t, w => bGq t (w + 1)
  | .first t, w => bGq t w
  | .second t, w => bGq t w
  | .give t u, w => by show u.nmsR (w + 1) ++ t.nmsR (w + 1) = _; rw [bGq t w, bGq u w, <- List.map_append]; rfl
  | .pair t u, w => by show u.nmsR (w + 1) ++ t.nmsR (w + 1) = _; rw [bGq t w, bGq u w, <- List.map_append]; rfl
  | .plus t u, w => by show u.nmsR (w + 1) ++ t.nmsR (w + 1) = _; rw [bGq t w, bGq u w, <- List.map_append]; rfl
  | .look t u v, w => by show v.nmsR (w + 1) ++ (u.nmsR (w + 1) ++ t.nmsR (w + 1)) = _; rw [bGq t w, bGq u w, bGq v w, <- List.map_append, <- List.map_append]; rfl
def Tm.isWay : Tm -> Bool
  | .way _ => true
  | _ => false
def j3q (S : Sls) (t : Tm) (rs : List Addr) : Prop := (∀ r ∈ rs, ∃ y, S r = some y) /\ (∀ z ∈ t.nmsR 0, z.2 <= z.1 -> z.1 - z.2 < rs.length) /\ t.sz <= 100
theorem SW.inn {S : Sls} {rk : Addr -> Nat} (h : SW S rk) {b : Addr} {x : Sl} (hx : S b = some x) {u : Tm} (hu : u ∈ x.t.inn) (hw : x.t.isWay = false) : j3q S u x.rs := by
  refine ⟨fun r hr => (h.sub b x hx r hr).1, fun z hz => h.nm b x hx z ?_, Nat.le_trans ?_ (h.sz b x hx)⟩
  . obtain ⟨t, rs, due⟩ := x
    cases t <;> simp only [Tm.inn, Tm.isWay, List.mem_cons, List.not_mem_nil, or_false] at hu hw
    case way => cases hw
    case first => subst hu; exact hz
    case second => subst hu; exact hz
    case give => rcases hu with rfl | rfl; exact List.mem_append_right _ hz; exact List.mem_append_left _ hz
    case pair => rcases hu with rfl | rfl; exact List.mem_append_right _ hz; exact List.mem_append_left _ hz
    case plus => rcases hu with rfl | rfl; exact List.mem_append_right _ hz; exact List.mem_append_left _ hz
    case look => rcases hu with rfl | rfl | rfl; exact List.mem_append_right _ (List.mem_append_right _ hz); exact List.mem_append_right _ (List.mem_append_left _ hz); exact List.mem_append_left _ hz
  . obtain ⟨t, rs, due⟩ := x
    cases t <;> simp only [Tm.inn, List.mem_cons, List.not_mem_nil, or_false] at hu <;> (try (rcases hu with rfl | rfl | rfl)) <;> (try (rcases hu with rfl | rfl)) <;> (try subst hu) <;> simp only [Tm.sz] <;> omega
theorem SW.body {S : Sls} {rk : Addr -> Nat} (h : SW S rk) {b a : Addr} {t : Tm} {rs : List Addr} {d : Tm} (hx : S b = some ⟨.way t, rs, d⟩) (ha : ∃ y, S a = some y) : j3q S t (a :: rs) := by
  refine ⟨fun r hr => ?_, fun z hz hw => ?_, ?_⟩
  . rcases List.mem_cons.mp hr with rfl | hr
    . exact ha
    . exact (h.sub b _ hx r hr).1
  . have z1 : (z.1, z.2 + 1) ∈ (Tm.way t).nmsR 0 := by show _ ∈ t.nmsR (0 + 1); rw [bGq]; exact List.mem_map.mpr ⟨z, hz, rfl⟩
    have := h.nm b _ hx _ z1
    simp only [List.length_cons] at this ⊢
    by_cases c : z.2 + 1 <= z.1
    . have := this c; omega
    . omega
  . have := h.sz b _ hx; simp only [Tm.sz] at this; omega
theorem mUq {S : Sls} {k : Int} : j3q S (.whole k) [] := ⟨fun r h => (by cases h), fun z h => (by cases h), show 1 <= 100 by decide⟩
theorem q1q {S : Sls} {a b : Addr} (ha : ∃ y, S a = some y) (hb : ∃ y, S b = some y) : j3q S (.pair (.name 0) (.name 1)) [a, b] := by
  refine ⟨fun r h => ?_, fun z h hw => ?_, by decide⟩
  . rcases List.mem_cons.mp h with rfl | h
    . exact ha
    . rw [List.mem_singleton.mp h]; exact hb
  . have : z = (1, 0) \/ z = (0, 0) := by simpa [Tm.nmsR] using h
    rcases this with rfl | rfl
    . show 1 < 2; decide
    . show 0 < 2; decide
theorem MAt.adds {C CM : Addr} {G : DV} {a lm p : Addr} {c : Cf} (h : MAt C CM G a lm c) (e : G p = none) {t : Tm} {rs : List Addr} (k : j3q c.S t rs) : MAt C CM (up G p (slO C (aSq c.S t rs) false)) a lm (c.add p t rs) := h.add e k.1 k.2.1 k.2.2
theorem k4q {p : Bool} {t : Tm} {st : List Mk} (h : cJq p t st = true) : t.leaf = false /\ t.isWay = false /\ (∃ u ts, t.inn = u :: ts /\ ts.length <= 2) ∧
    ∃ s : Str, eKq t.word = some (.str s) /\ ∀ qs : List Addr, qs.length + 1 = t.inn.length -> (qHq t qs).enc = .tup (.str s :: qs.map D.ref) /\ (qHq t qs).refs = qs := by
  cases t with
  | name _ => simp [cJq] at h
  | whole _ => simp [cJq] at h
  | way _ => simp [cJq] at h
  | first u => exact ⟨rfl, rfl, ⟨u, [], rfl, by simp⟩, "first", by simp [eKq, Tm.word, b4q], fun qs hq => by cases qs with | nil => exact ⟨rfl, rfl⟩ | cons _ _ => simp [Tm.inn] at hq⟩
  | second u => exact ⟨rfl, rfl, ⟨u, [], rfl, by simp⟩, "second", by simp [eKq, Tm.word, b4q], fun qs hq => by cases qs with | nil => exact ⟨rfl, rfl⟩ | cons _ _ => simp [Tm.inn] at hq⟩
  | give u v => exact ⟨rfl, rfl, ⟨u, [v], rfl, by simp⟩, "slip", by simp [eKq, Tm.word, b4q], fun qs hq => by
      match qs, hq with
      | [q], _ => exact ⟨rfl, rfl⟩
      | [], hq => simp [Tm.inn] at hq
      | _ :: _ :: _, hq => simp [Tm.inn] at hq⟩
  | pair u v => exact ⟨rfl, rfl, ⟨u, [v], rfl, by simp⟩, "both", by simp [eKq, Tm.word, b4q], fun qs hq => by
      match qs, hq with
      | [q], _ => exact ⟨rfl, rfl⟩
      | [], hq => simp [Tm.inn] at hq
      | _ :: _ :: _, hq => simp [Tm.inn] at hq⟩
  | plus u v => exact ⟨rfl, rfl, ⟨u, [v], rfl, by simp⟩, "plus", by simp [eKq, Tm.word, b4q], fun qs hq => by
      match qs, hq with
      | [q], _ => exact ⟨rfl, rfl⟩
      | [], hq => simp [Tm.inn] at hq
      | _ :: _ :: _, hq => simp [Tm.inn] at hq⟩
  | look u v w => exact ⟨rfl, rfl, ⟨u, [v, w], rfl, by simp⟩, "look", by simp [eKq, Tm.word, b4q], fun qs hq => by
      match qs, hq with
      | [q, r], _ => exact ⟨rfl, rfl⟩
      | [], hq => simp [Tm.inn] at hq
      | [_], hq => simp [Tm.inn] at hq
      | _ :: _ :: _ :: _, hq => simp [Tm.inn] at hq⟩
theorem jEq (t : Tm) : eqD (.str t.word) (.str "give") = t.isGive := by
  cases t <;> simp [Tm.word, eqD, b4q, bWq, Tm.isGive]
def Tm.pl : Tm -> Bool
  | .whole _ => true
  | .first t => t.pl
  | .second t => t.pl
  | .plus t u => t.pl && u.pl
  | .pair t u => t.pl && u.pl
  | .look t u v => t.pl && (u.pl && v.pl)
  | _ => false
theorem e2q : ∀ {t : Tm} {w : Nat}, t.pl = true -> t.nmsR w = []
  | .whole _, _, _ => rfl
  | .first t, w, h => e2q (t := t) (w := w) h
  | .second t, w, h => e2q (t := t) (w := w) h
  | .plus t u, w, h => by
    simp only [Tm.pl, Bool.and_eq_true] at h
    show u.nmsR w ++ t.nmsR w = []
    rw [e2q h.1, e2q h.2]; rfl
  | .pair t u, w, h => by
    simp only [Tm.pl, Bool.and_eq_true] at h
    show u.nmsR w ++ t.nmsR w = []
    rw [e2q h.1, e2q h.2]; rfl
  | .look t u v, w, h => by
    simp only [Tm.pl, Bool.and_eq_true] at h
    show v.nmsR w ++ (u.nmsR w ++ t.nmsR w) = []
    rw [e2q h.1, e2q h.2.1, e2q h.2.2]; rfl
theorem yCq {S : Sls} {t : Tm} (h : t.pl = true) : aSq S t [] = ⟨t, [], t⟩ := by
  unfold aSq
  rw [aXq (w := 0) fun z hz => by rw [e2q h] at hz; cases hz]
theorem pVq {c : Cf} {x : Sl} {P : Cf -> Prop} (hx : c.S c.m.here = some x) (hn : x.t.isName = false) (h : if b8q c.m.paired x.t c.m.stack = true then meetP c.tick x P else enterP c.tick x P) : stepP c P := by
  unfold stepP
  rw [hx]
  obtain ⟨t, rs, due⟩ := x
  cases t <;> first | exact h | cases hn
theorem Cf.t_of {c : Cf} {x : Sl} (hx : c.S c.m.here = some x) : c.t = x.t := by unfold Cf.t; rw [hx]
structure SP (S : Sls) (rk : Addr -> Nat) (S' : Sls) (rk' : Addr -> Nat) : Prop where
  kp : ∀ b x, S b = some x -> S' b = some x
  rkk : ∀ b x, S b = some x -> rk' b = rk b
  bd : (∀ b x, S b = some x -> rk b <= 100) -> ∀ b x, S' b = some x -> rk' b <= 100
theorem SP.refl {S : Sls} {rk : Addr -> Nat} : SP S rk S rk := ⟨fun _ _ h => h, fun _ _ _ => rfl, fun h => h⟩
theorem SP.trans {S S1 S2 : Sls} {rk rk1 rk2 : Addr -> Nat} (h : SP S rk S1 rk1) (k : SP S1 rk1 S2 rk2) : SP S rk S2 rk2 :=
  ⟨fun b x e => k.kp b x (h.kp b x e), fun b x e => (k.rkk b x (h.kp b x e)).trans (h.rkk b x e), fun e => k.bd (h.bd e)⟩
theorem SP.add {S : Sls} {rk : Addr -> Nat} {p : Addr} {x : Sl} {n : Nat} (hp : S p = none) (hn : n <= 100) : SP S rk (bMq S p x) (dWq rk p n) where
  kp := fun b y e => c4q hp e
  rkk := fun b y e => by unfold dWq; rw [if_neg (by rintro rfl; rw [hp] at e; cases e)]
  bd := fun h b y e => by
    by_cases c : b = p
    . subst c; unfold dWq; rw [if_pos rfl]; exact hn
    . rw [d8q c] at e; unfold dWq; rw [if_neg c]; exact h b y e
def At0 (c : Cf) (p : Addr) (t : Tm) : Prop := c.S p = some ⟨t, [], t⟩ /\ c.rk p = 0
theorem At0.new {S : Sls} {rk : Addr -> Nat} {p : Addr} {t : Tm} {m : MS} (h : t.pl = true) : At0 ⟨bMq S p (aSq S t []), dWq rk p (dUq rk []), m⟩ p t := by
  refine ⟨?_, ?_⟩
  . show bMq S p _ p = _
    rw [aCq, yCq h]
  . show dWq rk p _ p = 0
    unfold dWq; rw [if_pos rfl]; rfl
theorem At0.old {S : Sls} {rk : Addr -> Nat} {p q : Addr} {t u : Tm} {m m' : MS} (hq : S q = none) (h : At0 ⟨S, rk, m⟩ p t) : At0 ⟨bMq S q (aSq S u []), dWq rk q (dUq rk []), m'⟩ p t := by
  obtain ⟨h1, h2⟩ := h
  replace h1 : S p = some ⟨t, [], t⟩ := h1
  refine ⟨c4q hq h1, ?_⟩
  show dWq rk q _ p = 0
  unfold dWq; rw [if_neg (by rintro rfl; rw [show S p = none from hq] at h1; cases h1)]; exact h2
theorem sUq {rk : Addr -> Nat} : dUq rk [] <= 100 := Nat.zero_le _
section
variable {c : Cf} {p q s a b : Tm} {i j : Int} {st : List Mk} {u v : Addr}
end
theorem stepP.more {c : Cf} {P : Cf -> Prop} (h : stepP c P) : stepP c fun c' => P c' /\ c'.m.stack.length <= c.m.stack.length + 1 /\ c'.m.steps = c.m.steps + 1 := by
  unfold stepP at h ⊢
  split at h
  . exact h
  . split at h
    . split at h
      . exact ⟨h, Nat.le_succ _, rfl⟩
      . exact h
    . split at h
      . next hm =>
        rw [if_pos hm]
        unfold meetP at h ⊢
        have es : c.tick.m.stack = c.m.stack := rfl
        split at h
        . exact h
        . next k st e =>
          have el : c.m.stack.length = st.length + 1 := by rw [<- es, e]; rfl
          split at h <;> first | exact h.elim | exact fun p hp => ⟨h p hp, by show st.length <= _; omega, rfl⟩ | exact ⟨h, by show st.length <= _; omega, rfl⟩ | exact ⟨h, by show st.length + 1 <= _; omega, rfl⟩ | exact ⟨h.1, fun p hp => ⟨h.2 p hp, by show st.length <= _; omega, rfl⟩⟩
      . next hm =>
        rw [if_neg hm]
        unfold enterP at h ⊢
        split at h
        . exact h
        . exact Cf.allocs.mono h fun qs c1 h1 => h1.mono fun p c' h2 => ⟨h2, Nat.le_refl _, rfl⟩
def c0 (p : Addr) (t : Tm) : Cf := ⟨bMq (fun _ => none) p ⟨t, [], t⟩, fun _ => 0, ⟨p, false, [], 0, 0, 0, 0⟩⟩
theorem dTq {β : Type} {k z : Str} {v : β} {r : List (Str × β)} : (((k, v) :: r).find? fun kv => decide (kv.1 = z)).map (·.2) = if z = k then some v else (r.find? fun kv => decide (kv.1 = z)).map (·.2) := by
  by_cases h : k = z
  . simp [h]
  . rw [if_neg (Ne.symm h), List.find?_cons, decide_eq_false h]
theorem iNq : ∀ {t : List (Str × V)} {es : List DictEntry}, Paired (fun (kv : Str × V) (e : DictEntry) => (∃ t1, e.key = .str kv.1 t1) /\ RelV kv.2 e.val) t es →
    ∀ x, RelO ((t.find? fun kv => decide (kv.1 = x)).map (·.2)) ((es.find? fun d => Value.isStrOf x d.key).map (·.val))
  | _, _, .nil, _ => trivial
  | p :: t, e :: es, .cons ⟨⟨t1, e1⟩, e2⟩ r, x => by
    by_cases h : p.1 = x
    . have z : Value.isStrOf x e.key = true := by rw [e1, h]; simp [Value.isStrOf]
      rw [List.find?_cons, decide_eq_true h, List.find?_cons, z]
      exact e2
    . have z : Value.isStrOf x e.key = false := by
        rw [e1]
        simp only [Value.isStrOf]
        exact beq_false_of_ne h
      rw [List.find?_cons, decide_eq_false h, List.find?_cons, z]
      exact iNq r x
theorem n8q {K : PySem.W.Frag} {w : World} {ad : Addr} {es : Array DictEntry} {n : Nat} {LV : List (Str × V)} {L : List (Str × D)} {tab : Str -> Option D} (h1 : K.lookup ad = some ⟨.type "dict", none, .dict es n, #[]⟩) (h2 : (ad == sysModules) = false) (h3 : PySem.W.KeysLit w.params es.toList)
    (h4 : Paired (fun (kv : Str × V) (e : DictEntry) => (∃ t1, e.key = .str kv.1 t1) /\ RelV kv.2 e.val) LV es.toList) (h5 : ∀ z, tab z = (L.find? fun kv => decide (kv.1 = z)).map (·.2)) (h6 : Paired (fun (a : Str × D) (b : Str × V) => a.1 = b.1 /\ ∀ H, Abs K H a.2 b.2) L LV) : KTabD K w ad tab := by
  have key : ∀ {L : List (Str × D)} {LV : List (Str × V)}, Paired (fun (a : Str × D) (b : Str × V) => a.1 = b.1 /\ ∀ H, Abs K H a.2 b.2) L LV -> ∀ z, (((L.find? fun kv => decide (kv.1 = z)).map (·.2)) = none -> ((LV.find? fun kv => decide (kv.1 = z)).map (·.2)) = none) /\ ∀ d, ((L.find? fun kv => decide (kv.1 = z)).map (·.2)) = some d -> ∃ v, ((LV.find? fun kv => decide (kv.1 = z)).map (·.2)) = some v /\ ∀ H, Abs K H d v := by
    intro L LV h
    induction h with
    | nil => intro z; exact ⟨fun _ => rfl, fun d e => by cases e⟩
    | @cons a b as bs q r ih =>
      intro z
      obtain ⟨a1, a2⟩ := a
      obtain ⟨b1, b2⟩ := b
      obtain ⟨q1, q2⟩ := q
      cases (show a1 = b1 from q1)
      rw [dTq, dTq]
      by_cases c : z = a1
      . rw [if_pos c, if_pos c]; exact ⟨fun e => (by cases e), fun d e => (by cases e; exact ⟨_, rfl, q2⟩)⟩
      . rw [if_neg c, if_neg c]; exact ih z
  refine ⟨fun z => (LV.find? fun kv => decide (kv.1 = z)).map (·.2), ⟨⟨es, n, h1, h3, fun x => ?_⟩, h2⟩, fun z e => ((key h6 z).1 (by rw [<- h5]; exact e)), fun z d e => (key h6 z).2 d (by rw [<- h5]; exact e)⟩
  have := iNq h4 x
  unfold findBy
  obtain ⟨l⟩ := es
  rw [List.find?_toArray]
  exact this
def markL : List (Str × D) := [("give", .str "slip"), ("first", .str "first"), ("second", .str "second"), ("plus", .str "plus"), ("look", .str "look"), ("pair", .str "both")]
def qNq : List (Str × V) := [("give", .str "slip"), ("first", .str "first"), ("second", .str "second"), ("plus", .str "plus"), ("look", .str "look"), ("pair", .str "both")]
theorem pRq (z : Str) : eKq z = (markL.find? fun kv => decide (kv.1 = z)).map (·.2) := by
  unfold eKq markL
  simp only [dTq]
  rfl
def meetsL : List (Str × D) := [("way", .tup [.str "slip", .str "both", .str "beside"]), ("pair", .tup [.str "first", .str "second"]), ("whole", .tup [.str "plus", .str "had", .str "look", .str "both", .str "beside"])]
theorem n6q (z : Str) : e3q z = (meetsL.find? fun kv => decide (kv.1 = z)).map (·.2) := by
  unfold e3q meetsL
  simp only [dTq]
  rfl
theorem yPq {K : PySem.W.Frag} : Paired (fun (a : Str × D) (b : Str × V) => a.1 = b.1 /\ ∀ H, Abs K H a.2 b.2) markL qNq :=
  .cons ⟨rfl, fun _ => rfl⟩ (.cons ⟨rfl, fun _ => rfl⟩ (.cons ⟨rfl, fun _ => rfl⟩ (.cons ⟨rfl, fun _ => rfl⟩ (.cons ⟨rfl, fun _ => rfl⟩ (.cons ⟨rfl, fun _ => rfl⟩ .nil)))))
theorem gKq {K : PySem.W.Frag} {H : Hp} {a : Addr} {its : Array Value} {n : Nat} {vs : List V} (h : K.lookup a = some ⟨.type "tuple", none, .seq its n, #[]⟩) (hz : Nat.ble its.size 1000 = true) (hv : Vals vs its.toList) : SqT K H a vs := .inr ⟨_, its, n, h, rfl, rfl, hTq hz, hv⟩
theorem xUq {K : PySem.W.Frag} {a b c : Addr} {i1 i2 i3 : Array Value} {n1 n2 n3 : Nat} (h1 : K.lookup a = some ⟨.type "tuple", none, .seq i1 n1, #[]⟩) (z1 : Nat.ble i1.size 1000 = true) (v1 : Vals [.str "pair", .ref b, .ref c] i1.toList)
    (h2 : K.lookup b = some ⟨.type "tuple", none, .seq i2 n2, #[]⟩) (z2 : Nat.ble i2.size 1000 = true) (v2 : Vals [.str "name", .int 0] i2.toList) (h3 : K.lookup c = some ⟨.type "tuple", none, .seq i3 n3, #[]⟩) (z3 : Nat.ble i3.size 1000 = true) (v3 : Vals [.str "name", .int 1] i3.toList) :
    ∀ H, Abs K H (Tm.pair (.name 0) (.name 1)).enc (.ref a) := fun H =>
  ⟨a, _, rfl, gKq h1 z1 v1, _, _, rfl, rfl, _, _, rfl, ⟨b, _, rfl, gKq h2 z2 v2, _, _, rfl, rfl, _, _, rfl, rfl, rfl⟩, _, _, rfl, ⟨c, _, rfl, gKq h3 z3 v3, _, _, rfl, rfl, _, _, rfl, rfl, rfl⟩, rfl⟩
structure Deed (d : Nat) (c c' : Cf) : Prop where
  st : c'.m.steps = c.m.steps + 1
  ru : c'.m.rules = c.m.rules + (if d = 114 then 1 else 0)
  sl : c'.m.slips = c.m.slips + (if d = 115 then 1 else 0)
  lo : c'.m.looks = c.m.looks + (if d = 110 then 1 else 0)
def Run : List Nat -> Cf -> (Cf -> Prop) -> Prop
  | [], c, P => P c
  | d :: ds, c, P => c.going = true /\ stepP c fun c' => Deed d c c' /\ Run ds c' P
theorem wTq {c : Cf} {x : Sl} {d : Nat} {ds : List Nat} {P : Cf -> Prop} (hx : c.S c.m.here = some x) (hn : x.t.isName = false) (hg : dEq c.m.paired x.t c.m.stack = true)
    (h : if b8q c.m.paired x.t c.m.stack = true then meetP c.tick x (fun c' => Deed d c c' /\ Run ds c' P) else enterP c.tick x (fun c' => Deed d c c' /\ Run ds c' P)) : Run (d :: ds) c P :=
  ⟨by unfold Cf.going; rw [Cf.t_of hx]; exact hg, pVq hx hn h⟩
theorem rUq {c : Cf} {x : Sl} {d : Nat} {ds : List Nat} {P : Cf -> Prop} (hx : c.S c.m.here = some x) (hn : x.t.isName = false) (hm : b8q c.m.paired x.t c.m.stack = true) (h : meetP c.tick x (fun c' => Deed d c c' /\ Run ds c' P)) : Run (d :: ds) c P :=
  wTq hx hn (by unfold dEq; rw [hm]; rfl) (by rw [if_pos hm]; exact h)
theorem uZq {c : Cf} {x : Sl} {d : Nat} {ds : List Nat} {P : Cf -> Prop} (hx : c.S c.m.here = some x) (hn : x.t.isName = false) (hm : b8q c.m.paired x.t c.m.stack = false) (he : cJq c.m.paired x.t c.m.stack = true) (h : enterP c.tick x (fun c' => Deed d c c' /\ Run ds c' P)) : Run (d :: ds) c P :=
  wTq hx hn (by unfold dEq; rw [he]; simp) (by rw [if_neg (by rw [hm]; decide)]; exact h)
theorem pTq {c : Cf} {n : Nat} {rs : List Addr} {du : Tm} {r : Addr} {ds : List Nat} {P : Cf -> Prop} (hx : c.S c.m.here = some ⟨.name n, rs, du⟩) (hr : rs[n]? = some r)
    (h : Run ds { c.tick with m := { c.tick.m with here := r, looks := c.m.looks + 1 } } P) : Run (110 :: ds) c P := by
  refine ⟨by unfold Cf.going; rw [Cf.t_of hx]; simp [dEq, Tm.isName], ?_⟩
  unfold stepP
  rw [hx]
  dsimp only
  rw [hr]
  exact ⟨⟨rfl, rfl, rfl, rfl⟩, h⟩
def lWq : Nat -> Tm -> Tm
  | 0, t => t
  | n + 1, t => .way (lWq n t)
def dBq (t : Tm) : List Int -> Tm
  | [] => t
  | v :: vs => .give (dBq t vs) (.whole v)
def RowOf (c : Cf) : List Addr -> List Int -> Prop
  | [], [] => True
  | q :: qs, v :: vs => At0 c q (.whole v) /\ RowOf c qs vs
  | _, _ => False
theorem At0.sp {c c' : Cf} {p : Addr} {t : Tm} (h : At0 c p t) (q : SP c.S c.rk c'.S c'.rk) : At0 c' p t := ⟨q.kp _ _ h.1, (q.rkk _ _ h.1).trans h.2⟩
theorem RowOf.sp {c c' : Cf} (q : SP c.S c.rk c'.S c'.rk) : ∀ {qs : List Addr} {vs : List Int}, RowOf c qs vs -> RowOf c' qs vs
  | [], [], _ => trivial
  | _ :: _, _ :: _, h => ⟨h.1.sp q, h.2.sp q⟩
  | [], _ :: _, h => h.elim
  | _ :: _, [], h => h.elim
theorem RowOf.len {c : Cf} : ∀ {qs : List Addr} {vs : List Int}, RowOf c qs vs -> qs.length = vs.length
  | [], [], _ => rfl
  | _ :: _, _ :: _, h => by rw [List.length_cons, List.length_cons, h.2.len]
  | [], _ :: _, h => h.elim
  | _ :: _, [], h => h.elim
theorem RowOf.at {c : Cf} : ∀ {qs : List Addr} {vs : List Int} {k : Nat} {v : Int}, RowOf c qs vs -> vs[k]? = some v -> ∃ r, qs[k]? = some r /\ At0 c r (.whole v)
  | q :: _, _ :: _, 0, v, h, e => by cases e; exact ⟨q, rfl, h.1⟩
  | _ :: _, _ :: _, k + 1, v, h, e => RowOf.at (k := k) h.2 e
  | [], [], _, _, _, e => by cases e
  | [], _ :: _, _, _, h, _ => h.elim
  | _ :: _, [], _, _, h, _ => h.elim
theorem RowOf.zero {c : Cf} : ∀ {qs : List Addr} {vs : List Int}, RowOf c qs vs -> ∀ r ∈ qs, ∃ v, At0 c r (.whole v)
  | [], _, _, _, h => by cases h
  | q :: qs, v :: vs, h, r, hr => by
    rcases List.mem_cons.mp hr with rfl | hr
    . exact ⟨v, h.1⟩
    . exact h.2.zero r hr
  | _ :: _, [], h, _, _ => h.elim
theorem oJq {rk : Addr -> Nat} : ∀ {rs : List Addr}, (∀ r ∈ rs, rk r = 0) -> dUq rk rs <= 100
  | [], _ => Nat.zero_le _
  | a :: rs, h => by
    have h1 := oJq fun r hr => h r (List.mem_cons_of_mem _ hr)
    have h2 := h a (List.mem_cons_self ..)
    exact Nat.max_le.mpr ⟨by rw [h2]; decide, h1⟩
theorem phS {t : Tm} {P : Cf -> Prop} {ds : List Nat} : ∀ (vs : List Int) (c : Cf) (du : Tm), c.S c.m.here = some ⟨dBq t vs, [], du⟩ -> c.m.paired = false →
    (∀ c' qs, SP c.S c.rk c'.S c'.rk -> (∃ du', c'.S c'.m.here = some ⟨t, [], du'⟩) -> c'.m.paired = false -> c'.m.stack = qs.reverse.map Mk.slip ++ c.m.stack -> RowOf c' qs vs -> Run ds c' P) -> Run (List.replicate vs.length 115 ++ ds) c P
  | [], c, du, hx, hp, k => k c [] .refl ⟨du, hx⟩ hp rfl trivial
  | v :: vs, c, du, hx, hp, k => by
    refine wTq hx rfl (by simp [dEq, cJq, dBq]) ?_
    rw [if_neg (by rw [hp]; simp [b8q, dBq])]
    intro q hq p hpn
    have s1 : SP c.S c.rk (bMq c.S q (aSq c.S (.whole v) [])) (dWq c.rk q (dUq c.rk [])) := .add hq sUq
    have s2 := s1.trans (.add (x := aSq (bMq c.S q (aSq c.S (.whole v) [])) (dBq t vs) []) (n := dUq (dWq c.rk q (dUq c.rk [])) []) hpn sUq)
    refine ⟨⟨rfl, rfl, rfl, rfl⟩, ?_⟩
    refine phS vs _ _ (show bMq _ p _ p = _ from aCq) hp fun c' qs sp hh hp' hst hrow => ?_
    refine k c' (q :: qs) (s2.trans sp) hh hp' ?_ ⟨?_, hrow⟩
    . rw [hst, List.reverse_cons, List.map_append, List.append_assoc]; rfl
    . refine At0.sp (c := ⟨_, _, c.m⟩) ?_ sp
      exact At0.old (m := c.m) hpn (At0.new (m := c.m) rfl)
theorem phR {t : Tm} {P : Cf -> Prop} {ds : List Nat} : ∀ (l row : List Addr) (c : Cf) (du : Tm), c.S c.m.here = some ⟨lWq l.length t, row, du⟩ -> c.m.paired = false -> c.m.stack = l.map Mk.slip →
    (∀ r ∈ l ++ row, ∃ v, At0 c r (.whole v)) -> row.length + l.length <= 100 →
    (∀ c', SP c.S c.rk c'.S c'.rk -> (∃ du', c'.S c'.m.here = some ⟨t, l.reverse ++ row, du'⟩) -> c'.m.paired = false -> c'.m.stack = [] -> Run ds c' P) -> Run (List.replicate l.length 114 ++ ds) c P
  | [], row, c, du, hx, hp, hs, _, _, k => k c .refl ⟨du, hx⟩ hp hs
  | q :: l, row, c, du, hx, hp, hs, hz, hl, k => by
    refine wTq hx rfl (by rw [hp, hs]; simp [dEq, b8q, lWq]) ?_
    rw [if_pos (by rw [hp, hs]; simp [b8q, lWq])]
    unfold meetP
    rw [show c.tick.m.stack = .slip q :: l.map Mk.slip from hs]
    rw [List.length_cons] at hl
    refine ⟨by show row.length < 100000; omega, fun p hpn => ?_⟩
    have z0 : ∀ r ∈ q :: row, c.rk r = 0 := fun r hr => by
      obtain ⟨v, h⟩ := hz r (by
        rcases List.mem_cons.mp hr with rfl | hr
        . exact List.mem_append_left _ (List.mem_cons_self ..)
        . exact List.mem_append_right _ hr)
      exact h.2
    have s1 : SP c.S c.rk (bMq c.S p (aSq c.S (lWq l.length t) (q :: row))) (dWq c.rk p (dUq c.rk (q :: row))) := .add hpn (oJq z0)
    refine ⟨⟨rfl, rfl, rfl, rfl⟩, ?_⟩
    refine phR l (q :: row) _ _ (show bMq _ p _ p = _ from aCq) rfl rfl (fun r hr => ?_) (by rw [List.length_cons]; omega) fun c' sp hh hp' hst => ?_
    . obtain ⟨v, h⟩ := hz r (by
        rcases List.mem_append.mp hr with hr | hr
        . exact List.mem_append_left _ (List.mem_cons_of_mem _ hr)
        . rcases List.mem_cons.mp hr with rfl | hr
          . exact List.mem_append_left _ (List.mem_cons_self ..)
          . exact List.mem_append_right _ hr)
      exact ⟨v, h.sp (c' := ⟨_, _, c.m⟩) s1⟩
    . refine k c' (s1.trans sp) ?_ hp' hst
      rw [List.reverse_cons, List.append_assoc]; exact hh
def mCq : Nat -> Nat -> Nat -> Nat -> Tm
  | 0, a, b, _ => .plus (.name a) (.name b)
  | 1, a, b, _ => .pair (.name a) (.name b)
  | 2, a, b, _ => .first (.pair (.name a) (.name b))
  | 3, a, b, _ => .second (.pair (.name a) (.name b))
  | _, a, b, e => .look (.name a) (.name b) (.name e)
def iSq (x y z : Int) : Nat -> Tm
  | 0 => .whole (x + y)
  | 1 => .pair (.whole x) (.whole y)
  | 2 => .whole x
  | 3 => .whole y
  | _ => if x = 0 then .whole y else .whole z
def tDq : Nat -> List Nat
  | 0 => [45, 110, 45, 110, 114]
  | 1 => [45, 110, 45, 110, 45]
  | 2 => [45, 114, 110]
  | 3 => [45, 114, 110]
  | _ => [45, 110, 114, 110]
def K23End (c c' : Cf) (a : Tm) : Prop := SP c.S c.rk c'.S c'.rk /\ c'.m.stack = [] /\ c'.going = false /\ ∃ x, c'.S c'.m.here = some x /\ x.due = a
theorem K23End.sp {c0 c c' : Cf} {a : Tm} (s : SP c0.S c0.rk c.S c.rk) (h : K23End c c' a) : K23End c0 c' a := ⟨s.trans h.1, h.2⟩
theorem j5q {c c' : Cf} {v : Int} (s : SP c.S c.rk c'.S c'.rk) (hs : c'.m.stack = []) (hp : c'.m.paired = false) (h : At0 c' c'.m.here (.whole v)) : K23End c c' (.whole v) := by
  refine ⟨s, hs, ?_, _, h.1, rfl⟩
  unfold Cf.going
  rw [Cf.t_of h.1, hs, hp]
  rfl
theorem qZq {S : Sls} {r : Addr} {x : Sl} (h : S r = some x) : t9q S r = x.due := by unfold t9q; rw [h]
theorem phE {c : Cf} {qs : List Addr} {vs : List Int} {du : Tm} {f a b e : Nat} {x y z : Int} (hx : c.S c.m.here = some ⟨mCq f a b e, qs, du⟩) (hp : c.m.paired = false) (hs : c.m.stack = []) (R : RowOf c qs vs)
    (ha : vs[a]? = some x) (hb : vs[b]? = some y) (he : vs[e]? = some z) : Run (tDq f) c fun c' => K23End c c' (iSq x y z f) := by
  obtain ⟨ra, ia, A⟩ := R.at ha
  obtain ⟨rb, ib, B⟩ := R.at hb
  obtain ⟨re, ie, E⟩ := R.at he
  have z0 : dUq c.rk qs <= 100 := oJq fun r hr => let ⟨_, h⟩ := R.zero r hr; h.2
  have zz : ∀ {c1 : Cf}, SP c.S c.rk c1.S c1.rk -> dUq c1.rk qs <= 100 := fun s => oJq fun r hr => let ⟨_, h⟩ := (R.sp s).zero r hr; h.2
  match f, hx with
  | 0, hx =>
    refine uZq hx rfl (by rw [hp, hs]; rfl) (by rw [hp, hs]; rfl) ?_
    intro u hu p hpn
    have s1 : SP c.S c.rk (bMq c.S u (aSq c.S (.name b) qs)) (dWq c.rk u (dUq c.rk qs)) := .add hu z0
    have s2 := s1.trans (.add (x := aSq (bMq c.S u (aSq c.S (.name b) qs)) (.name a) qs) (n := dUq (dWq c.rk u (dUq c.rk qs)) qs) hpn (zz (c1 := ⟨_, _, c.m⟩) s1))
    refine ⟨⟨rfl, rfl, rfl, rfl⟩, ?_⟩
    refine pTq (show bMq _ p _ p = _ from aCq) ia ?_
    have A1 := A.sp (c' := ⟨_, _, c.m⟩) s2
    refine rUq A1.1 rfl (by show b8q c.m.paired _ _ = true; rw [hp]; rfl) ?_
    refine ⟨⟨rfl, rfl, rfl, rfl⟩, ?_⟩
    have U : bMq (bMq c.S u (aSq c.S (.name b) qs)) p (aSq (bMq c.S u (aSq c.S (.name b) qs)) (.name a) qs) u = some (aSq c.S (.name b) qs) := c4q hpn aCq
    refine pTq U ib ?_
    have B1 := B.sp (c' := ⟨_, _, c.m⟩) s2
    refine rUq B1.1 rfl rfl ?_
    refine fun o ho => ⟨⟨rfl, rfl, rfl, rfl⟩, ?_⟩
    exact j5q (s2.trans (.add ho sUq)) hs rfl (.new rfl)
  | 1, hx =>
    refine uZq hx rfl (by rw [hp, hs]; rfl) (by rw [hp, hs]; rfl) ?_
    intro u hu p hpn
    have s1 : SP c.S c.rk (bMq c.S u (aSq c.S (.name b) qs)) (dWq c.rk u (dUq c.rk qs)) := .add hu z0
    have s2 := s1.trans (.add (x := aSq (bMq c.S u (aSq c.S (.name b) qs)) (.name a) qs) (n := dUq (dWq c.rk u (dUq c.rk qs)) qs) hpn (zz (c1 := ⟨_, _, c.m⟩) s1))
    refine ⟨⟨rfl, rfl, rfl, rfl⟩, ?_⟩
    refine pTq (show bMq _ p _ p = _ from aCq) ia ?_
    have A1 := A.sp (c' := ⟨_, _, c.m⟩) s2
    refine rUq A1.1 rfl (by show b8q c.m.paired _ _ = true; rw [hp]; rfl) ?_
    refine ⟨⟨rfl, rfl, rfl, rfl⟩, ?_⟩
    have U : bMq (bMq c.S u (aSq c.S (.name b) qs)) p (aSq (bMq c.S u (aSq c.S (.name b) qs)) (.name a) qs) u = some (aSq c.S (.name b) qs) := c4q hpn aCq
    refine pTq U ib ?_
    have B1 := B.sp (c' := ⟨_, _, c.m⟩) s2
    refine rUq B1.1 rfl rfl ?_
    refine fun o ho => ⟨⟨rfl, rfl, rfl, rfl⟩, s2.trans (.add ho (oJq fun r hr => ?_)), hs, ?_, _, show bMq _ o _ o = _ from aCq, ?_⟩
    . rcases List.mem_cons.mp hr with rfl | hr
      . exact A1.2
      . rcases List.mem_cons.mp hr with rfl | hr
        . exact B1.2
        . cases hr
    . unfold Cf.going
      rw [Cf.t_of (show bMq _ o _ o = _ from aCq)]
      show dEq true _ c.tick.m.stack = false
      rw [show c.tick.m.stack = [] from hs]
      rfl
    . show Tm.pair _ _ = Tm.pair _ _
      congr 1
      . exact qZq (x := ⟨.whole x, [], .whole x⟩) A1.1
      . exact qZq (x := ⟨.whole y, [], .whole y⟩) B1.1
  | 2, hx =>
    refine uZq hx rfl (by rw [hp, hs]; rfl) (by rw [hp, hs]; rfl) ?_
    intro p hpn
    have s1 : SP c.S c.rk (bMq c.S p (aSq c.S (.pair (.name a) (.name b)) qs)) (dWq c.rk p (dUq c.rk qs)) := .add hpn z0
    refine ⟨⟨rfl, rfl, rfl, rfl⟩, ?_⟩
    refine rUq (show bMq _ p _ p = _ from aCq) rfl (by show b8q c.m.paired _ _ = true; rw [hp]; rfl) ?_
    refine fun o ho => ⟨⟨rfl, rfl, rfl, rfl⟩, ?_⟩
    refine pTq (show bMq _ o _ o = _ from aCq) ia ?_
    have s2 := s1.trans (.add (x := aSq (bMq c.S p (aSq c.S (.pair (.name a) (.name b)) qs)) (.name a) qs) (n := dUq (dWq c.rk p (dUq c.rk qs)) qs) ho (zz (c1 := ⟨_, _, c.m⟩) s1))
    exact j5q s2 hs rfl (A.sp (c' := ⟨_, _, c.m⟩) s2)
  | 3, hx =>
    refine uZq hx rfl (by rw [hp, hs]; rfl) (by rw [hp, hs]; rfl) ?_
    intro p hpn
    have s1 : SP c.S c.rk (bMq c.S p (aSq c.S (.pair (.name a) (.name b)) qs)) (dWq c.rk p (dUq c.rk qs)) := .add hpn z0
    refine ⟨⟨rfl, rfl, rfl, rfl⟩, ?_⟩
    refine rUq (show bMq _ p _ p = _ from aCq) rfl (by show b8q c.m.paired _ _ = true; rw [hp]; rfl) ?_
    refine fun o ho => ⟨⟨rfl, rfl, rfl, rfl⟩, ?_⟩
    refine pTq (show bMq _ o _ o = _ from aCq) ib ?_
    have s2 := s1.trans (.add (x := aSq (bMq c.S p (aSq c.S (.pair (.name a) (.name b)) qs)) (.name b) qs) (n := dUq (dWq c.rk p (dUq c.rk qs)) qs) ho (zz (c1 := ⟨_, _, c.m⟩) s1))
    exact j5q s2 hs rfl (B.sp (c' := ⟨_, _, c.m⟩) s2)
  | _ + 4, hx =>
    refine uZq hx rfl (by rw [hp, hs]; rfl) (by rw [hp, hs]; rfl) ?_
    intro u hu w hw p hpn
    have s1 : SP c.S c.rk (bMq c.S u (aSq c.S (.name b) qs)) (dWq c.rk u (dUq c.rk qs)) := .add hu z0
    have s2 := s1.trans (.add (x := aSq (bMq c.S u (aSq c.S (.name b) qs)) (.name e) qs) (n := dUq (dWq c.rk u (dUq c.rk qs)) qs) hw (zz (c1 := ⟨_, _, c.m⟩) s1))
    have s4 := s2.trans (.add (x := aSq (bMq (bMq c.S u (aSq c.S (.name b) qs)) w (aSq (bMq c.S u (aSq c.S (.name b) qs)) (.name e) qs)) (.name a) qs) (n := dUq (dWq (dWq c.rk u (dUq c.rk qs)) w (dUq (dWq c.rk u (dUq c.rk qs)) qs)) qs) hpn (zz (c1 := ⟨_, _, c.m⟩) s2))
    refine ⟨⟨rfl, rfl, rfl, rfl⟩, ?_⟩
    refine pTq (show bMq _ p _ p = _ from aCq) ia ?_
    have A1 := A.sp (c' := ⟨_, _, c.m⟩) s4
    refine rUq A1.1 rfl (by show b8q c.m.paired _ _ = true; rw [hp]; rfl) ?_
    refine ⟨⟨rfl, rfl, rfl, rfl⟩, ?_⟩
    have U := c4q (x := aSq (bMq (bMq c.S u (aSq c.S (.name b) qs)) w (aSq (bMq c.S u (aSq c.S (.name b) qs)) (.name e) qs)) (.name a) qs) hpn (c4q (x := aSq (bMq c.S u (aSq c.S (.name b) qs)) (.name e) qs) hw (aCq (S := c.S) (p := u) (x := aSq c.S (.name b) qs)))
    have W := c4q (x := aSq (bMq (bMq c.S u (aSq c.S (.name b) qs)) w (aSq (bMq c.S u (aSq c.S (.name b) qs)) (.name e) qs)) (.name a) qs) hpn (aCq (S := bMq c.S u (aSq c.S (.name b) qs)) (p := w) (x := aSq (bMq c.S u (aSq c.S (.name b) qs)) (.name e) qs))
    by_cases h0 : x = 0
    . rw [show iSq x y z (_ + 4) = .whole y from if_pos h0]
      refine pTq (n := b) (rs := qs) (by show bMq _ p _ (if x = 0 then u else w) = _; rw [if_pos h0]; exact U) ib ?_
      exact j5q s4 hs rfl (B.sp (c' := ⟨_, _, c.m⟩) s4)
    . rw [show iSq x y z (_ + 4) = .whole z from if_neg h0]
      refine pTq (n := e) (rs := qs) (by show bMq _ p _ (if x = 0 then u else w) = _; rw [if_neg h0]; exact W) ie ?_
      exact j5q s4 hs rfl (E.sp (c' := ⟨_, _, c.m⟩) s4)
theorem Run.mono : ∀ {ds : List Nat} {c : Cf} {P P' : Cf -> Prop}, Run ds c P -> (∀ c', P c' -> P' c') -> Run ds c P'
  | [], _, _, _, h, f => f _ h
  | _ :: _, _, _, _, h, f => ⟨h.1, h.2.mono fun _ k => ⟨k.1, k.2.mono f⟩⟩
theorem sFq {vs : List Int} {c : Cf} {du : Tm} {f a b e : Nat} {x y z : Int} (hx : c.S c.m.here = some ⟨dBq (lWq vs.length (mCq f a b e)) vs, [], du⟩) (hp : c.m.paired = false) (hs : c.m.stack = []) (hl : vs.length <= 12)
    (ha : vs[a]? = some x) (hb : vs[b]? = some y) (he : vs[e]? = some z) : Run (List.replicate vs.length 115 ++ (List.replicate vs.length 114 ++ tDq f)) c fun c' => K23End c c' (iSq x y z f) := by
  refine phS vs c du hx hp fun c1 qs s1 ⟨d1, h1⟩ p1 st1 R1 => ?_
  have hq := R1.len
  rw [hs, List.append_nil] at st1
  rw [<- hq, <- List.length_reverse]
  refine phR (t := mCq f a b e) qs.reverse [] c1 d1 (by rw [List.length_reverse, hq]; exact h1) p1 st1 (fun r hr => ?_) (by rw [List.length_reverse, hq, List.length_nil]; omega) fun c2 s2 ⟨d2, h2⟩ p2 st2 => ?_
  . rw [List.append_nil] at hr
    exact R1.zero r (List.mem_reverse.mp hr)
  . rw [List.reverse_reverse, List.append_nil] at h2
    exact (phE h2 p2 st2 (R1.sp s2) ha hb he).mono fun c3 h3 => h3.sp (s1.trans s2)
def tEq : Nat -> Str
  | 0 => "-n-nr"
  | 1 => "-n-n-"
  | 2 => "-rn"
  | 3 => "-rn"
  | _ => "-nrn"
theorem s3q : ∀ f, (tEq f).cps.toList = tDq f
  | 0 => by decide +kernel
  | 1 => by decide +kernel
  | 2 => by decide +kernel
  | 3 => by decide +kernel
  | _ + 4 => by show (("-nrn" : String) : Str).cps.toList = [45, 110, 114, 110]; decide +kernel
def i9q : DSp := fun ds G Q => ∃ (r l : Addr) (ws : List Int), ds = [.ref r, .ref l] /\ Fd G r /\ G l = some (.lst (ws.map D.int)) /\ 0 < ws.length /\ ws.length <= 12 /\ r ≠ l ∧
  ∀ (f a b e : Nat) (x y z : Int) G', ws.reverse[a]? = some x -> ws.reverse[b]? = some y -> ws.reverse[e]? = some z -> (∀ b o, b ≠ r -> G b = some o -> G' b = some o) -> Q (.tup [(mCq f a b e).enc, (iSq x y z f).enc, .str (tEq f)]) G'
theorem oNq {ws : List Int} {k : Nat} (h : k < ws.length) : ∃ x, ws.reverse[k]? = some x /\ atI (ws.map D.int) ((ws.length : Int) - 1 - k) = some (.int x) := by
  refine ⟨ws.reverse[k]'(by rw [List.length_reverse]; exact h), List.getElem?_eq_getElem _, ?_⟩
  rw [show (ws.length : Int) - 1 - k = ((ws.length - 1 - k : Nat) : Int) by omega]
  refine e6q ?_
  rw [List.getElem?_map, List.getElem_reverse, List.getElem?_eq_getElem (by omega)]; rfl
def hVq (C CM : Addr) : DSp := fun ds G Q => ∃ (a lm : Addr) (c : Cf) (z : Str) (i : Nat), ds = [.ref a, .str z, .int i] /\ MAt C CM G a lm c /\ z.length <= 100 /\ i <= z.length /\ c.m.steps = i /\ c.m.rules = (z.cps.toList.take i).count 114 /\ c.m.slips = (z.cps.toList.take i).count 115 /\ c.m.looks = (z.cps.toList.take i).count 110 ∧
  (i < z.length -> c.going = true) /\ (i = z.length -> c.going = false /\ c.m.stack = []) /\ Q (.bl true) G
theorem iOq (c : Nat) : ∀ l : List Nat, PyProof.Rows.cnt c l = (l.count c : Nat)
  | [] => PyProof.Rows.cnt_nil c
  | x :: l => by
    rw [PyProof.Rows.cnt_cons, iOq c l, List.count_cons]
    by_cases h : x = c
    . subst h; simp; omega
    . have h' : ¬ c = x := fun e => h e.symm
      simp [h, h']
theorem fWq {z : Str} {c i : Nat} (h : i <= z.length) : Txt.count (Txt.slice z none (some (i : Int))) ⟨#[c]⟩ = ((z.cps.toList.take i).count c : Nat) := by
  have e := eq_of_beq (PyProof.Rows.slice_closes_toL (x := z) (j := (i : Int)) (by omega) (by omega))
  rw [e, PyProof.Rows.count_cnt, iOq]
  simp
theorem r1q {z : Str} {i : Nat} (h : i <= z.length) : Txt.count (Txt.slice z none (some (i : Int))) "r" = ((z.cps.toList.take i).count 114 : Nat) := by
  rw [show (("r" : String) : Str) = ⟨#[114]⟩ by decide +kernel]; exact fWq h
theorem rEq {z : Str} {i : Nat} (h : i <= z.length) : Txt.count (Txt.slice z none (some (i : Int))) "s" = ((z.cps.toList.take i).count 115 : Nat) := by
  rw [show (("s" : String) : Str) = ⟨#[115]⟩ by decide +kernel]; exact fWq h
theorem t0q {z : Str} {i : Nat} (h : i <= z.length) : Txt.count (Txt.slice z none (some (i : Int))) "n" = ((z.cps.toList.take i).count 110 : Nat) := by
  rw [show (("n" : String) : Str) = ⟨#[110]⟩ by decide +kernel]; exact fWq h
theorem hDq (t : Tm) (w : Nat) : ∀ vs, (dBq t vs).nmsR w = t.nmsR w
  | [] => rfl
  | v :: vs => by simp [dBq, Tm.nmsR, hDq t w vs]
theorem kEq (t : Tm) : ∀ n w, (lWq n t).nmsR w = t.nmsR (w + n)
  | 0, _ => rfl
  | n + 1, w => by rw [show w + (n + 1) = (w + 1) + n by omega, <- kEq t n (w + 1)]; rfl
theorem q3q {f a b e n : Nat} (ha : a < n) (hb : b < n) (he : e < n) : ∀ z ∈ (mCq f a b e).nmsR n, ¬ z.2 <= z.1 := by
  intro z hz
  rcases f with _ | _ | _ | _ | f <;> simp [mCq, Tm.nmsR] at hz <;> (rcases hz with rfl | rfl | rfl) <;> simp <;> omega
theorem jIq (t : Tm) : ∀ vs, (dBq t vs).sz = t.sz + 2 * vs.length
  | [] => rfl
  | v :: vs => by simp only [dBq, Tm.sz, jIq t vs, List.length_cons]; omega
theorem mEq (t : Tm) : ∀ n, (lWq n t).sz = t.sz + n
  | 0 => rfl
  | n + 1 => by simp only [lWq, Tm.sz, mEq t n]; omega
theorem rDq {f a b e : Nat} : (mCq f a b e).sz <= 4 := by
  rcases f with _ | _ | _ | _ | f <;> simp [mCq, Tm.sz]
theorem rSq {x y z : Int} {f : Nat} : (iSq x y z f).sz <= 4 := by
  rcases f with _ | _ | _ | _ | f <;> simp [iSq, Tm.sz]
  split <;> simp [Tm.sz]
def bVq (n f : Nat) : Str := (hBq "s" n ++ hBq "r" n) ++ tEq f
theorem k5q (x y : Str) : (x ++ y).cps.toList = x.cps.toList ++ y.cps.toList := by
  show (x.cps ++ y.cps).toList = _
  simp
theorem jOq {z : Str} {c : Nat} (h : z.cps.toList = [c]) (n : Nat) : (hBq z n).cps.toList = List.replicate n c := by
  unfold hBq
  rw [h]
  simp only [List.toList_toArray]
  induction n with
  | zero => rfl
  | succ n ih => rw [List.replicate_succ, List.flatten_cons, ih]; rfl
theorem hEq (n f : Nat) : (bVq n f).cps.toList = List.replicate n 115 ++ (List.replicate n 114 ++ tDq f) := by
  unfold bVq
  rw [k5q, k5q, s3q, jOq (c := 115) (by decide +kernel), jOq (c := 114) (by decide +kernel), List.append_assoc]
theorem pCq (f : Nat) : (tDq f).length <= 5 := by
  rcases f with _ | _ | _ | _ | f <;> simp [tDq]
theorem m2q (x : Str) : x.length = x.cps.toList.length := rfl
theorem mRq (n f : Nat) : (bVq n f).length <= 2 * n + 5 := by
  rw [m2q, hEq]
  have := pCq f
  simp only [List.length_append, List.length_replicate]; omega
theorem f3q {l : List Nat} {i d : Nat} {r : List Nat} (h : l.drop i = d :: r) (x : Nat) : (l.take (i + 1)).count x = (l.take i).count x + (if d = x then 1 else 0) := by
  have e : l[i]? = some d := by rw [<- List.head?_drop, h]; rfl
  rw [List.take_add_one, e, Option.toList_some, List.count_append, List.count_singleton]
  congr 1
  by_cases c : d = x <;> simp [c]
theorem nVq {l : List Nat} {i d : Nat} {r : List Nat} (h : l.drop i = d :: r) : l.drop (i + 1) = r := by
  rw [<- List.drop_drop, h]; rfl
theorem o1q {l : List Nat} {i : Nat} (h : i < l.length) : ∃ d r, l.drop i = d :: r := ⟨_, _, List.drop_eq_getElem_cons h⟩
theorem MAt.notab {C CM : Addr} {G : DV} {a lm : Addr} {c : Cf} {T : Addr} {tp : Pos} {qu : Str} (M : MAt C CM G a lm c) (h : G T = some (.tab tp qu)) : c.S T = none := by
  cases e : c.S T with
  | none => rfl
  | some x => obtain ⟨tb, z⟩ := M.sl _ _ e; rw [h] at z; cases z
end L3
namespace KB
open PySem L2
def top (i : Nat) : Stmt := PySem.Challenge.pw_kindbags_k23_names_and_slips_by_numbers.main.body.getD i (.Pass ⟨0, 0, 0, 0⟩)
structure Blt (mg : Str -> Option Value) : Prop where
  len : mg "len" = none
  isinstance : mg "isinstance" = none
  range : mg "range" = none
  int : mg "int" = none
  bool : mg "bool" = none
  str : mg "str" = none
  tuple : mg "tuple" = none
  list : mg "list" = none
  zip : mg "zip" = none
  reversed : mg "reversed" = none
end KB
namespace KB
open PySem
abbrev g3q : List Str := ["program"]
abbrev eOq : List Str := ["program"]
abbrev fOq : List Str := ["program", "ways"]
abbrev gIq : List Str := ["program", "change"]
abbrev fEq : List Str := ["self", "program", "slips"]
abbrev fHq : List Str := ["self"]
abbrev dZq : List Str := ["self"]
abbrev fPq : List Str := ["self"]
abbrev fBq : List Str := ["self", "program"]
abbrev fDq : List Str := ["self"]
abbrev fJq : List Str := ["self"]
abbrev g4q : List Str := ["self"]
abbrev eTq : List Str := ["self"]
abbrev e0q : List Str := ["self"]
abbrev dJq : List Str := ["self"]
abbrev eIq : List Str := ["self"]
abbrev dXq : List Str := ["self", "k"]
abbrev fLq : List Str := ["self"]
abbrev e1q : List Str := ["self", "mark"]
abbrev dNq : List Str := ["self"]
abbrev eJq : List Str := ["self"]
abbrev eSq : List Str := ["self"]
abbrev eXq : List Str := ["self"]
abbrev dCq : List Str := ["self"]
abbrev fGq : List Str := ["mark", "program"]
abbrev h4q : List Str := ["_law_script", "_law_k"]
abbrev gZq : List Str := ["_law_feed_here", "_law_many"]
abbrev g5q : List Str := ["_law_feed_here"]
abbrev hKq : List Str := ["_law_found", "_law_due"]
abbrev fIq : List Str := ["_law_feed_here", "_law_wholes"]
abbrev fMq : List Str := ["_law_machine", "_law_deeds", "_law_at"]
end KB
namespace KB
open PySem L2 L3
section
variable {P : Program} {w : World} {K : PySem.W.Frag} {mg : Str -> Option Value} {base : Heap} {f : Addr} {fd : FuncData}
set_option maxHeartbeats 4000000
abbrev eFq : Stmt := top 18
theorem sc_take : FnScope ["_law_feed_here", "_law_many", "_law_digit", "_law_one"] ["_law_feed_here", "_law_many"] (a3q eFq) := ⟨rfl, rfl, rfl, by decide +kernel, rfl, by decide +kernel, by decide +kernel⟩
theorem rNq (F : Fun K "_law_take" "_law_take" eFq f fd) : FnOk P w K mg base CX0 1 f fd ["_law_feed_here", "_law_many"] (aWq K gNq) := by
  refine okD (k := 0) F sc_take (fun ds G DQ h => ?_) (fun cdv A outer s H E hr ds G DQ h => ?_)
  . unfold gNq at h; split at h
    . rfl
    . exact h.elim
  unfold gNq at h; split at h
  case h_2 => exact h.elim
  next a m =>
  obtain ⟨⟨x, y, hF⟩, h0, h1, q⟩ := h
  refine ⟨_, (a7q (bDq (aUq qKq (aMq aix (a1q 0) a4q (fun _ _ => rfl)) a4q (aPq _)) (a7q (aZq (k := 2) sc_take.nd rfl (Or.inl rfl) (bCq dQq (aMq aix (a1q 0) a4q (fun _ _ => rfl)) (a1q 1)))
      (a7q (nHq (bCq kXq (aMq aix (a1q 0) a4q (fun _ _ => rfl)) (a1q 1)) (qMq (a1q 0) a4q))
      (a8q (aLq (a1q 2))))) b0q)
      (a7q (aZq (k := 3) sc_take.nd rfl (Or.inl rfl) (bCq dQq (bCq dKq (aMq aix (a1q 0) a4q (fun _ _ => rfl)) a4q) a4q))
      (a7q (nHq (bCq bNq (bCq dQq (bCq bNq (bCq dKq (a1q 3) a4q) a4q) a4q) a4q) (qMq (a1q 0) a4q))
      (a8q (aLq (bCq dQq (bCq kXq (bCq bNq (bCq dKq (a1q 3) a4q) (aMq aix (a1q 0) a4q (fun _ _ => rfl))) a4q) (a1q 1))))))), ?_⟩
  refine aAq hF ⟨fun c => ?_, fun c => ?_⟩
  . refine aAq hF ⟨h0, aAq hF ⟨⟨h0, by omega⟩, aBq hF ⟨0, rfl, Dr.of (q _ _ .mk (Int.emod_nonneg _ (by omega)) (Int.emod_lt_of_pos _ h0))⟩⟩⟩
  . refine aAq hF ⟨.inr ⟨by decide, by decide⟩, by simp, .inr ⟨by decide, by decide⟩, by simp, aBq hF ⟨1, rfl, .inr ⟨by decide, by decide⟩, aAq a2q ⟨⟨by decide, by decide⟩, h0, Dr.of (q _ _ .mk (Int.emod_nonneg _ (by omega)) (Int.emod_lt_of_pos _ h0))⟩⟩⟩
abbrev eCq : Stmt := top 17
theorem sc_feed : FnScope ["_law_script", "_law_k", "_law_cell", "_law_own"] ["_law_script", "_law_k"] (a3q eCq) := ⟨rfl, rfl, rfl, by decide +kernel, rfl, by decide +kernel, by decide +kernel⟩
theorem sTq (B : Blt mg) (F : Fun K "_law_feed" "_law_feed" eCq f fd) : FnOk P w K mg base CX0 1 f fd ["_law_script", "_law_k"] (aWq K iQq) := by
  refine okD (k := 0) F sc_feed (fun ds G DQ h => ?_) (fun cdv A outer s H E hr ds G DQ h => ?_)
  . unfold iQq at h; split at h
    . rfl
    . exact h.elim
  unfold iQq at h; split at h
  case h_2 => exact h.elim
  next ss k =>
  obtain ⟨ns, rfl, hl, h0, h1, q⟩ := h
  have fin : ∀ x y : Int, ∀ p, G p = none -> Dr DQ (.ref p) (up G p (fed x y)) := fun x y p hp => Dr.of (q p x y hp)
  have at_ok : ∀ j : Int, 0 <= j -> j < ns.length -> ∃ v, atI (ns.map D.int) j = some (.int v) := fun j j0 j1 => by
    refine ⟨ns[j.toNat], ?_⟩
    have e := e6q (xs := ns.map D.int) (j := j.toNat) (v := D.int ns[j.toNat]) (by simp [show j.toNat < ns.length by omega])
    rwa [show ((j.toNat : Nat) : Int) = j by omega] at e
  refine ⟨_, (a7q (aZq (k := 2) sc_feed.nd rfl (Or.inl rfl) (bCq bNq (bCq dKq a4q (a1q 1)) a4q))
      (a7q (bDq (aUq kPq (a1q 1) (b1q b9q rfl B.len PySem.boot_len (a0q (a1q 0) a5q)) (aPq _)) (a8q (aZq (k := 2) sc_feed.nd rfl (Or.inl rfl) (aMq aix (a1q 0) (a1q 1) (fun _ _ => rfl)))) (a8q (bDq (aUq qKq (b1q b9q rfl B.len PySem.boot_len (a0q (a1q 0) a5q)) a4q (aPq _)) (a8q (aZq (k := 2) sc_feed.nd rfl (Or.inl rfl) (bCq bNq (bCq dKq (bCq dQq (aMq aix (a1q 0) (bCq dQq (a1q 1) (b1q b9q rfl B.len PySem.boot_len (a0q (a1q 0) a5q))) (fun _ _ => rfl)) a4q) a4q) (bCq dKq a4q (a1q 1))))) b0q)))
      (a7q (aZq (k := 3) sc_feed.nd rfl (Or.inl rfl) a4q)
      (a7q (bDq (aUq mZq (a1q 2) (bCq s9q a4q a4q) (aPq _)) (a8q (aZq (k := 3) sc_feed.nd rfl (Or.inl rfl) (a1q 2))) b0q)
      (a8q (aLq (eQq (a0q (a1q 3) (a0q (bCq bNq (bCq dQq (bCq bNq (bCq dKq (bCq dQq (a1q 2) a4q) a4q) (bCq dKq a4q (a1q 1))) a4q) a4q) a5q))))))))), ?_⟩
  refine ⟨.inl ⟨by decide, by decide⟩, ⟨fun c => ?_, fun c => ?_⟩⟩
  . have c' : k < ns.length := by simpa using c
    obtain ⟨v, hv⟩ := at_ok k h0 c'
    refine (qOq hv ⟨⟨by decide, by decide, by decide⟩, fun c => ?_, fun c => ?_⟩)
    . exact ⟨by simp, .inr ⟨by decide, by decide⟩, .inl ⟨by decide, by decide⟩, by simp, fun p hp => fin _ _ p hp⟩
    . exact ⟨by simp, .inr ⟨by decide, by decide⟩, .inl ⟨by decide, by decide⟩, by simp, fun p hp => fin _ _ p hp⟩
  . refine ⟨fun c => ?_, fun c => ?_⟩
    . have c' : 0 < ns.length := by
        have : (0 : Int) < (ns.map D.int).length := by simpa using c
        simpa using this
      obtain ⟨v, hv⟩ := at_ok (k % (ns.map D.int).length) (Int.emod_nonneg _ (show ((ns.map D.int).length : Int) ≠ 0 by rw [List.length_map]; omega)) (by have := Int.emod_lt_of_pos k (show (0 : Int) < (ns.map D.int).length by simpa using c'); simpa using this)
      refine ⟨by simpa using c', ?_⟩
      refine (qOq hv ⟨by simp, .inr ⟨by decide, by decide⟩, .inl ⟨by decide, by decide⟩, ⟨by decide, by decide, by decide⟩, fun c => ?_, fun c => ?_⟩)
      . exact ⟨by simp, .inr ⟨by decide, by decide⟩, .inl ⟨by decide, by decide⟩, by simp, fun p hp => fin _ _ p hp⟩
      . exact ⟨by simp, .inr ⟨by decide, by decide⟩, .inl ⟨by decide, by decide⟩, by simp, fun p hp => fin _ _ p hp⟩
    . refine ⟨⟨by decide, by decide, by decide⟩, fun c => ?_, fun c => ?_⟩
      . exact ⟨by simp, .inr ⟨by decide, by decide⟩, .inl ⟨by decide, by decide⟩, by simp, fun p hp => fin _ _ p hp⟩
      . exact ⟨by simp, .inr ⟨by decide, by decide⟩, .inl ⟨by decide, by decide⟩, by simp, fun p hp => fin _ _ p hp⟩
abbrev d3q : Stmt := top 19
theorem sc_whole : FnScope ["_law_feed_here", "_law_form"] ["_law_feed_here"] (a3q d3q) := ⟨rfl, rfl, rfl, by decide +kernel, rfl, by decide +kernel, by decide +kernel⟩
theorem qAq (g_take : Got P w K mg base 1 "_law_take" ["_law_feed_here", "_law_many"] (aWq K gNq)) (F : Fun K "_law_whole" "_law_whole" d3q f fd) : FnOk P w K mg base CX0 2 f fd ["_law_feed_here"] (aWq K fYq) := by
  refine okD (k := 1) F sc_whole (fun ds G DQ h => ?_) (fun cdv A outer s H E hr ds G DQ h => ?_)
  . unfold fYq at h; split at h
    . rfl
    . exact h.elim
  unfold fYq at h; split at h
  case h_2 => exact h.elim
  next a =>
  obtain ⟨hF, q⟩ := h
  refine ⟨_, (a7q (aZq (k := 1) sc_whole.nd rfl (Or.inl rfl) (b5q g_take hr (by omega) rfl (a0q (a1q 0) (a0q a4q a5q))))
      (a7q (bDq (aUq kPq (a1q 1) a4q (aPq _)) (a8q (aLq (aRq (a0q aJq (a0q (nOq (a0q a4q (a0q a4q (a0q (rOq kBq a4q) (a0q a4q a5q)))) (a1q 1) (fun _ _ => rfl)) a5q))))) b0q)
      (a7q (bDq (aUq kPq (a1q 1) a4q (aPq _)) (a8q (aLq (aRq (a0q aJq (a0q (bCq f1q (b5q g_take hr (by omega) rfl (a0q (a1q 0) (a0q a4q a5q))) a4q) a5q))))) b0q)
      (a8q (aLq (aRq (a0q aJq (a0q (bCq f1q (b5q g_take hr (by omega) rfl (a0q (a1q 0) (a0q a4q a5q))) a4q) a5q)))))))), ?_⟩
  refine ⟨hF, by decide, by decide, fun d G1 u1 d0 d1 => ⟨fun c => ?_, fun c => ⟨fun c2 => ?_, fun c2 => ?_⟩⟩⟩
  . exact at4 d0 (by simpa using c) (fun _ => Dr.of (q 0 _ u1 (by decide) (by decide))) (fun _ => Dr.of (q 1 _ u1 (by decide) (by decide))) (fun _ => Dr.of (q (-1) _ u1 (by decide) (by decide))) (fun _ => Dr.of (q 2 _ u1 (by decide) (by decide)))
  . exact ⟨u1.fd, by decide, by decide, fun e G2 u2 e0 e1 => Dr.of (q (e - 5) _ (u1.trans u2) (by omega) (by omega))⟩
  . exact ⟨u1.fd, by decide, by decide, fun e G2 u2 e0 e1 => Dr.of (q (e - 999999999) _ (u1.trans u2) (by omega) (by omega))⟩
abbrev d5q : Stmt := top 1
theorem q9q : FnScope ["program"] ["program"] (a3q d5q) := ⟨rfl, rfl, rfl, by decide +kernel, rfl, by decide +kernel, by decide +kernel⟩
theorem p1q (F : Fun K "inner" "inner" d5q f fd) : FnOk P w K mg base CX0 1 f fd ["program"] (aWq K (pPq Tm.enc Tm.inn)) := by
  refine okD (k := 0) F q9q (fun ds G DQ h => ?_) (fun cdv A outer s H E hr ds G DQ h => ?_)
  . obtain ⟨t, rfl, _⟩ := h; rfl
  obtain ⟨t, rfl, q⟩ := h
  refine ⟨_, (a7q (bDq (AW.at (lRq (aUq (bEq (bXq hr)) (aMq aix (a1q 0) a4q (fun _ _ => rfl)) aJq (aPq _)) (j6q (aUq (bEq (bXq hr)) (aMq aix (a1q 0) a4q (fun _ _ => rfl)) aJq (aPq _))))) (a8q (aLq (aRq a5q))) b0q)
      (a8q (aLq (l0q asl (a1q 0) (nWq a4q) n2q)))), ?_⟩
  cases t with
  | name k => exact ⟨fun _ => ⟨fun _ => Dr.of q, nofun⟩, fun c => absurd c (by decide)⟩
  | whole k => exact ⟨fun c => absurd c (by decide), fun _ => ⟨fun _ => Dr.of q, fun c => absurd c (by decide)⟩⟩
  | _ => exact ⟨fun c => absurd c (by decide), fun _ => ⟨fun c => absurd c (by decide), fun _ => Dr.of q⟩⟩
abbrev cRq : Stmt := top 4
theorem mGq : FnScope ["program", "ways"] ["program", "ways"] (a3q cRq) := ⟨rfl, rfl, rfl, by decide +kernel, rfl, by decide +kernel, by decide +kernel⟩
theorem mOq (F : Fun K "ways_below" "ways_below" cRq f fd) : FnOk P w K mg base CX0 1 f fd ["program", "ways"] (aWq K hNq) := by
  refine okD (k := 0) F mGq (fun ds G DQ h => ?_) (fun cdv A outer s H E hr ds G DQ h => ?_)
  . obtain ⟨_, _, rfl, _⟩ := h; rfl
  obtain ⟨t, w, rfl, q⟩ := h
  refine ⟨_, (a8q (aLq (eYq (aUq (bEq (bXq hr)) (aMq aix (a1q 0) a4q (fun _ _ => rfl)) aJq (aPq _)) (bCq bNq (a1q 1) a4q) (a1q 1)))), ?_⟩
  cases t with
  | way a => exact ⟨fun _ => Dr.of (by simpa [Tm.wbl] using q), fun c => absurd c (by decide)⟩
  | _ => exact ⟨fun c => absurd c (by decide), fun _ => Dr.of q⟩
abbrev c7q : Stmt := top 3
theorem sc_namesin : FnScope ["program", "found", "pending", "entry", "one", "below"] ["program"] (a3q c7q) := ⟨rfl, rfl, rfl, by decide +kernel, rfl, by decide +kernel, by decide +kernel⟩
theorem lJq (B : Blt mg) (g_inner : Got P w K mg base 1 "inner" ["program"] (aWq K (pPq Tm.enc Tm.inn))) (g_wbelow : Got P w K mg base 1 "ways_below" ["program", "ways"] (aWq K hNq)) (F : Fun K "names_in" "names_in" c7q f fd) : FnOk P w K mg base CX0 2 f fd ["program"] (aWq K gMq) := by
  refine okD (k := 1) F sc_namesin (fun ds G DQ h => ?_) (fun cdv A outer s H E hr ds G DQ h => ?_)
  . obtain ⟨_, rfl, _⟩ := h; rfl
  obtain ⟨t, rfl, hz, q⟩ := h
  refine ⟨_, (a7q (aZq (k := 1) sc_namesin.nd rfl (Or.inl rfl) (eQq a5q))
      (a7q (aZq (k := 2) sc_namesin.nd rfl (Or.inl rfl) (eQq (a0q (aRq (a0q (a1q 0) (a0q a4q a5q))) a5q)))
      (a7q (hOq PassesOwn.never (b7q (a1q 2)) (a7q (aZq (k := 3) sc_namesin.nd rfl (Or.inl rfl) (h9q PySem.F.plainAttrs_list PySem.F.slot_list_pop PySem.F.type_list_pop fAq (a1q 2)))
      (a7q (aZq (k := 4) sc_namesin.nd rfl (Or.inl rfl) (aMq aix (a1q 3) a4q (fun _ _ => rfl)))
      (a7q (bDq (aUq (bEq (bXq hr)) (aMq aix (a1q 4) a4q (fun _ _ => rfl)) aJq (aPq _)) (a8q (bOq (eEq PySem.F.plainAttrs_list PySem.F.slot_list_append PySem.F.type_list_append bSq (a1q 1) (a0q (aRq (a0q (aMq aix (a1q 4) a4q (fun _ _ => rfl)) (a0q (aMq aix (a1q 3) a4q (fun _ _ => rfl)) a5q))) a5q)))) b0q)
      (a7q (aZq (k := 5) sc_namesin.nd rfl (Or.inr rfl) (b5q g_wbelow hr (by omega) rfl (a0q (a1q 4) (a0q (aMq aix (a1q 3) a4q (fun _ _ => rfl)) a5q))))
      (a8q (bOq (eEq PySem.F.plainAttrs_list PySem.F.slot_list_extend PySem.F.type_list_extend f2q (a1q 2) (a0q (nMq rfl (CompOk.of (N' := ["part", "below"]) (nt := 1) (cap := [5]) rfl (by kernel_rfl)) (bLq (k := 0) (by decide)) (eNq (b5q g_inner hr (by omega) rfl (a0q (a1q 4) a5q))) (fun _ _ _ _ => (bFq (k := 0) (show List.Nodup (["part", "below"] : List Str) by decide +kernel) rfl (Or.inl rfl))) (fun _ _ _ _ => (aRq (a0q (a1q 0) (a0q (a1q 1) a5q))))) a5q)))))))))
      (a8q (aLq (a1q 1)))))), ?_⟩
  intro a ha b hb
  obtain ⟨-, hb0, hne⟩ := hAq (o := .lst []) hb
  refine ⟨fun m ρ G' => ∃ (ps : List (Tm × Nat)) (fs : List (Nat × Nat)) (o3 o4 o5 : Option D), ρ = [some t.enc, some (.ref a), some (.ref b), o3, o4, o5] /\ G' = up (up G a (.lst (fs.map prD))) b (.lst (ps.reverse.map e2D)) /\ fs ++ ps.flatMap (fun z => z.1.nmsR z.2) = t.nmsR 0 /\ sz2 ps <= t.sz /\ m = sz2 ps, ⟨_, [(t, 0)], [], _, _, _, rfl, rfl, by simp, by simp [sz2], rfl⟩, ?_⟩
  rintro m ρ G' ⟨ps, fs, o3, o4, o5, rfl, rfl, hfs, hsz, rfl⟩
  have hlen := t.nmsR_len 0
  have hfl : fs.length <= t.sz := by rw [<- hfs, List.length_append] at hlen; omega
  refine aAq a2q ⟨fun c => ?_, fun c => ?_⟩
  . obtain ⟨u, w, qs, rfl⟩ : ∃ u w qs, ps = (u, w) :: qs := by
      cases ps with
      | nil => simp at c
      | cons z qs => exact ⟨z.1, z.2, qs, rfl⟩
    rw [hZq] at hsz ⊢
    rw [List.flatMap_cons] at hfs
    have hql := n0q qs
    have hu := u.sz_pos
    refine ⟨aAq a2q trivial, aBq a2q ⟨qs.reverse.map e2D, e2D (u, w), by simp, ?_⟩⟩
    rw [c1q]
    have ha1 : ∀ o, up (up G a (.lst (fs.map prD))) b o a = some (.lst (fs.map prD)) := fun o => by rw [a9q (Ne.symm hne)]; exact a2q
    cases u with
    | name k =>
      refine ⟨fun _ => ?_, fun c => absurd c (by decide)⟩
      refine ⟨aAq (ha1 _) trivial, aBq (ha1 _) ⟨aEq (by rw [List.length_map]; omega), ?_⟩⟩
      rw [up3 hne]
      refine ⟨(.name k : Tm), w, rfl, aAq a2q trivial, (.name k : Tm), rfl, ?_⟩
      refine bBq (Tm.inn (.name k : Tm)) Tm.enc (fun x => e2D (x, Tm.wbl (.name k : Tm) w)) rfl (aEq (by have := Tm.inn_len (.name k : Tm); omega)) trivial (fun x _ R hR => hR) (fun p hp => ?_)
      have np : b ≠ p := by rintro rfl; rw [a2q] at hp; cases hp
      refine aBq (by rw [a9q np]; exact a2q) (aBq a2q ⟨bTq (by have := Tm.inn_len (.name k : Tm); simp only [List.length_map, List.length_reverse]; omega), ?_⟩)
      refine ⟨_, up (up G a (.lst (fs.map prD ++ [.tup [.int k, .int w]]))) b (.lst (qs.reverse.map e2D ++ (Tm.inn (.name k : Tm)).map fun x => e2D (x, Tm.wbl (.name k : Tm) w))), .refl _, Sub.put (Sub.trans (Sub.new (Sub.refl _) (by rw [a9q hne]; exact hb0)) (Sub.new (Sub.refl _) hp)), sz2 (((Tm.inn (.name k : Tm)).map fun x => (x, Tm.wbl (.name k : Tm) w)).reverse ++ qs), ?_, ((Tm.inn (.name k : Tm)).map fun x => (x, Tm.wbl (.name k : Tm) w)).reverse ++ qs, fs ++ [(k, w)], _, _, _, rfl, ?_, ?_, ?_, rfl⟩
      . have := Tm.sz_inns (.name k : Tm)
        rw [<- List.map_reverse, bIq, List.map_reverse, List.sum_reverse]; simp only []; omega
      . congr 2
        . simp [prD]
        . simp [List.map_map, Function.comp_def]
      . rw [<- hfs]; simp [Tm.inn, Tm.nmsR]
      . have := Tm.sz_inns (.name k : Tm)
        rw [<- List.map_reverse, bIq, List.map_reverse, List.sum_reverse]; simp only [] at hsz; omega
    | whole k =>
      refine ⟨fun c => absurd c (by decide), fun _ => ?_⟩
      refine ⟨(.whole k : Tm), w, rfl, aAq a2q trivial, (.whole k : Tm), rfl, ?_⟩
      refine bBq (Tm.inn (.whole k : Tm)) Tm.enc (fun x => e2D (x, Tm.wbl (.whole k : Tm) w)) rfl (aEq (by have := Tm.inn_len (.whole k : Tm); omega)) trivial (fun x _ R hR => hR) (fun p hp => ?_)
      have np : b ≠ p := by rintro rfl; rw [a2q] at hp; cases hp
      refine aBq (by rw [a9q np]; exact a2q) (aBq a2q ⟨bTq (by have := Tm.inn_len (.whole k : Tm); simp only [List.length_map, List.length_reverse]; omega), ?_⟩)
      refine ⟨_, up (up G a (.lst (fs.map prD))) b (.lst (qs.reverse.map e2D ++ (Tm.inn (.whole k : Tm)).map fun x => e2D (x, Tm.wbl (.whole k : Tm) w))), .refl _, Sub.put (Sub.trans (Sub.new (Sub.refl _) (by rw [a9q hne]; exact hb0)) (Sub.new (Sub.refl _) hp)), sz2 (((Tm.inn (.whole k : Tm)).map fun x => (x, Tm.wbl (.whole k : Tm) w)).reverse ++ qs), ?_, ((Tm.inn (.whole k : Tm)).map fun x => (x, Tm.wbl (.whole k : Tm) w)).reverse ++ qs, fs, _, _, _, rfl, ?_, ?_, ?_, rfl⟩
      . have := Tm.sz_inns (.whole k : Tm)
        rw [<- List.map_reverse, bIq, List.map_reverse, List.sum_reverse]; simp only []; omega
      . congr 2
        simp [List.map_map, Function.comp_def]
      . rw [<- hfs]; simp [Tm.inn, Tm.nmsR]
      . have := Tm.sz_inns (.whole k : Tm)
        rw [<- List.map_reverse, bIq, List.map_reverse, List.sum_reverse]; simp only [] at hsz; omega
    | way x1 =>
      refine ⟨fun c => absurd c (by decide), fun _ => ?_⟩
      refine ⟨(.way x1 : Tm), w, rfl, aAq a2q trivial, (.way x1 : Tm), rfl, ?_⟩
      refine bBq (Tm.inn (.way x1 : Tm)) Tm.enc (fun x => e2D (x, Tm.wbl (.way x1 : Tm) w)) rfl (aEq (by have := Tm.inn_len (.way x1 : Tm); omega)) trivial (fun x _ R hR => hR) (fun p hp => ?_)
      have np : b ≠ p := by rintro rfl; rw [a2q] at hp; cases hp
      refine aBq (by rw [a9q np]; exact a2q) (aBq a2q ⟨bTq (by have := Tm.inn_len (.way x1 : Tm); simp only [List.length_map, List.length_reverse]; omega), ?_⟩)
      refine ⟨_, up (up G a (.lst (fs.map prD))) b (.lst (qs.reverse.map e2D ++ (Tm.inn (.way x1 : Tm)).map fun x => e2D (x, Tm.wbl (.way x1 : Tm) w))), .refl _, Sub.put (Sub.trans (Sub.new (Sub.refl _) (by rw [a9q hne]; exact hb0)) (Sub.new (Sub.refl _) hp)), sz2 (((Tm.inn (.way x1 : Tm)).map fun x => (x, Tm.wbl (.way x1 : Tm) w)).reverse ++ qs), ?_, ((Tm.inn (.way x1 : Tm)).map fun x => (x, Tm.wbl (.way x1 : Tm) w)).reverse ++ qs, fs, _, _, _, rfl, ?_, ?_, ?_, rfl⟩
      . have := Tm.sz_inns (.way x1 : Tm)
        rw [<- List.map_reverse, bIq, List.map_reverse, List.sum_reverse]; simp only []; omega
      . congr 2
        simp [List.map_map, Function.comp_def]
      . rw [<- hfs, List.flatMap_append, <- List.map_reverse, List.flatMap_map]; congr 2; exact (Tm.nmsR_inn (t := (.way x1 : Tm)) rfl w).symm
      . have := Tm.sz_inns (.way x1 : Tm)
        rw [<- List.map_reverse, bIq, List.map_reverse, List.sum_reverse]; simp only [] at hsz; omega
    | give x1 x2 =>
      refine ⟨fun c => absurd c (by decide), fun _ => ?_⟩
      refine ⟨(.give x1 x2 : Tm), w, rfl, aAq a2q trivial, (.give x1 x2 : Tm), rfl, ?_⟩
      refine bBq (Tm.inn (.give x1 x2 : Tm)) Tm.enc (fun x => e2D (x, Tm.wbl (.give x1 x2 : Tm) w)) rfl (aEq (by have := Tm.inn_len (.give x1 x2 : Tm); omega)) trivial (fun x _ R hR => hR) (fun p hp => ?_)
      have np : b ≠ p := by rintro rfl; rw [a2q] at hp; cases hp
      refine aBq (by rw [a9q np]; exact a2q) (aBq a2q ⟨bTq (by have := Tm.inn_len (.give x1 x2 : Tm); simp only [List.length_map, List.length_reverse]; omega), ?_⟩)
      refine ⟨_, up (up G a (.lst (fs.map prD))) b (.lst (qs.reverse.map e2D ++ (Tm.inn (.give x1 x2 : Tm)).map fun x => e2D (x, Tm.wbl (.give x1 x2 : Tm) w))), .refl _, Sub.put (Sub.trans (Sub.new (Sub.refl _) (by rw [a9q hne]; exact hb0)) (Sub.new (Sub.refl _) hp)), sz2 (((Tm.inn (.give x1 x2 : Tm)).map fun x => (x, Tm.wbl (.give x1 x2 : Tm) w)).reverse ++ qs), ?_, ((Tm.inn (.give x1 x2 : Tm)).map fun x => (x, Tm.wbl (.give x1 x2 : Tm) w)).reverse ++ qs, fs, _, _, _, rfl, ?_, ?_, ?_, rfl⟩
      . have := Tm.sz_inns (.give x1 x2 : Tm)
        rw [<- List.map_reverse, bIq, List.map_reverse, List.sum_reverse]; simp only []; omega
      . congr 2
        simp [List.map_map, Function.comp_def]
      . rw [<- hfs, List.flatMap_append, <- List.map_reverse, List.flatMap_map]; congr 2; exact (Tm.nmsR_inn (t := (.give x1 x2 : Tm)) rfl w).symm
      . have := Tm.sz_inns (.give x1 x2 : Tm)
        rw [<- List.map_reverse, bIq, List.map_reverse, List.sum_reverse]; simp only [] at hsz; omega
    | pair x1 x2 =>
      refine ⟨fun c => absurd c (by decide), fun _ => ?_⟩
      refine ⟨(.pair x1 x2 : Tm), w, rfl, aAq a2q trivial, (.pair x1 x2 : Tm), rfl, ?_⟩
      refine bBq (Tm.inn (.pair x1 x2 : Tm)) Tm.enc (fun x => e2D (x, Tm.wbl (.pair x1 x2 : Tm) w)) rfl (aEq (by have := Tm.inn_len (.pair x1 x2 : Tm); omega)) trivial (fun x _ R hR => hR) (fun p hp => ?_)
      have np : b ≠ p := by rintro rfl; rw [a2q] at hp; cases hp
      refine aBq (by rw [a9q np]; exact a2q) (aBq a2q ⟨bTq (by have := Tm.inn_len (.pair x1 x2 : Tm); simp only [List.length_map, List.length_reverse]; omega), ?_⟩)
      refine ⟨_, up (up G a (.lst (fs.map prD))) b (.lst (qs.reverse.map e2D ++ (Tm.inn (.pair x1 x2 : Tm)).map fun x => e2D (x, Tm.wbl (.pair x1 x2 : Tm) w))), .refl _, Sub.put (Sub.trans (Sub.new (Sub.refl _) (by rw [a9q hne]; exact hb0)) (Sub.new (Sub.refl _) hp)), sz2 (((Tm.inn (.pair x1 x2 : Tm)).map fun x => (x, Tm.wbl (.pair x1 x2 : Tm) w)).reverse ++ qs), ?_, ((Tm.inn (.pair x1 x2 : Tm)).map fun x => (x, Tm.wbl (.pair x1 x2 : Tm) w)).reverse ++ qs, fs, _, _, _, rfl, ?_, ?_, ?_, rfl⟩
      . have := Tm.sz_inns (.pair x1 x2 : Tm)
        rw [<- List.map_reverse, bIq, List.map_reverse, List.sum_reverse]; simp only []; omega
      . congr 2
        simp [List.map_map, Function.comp_def]
      . rw [<- hfs, List.flatMap_append, <- List.map_reverse, List.flatMap_map]; congr 2; exact (Tm.nmsR_inn (t := (.pair x1 x2 : Tm)) rfl w).symm
      . have := Tm.sz_inns (.pair x1 x2 : Tm)
        rw [<- List.map_reverse, bIq, List.map_reverse, List.sum_reverse]; simp only [] at hsz; omega
    | first x1 =>
      refine ⟨fun c => absurd c (by decide), fun _ => ?_⟩
      refine ⟨(.first x1 : Tm), w, rfl, aAq a2q trivial, (.first x1 : Tm), rfl, ?_⟩
      refine bBq (Tm.inn (.first x1 : Tm)) Tm.enc (fun x => e2D (x, Tm.wbl (.first x1 : Tm) w)) rfl (aEq (by have := Tm.inn_len (.first x1 : Tm); omega)) trivial (fun x _ R hR => hR) (fun p hp => ?_)
      have np : b ≠ p := by rintro rfl; rw [a2q] at hp; cases hp
      refine aBq (by rw [a9q np]; exact a2q) (aBq a2q ⟨bTq (by have := Tm.inn_len (.first x1 : Tm); simp only [List.length_map, List.length_reverse]; omega), ?_⟩)
      refine ⟨_, up (up G a (.lst (fs.map prD))) b (.lst (qs.reverse.map e2D ++ (Tm.inn (.first x1 : Tm)).map fun x => e2D (x, Tm.wbl (.first x1 : Tm) w))), .refl _, Sub.put (Sub.trans (Sub.new (Sub.refl _) (by rw [a9q hne]; exact hb0)) (Sub.new (Sub.refl _) hp)), sz2 (((Tm.inn (.first x1 : Tm)).map fun x => (x, Tm.wbl (.first x1 : Tm) w)).reverse ++ qs), ?_, ((Tm.inn (.first x1 : Tm)).map fun x => (x, Tm.wbl (.first x1 : Tm) w)).reverse ++ qs, fs, _, _, _, rfl, ?_, ?_, ?_, rfl⟩
      . have := Tm.sz_inns (.first x1 : Tm)
        rw [<- List.map_reverse, bIq, List.map_reverse, List.sum_reverse]; simp only []; omega
      . congr 2
        simp [List.map_map, Function.comp_def]
      . rw [<- hfs, List.flatMap_append, <- List.map_reverse, List.flatMap_map]; congr 2; exact (Tm.nmsR_inn (t := (.first x1 : Tm)) rfl w).symm
      . have := Tm.sz_inns (.first x1 : Tm)
        rw [<- List.map_reverse, bIq, List.map_reverse, List.sum_reverse]; simp only [] at hsz; omega
    | second x1 =>
      refine ⟨fun c => absurd c (by decide), fun _ => ?_⟩
      refine ⟨(.second x1 : Tm), w, rfl, aAq a2q trivial, (.second x1 : Tm), rfl, ?_⟩
      refine bBq (Tm.inn (.second x1 : Tm)) Tm.enc (fun x => e2D (x, Tm.wbl (.second x1 : Tm) w)) rfl (aEq (by have := Tm.inn_len (.second x1 : Tm); omega)) trivial (fun x _ R hR => hR) (fun p hp => ?_)
      have np : b ≠ p := by rintro rfl; rw [a2q] at hp; cases hp
      refine aBq (by rw [a9q np]; exact a2q) (aBq a2q ⟨bTq (by have := Tm.inn_len (.second x1 : Tm); simp only [List.length_map, List.length_reverse]; omega), ?_⟩)
      refine ⟨_, up (up G a (.lst (fs.map prD))) b (.lst (qs.reverse.map e2D ++ (Tm.inn (.second x1 : Tm)).map fun x => e2D (x, Tm.wbl (.second x1 : Tm) w))), .refl _, Sub.put (Sub.trans (Sub.new (Sub.refl _) (by rw [a9q hne]; exact hb0)) (Sub.new (Sub.refl _) hp)), sz2 (((Tm.inn (.second x1 : Tm)).map fun x => (x, Tm.wbl (.second x1 : Tm) w)).reverse ++ qs), ?_, ((Tm.inn (.second x1 : Tm)).map fun x => (x, Tm.wbl (.second x1 : Tm) w)).reverse ++ qs, fs, _, _, _, rfl, ?_, ?_, ?_, rfl⟩
      . have := Tm.sz_inns (.second x1 : Tm)
        rw [<- List.map_reverse, bIq, List.map_reverse, List.sum_reverse]; simp only []; omega
      . congr 2
        simp [List.map_map, Function.comp_def]
      . rw [<- hfs, List.flatMap_append, <- List.map_reverse, List.flatMap_map]; congr 2; exact (Tm.nmsR_inn (t := (.second x1 : Tm)) rfl w).symm
      . have := Tm.sz_inns (.second x1 : Tm)
        rw [<- List.map_reverse, bIq, List.map_reverse, List.sum_reverse]; simp only [] at hsz; omega
    | plus x1 x2 =>
      refine ⟨fun c => absurd c (by decide), fun _ => ?_⟩
      refine ⟨(.plus x1 x2 : Tm), w, rfl, aAq a2q trivial, (.plus x1 x2 : Tm), rfl, ?_⟩
      refine bBq (Tm.inn (.plus x1 x2 : Tm)) Tm.enc (fun x => e2D (x, Tm.wbl (.plus x1 x2 : Tm) w)) rfl (aEq (by have := Tm.inn_len (.plus x1 x2 : Tm); omega)) trivial (fun x _ R hR => hR) (fun p hp => ?_)
      have np : b ≠ p := by rintro rfl; rw [a2q] at hp; cases hp
      refine aBq (by rw [a9q np]; exact a2q) (aBq a2q ⟨bTq (by have := Tm.inn_len (.plus x1 x2 : Tm); simp only [List.length_map, List.length_reverse]; omega), ?_⟩)
      refine ⟨_, up (up G a (.lst (fs.map prD))) b (.lst (qs.reverse.map e2D ++ (Tm.inn (.plus x1 x2 : Tm)).map fun x => e2D (x, Tm.wbl (.plus x1 x2 : Tm) w))), .refl _, Sub.put (Sub.trans (Sub.new (Sub.refl _) (by rw [a9q hne]; exact hb0)) (Sub.new (Sub.refl _) hp)), sz2 (((Tm.inn (.plus x1 x2 : Tm)).map fun x => (x, Tm.wbl (.plus x1 x2 : Tm) w)).reverse ++ qs), ?_, ((Tm.inn (.plus x1 x2 : Tm)).map fun x => (x, Tm.wbl (.plus x1 x2 : Tm) w)).reverse ++ qs, fs, _, _, _, rfl, ?_, ?_, ?_, rfl⟩
      . have := Tm.sz_inns (.plus x1 x2 : Tm)
        rw [<- List.map_reverse, bIq, List.map_reverse, List.sum_reverse]; simp only []; omega
      . congr 2
        simp [List.map_map, Function.comp_def]
      . rw [<- hfs, List.flatMap_append, <- List.map_reverse, List.flatMap_map]; congr 2; exact (Tm.nmsR_inn (t := (.plus x1 x2 : Tm)) rfl w).symm
      . have := Tm.sz_inns (.plus x1 x2 : Tm)
        rw [<- List.map_reverse, bIq, List.map_reverse, List.sum_reverse]; simp only [] at hsz; omega
    | look x1 x2 x3 =>
      refine ⟨fun c => absurd c (by decide), fun _ => ?_⟩
      refine ⟨(.look x1 x2 x3 : Tm), w, rfl, aAq a2q trivial, (.look x1 x2 x3 : Tm), rfl, ?_⟩
      refine bBq (Tm.inn (.look x1 x2 x3 : Tm)) Tm.enc (fun x => e2D (x, Tm.wbl (.look x1 x2 x3 : Tm) w)) rfl (aEq (by have := Tm.inn_len (.look x1 x2 x3 : Tm); omega)) trivial (fun x _ R hR => hR) (fun p hp => ?_)
      have np : b ≠ p := by rintro rfl; rw [a2q] at hp; cases hp
      refine aBq (by rw [a9q np]; exact a2q) (aBq a2q ⟨bTq (by have := Tm.inn_len (.look x1 x2 x3 : Tm); simp only [List.length_map, List.length_reverse]; omega), ?_⟩)
      refine ⟨_, up (up G a (.lst (fs.map prD))) b (.lst (qs.reverse.map e2D ++ (Tm.inn (.look x1 x2 x3 : Tm)).map fun x => e2D (x, Tm.wbl (.look x1 x2 x3 : Tm) w))), .refl _, Sub.put (Sub.trans (Sub.new (Sub.refl _) (by rw [a9q hne]; exact hb0)) (Sub.new (Sub.refl _) hp)), sz2 (((Tm.inn (.look x1 x2 x3 : Tm)).map fun x => (x, Tm.wbl (.look x1 x2 x3 : Tm) w)).reverse ++ qs), ?_, ((Tm.inn (.look x1 x2 x3 : Tm)).map fun x => (x, Tm.wbl (.look x1 x2 x3 : Tm) w)).reverse ++ qs, fs, _, _, _, rfl, ?_, ?_, ?_, rfl⟩
      . have := Tm.sz_inns (.look x1 x2 x3 : Tm)
        rw [<- List.map_reverse, bIq, List.map_reverse, List.sum_reverse]; simp only []; omega
      . congr 2
        simp [List.map_map, Function.comp_def]
      . rw [<- hfs, List.flatMap_append, <- List.map_reverse, List.flatMap_map]; congr 2; exact (Tm.nmsR_inn (t := (.look x1 x2 x3 : Tm)) rfl w).symm
      . have := Tm.sz_inns (.look x1 x2 x3 : Tm)
        rw [<- List.map_reverse, bIq, List.map_reverse, List.sum_reverse]; simp only [] at hsz; omega
  . have e : ps = [] := by
      cases ps with
      | nil => rfl
      | cons _ _ => simp at c
    subst e
    have e2 : fs = t.nmsR 0 := by simpa using hfs
    subst e2
    exact ⟨up G a (.lst ((t.nmsR 0).map prD)), Sub.new (Sub.refl _) (by rw [a9q hne]; exact hb0), q a ha⟩
abbrev d4q : Stmt := top 5
theorem sc_withn : FnScope ["program", "change", "made", "pending", "entry", "one", "inners", "below"] ["program", "change"] (a3q d4q) := ⟨rfl, rfl, rfl, by decide +kernel, rfl, by decide +kernel, by decide +kernel⟩
theorem q2q {k0 : Nat} (B : Blt mg) (g_inner : Got P w K mg base 1 "inner" ["program"] (aWq K (pPq Tm.enc Tm.inn))) (g_wbelow : Got P w K mg base 1 "ways_below" ["program", "ways"] (aWq K hNq)) (F : Fun K "with_names" "with_names" d4q f fd) : FnOk P w K mg base CX0 (k0 + 2) f fd ["program", "change"] (aWq K (nAq P w K mg base k0)) := by
  refine okD (k := k0 + 1) F sc_withn (fun ds G DQ h => ?_) (fun cdv A outer s H E hr ds G DQ h => ?_)
  . obtain ⟨_, _, _, _, _, _, _, _, _, _, _, rfl, _⟩ := h; rfl
  obtain ⟨t, fc, name, qual, st0, fr, vals, ps, φ, C, L, rfl, hf, C_change, hL, hz, hC, q⟩ := h
  refine ⟨_, (a7q (aZq (k := 2) sc_withn.nd rfl (Or.inr rfl) (eQq a5q))
      (a7q (aZq (k := 3) sc_withn.nd rfl (Or.inl rfl) (eQq (a0q (aRq (a0q (a1q 0) (a0q a4q (a0q dVq a5q)))) a5q)))
      (a7q (hOq PassesOwn.never (b7q (a1q 3)) (a7q (aZq (k := 4) sc_withn.nd rfl (Or.inl rfl) (h9q PySem.F.plainAttrs_list PySem.F.slot_list_pop PySem.F.type_list_pop fAq (a1q 3)))
      (a7q (aZq (k := 5) sc_withn.nd rfl (Or.inl rfl) (aMq aix (a1q 4) a4q (fun _ _ => rfl)))
      (a8q (bDq (aUq (bEq (bXq hr)) (aMq aix (a1q 5) a4q (fun _ _ => rfl)) aJq (aPq _)) (a8q (bOq (eEq PySem.F.plainAttrs_list PySem.F.slot_list_append PySem.F.type_list_append bSq (a1q 2) (a0q (y0q 1 C_change hr (by omega) (a0q (aMq aix (a1q 5) a4q (fun _ _ => rfl)) (a0q (aMq aix (a1q 4) a4q (fun _ _ => rfl)) a5q))) a5q)))) (a8q (bDq (aUq (bEq (bXq hr)) (aMq aix (a1q 5) a4q (fun _ _ => rfl)) aJq (aPq _)) (a8q (bOq (eEq PySem.F.plainAttrs_list PySem.F.slot_list_append PySem.F.type_list_append bSq (a1q 2) (a0q (a1q 5) a5q)))) (a8q (bDq (b7q (aMq aix (a1q 4) a4q (fun _ _ => rfl))) (a7q (d2q (k := 6) rfl sc_withn.nd rfl (Or.inl rfl) (CompOk.of (N' := ["part", "made"]) (nt := 1) (cap := [2]) rfl (by kernel_rfl)) (bLq (k := 0) (by decide)) (eNq (b5q g_inner hr (by omega) rfl (a0q (a1q 5) a5q))) (fun _ _ _ _ => (bFq (k := 0) (show List.Nodup (["part", "made"] : List Str) by decide +kernel) rfl (Or.inl rfl)))  (fun _ _ _ _ => (h9q PySem.F.plainAttrs_list PySem.F.slot_list_pop PySem.F.type_list_pop fAq (a1q 1))))
      (a8q (bOq (eEq PySem.F.plainAttrs_list PySem.F.slot_list_append PySem.F.type_list_append bSq (a1q 2) (a0q (bCq bNq (aRq (a0q (aMq aix (a1q 5) a4q (fun _ _ => rfl)) a5q)) (eRq e5q rfl B.tuple PyProof.Rows.boot_tuple (a0q (a1q 6) a5q))) a5q))))) (a7q (bOq (eEq PySem.F.plainAttrs_list PySem.F.slot_list_append PySem.F.type_list_append bSq (a1q 3) (a0q (aRq (a0q (a1q 5) (a0q (aMq aix (a1q 4) a4q (fun _ _ => rfl)) (a0q dVq a5q)))) a5q)))
      (a7q (aZq (k := 7) sc_withn.nd rfl (Or.inr rfl) (b5q g_wbelow hr (by omega) rfl (a0q (a1q 5) (a0q (aMq aix (a1q 4) a4q (fun _ _ => rfl)) a5q))))
      (a8q (bOq (eEq PySem.F.plainAttrs_list PySem.F.slot_list_extend PySem.F.type_list_extend f2q (a1q 3) (a0q (nMq rfl (CompOk.of (N' := ["part", "below"]) (nt := 1) (cap := [7]) rfl (by kernel_rfl)) (bLq (k := 0) (by decide)) (eNq (b5q g_inner hr (by omega) rfl (a0q (a1q 5) a5q))) (fun _ _ _ _ => (bFq (k := 0) (show List.Nodup (["part", "below"] : List Str) by decide +kernel) rfl (Or.inl rfl))) (fun _ _ _ _ => (aRq (a0q (a1q 0) (a0q (a1q 1) (a0q dVq a5q)))))) a5q)))))))))))))))
      (a8q (aLq (h9q PySem.F.plainAttrs_list PySem.F.slot_list_pop PySem.F.type_list_pop fAq (a1q 2))))))), ?_⟩
  intro a ha b hb
  obtain ⟨-, hb0, hne⟩ := hAq (o := .lst []) hb
  have nfa : fc ≠ a := by rintro rfl; rw [hf] at ha; cases ha
  have nfb : fc ≠ b := by rintro rfl; rw [hf] at hb0; cases hb0
  refine ⟨fun μ ρ G' => ∃ (st : List Ent) (m : List Tm) (o4 o5 o6 o7 : Option D), ρ = [some t.enc, some (.ref fc), some (.ref a), some (.ref b), o4, o5, o6, o7] /\ G' = up (up G a (.lst (m.reverse.map Tm.enc))) b (.lst (st.reverse.map cWq)) /\ j0q φ st m = some [t.mapN φ 0] /\ (∀ z ∈ st, (z.2.2 = false \/ z.1.leaf = true) -> ∀ y ∈ z.1.nmsR z.2.1, C y.1 y.2) /\ m.length + wtS st <= 2 * t.sz /\ μ = wtS st,
    ⟨_, [(t, 0, false)], [], _, _, _, _, rfl, rfl, by simp [j0q, gCq], by intro z hz _; simp at hz; subst hz; exact hC, by simp [wtS, wtE], rfl⟩, ?_⟩
  rintro μ ρ G' ⟨st, m, o4, o5, o6, o7, rfl, rfl, heff, hnm, hsz, rfl⟩
  refine aAq a2q ⟨fun c => ?_, fun c => ?_⟩
  . obtain ⟨u, w, fl, qs, rfl⟩ : ∃ u w fl qs, st = (u, w, fl) :: qs := by
      cases st with
      | nil => simp at c
      | cons z qs => exact ⟨z.1, z.2.1, z.2.2, qs, rfl⟩
    rw [cDq] at hsz ⊢
    have hql := mYq qs
    have hnq : ∀ z ∈ qs, (z.2.2 = false \/ z.1.leaf = true) -> ∀ y ∈ z.1.nmsR z.2.1, C y.1 y.2 := fun z hz => hnm z (List.mem_cons_of_mem _ hz)
    have hnu := hnm (u, w, fl) (List.mem_cons_self ..)
    refine ⟨aAq a2q trivial, aBq a2q ⟨qs.reverse.map cWq, cWq (u, w, fl), by simp, ?_⟩⟩
    rw [c1q]
    have ha1 : ∀ (o : DO) (ds : List D), up (up G a (.lst ds)) b o a = some (.lst ds) := fun o ds => by rw [a9q (Ne.symm hne)]; exact a2q
    have hf1 : ∀ (o p : DO), up (up G a o) b p fc = some (.clo name qual st0 fr vals) := fun o p => by rw [a9q nfb, a9q nfa]; exact hf
    have hL1 : ∀ (o p : DO), ∀ q ∈ L, up (up G a o) b p q.1 = some q.2 := fun o p q hq => by
      rw [a9q (by rintro e; rw [<- e, hL q hq] at hb0; cases hb0), a9q (by rintro e; rw [<- e, hL q hq] at ha; cases ha)]; exact hL q hq
    have hw1 : 1 <= wtE (u, w, fl) := by have := u.sz_pos; show 1 <= (if fl = true then 1 else 2 * u.sz); split <;> omega
    cases u with
    | name k =>
      refine ⟨fun _ => ?_, fun c => absurd c (by decide)⟩
      have hfl : m.length + 1 <= 2 * t.sz := by omega
      refine ⟨aAq (ha1 _ _) trivial, fc, rfl, hf1 _ _, hf1 _ _, k, w, rfl, ?_, hL1 _ _, aBq (ha1 _ _) ⟨aEq (by simp only [List.length_map, List.length_reverse]; omega), ?_⟩⟩
      . exact hnu (.inr rfl) (k, w) (List.mem_cons_self ..)
      rw [up3 hne]
      exact Wk.of ⟨wtS qs, by omega, qs, φ k w :: m, _, _, _, _, rfl, by simp, heff, hnq, by simp only [List.length_cons]; omega, rfl⟩
    | whole k =>
      refine ⟨fun c => absurd c (by decide), fun _ => ⟨fun _ => ?_, fun c => absurd c (by decide)⟩⟩
      refine ⟨aAq (ha1 _ _) trivial, aBq (ha1 _ _) ⟨aEq (by simp only [List.length_map, List.length_reverse]; omega), ?_⟩⟩
      rw [up3 hne]
      exact Wk.of ⟨wtS qs, by omega, qs, .whole k :: m, _, _, _, _, rfl, by simp, heff, hnq, by simp only [List.length_cons]; omega, rfl⟩
    | way x1 =>
      refine ⟨fun c => absurd c (by decide), fun _ => ⟨fun c => absurd c (by decide), fun _ => ?_⟩⟩
      have hil := Tm.inn_len (.way x1 : Tm)
      cases fl with
      | true =>
        refine ⟨fun _ => ?_, nofun⟩
        rw [j0q, cXq (t := (.way x1 : Tm)) rfl] at heff
        have hk : (Tm.inn (.way x1 : Tm)).length <= m.length := by
          rcases Nat.lt_or_ge m.length (Tm.inn (.way x1 : Tm)).length with z | z
          . rw [if_neg (by omega)] at heff; cases heff
          . exact z
        rw [if_pos hk] at heff
        simp only [] at heff
        generalize hkk : (Tm.inn (.way x1 : Tm)).length = kk at hk heff hil
        refine ⟨(.way x1 : Tm), rfl, cIq (fun i ds G' => ds = (m.take i).map Tm.enc /\ i <= kk /\ G' = up (up G a (.lst ((m.drop i).reverse.map Tm.enc))) b (.lst (qs.reverse.map cWq))) ?_ ⟨rfl, Nat.zero_le _, by rw [List.drop_zero]⟩ (fun _ _ _ _ _ => trivial) ?_ ?_⟩
        . show ((Tm.inn (.way x1 : Tm)).map Tm.enc).length < sizeLine
          rw [List.length_map, hkk]; exact aEq (by omega)
        . rintro i d ds G' hd ⟨rfl, hi, rfl⟩
          have hi' : i < kk := by
            have z := (List.getElem?_eq_some_iff.mp hd).1
            have z' : i < ((Tm.inn (.way x1 : Tm)).map Tm.enc).length := z
            rw [List.length_map, hkk] at z'; exact z'
          have hx : m.drop i = m[i] :: m.drop (i + 1) := List.drop_eq_getElem_cons (by omega)
          refine ⟨aAq (ha1 _ _) trivial, aBq (ha1 _ _) ⟨(m.drop (i + 1)).reverse.map Tm.enc, (m[i]'(by omega)).enc, by rw [hx, List.reverse_cons, List.map_append]; rfl, ?_⟩⟩
          rw [up3 hne]
          refine WkV.of ⟨?_, by omega, rfl⟩
          rw [List.take_add_one, List.getElem?_eq_getElem (by omega), Option.toList_some, List.map_append]; rfl
        . rintro ds G' ⟨rfl, _, rfl⟩ p hp
          have eL : List.length (List.map Tm.enc (Tm.inn (.way x1 : Tm))) = kk := by rw [List.length_map]; exact hkk
          rw [show (⟨List.map Tm.enc (Tm.inn (.way x1 : Tm)), _⟩ : DIt).items.length = kk from eL] at hp ⊢
          have npa : a ≠ p := by rintro rfl; rw [ha1] at hp; cases hp
          refine ⟨aAq (by rw [a9q npa]; exact ha1 _ _) trivial, aAq a2q ⟨bTq (by simp only [List.length_map, List.length_take, List.length_cons, List.length_nil]; omega), aBq (by rw [a9q npa]; exact ha1 _ _) ⟨aEq (by simp only [List.length_map, List.length_reverse, List.length_drop]; omega), ?_⟩⟩⟩
          refine ⟨_, up (up G a (.lst ((m.drop kk).reverse.map Tm.enc ++ [.tup (.str (Tm.word (.way x1 : Tm)) :: (m.take kk).map Tm.enc)]))) b (.lst (qs.reverse.map cWq)), .refl _, ?_, wtS qs, by omega, qs, Tm.rebuild (.way x1 : Tm) (m.take kk) :: m.drop kk, _, _, _, _, rfl, ?_, heff, hnq, ?_, rfl⟩
          . rw [<- up3 (x := .lst ((m.drop kk).reverse.map Tm.enc)) hne]
            exact Sub.put (Sub.new (Sub.refl _) hp)
          . congr 2
            rw [List.reverse_cons, List.map_append, List.map_cons, List.map_nil, Tm.enc_rebuild (t := (.way x1 : Tm)) rfl (by rw [List.length_take, hkk]; omega)]
          . simp only [List.length_cons, List.length_drop]; omega
      | false =>
        refine ⟨nofun, fun _ => ?_⟩
        have hss := Tm.sz_sum (t := (.way x1 : Tm)) rfl
        simp only [wtE, Bool.false_eq_true, if_false] at hsz
        refine ⟨aAq a2q trivial, aBq a2q ⟨aEq (by simp only [List.length_map, List.length_reverse]; omega), ?_⟩⟩
        rw [c1q]
        refine ⟨(.way x1 : Tm), w, rfl, aAq a2q trivial, (.way x1 : Tm), rfl, ?_⟩
        refine bBq (Tm.inn (.way x1 : Tm)) Tm.enc (fun x => cWq (x, Tm.wbl (.way x1 : Tm) w, false)) rfl (aEq (by omega)) trivial (fun x _ R hR => hR) (fun p hp => ?_)
        have np : b ≠ p := by rintro rfl; rw [a2q] at hp; cases hp
        refine aBq (by rw [a9q np]; exact a2q) (aBq a2q ⟨bTq (by simp only [List.length_map, List.length_reverse, List.length_append, List.length_cons, List.length_nil]; omega), ?_⟩)
        have hwt : wtS ((Tm.inn (.way x1 : Tm) |>.map fun x => ((x, Tm.wbl (.way x1 : Tm) w, false) : Ent)).reverse ++ ((.way x1 : Tm), w, true) :: qs) + 1 = 2 * Tm.sz (.way x1 : Tm) + wtS qs := by
          rw [<- List.map_reverse, dMq, List.map_reverse, List.sum_reverse, cDq]
          simp only [wtE, if_true]; omega
        refine ⟨_, up (up G a (.lst (m.reverse.map Tm.enc))) b (.lst (qs.reverse.map cWq ++ [cWq ((.way x1 : Tm), w, true)] ++ (Tm.inn (.way x1 : Tm)).map fun x => cWq (x, Tm.wbl (.way x1 : Tm) w, false))), .refl _, Sub.put (Sub.trans (Sub.new (Sub.refl _) (by rw [a9q hne]; exact hb0)) (Sub.new (Sub.refl _) hp)), _, ?_, (Tm.inn (.way x1 : Tm) |>.map fun x => ((x, Tm.wbl (.way x1 : Tm) w, false) : Ent)).reverse ++ ((.way x1 : Tm), w, true) :: qs, m, _, _, _, _, rfl, ?_, ?_, ?_, ?_, rfl⟩
        . simp only [wtE, Bool.false_eq_true, if_false]; omega
        . congr 2
          simp [List.map_map, Function.comp_def]
        . rw [cOq (t := (.way x1 : Tm)) rfl]; exact heff
        . intro z hz hz2 y hy
          rcases List.mem_append.mp hz with hz | hz
          . obtain ⟨x, hx, rfl⟩ := List.mem_map.mp (List.mem_reverse.mp hz)
            exact hnu (.inl rfl) y (Tm.nmsR_mem (t := (.way x1 : Tm)) rfl hx hy)
          . rcases List.mem_cons.mp hz with rfl | hz
            . rcases hz2 with z | z <;> cases z
            . exact hnq z hz hz2 y hy
        . omega
    | give x1 x2 =>
      refine ⟨fun c => absurd c (by decide), fun _ => ⟨fun c => absurd c (by decide), fun _ => ?_⟩⟩
      have hil := Tm.inn_len (.give x1 x2 : Tm)
      cases fl with
      | true =>
        refine ⟨fun _ => ?_, nofun⟩
        rw [j0q, cXq (t := (.give x1 x2 : Tm)) rfl] at heff
        have hk : (Tm.inn (.give x1 x2 : Tm)).length <= m.length := by
          rcases Nat.lt_or_ge m.length (Tm.inn (.give x1 x2 : Tm)).length with z | z
          . rw [if_neg (by omega)] at heff; cases heff
          . exact z
        rw [if_pos hk] at heff
        simp only [] at heff
        generalize hkk : (Tm.inn (.give x1 x2 : Tm)).length = kk at hk heff hil
        refine ⟨(.give x1 x2 : Tm), rfl, cIq (fun i ds G' => ds = (m.take i).map Tm.enc /\ i <= kk /\ G' = up (up G a (.lst ((m.drop i).reverse.map Tm.enc))) b (.lst (qs.reverse.map cWq))) ?_ ⟨rfl, Nat.zero_le _, by rw [List.drop_zero]⟩ (fun _ _ _ _ _ => trivial) ?_ ?_⟩
        . show ((Tm.inn (.give x1 x2 : Tm)).map Tm.enc).length < sizeLine
          rw [List.length_map, hkk]; exact aEq (by omega)
        . rintro i d ds G' hd ⟨rfl, hi, rfl⟩
          have hi' : i < kk := by
            have z := (List.getElem?_eq_some_iff.mp hd).1
            have z' : i < ((Tm.inn (.give x1 x2 : Tm)).map Tm.enc).length := z
            rw [List.length_map, hkk] at z'; exact z'
          have hx : m.drop i = m[i] :: m.drop (i + 1) := List.drop_eq_getElem_cons (by omega)
          refine ⟨aAq (ha1 _ _) trivial, aBq (ha1 _ _) ⟨(m.drop (i + 1)).reverse.map Tm.enc, (m[i]'(by omega)).enc, by rw [hx, List.reverse_cons, List.map_append]; rfl, ?_⟩⟩
          rw [up3 hne]
          refine WkV.of ⟨?_, by omega, rfl⟩
          rw [List.take_add_one, List.getElem?_eq_getElem (by omega), Option.toList_some, List.map_append]; rfl
        . rintro ds G' ⟨rfl, _, rfl⟩ p hp
          have eL : List.length (List.map Tm.enc (Tm.inn (.give x1 x2 : Tm))) = kk := by rw [List.length_map]; exact hkk
          rw [show (⟨List.map Tm.enc (Tm.inn (.give x1 x2 : Tm)), _⟩ : DIt).items.length = kk from eL] at hp ⊢
          have npa : a ≠ p := by rintro rfl; rw [ha1] at hp; cases hp
          refine ⟨aAq (by rw [a9q npa]; exact ha1 _ _) trivial, aAq a2q ⟨bTq (by simp only [List.length_map, List.length_take, List.length_cons, List.length_nil]; omega), aBq (by rw [a9q npa]; exact ha1 _ _) ⟨aEq (by simp only [List.length_map, List.length_reverse, List.length_drop]; omega), ?_⟩⟩⟩
          refine ⟨_, up (up G a (.lst ((m.drop kk).reverse.map Tm.enc ++ [.tup (.str (Tm.word (.give x1 x2 : Tm)) :: (m.take kk).map Tm.enc)]))) b (.lst (qs.reverse.map cWq)), .refl _, ?_, wtS qs, by omega, qs, Tm.rebuild (.give x1 x2 : Tm) (m.take kk) :: m.drop kk, _, _, _, _, rfl, ?_, heff, hnq, ?_, rfl⟩
          . rw [<- up3 (x := .lst ((m.drop kk).reverse.map Tm.enc)) hne]
            exact Sub.put (Sub.new (Sub.refl _) hp)
          . congr 2
            rw [List.reverse_cons, List.map_append, List.map_cons, List.map_nil, Tm.enc_rebuild (t := (.give x1 x2 : Tm)) rfl (by rw [List.length_take, hkk]; omega)]
          . simp only [List.length_cons, List.length_drop]; omega
      | false =>
        refine ⟨nofun, fun _ => ?_⟩
        have hss := Tm.sz_sum (t := (.give x1 x2 : Tm)) rfl
        simp only [wtE, Bool.false_eq_true, if_false] at hsz
        refine ⟨aAq a2q trivial, aBq a2q ⟨aEq (by simp only [List.length_map, List.length_reverse]; omega), ?_⟩⟩
        rw [c1q]
        refine ⟨(.give x1 x2 : Tm), w, rfl, aAq a2q trivial, (.give x1 x2 : Tm), rfl, ?_⟩
        refine bBq (Tm.inn (.give x1 x2 : Tm)) Tm.enc (fun x => cWq (x, Tm.wbl (.give x1 x2 : Tm) w, false)) rfl (aEq (by omega)) trivial (fun x _ R hR => hR) (fun p hp => ?_)
        have np : b ≠ p := by rintro rfl; rw [a2q] at hp; cases hp
        refine aBq (by rw [a9q np]; exact a2q) (aBq a2q ⟨bTq (by simp only [List.length_map, List.length_reverse, List.length_append, List.length_cons, List.length_nil]; omega), ?_⟩)
        have hwt : wtS ((Tm.inn (.give x1 x2 : Tm) |>.map fun x => ((x, Tm.wbl (.give x1 x2 : Tm) w, false) : Ent)).reverse ++ ((.give x1 x2 : Tm), w, true) :: qs) + 1 = 2 * Tm.sz (.give x1 x2 : Tm) + wtS qs := by
          rw [<- List.map_reverse, dMq, List.map_reverse, List.sum_reverse, cDq]
          simp only [wtE, if_true]; omega
        refine ⟨_, up (up G a (.lst (m.reverse.map Tm.enc))) b (.lst (qs.reverse.map cWq ++ [cWq ((.give x1 x2 : Tm), w, true)] ++ (Tm.inn (.give x1 x2 : Tm)).map fun x => cWq (x, Tm.wbl (.give x1 x2 : Tm) w, false))), .refl _, Sub.put (Sub.trans (Sub.new (Sub.refl _) (by rw [a9q hne]; exact hb0)) (Sub.new (Sub.refl _) hp)), _, ?_, (Tm.inn (.give x1 x2 : Tm) |>.map fun x => ((x, Tm.wbl (.give x1 x2 : Tm) w, false) : Ent)).reverse ++ ((.give x1 x2 : Tm), w, true) :: qs, m, _, _, _, _, rfl, ?_, ?_, ?_, ?_, rfl⟩
        . simp only [wtE, Bool.false_eq_true, if_false]; omega
        . congr 2
          simp [List.map_map, Function.comp_def]
        . rw [cOq (t := (.give x1 x2 : Tm)) rfl]; exact heff
        . intro z hz hz2 y hy
          rcases List.mem_append.mp hz with hz | hz
          . obtain ⟨x, hx, rfl⟩ := List.mem_map.mp (List.mem_reverse.mp hz)
            exact hnu (.inl rfl) y (Tm.nmsR_mem (t := (.give x1 x2 : Tm)) rfl hx hy)
          . rcases List.mem_cons.mp hz with rfl | hz
            . rcases hz2 with z | z <;> cases z
            . exact hnq z hz hz2 y hy
        . omega
    | pair x1 x2 =>
      refine ⟨fun c => absurd c (by decide), fun _ => ⟨fun c => absurd c (by decide), fun _ => ?_⟩⟩
      have hil := Tm.inn_len (.pair x1 x2 : Tm)
      cases fl with
      | true =>
        refine ⟨fun _ => ?_, nofun⟩
        rw [j0q, cXq (t := (.pair x1 x2 : Tm)) rfl] at heff
        have hk : (Tm.inn (.pair x1 x2 : Tm)).length <= m.length := by
          rcases Nat.lt_or_ge m.length (Tm.inn (.pair x1 x2 : Tm)).length with z | z
          . rw [if_neg (by omega)] at heff; cases heff
          . exact z
        rw [if_pos hk] at heff
        simp only [] at heff
        generalize hkk : (Tm.inn (.pair x1 x2 : Tm)).length = kk at hk heff hil
        refine ⟨(.pair x1 x2 : Tm), rfl, cIq (fun i ds G' => ds = (m.take i).map Tm.enc /\ i <= kk /\ G' = up (up G a (.lst ((m.drop i).reverse.map Tm.enc))) b (.lst (qs.reverse.map cWq))) ?_ ⟨rfl, Nat.zero_le _, by rw [List.drop_zero]⟩ (fun _ _ _ _ _ => trivial) ?_ ?_⟩
        . show ((Tm.inn (.pair x1 x2 : Tm)).map Tm.enc).length < sizeLine
          rw [List.length_map, hkk]; exact aEq (by omega)
        . rintro i d ds G' hd ⟨rfl, hi, rfl⟩
          have hi' : i < kk := by
            have z := (List.getElem?_eq_some_iff.mp hd).1
            have z' : i < ((Tm.inn (.pair x1 x2 : Tm)).map Tm.enc).length := z
            rw [List.length_map, hkk] at z'; exact z'
          have hx : m.drop i = m[i] :: m.drop (i + 1) := List.drop_eq_getElem_cons (by omega)
          refine ⟨aAq (ha1 _ _) trivial, aBq (ha1 _ _) ⟨(m.drop (i + 1)).reverse.map Tm.enc, (m[i]'(by omega)).enc, by rw [hx, List.reverse_cons, List.map_append]; rfl, ?_⟩⟩
          rw [up3 hne]
          refine WkV.of ⟨?_, by omega, rfl⟩
          rw [List.take_add_one, List.getElem?_eq_getElem (by omega), Option.toList_some, List.map_append]; rfl
        . rintro ds G' ⟨rfl, _, rfl⟩ p hp
          have eL : List.length (List.map Tm.enc (Tm.inn (.pair x1 x2 : Tm))) = kk := by rw [List.length_map]; exact hkk
          rw [show (⟨List.map Tm.enc (Tm.inn (.pair x1 x2 : Tm)), _⟩ : DIt).items.length = kk from eL] at hp ⊢
          have npa : a ≠ p := by rintro rfl; rw [ha1] at hp; cases hp
          refine ⟨aAq (by rw [a9q npa]; exact ha1 _ _) trivial, aAq a2q ⟨bTq (by simp only [List.length_map, List.length_take, List.length_cons, List.length_nil]; omega), aBq (by rw [a9q npa]; exact ha1 _ _) ⟨aEq (by simp only [List.length_map, List.length_reverse, List.length_drop]; omega), ?_⟩⟩⟩
          refine ⟨_, up (up G a (.lst ((m.drop kk).reverse.map Tm.enc ++ [.tup (.str (Tm.word (.pair x1 x2 : Tm)) :: (m.take kk).map Tm.enc)]))) b (.lst (qs.reverse.map cWq)), .refl _, ?_, wtS qs, by omega, qs, Tm.rebuild (.pair x1 x2 : Tm) (m.take kk) :: m.drop kk, _, _, _, _, rfl, ?_, heff, hnq, ?_, rfl⟩
          . rw [<- up3 (x := .lst ((m.drop kk).reverse.map Tm.enc)) hne]
            exact Sub.put (Sub.new (Sub.refl _) hp)
          . congr 2
            rw [List.reverse_cons, List.map_append, List.map_cons, List.map_nil, Tm.enc_rebuild (t := (.pair x1 x2 : Tm)) rfl (by rw [List.length_take, hkk]; omega)]
          . simp only [List.length_cons, List.length_drop]; omega
      | false =>
        refine ⟨nofun, fun _ => ?_⟩
        have hss := Tm.sz_sum (t := (.pair x1 x2 : Tm)) rfl
        simp only [wtE, Bool.false_eq_true, if_false] at hsz
        refine ⟨aAq a2q trivial, aBq a2q ⟨aEq (by simp only [List.length_map, List.length_reverse]; omega), ?_⟩⟩
        rw [c1q]
        refine ⟨(.pair x1 x2 : Tm), w, rfl, aAq a2q trivial, (.pair x1 x2 : Tm), rfl, ?_⟩
        refine bBq (Tm.inn (.pair x1 x2 : Tm)) Tm.enc (fun x => cWq (x, Tm.wbl (.pair x1 x2 : Tm) w, false)) rfl (aEq (by omega)) trivial (fun x _ R hR => hR) (fun p hp => ?_)
        have np : b ≠ p := by rintro rfl; rw [a2q] at hp; cases hp
        refine aBq (by rw [a9q np]; exact a2q) (aBq a2q ⟨bTq (by simp only [List.length_map, List.length_reverse, List.length_append, List.length_cons, List.length_nil]; omega), ?_⟩)
        have hwt : wtS ((Tm.inn (.pair x1 x2 : Tm) |>.map fun x => ((x, Tm.wbl (.pair x1 x2 : Tm) w, false) : Ent)).reverse ++ ((.pair x1 x2 : Tm), w, true) :: qs) + 1 = 2 * Tm.sz (.pair x1 x2 : Tm) + wtS qs := by
          rw [<- List.map_reverse, dMq, List.map_reverse, List.sum_reverse, cDq]
          simp only [wtE, if_true]; omega
        refine ⟨_, up (up G a (.lst (m.reverse.map Tm.enc))) b (.lst (qs.reverse.map cWq ++ [cWq ((.pair x1 x2 : Tm), w, true)] ++ (Tm.inn (.pair x1 x2 : Tm)).map fun x => cWq (x, Tm.wbl (.pair x1 x2 : Tm) w, false))), .refl _, Sub.put (Sub.trans (Sub.new (Sub.refl _) (by rw [a9q hne]; exact hb0)) (Sub.new (Sub.refl _) hp)), _, ?_, (Tm.inn (.pair x1 x2 : Tm) |>.map fun x => ((x, Tm.wbl (.pair x1 x2 : Tm) w, false) : Ent)).reverse ++ ((.pair x1 x2 : Tm), w, true) :: qs, m, _, _, _, _, rfl, ?_, ?_, ?_, ?_, rfl⟩
        . simp only [wtE, Bool.false_eq_true, if_false]; omega
        . congr 2
          simp [List.map_map, Function.comp_def]
        . rw [cOq (t := (.pair x1 x2 : Tm)) rfl]; exact heff
        . intro z hz hz2 y hy
          rcases List.mem_append.mp hz with hz | hz
          . obtain ⟨x, hx, rfl⟩ := List.mem_map.mp (List.mem_reverse.mp hz)
            exact hnu (.inl rfl) y (Tm.nmsR_mem (t := (.pair x1 x2 : Tm)) rfl hx hy)
          . rcases List.mem_cons.mp hz with rfl | hz
            . rcases hz2 with z | z <;> cases z
            . exact hnq z hz hz2 y hy
        . omega
    | first x1 =>
      refine ⟨fun c => absurd c (by decide), fun _ => ⟨fun c => absurd c (by decide), fun _ => ?_⟩⟩
      have hil := Tm.inn_len (.first x1 : Tm)
      cases fl with
      | true =>
        refine ⟨fun _ => ?_, nofun⟩
        rw [j0q, cXq (t := (.first x1 : Tm)) rfl] at heff
        have hk : (Tm.inn (.first x1 : Tm)).length <= m.length := by
          rcases Nat.lt_or_ge m.length (Tm.inn (.first x1 : Tm)).length with z | z
          . rw [if_neg (by omega)] at heff; cases heff
          . exact z
        rw [if_pos hk] at heff
        simp only [] at heff
        generalize hkk : (Tm.inn (.first x1 : Tm)).length = kk at hk heff hil
        refine ⟨(.first x1 : Tm), rfl, cIq (fun i ds G' => ds = (m.take i).map Tm.enc /\ i <= kk /\ G' = up (up G a (.lst ((m.drop i).reverse.map Tm.enc))) b (.lst (qs.reverse.map cWq))) ?_ ⟨rfl, Nat.zero_le _, by rw [List.drop_zero]⟩ (fun _ _ _ _ _ => trivial) ?_ ?_⟩
        . show ((Tm.inn (.first x1 : Tm)).map Tm.enc).length < sizeLine
          rw [List.length_map, hkk]; exact aEq (by omega)
        . rintro i d ds G' hd ⟨rfl, hi, rfl⟩
          have hi' : i < kk := by
            have z := (List.getElem?_eq_some_iff.mp hd).1
            have z' : i < ((Tm.inn (.first x1 : Tm)).map Tm.enc).length := z
            rw [List.length_map, hkk] at z'; exact z'
          have hx : m.drop i = m[i] :: m.drop (i + 1) := List.drop_eq_getElem_cons (by omega)
          refine ⟨aAq (ha1 _ _) trivial, aBq (ha1 _ _) ⟨(m.drop (i + 1)).reverse.map Tm.enc, (m[i]'(by omega)).enc, by rw [hx, List.reverse_cons, List.map_append]; rfl, ?_⟩⟩
          rw [up3 hne]
          refine WkV.of ⟨?_, by omega, rfl⟩
          rw [List.take_add_one, List.getElem?_eq_getElem (by omega), Option.toList_some, List.map_append]; rfl
        . rintro ds G' ⟨rfl, _, rfl⟩ p hp
          have eL : List.length (List.map Tm.enc (Tm.inn (.first x1 : Tm))) = kk := by rw [List.length_map]; exact hkk
          rw [show (⟨List.map Tm.enc (Tm.inn (.first x1 : Tm)), _⟩ : DIt).items.length = kk from eL] at hp ⊢
          have npa : a ≠ p := by rintro rfl; rw [ha1] at hp; cases hp
          refine ⟨aAq (by rw [a9q npa]; exact ha1 _ _) trivial, aAq a2q ⟨bTq (by simp only [List.length_map, List.length_take, List.length_cons, List.length_nil]; omega), aBq (by rw [a9q npa]; exact ha1 _ _) ⟨aEq (by simp only [List.length_map, List.length_reverse, List.length_drop]; omega), ?_⟩⟩⟩
          refine ⟨_, up (up G a (.lst ((m.drop kk).reverse.map Tm.enc ++ [.tup (.str (Tm.word (.first x1 : Tm)) :: (m.take kk).map Tm.enc)]))) b (.lst (qs.reverse.map cWq)), .refl _, ?_, wtS qs, by omega, qs, Tm.rebuild (.first x1 : Tm) (m.take kk) :: m.drop kk, _, _, _, _, rfl, ?_, heff, hnq, ?_, rfl⟩
          . rw [<- up3 (x := .lst ((m.drop kk).reverse.map Tm.enc)) hne]
            exact Sub.put (Sub.new (Sub.refl _) hp)
          . congr 2
            rw [List.reverse_cons, List.map_append, List.map_cons, List.map_nil, Tm.enc_rebuild (t := (.first x1 : Tm)) rfl (by rw [List.length_take, hkk]; omega)]
          . simp only [List.length_cons, List.length_drop]; omega
      | false =>
        refine ⟨nofun, fun _ => ?_⟩
        have hss := Tm.sz_sum (t := (.first x1 : Tm)) rfl
        simp only [wtE, Bool.false_eq_true, if_false] at hsz
        refine ⟨aAq a2q trivial, aBq a2q ⟨aEq (by simp only [List.length_map, List.length_reverse]; omega), ?_⟩⟩
        rw [c1q]
        refine ⟨(.first x1 : Tm), w, rfl, aAq a2q trivial, (.first x1 : Tm), rfl, ?_⟩
        refine bBq (Tm.inn (.first x1 : Tm)) Tm.enc (fun x => cWq (x, Tm.wbl (.first x1 : Tm) w, false)) rfl (aEq (by omega)) trivial (fun x _ R hR => hR) (fun p hp => ?_)
        have np : b ≠ p := by rintro rfl; rw [a2q] at hp; cases hp
        refine aBq (by rw [a9q np]; exact a2q) (aBq a2q ⟨bTq (by simp only [List.length_map, List.length_reverse, List.length_append, List.length_cons, List.length_nil]; omega), ?_⟩)
        have hwt : wtS ((Tm.inn (.first x1 : Tm) |>.map fun x => ((x, Tm.wbl (.first x1 : Tm) w, false) : Ent)).reverse ++ ((.first x1 : Tm), w, true) :: qs) + 1 = 2 * Tm.sz (.first x1 : Tm) + wtS qs := by
          rw [<- List.map_reverse, dMq, List.map_reverse, List.sum_reverse, cDq]
          simp only [wtE, if_true]; omega
        refine ⟨_, up (up G a (.lst (m.reverse.map Tm.enc))) b (.lst (qs.reverse.map cWq ++ [cWq ((.first x1 : Tm), w, true)] ++ (Tm.inn (.first x1 : Tm)).map fun x => cWq (x, Tm.wbl (.first x1 : Tm) w, false))), .refl _, Sub.put (Sub.trans (Sub.new (Sub.refl _) (by rw [a9q hne]; exact hb0)) (Sub.new (Sub.refl _) hp)), _, ?_, (Tm.inn (.first x1 : Tm) |>.map fun x => ((x, Tm.wbl (.first x1 : Tm) w, false) : Ent)).reverse ++ ((.first x1 : Tm), w, true) :: qs, m, _, _, _, _, rfl, ?_, ?_, ?_, ?_, rfl⟩
        . simp only [wtE, Bool.false_eq_true, if_false]; omega
        . congr 2
          simp [List.map_map, Function.comp_def]
        . rw [cOq (t := (.first x1 : Tm)) rfl]; exact heff
        . intro z hz hz2 y hy
          rcases List.mem_append.mp hz with hz | hz
          . obtain ⟨x, hx, rfl⟩ := List.mem_map.mp (List.mem_reverse.mp hz)
            exact hnu (.inl rfl) y (Tm.nmsR_mem (t := (.first x1 : Tm)) rfl hx hy)
          . rcases List.mem_cons.mp hz with rfl | hz
            . rcases hz2 with z | z <;> cases z
            . exact hnq z hz hz2 y hy
        . omega
    | second x1 =>
      refine ⟨fun c => absurd c (by decide), fun _ => ⟨fun c => absurd c (by decide), fun _ => ?_⟩⟩
      have hil := Tm.inn_len (.second x1 : Tm)
      cases fl with
      | true =>
        refine ⟨fun _ => ?_, nofun⟩
        rw [j0q, cXq (t := (.second x1 : Tm)) rfl] at heff
        have hk : (Tm.inn (.second x1 : Tm)).length <= m.length := by
          rcases Nat.lt_or_ge m.length (Tm.inn (.second x1 : Tm)).length with z | z
          . rw [if_neg (by omega)] at heff; cases heff
          . exact z
        rw [if_pos hk] at heff
        simp only [] at heff
        generalize hkk : (Tm.inn (.second x1 : Tm)).length = kk at hk heff hil
        refine ⟨(.second x1 : Tm), rfl, cIq (fun i ds G' => ds = (m.take i).map Tm.enc /\ i <= kk /\ G' = up (up G a (.lst ((m.drop i).reverse.map Tm.enc))) b (.lst (qs.reverse.map cWq))) ?_ ⟨rfl, Nat.zero_le _, by rw [List.drop_zero]⟩ (fun _ _ _ _ _ => trivial) ?_ ?_⟩
        . show ((Tm.inn (.second x1 : Tm)).map Tm.enc).length < sizeLine
          rw [List.length_map, hkk]; exact aEq (by omega)
        . rintro i d ds G' hd ⟨rfl, hi, rfl⟩
          have hi' : i < kk := by
            have z := (List.getElem?_eq_some_iff.mp hd).1
            have z' : i < ((Tm.inn (.second x1 : Tm)).map Tm.enc).length := z
            rw [List.length_map, hkk] at z'; exact z'
          have hx : m.drop i = m[i] :: m.drop (i + 1) := List.drop_eq_getElem_cons (by omega)
          refine ⟨aAq (ha1 _ _) trivial, aBq (ha1 _ _) ⟨(m.drop (i + 1)).reverse.map Tm.enc, (m[i]'(by omega)).enc, by rw [hx, List.reverse_cons, List.map_append]; rfl, ?_⟩⟩
          rw [up3 hne]
          refine WkV.of ⟨?_, by omega, rfl⟩
          rw [List.take_add_one, List.getElem?_eq_getElem (by omega), Option.toList_some, List.map_append]; rfl
        . rintro ds G' ⟨rfl, _, rfl⟩ p hp
          have eL : List.length (List.map Tm.enc (Tm.inn (.second x1 : Tm))) = kk := by rw [List.length_map]; exact hkk
          rw [show (⟨List.map Tm.enc (Tm.inn (.second x1 : Tm)), _⟩ : DIt).items.length = kk from eL] at hp ⊢
          have npa : a ≠ p := by rintro rfl; rw [ha1] at hp; cases hp
          refine ⟨aAq (by rw [a9q npa]; exact ha1 _ _) trivial, aAq a2q ⟨bTq (by simp only [List.length_map, List.length_take, List.length_cons, List.length_nil]; omega), aBq (by rw [a9q npa]; exact ha1 _ _) ⟨aEq (by simp only [List.length_map, List.length_reverse, List.length_drop]; omega), ?_⟩⟩⟩
          refine ⟨_, up (up G a (.lst ((m.drop kk).reverse.map Tm.enc ++ [.tup (.str (Tm.word (.second x1 : Tm)) :: (m.take kk).map Tm.enc)]))) b (.lst (qs.reverse.map cWq)), .refl _, ?_, wtS qs, by omega, qs, Tm.rebuild (.second x1 : Tm) (m.take kk) :: m.drop kk, _, _, _, _, rfl, ?_, heff, hnq, ?_, rfl⟩
          . rw [<- up3 (x := .lst ((m.drop kk).reverse.map Tm.enc)) hne]
            exact Sub.put (Sub.new (Sub.refl _) hp)
          . congr 2
            rw [List.reverse_cons, List.map_append, List.map_cons, List.map_nil, Tm.enc_rebuild (t := (.second x1 : Tm)) rfl (by rw [List.length_take, hkk]; omega)]
          . simp only [List.length_cons, List.length_drop]; omega
      | false =>
        refine ⟨nofun, fun _ => ?_⟩
        have hss := Tm.sz_sum (t := (.second x1 : Tm)) rfl
        simp only [wtE, Bool.false_eq_true, if_false] at hsz
        refine ⟨aAq a2q trivial, aBq a2q ⟨aEq (by simp only [List.length_map, List.length_reverse]; omega), ?_⟩⟩
        rw [c1q]
        refine ⟨(.second x1 : Tm), w, rfl, aAq a2q trivial, (.second x1 : Tm), rfl, ?_⟩
        refine bBq (Tm.inn (.second x1 : Tm)) Tm.enc (fun x => cWq (x, Tm.wbl (.second x1 : Tm) w, false)) rfl (aEq (by omega)) trivial (fun x _ R hR => hR) (fun p hp => ?_)
        have np : b ≠ p := by rintro rfl; rw [a2q] at hp; cases hp
        refine aBq (by rw [a9q np]; exact a2q) (aBq a2q ⟨bTq (by simp only [List.length_map, List.length_reverse, List.length_append, List.length_cons, List.length_nil]; omega), ?_⟩)
        have hwt : wtS ((Tm.inn (.second x1 : Tm) |>.map fun x => ((x, Tm.wbl (.second x1 : Tm) w, false) : Ent)).reverse ++ ((.second x1 : Tm), w, true) :: qs) + 1 = 2 * Tm.sz (.second x1 : Tm) + wtS qs := by
          rw [<- List.map_reverse, dMq, List.map_reverse, List.sum_reverse, cDq]
          simp only [wtE, if_true]; omega
        refine ⟨_, up (up G a (.lst (m.reverse.map Tm.enc))) b (.lst (qs.reverse.map cWq ++ [cWq ((.second x1 : Tm), w, true)] ++ (Tm.inn (.second x1 : Tm)).map fun x => cWq (x, Tm.wbl (.second x1 : Tm) w, false))), .refl _, Sub.put (Sub.trans (Sub.new (Sub.refl _) (by rw [a9q hne]; exact hb0)) (Sub.new (Sub.refl _) hp)), _, ?_, (Tm.inn (.second x1 : Tm) |>.map fun x => ((x, Tm.wbl (.second x1 : Tm) w, false) : Ent)).reverse ++ ((.second x1 : Tm), w, true) :: qs, m, _, _, _, _, rfl, ?_, ?_, ?_, ?_, rfl⟩
        . simp only [wtE, Bool.false_eq_true, if_false]; omega
        . congr 2
          simp [List.map_map, Function.comp_def]
        . rw [cOq (t := (.second x1 : Tm)) rfl]; exact heff
        . intro z hz hz2 y hy
          rcases List.mem_append.mp hz with hz | hz
          . obtain ⟨x, hx, rfl⟩ := List.mem_map.mp (List.mem_reverse.mp hz)
            exact hnu (.inl rfl) y (Tm.nmsR_mem (t := (.second x1 : Tm)) rfl hx hy)
          . rcases List.mem_cons.mp hz with rfl | hz
            . rcases hz2 with z | z <;> cases z
            . exact hnq z hz hz2 y hy
        . omega
    | plus x1 x2 =>
      refine ⟨fun c => absurd c (by decide), fun _ => ⟨fun c => absurd c (by decide), fun _ => ?_⟩⟩
      have hil := Tm.inn_len (.plus x1 x2 : Tm)
      cases fl with
      | true =>
        refine ⟨fun _ => ?_, nofun⟩
        rw [j0q, cXq (t := (.plus x1 x2 : Tm)) rfl] at heff
        have hk : (Tm.inn (.plus x1 x2 : Tm)).length <= m.length := by
          rcases Nat.lt_or_ge m.length (Tm.inn (.plus x1 x2 : Tm)).length with z | z
          . rw [if_neg (by omega)] at heff; cases heff
          . exact z
        rw [if_pos hk] at heff
        simp only [] at heff
        generalize hkk : (Tm.inn (.plus x1 x2 : Tm)).length = kk at hk heff hil
        refine ⟨(.plus x1 x2 : Tm), rfl, cIq (fun i ds G' => ds = (m.take i).map Tm.enc /\ i <= kk /\ G' = up (up G a (.lst ((m.drop i).reverse.map Tm.enc))) b (.lst (qs.reverse.map cWq))) ?_ ⟨rfl, Nat.zero_le _, by rw [List.drop_zero]⟩ (fun _ _ _ _ _ => trivial) ?_ ?_⟩
        . show ((Tm.inn (.plus x1 x2 : Tm)).map Tm.enc).length < sizeLine
          rw [List.length_map, hkk]; exact aEq (by omega)
        . rintro i d ds G' hd ⟨rfl, hi, rfl⟩
          have hi' : i < kk := by
            have z := (List.getElem?_eq_some_iff.mp hd).1
            have z' : i < ((Tm.inn (.plus x1 x2 : Tm)).map Tm.enc).length := z
            rw [List.length_map, hkk] at z'; exact z'
          have hx : m.drop i = m[i] :: m.drop (i + 1) := List.drop_eq_getElem_cons (by omega)
          refine ⟨aAq (ha1 _ _) trivial, aBq (ha1 _ _) ⟨(m.drop (i + 1)).reverse.map Tm.enc, (m[i]'(by omega)).enc, by rw [hx, List.reverse_cons, List.map_append]; rfl, ?_⟩⟩
          rw [up3 hne]
          refine WkV.of ⟨?_, by omega, rfl⟩
          rw [List.take_add_one, List.getElem?_eq_getElem (by omega), Option.toList_some, List.map_append]; rfl
        . rintro ds G' ⟨rfl, _, rfl⟩ p hp
          have eL : List.length (List.map Tm.enc (Tm.inn (.plus x1 x2 : Tm))) = kk := by rw [List.length_map]; exact hkk
          rw [show (⟨List.map Tm.enc (Tm.inn (.plus x1 x2 : Tm)), _⟩ : DIt).items.length = kk from eL] at hp ⊢
          have npa : a ≠ p := by rintro rfl; rw [ha1] at hp; cases hp
          refine ⟨aAq (by rw [a9q npa]; exact ha1 _ _) trivial, aAq a2q ⟨bTq (by simp only [List.length_map, List.length_take, List.length_cons, List.length_nil]; omega), aBq (by rw [a9q npa]; exact ha1 _ _) ⟨aEq (by simp only [List.length_map, List.length_reverse, List.length_drop]; omega), ?_⟩⟩⟩
          refine ⟨_, up (up G a (.lst ((m.drop kk).reverse.map Tm.enc ++ [.tup (.str (Tm.word (.plus x1 x2 : Tm)) :: (m.take kk).map Tm.enc)]))) b (.lst (qs.reverse.map cWq)), .refl _, ?_, wtS qs, by omega, qs, Tm.rebuild (.plus x1 x2 : Tm) (m.take kk) :: m.drop kk, _, _, _, _, rfl, ?_, heff, hnq, ?_, rfl⟩
          . rw [<- up3 (x := .lst ((m.drop kk).reverse.map Tm.enc)) hne]
            exact Sub.put (Sub.new (Sub.refl _) hp)
          . congr 2
            rw [List.reverse_cons, List.map_append, List.map_cons, List.map_nil, Tm.enc_rebuild (t := (.plus x1 x2 : Tm)) rfl (by rw [List.length_take, hkk]; omega)]
          . simp only [List.length_cons, List.length_drop]; omega
      | false =>
        refine ⟨nofun, fun _ => ?_⟩
        have hss := Tm.sz_sum (t := (.plus x1 x2 : Tm)) rfl
        simp only [wtE, Bool.false_eq_true, if_false] at hsz
        refine ⟨aAq a2q trivial, aBq a2q ⟨aEq (by simp only [List.length_map, List.length_reverse]; omega), ?_⟩⟩
        rw [c1q]
        refine ⟨(.plus x1 x2 : Tm), w, rfl, aAq a2q trivial, (.plus x1 x2 : Tm), rfl, ?_⟩
        refine bBq (Tm.inn (.plus x1 x2 : Tm)) Tm.enc (fun x => cWq (x, Tm.wbl (.plus x1 x2 : Tm) w, false)) rfl (aEq (by omega)) trivial (fun x _ R hR => hR) (fun p hp => ?_)
        have np : b ≠ p := by rintro rfl; rw [a2q] at hp; cases hp
        refine aBq (by rw [a9q np]; exact a2q) (aBq a2q ⟨bTq (by simp only [List.length_map, List.length_reverse, List.length_append, List.length_cons, List.length_nil]; omega), ?_⟩)
        have hwt : wtS ((Tm.inn (.plus x1 x2 : Tm) |>.map fun x => ((x, Tm.wbl (.plus x1 x2 : Tm) w, false) : Ent)).reverse ++ ((.plus x1 x2 : Tm), w, true) :: qs) + 1 = 2 * Tm.sz (.plus x1 x2 : Tm) + wtS qs := by
          rw [<- List.map_reverse, dMq, List.map_reverse, List.sum_reverse, cDq]
          simp only [wtE, if_true]; omega
        refine ⟨_, up (up G a (.lst (m.reverse.map Tm.enc))) b (.lst (qs.reverse.map cWq ++ [cWq ((.plus x1 x2 : Tm), w, true)] ++ (Tm.inn (.plus x1 x2 : Tm)).map fun x => cWq (x, Tm.wbl (.plus x1 x2 : Tm) w, false))), .refl _, Sub.put (Sub.trans (Sub.new (Sub.refl _) (by rw [a9q hne]; exact hb0)) (Sub.new (Sub.refl _) hp)), _, ?_, (Tm.inn (.plus x1 x2 : Tm) |>.map fun x => ((x, Tm.wbl (.plus x1 x2 : Tm) w, false) : Ent)).reverse ++ ((.plus x1 x2 : Tm), w, true) :: qs, m, _, _, _, _, rfl, ?_, ?_, ?_, ?_, rfl⟩
        . simp only [wtE, Bool.false_eq_true, if_false]; omega
        . congr 2
          simp [List.map_map, Function.comp_def]
        . rw [cOq (t := (.plus x1 x2 : Tm)) rfl]; exact heff
        . intro z hz hz2 y hy
          rcases List.mem_append.mp hz with hz | hz
          . obtain ⟨x, hx, rfl⟩ := List.mem_map.mp (List.mem_reverse.mp hz)
            exact hnu (.inl rfl) y (Tm.nmsR_mem (t := (.plus x1 x2 : Tm)) rfl hx hy)
          . rcases List.mem_cons.mp hz with rfl | hz
            . rcases hz2 with z | z <;> cases z
            . exact hnq z hz hz2 y hy
        . omega
    | look x1 x2 x3 =>
      refine ⟨fun c => absurd c (by decide), fun _ => ⟨fun c => absurd c (by decide), fun _ => ?_⟩⟩
      have hil := Tm.inn_len (.look x1 x2 x3 : Tm)
      cases fl with
      | true =>
        refine ⟨fun _ => ?_, nofun⟩
        rw [j0q, cXq (t := (.look x1 x2 x3 : Tm)) rfl] at heff
        have hk : (Tm.inn (.look x1 x2 x3 : Tm)).length <= m.length := by
          rcases Nat.lt_or_ge m.length (Tm.inn (.look x1 x2 x3 : Tm)).length with z | z
          . rw [if_neg (by omega)] at heff; cases heff
          . exact z
        rw [if_pos hk] at heff
        simp only [] at heff
        generalize hkk : (Tm.inn (.look x1 x2 x3 : Tm)).length = kk at hk heff hil
        refine ⟨(.look x1 x2 x3 : Tm), rfl, cIq (fun i ds G' => ds = (m.take i).map Tm.enc /\ i <= kk /\ G' = up (up G a (.lst ((m.drop i).reverse.map Tm.enc))) b (.lst (qs.reverse.map cWq))) ?_ ⟨rfl, Nat.zero_le _, by rw [List.drop_zero]⟩ (fun _ _ _ _ _ => trivial) ?_ ?_⟩
        . show ((Tm.inn (.look x1 x2 x3 : Tm)).map Tm.enc).length < sizeLine
          rw [List.length_map, hkk]; exact aEq (by omega)
        . rintro i d ds G' hd ⟨rfl, hi, rfl⟩
          have hi' : i < kk := by
            have z := (List.getElem?_eq_some_iff.mp hd).1
            have z' : i < ((Tm.inn (.look x1 x2 x3 : Tm)).map Tm.enc).length := z
            rw [List.length_map, hkk] at z'; exact z'
          have hx : m.drop i = m[i] :: m.drop (i + 1) := List.drop_eq_getElem_cons (by omega)
          refine ⟨aAq (ha1 _ _) trivial, aBq (ha1 _ _) ⟨(m.drop (i + 1)).reverse.map Tm.enc, (m[i]'(by omega)).enc, by rw [hx, List.reverse_cons, List.map_append]; rfl, ?_⟩⟩
          rw [up3 hne]
          refine WkV.of ⟨?_, by omega, rfl⟩
          rw [List.take_add_one, List.getElem?_eq_getElem (by omega), Option.toList_some, List.map_append]; rfl
        . rintro ds G' ⟨rfl, _, rfl⟩ p hp
          have eL : List.length (List.map Tm.enc (Tm.inn (.look x1 x2 x3 : Tm))) = kk := by rw [List.length_map]; exact hkk
          rw [show (⟨List.map Tm.enc (Tm.inn (.look x1 x2 x3 : Tm)), _⟩ : DIt).items.length = kk from eL] at hp ⊢
          have npa : a ≠ p := by rintro rfl; rw [ha1] at hp; cases hp
          refine ⟨aAq (by rw [a9q npa]; exact ha1 _ _) trivial, aAq a2q ⟨bTq (by simp only [List.length_map, List.length_take, List.length_cons, List.length_nil]; omega), aBq (by rw [a9q npa]; exact ha1 _ _) ⟨aEq (by simp only [List.length_map, List.length_reverse, List.length_drop]; omega), ?_⟩⟩⟩
          refine ⟨_, up (up G a (.lst ((m.drop kk).reverse.map Tm.enc ++ [.tup (.str (Tm.word (.look x1 x2 x3 : Tm)) :: (m.take kk).map Tm.enc)]))) b (.lst (qs.reverse.map cWq)), .refl _, ?_, wtS qs, by omega, qs, Tm.rebuild (.look x1 x2 x3 : Tm) (m.take kk) :: m.drop kk, _, _, _, _, rfl, ?_, heff, hnq, ?_, rfl⟩
          . rw [<- up3 (x := .lst ((m.drop kk).reverse.map Tm.enc)) hne]
            exact Sub.put (Sub.new (Sub.refl _) hp)
          . congr 2
            rw [List.reverse_cons, List.map_append, List.map_cons, List.map_nil, Tm.enc_rebuild (t := (.look x1 x2 x3 : Tm)) rfl (by rw [List.length_take, hkk]; omega)]
          . simp only [List.length_cons, List.length_drop]; omega
      | false =>
        refine ⟨nofun, fun _ => ?_⟩
        have hss := Tm.sz_sum (t := (.look x1 x2 x3 : Tm)) rfl
        simp only [wtE, Bool.false_eq_true, if_false] at hsz
        refine ⟨aAq a2q trivial, aBq a2q ⟨aEq (by simp only [List.length_map, List.length_reverse]; omega), ?_⟩⟩
        rw [c1q]
        refine ⟨(.look x1 x2 x3 : Tm), w, rfl, aAq a2q trivial, (.look x1 x2 x3 : Tm), rfl, ?_⟩
        refine bBq (Tm.inn (.look x1 x2 x3 : Tm)) Tm.enc (fun x => cWq (x, Tm.wbl (.look x1 x2 x3 : Tm) w, false)) rfl (aEq (by omega)) trivial (fun x _ R hR => hR) (fun p hp => ?_)
        have np : b ≠ p := by rintro rfl; rw [a2q] at hp; cases hp
        refine aBq (by rw [a9q np]; exact a2q) (aBq a2q ⟨bTq (by simp only [List.length_map, List.length_reverse, List.length_append, List.length_cons, List.length_nil]; omega), ?_⟩)
        have hwt : wtS ((Tm.inn (.look x1 x2 x3 : Tm) |>.map fun x => ((x, Tm.wbl (.look x1 x2 x3 : Tm) w, false) : Ent)).reverse ++ ((.look x1 x2 x3 : Tm), w, true) :: qs) + 1 = 2 * Tm.sz (.look x1 x2 x3 : Tm) + wtS qs := by
          rw [<- List.map_reverse, dMq, List.map_reverse, List.sum_reverse, cDq]
          simp only [wtE, if_true]; omega
        refine ⟨_, up (up G a (.lst (m.reverse.map Tm.enc))) b (.lst (qs.reverse.map cWq ++ [cWq ((.look x1 x2 x3 : Tm), w, true)] ++ (Tm.inn (.look x1 x2 x3 : Tm)).map fun x => cWq (x, Tm.wbl (.look x1 x2 x3 : Tm) w, false))), .refl _, Sub.put (Sub.trans (Sub.new (Sub.refl _) (by rw [a9q hne]; exact hb0)) (Sub.new (Sub.refl _) hp)), _, ?_, (Tm.inn (.look x1 x2 x3 : Tm) |>.map fun x => ((x, Tm.wbl (.look x1 x2 x3 : Tm) w, false) : Ent)).reverse ++ ((.look x1 x2 x3 : Tm), w, true) :: qs, m, _, _, _, _, rfl, ?_, ?_, ?_, ?_, rfl⟩
        . simp only [wtE, Bool.false_eq_true, if_false]; omega
        . congr 2
          simp [List.map_map, Function.comp_def]
        . rw [cOq (t := (.look x1 x2 x3 : Tm)) rfl]; exact heff
        . intro z hz hz2 y hy
          rcases List.mem_append.mp hz with hz | hz
          . obtain ⟨x, hx, rfl⟩ := List.mem_map.mp (List.mem_reverse.mp hz)
            exact hnu (.inl rfl) y (Tm.nmsR_mem (t := (.look x1 x2 x3 : Tm)) rfl hx hy)
          . rcases List.mem_cons.mp hz with rfl | hz
            . rcases hz2 with z | z <;> cases z
            . exact hnq z hz hz2 y hy
        . omega
  . have e : st = [] := by
      cases st with
      | nil => rfl
      | cons _ _ => simp at c
    subst e
    have e2 : m = [t.mapN φ 0] := Option.some.inj heff
    subst e2
    have ha1 : ∀ (o : DO) (ds : List D), up (up G a (.lst ds)) b o a = some (.lst ds) := fun o ds => by rw [a9q (Ne.symm hne)]; exact a2q
    refine ⟨aAq (ha1 _ _) trivial, aBq (ha1 _ _) ⟨[], (t.mapN φ 0).enc, rfl, ?_⟩⟩
    rw [up3 hne]
    exact ⟨G, Sub.trans (Sub.new (Sub.refl _) ha) (Sub.new (Sub.refl _) (by rw [a9q hne]; exact hb0)), q⟩
abbrev e9q : Stmt := top 20
theorem sc_same : FnScope ["_law_found", "_law_due", "_law_one", "_law_other"] ["_law_found", "_law_due"] (a3q e9q) := ⟨rfl, rfl, rfl, by decide +kernel, rfl, by decide +kernel, by decide +kernel⟩
theorem t1q : FnOk P w K mg base CX0 1 f fd ["_law_found", "_law_due"] (aWq K (f9q 0)) := zNq fun ds G DQ h => by
  obtain ⟨_, _, _, h, _⟩ := h; omega
theorem sKq {n : Nat} (B : Blt mg) (g_same : Got P w K mg base (n + 1) "_law_same" ["_law_found", "_law_due"] (aWq K (f9q n))) (F : Fun K "_law_same" "_law_same" e9q f fd) : FnOk P w K mg base CX0 (n + 2) f fd ["_law_found", "_law_due"] (aWq K (f9q (n + 1))) := by
  refine okD (k := n + 1) F sc_same (fun ds G DQ h => ?_) (fun cdv A outer s H E hr ds G DQ h => ?_)
  . obtain ⟨_, rfl, _⟩ := h; rfl
  obtain ⟨d, rfl, hp, hd, q⟩ := h
  refine ⟨_, (a7q (bDq (b7q (b1q d1q rfl B.isinstance PyProof.Rows.boot_isinstance (a0q (a1q 1) (a0q (f5q rfl B.tuple PyProof.Rows.boot_tuple) a5q)))) (a7q (bDq (AW.at (lRq (g6q (b7q (b1q d1q rfl B.isinstance PyProof.Rows.boot_isinstance (a0q (a1q 0) (a0q (f5q rfl B.tuple PyProof.Rows.boot_tuple) a5q))))) (j6q (aUq (nNq (bXq hr)) (b1q b9q rfl B.len PySem.boot_len (a0q (a1q 0) a5q)) (b1q b9q rfl B.len PySem.boot_len (a0q (a1q 1) a5q)) (aPq _))))) (a8q (aLq dVq)) b0q)
      (a7q (g1q PassesOwn.never rfl (vJq rfl B.zip (a0q (a1q 0) (a0q (a1q 1) a5q))) (mAq (n := 2) rfl (dAq (bFq (k := 2) sc_same.nd rfl (Or.inl rfl)) (dAq (bFq (k := 3) sc_same.nd rfl (Or.inl rfl)) kCq))) (a8q (bDq (g6q (b7q (b5q g_same hr (by omega) rfl (a0q (a1q 2) (a0q (a1q 3) a5q))))) (a8q (aLq dVq)) b0q)))
      (a8q (aLq dVq)))) b0q)
      (a7q (bDq (b7q (b1q d1q rfl B.isinstance PyProof.Rows.boot_isinstance (a0q (a1q 1) (a0q (f5q rfl B.str PyProof.Rows.boot_str) a5q)))) (a8q (aLq (l2q (b1q d1q rfl B.isinstance PyProof.Rows.boot_isinstance (a0q (a1q 0) (a0q (f5q rfl B.str PyProof.Rows.boot_str) a5q))) (n9q (e4q (bEq (bXq hr)) (a1q 0) (a1q 1) (aPq _)))))) b0q)
      (a8q (aLq (l2q (b1q d1q rfl B.isinstance PyProof.Rows.boot_isinstance (a0q (a1q 0) (a0q (f5q rfl B.int PyProof.Rows.boot_int) a5q))) (l2q (qVq (b1q d1q rfl B.isinstance PyProof.Rows.boot_isinstance (a0q (a1q 0) (a0q (f5q rfl B.bool PyProof.Rows.boot_bool) a5q)))) (n9q (e4q (bEq (bXq hr)) (a1q 0) (a1q 1) (aPq _))))))))), ?_⟩
  cases d with
  | int i => exact ⟨false, rfl, nofun, fun _ => ⟨false, rfl, nofun, fun _ => ⟨true, rfl, fun _ => ⟨false, rfl, fun _ => Dr.of (by simpa using q), nofun⟩, nofun⟩⟩⟩
  | str x => exact ⟨false, rfl, nofun, fun _ => ⟨true, rfl, fun _ => ⟨true, rfl, fun _ => Dr.of (by simpa using q), nofun⟩, nofun⟩⟩
  | tup ds =>
    simp only [D.plain, Bool.and_eq_true, decide_eq_true_eq] at hp
    simp only [D.dp] at hd
    refine ⟨true, rfl, fun _ => ⟨true, rfl, nofun, fun _ => ⟨fun c => absurd c (by simp), fun _ => ⟨Nat.le_refl _, ?_⟩⟩⟩, nofun⟩
    refine ⟨fun i ρ G' => ∃ o1 o2, ρ = [some (.tup ds), some (.tup ds), o1, o2] /\ G' = G, ⟨_, _, rfl, rfl⟩, fun _ _ _ _ _ => trivial, ?_, ?_⟩
    . rintro i e ρ G' he ⟨o1, o2, rfl, rfl⟩
      have he' : ((ds.zip ds).map fun z => D.tup [z.1, z.2])[i]? = some e := he
      rw [kTq, List.getElem?_map] at he'
      cases e1 : ds[i]? with
      | none => rw [e1] at he'; cases he'
      | some x =>
        rw [e1] at he'; cases he'
        have hx := List.mem_of_getElem? e1
        have h1 := kMq hx
        exact ⟨x, rfl, h5q hp.2 hx, by omega, nofun, fun _ => Wk.of ⟨_, _, rfl, rfl⟩⟩
    . rintro ρ G' ⟨o1, o2, rfl, rfl⟩
      exact Dr.of q
  | _ => simp [D.plain] at hp
abbrev cNq : Stmt := (bHq (top 7)).getD 0 (.Pass ⟨0, 0, 0, 0⟩)
theorem m5q : FnScope ["self", "program", "slips"] ["self", "program", "slips"] (a3q cNq) := ⟨rfl, rfl, rfl, by decide +kernel, rfl, by decide +kernel, by decide +kernel⟩
theorem nBq {Slip : Addr} (B : Blt mg) (c_Slip : Cls K Slip) (n_part : NoAttr K Slip "part") (n_row : NoAttr K Slip "row") (n_told : NoAttr K Slip "told") (F : Fun K "__init__" "Slip.__init__" cNq f fd) : FnOk P w K mg base CX0 1 f fd ["self", "program", "slips"] (aWq K (iXq Slip)) := by
  refine okD (k := 0) F m5q (fun ds G DQ h => ?_) (fun cdv A outer s H E hr ds G DQ h => ?_)
  . obtain ⟨_, _, _, _, rfl, _⟩ := h; rfl
  obtain ⟨a, t, rs, d, rfl, ha, hd, q⟩ := h
  refine ⟨_, (a7q (cVq c_Slip n_part (a1q 0) (a1q 1))
      (a7q (cVq c_Slip n_row (a1q 0) (eRq e5q rfl B.tuple PyProof.Rows.boot_tuple (a0q (a1q 2) a5q)))
      (a8q (cVq c_Slip n_told (a1q 0) h2q)))), ?_⟩
  have l1 : (m3q "part" t.enc []).length < 1000 := Nat.lt_of_le_of_lt (fUq _ _ _) (by decide)
  have l2 : (m3q "row" (.tup (rs.map D.ref)) (m3q "part" t.enc [])).length < 1000 := Nat.lt_of_le_of_lt (fUq _ _ _) (Nat.lt_of_le_of_lt (Nat.succ_le_succ (fUq _ _ _)) (by decide))
  refine a6q ha ⟨by decide, ?_⟩
  rcases hd with rfl | ⟨l, rfl, hl, hn⟩
  . refine a6q a2q ⟨l1, a6q a2q ⟨l2, Dr.of ?_⟩⟩
    rw [c1q, c1q]; exact q
  . have hla : l ≠ a := by rintro rfl; rw [ha] at hl; cases hl
    refine aAq (by rw [a9q hla]; exact hl) ?_
    refine a6q a2q ⟨l1, a6q a2q ⟨l2, Dr.of ?_⟩⟩
    rw [c1q, c1q]; exact q
abbrev c2q : Stmt := (bHq (top 7)).getD 2 (.Pass ⟨0, 0, 0, 0⟩)
theorem sc_s_unread : FnScope ["self", "used"] ["self"] (a3q c2q) := ⟨rfl, rfl, rfl, by decide +kernel, rfl, by decide +kernel, by decide +kernel⟩
theorem jZq {Slip : Addr} (B : Blt mg) (c_Slip : Cls K Slip) (n_part : NoAttr K Slip "part") (n_row : NoAttr K Slip "row") (n_told : NoAttr K Slip "told") (g_namesin : Got P w K mg base 2 "names_in" ["program"] (aWq K gMq)) (F : Fun K "unread" "Slip.unread" c2q f fd) : FnOk P w K mg base CX0 3 f fd ["self"] (aWq K (i4q Slip)) := by
  refine okD (k := 2) F sc_s_unread (fun ds G DQ h => ?_) (fun cdv A outer s H E hr ds G DQ h => ?_)
  . obtain ⟨_, _, _, _, _, _, rfl, _⟩ := h; rfl
  obtain ⟨S, rk, told, G0, a, x, rfl, ok, ha, rfl, q⟩ := h
  refine ⟨_, (a7q (bDq (aUq mMq (aNq c_Slip n_told (a1q 0)) h2q (aPq _)) (a8q (aLq (eQq a5q))) b0q)
      (a7q (j9q (k := 1) rfl sc_s_unread.nd rfl (Or.inl rfl) (CompOk.of (N' := ["number", "ways", "self"]) (nt := 2) (cap := [0]) rfl (by kernel_rfl)) (mBq (gHq iFq (nDq iFq kOq) (bLq (k := 0) (by decide)) (gHq iFq kOq (bLq (k := 1) (by decide)) lHq))) (eNq (b5q g_namesin hr (by omega) rfl (a0q (aNq c_Slip n_part (a1q 0)) a5q))) (fun _ _ _ _ => (mAq (n := 2) rfl (dAq (bFq (k := 0) (show List.Nodup (["number", "ways", "self"] : List Str) by decide +kernel) rfl (Or.inl rfl)) (dAq (bFq (k := 1) (show List.Nodup (["number", "ways", "self"] : List Str) by decide +kernel) rfl (Or.inl rfl)) kCq)))) (fun _ _ _ _ => (aUq mZq (a1q 0) (a1q 1) (aPq _))) (fun _ _ _ _ => (aMq aix (aNq c_Slip n_row (a1q 2)) (bCq f1q (a1q 0) (a1q 1)) (fun _ _ => rfl))))
      (a8q (aLq (o5q rfl (CompOk.of (N' := ["slip"]) (nt := 1) (cap := []) rfl (by kernel_rfl)) (bLq (k := 0) (by decide)) (eNq (a1q 1)) (fun _ _ _ _ => (bFq (k := 0) (show List.Nodup (["slip"] : List Str) by decide +kernel) rfl (Or.inl rfl))) (fun _ _ _ _ => (aUq r0q (aNq c_Slip n_told (a1q 0)) h2q (aPq _))) (fun _ _ _ _ => (a1q 0))))))), ?_⟩
  refine a6q (cGq ha) ?_
  have qm : bAq S told a = if told a then [] else rCq told x := by unfold bAq; rw [ha]
  rw [qm] at q
  cases ht : told a with
  | true =>
    rw [ht] at q
    rw [show x.due.enc = .tup (.str x.due.word :: x.due.args) from x.due.enc_eq]
    exact ⟨fun _ l hl => Dr.of (q l hl), fun c => yIq c⟩
  | false =>
    rw [ht] at q
    refine ⟨fun c => xPq c, fun _ => ?_⟩
    have hsz := ok.sz a x ha
    refine a6q (cGq ha) ⟨x.t, rfl, by omega, fun l1 h1 => f4q a2q ?_⟩
    have na : a ≠ l1 := by rintro rfl; rw [cGq ha] at h1; cases h1
    have nl := x.t.nmsR_len 0
    refine h8q (x.t.nmsR 0) prD (fun z => if z.2 <= z.1 then (x.rs[z.1 - z.2]?).map D.ref else none) ?_ ?_ ?_ ?_ ?_
    . rfl
    . exact aEq (by omega)
    . exact a2q
    . intro z hz R S' hR hS
      refine ⟨fun c => ?_, fun c => ?_⟩
      . have c' : (z.2 : Int) <= z.1 := by simpa using c
        have lt := ok.nm a x ha z hz (by omega)
        have er : x.rs[z.1 - z.2]? = some x.rs[z.1 - z.2] := List.getElem?_eq_getElem lt
        refine a6q (by rw [a9q na]; exact cGq ha) ?_
        refine (show ixD (.tup (x.rs.map D.ref)) (.int ((z.1 : Int) - z.2)) _ _ from c5q (d := .ref x.rs[z.1 - z.2]) ?_ (hR _ ?_))
        . have y := e6q (xs := x.rs.map D.ref) (j := z.1 - z.2) (v := .ref x.rs[z.1 - z.2]) (by rw [List.getElem?_map, er]; rfl)
          rwa [show ((z.1 - z.2 : Nat) : Int) = (z.1 : Int) - z.2 by omega] at y
        . rw [if_pos (by omega), er]; rfl
      . have c' : ¬ (z.2 : Int) <= z.1 := by simpa using c
        exact hS (by rw [if_neg (by omega)])
    intro p hp
    rw [pZq]
    obtain ⟨_, hp0, npl⟩ := hAq (o := .lst []) hp
    have nap : a ≠ p := by rintro rfl; rw [cGq ha] at hp0; cases hp0
    refine f4q a2q ?_
    have hul := x.used_len
    refine h8q x.used D.ref (fun r => if told r then none else some (D.ref r)) ?_ ?_ ?_ ?_ ?_
    . rfl
    . exact aEq (by omega)
    . exact a2q
    . intro r hr R S' hR hS
      obtain ⟨⟨y, hy⟩, _⟩ := ok.sub a x ha r (Sl.used_mem hr)
      have nrl : r ≠ l1 := by rintro rfl; rw [cGq hy] at h1; cases h1
      have nrp : r ≠ p := by rintro rfl; rw [cGq hy] at hp0; cases hp0
      refine a6q (by rw [a9q nrp, a9q nrl]; exact cGq hy) ?_
      cases hc : told r with
      | true =>
        rw [show y.due.enc = .tup (.str y.due.word :: y.due.args) from y.due.enc_eq]
        exact ⟨fun c => xPq c, fun _ => hS (by rw [hc]; rfl)⟩
      | false => exact ⟨fun _ => hR _ (by rw [hc]; rfl), fun c => yIq c⟩
    intro p2 hp2
    rw [q0q]
    obtain ⟨_, h2a, _⟩ := hAq (o := .lst []) hp2
    obtain ⟨_, h2b, _⟩ := hAq (o := .lst []) h2a
    exact ⟨up (upS Slip S told G0) p2 (.lst ((rCq told x).map D.ref)), Sub.put (Sub.trans (Sub.new (Sub.refl _) h1) (Sub.new (Sub.refl _) hp)), q p2 h2b⟩
abbrev cFq : Stmt := (bHq (top 7)).getD 3 (.Pass ⟨0, 0, 0, 0⟩)
theorem sc_s_read : FnScope ["self", "row", "filled"] ["self"] (a3q cFq) := ⟨rfl, rfl, rfl, by decide +kernel, rfl, by decide +kernel, by decide +kernel⟩
abbrev aYq : Stmt := (aGq cFq).getD 1 (.Pass ⟨0, 0, 0, 0⟩)
theorem fQq : CloScope ["number", "ways", "row"] ["number", "ways"] ["row"] (a3q aYq) := ⟨rfl, rfl, rfl, by decide +kernel, rfl, rfl, by decide +kernel, by decide +kernel, by decide +kernel, by decide +kernel, by decide +kernel⟩
theorem fRq {Slip : Addr} (c_Slip : Cls K Slip) (n_told : NoAttr K Slip "told") {S : Sls} {rs : List Addr} {L : List (Addr × DO)} (hS : ∀ r ∈ rs, ∃ y, S r = some y) (C : Nat -> Nat -> Prop) (hC : ∀ n w : Nat, C n w -> w <= n -> ∃ r y, rs[n - w]? = some r /\ S r = some y /\ (r, slO Slip y true) ∈ L) : CloD P w K mg base 1 "filled" "Slip.read.<locals>.filled" aYq ["row"] [.tup (rs.map D.ref)] ["number", "ways"] (clD (d6q S rs) C L) := by
  refine x7q (k := 0) fQq (fun ds G DQ h => ?_) (fun _ _ _ _ _ us hl => match us, hl with | [_, _], _ => rfl) (fun f cdv cl A outer s H hr ds G DQ h => ?_)
  . obtain ⟨_, _, rfl, _⟩ := h; rfl
  obtain ⟨n, w, rfl, hc, hL, q⟩ := h
  refine ⟨_, (a8q (aLq (eYq (aUq mZq (a1q 0) (a1q 1) (aPq _)) (aNq c_Slip n_told (aMq aix (a1q 2) (bCq f1q (a1q 0) (a1q 1)) (fun _ _ => rfl))) (aRq (a0q aJq (a0q (a1q 0) a5q)))))), ?_⟩
  refine ⟨fun c => ?_, fun c => ⟨Sub.refl _, ?_⟩⟩
  . have c' : (w : Int) <= n := by simpa using c
    obtain ⟨r, y, h1, h2, h3⟩ := hC n w hc (by omega)
    show ixD (.tup (rs.map D.ref)) (.int ((n : Int) - w)) (vry G) (fun x G1 => match x with
      | .ref a => onI G1 a Slip fun fs => s4q fs "told" fun d => Sub (vry G) G1 /\ DQ d G
      | _ => False)
    refine c5q (d := .ref r) ?_ ?_
    . have z := e6q (xs := rs.map D.ref) (j := n - w) (v := .ref r) (by rw [List.getElem?_map, h1]; rfl)
      rwa [show ((n - w : Nat) : Int) = (n : Int) - w by omega] at z
    . refine a6q (vry_get.mpr ⟨hL _ h3, rfl⟩) ⟨Sub.refl _, ?_⟩
      have e : d6q S rs n w = y.due := by unfold d6q t9q; rw [if_pos (by omega), h1]; simp only [h2]
      rw [e] at q
      exact q
  . have c' : ¬ (w : Int) <= n := by simpa using c
    have e : d6q S rs n w = .name n := by unfold d6q; rw [if_neg (by omega)]
    rw [e] at q
    exact q
theorem nGq {Slip c T_s_read : Addr} (hC : PySem.W.CodeHd base c T_s_read) (hB : gWq mg base) (c_Slip : Cls K Slip) (n_part : NoAttr K Slip "part") (n_row : NoAttr K Slip "row") (n_told : NoAttr K Slip "told") (g_withn : Got P w K mg base 3 "with_names" ["program", "change"] (aWq K (nAq P w K mg base 1))) (F : FunC K "read" "Slip.read" cFq f fd c) : FnOk P w K mg base CX0 4 f fd ["self"] (aWq K (nSq Slip T_s_read (iMq aYq))) := by
  refine zQq (k := 3) F sc_s_read (fun ds G DQ h => ?_) (fun A outer s H E hr ds G DQ h => ?_)
  . obtain ⟨_, _, _, _, _, _, rfl, _⟩ := h; rfl
  obtain ⟨S, rk, told, G0, a, x, rfl, ok, ha, rfl, hm, hTS, hT, q⟩ := h
  refine ⟨_, (a7q (aZq (k := 1) sc_s_read.nd rfl (Or.inr rfl) (aNq c_Slip n_row (a1q 0)))
      (a7q (w1q (i := 2) (T := T_s_read) (fr := ["row"]) sc_s_read.nd rfl (Or.inl rfl) rfl hC hB (by kernel_rfl) rfl rfl rfl)
      (a8q (bDq (aUq r0q (aNq c_Slip n_told (a1q 0)) h2q (aPq _)) (a8q (cVq c_Slip n_told (a1q 0) (pAq (name := "filled") (qual := "Slip.read.<locals>.filled") (st := aYq) (fr := ["row"]) (ix := [1]) g_withn hr (by omega) rfl (by decide +kernel) (by kernel_rfl) (a0q (aNq c_Slip n_part (a1q 0)) (a0q (a1q 2) a5q))))) b0q)))), ?_⟩
  refine a6q (cGq ha) ⟨by rw [dFq hTS]; exact hT, fun fc hf => ?_⟩
  obtain ⟨f1, f2⟩ := hLq hf
  have nfa : a ≠ fc := by rintro rfl; rw [ha] at f1; cases f1
  refine a6q (by rw [a9q nfa]; exact cGq ha) ?_
  cases ht : told a with
  | true =>
    rw [show x.due.enc = .tup (.str x.due.word :: x.due.args) from x.due.enc_eq]
    refine ⟨fun c => xPq c, fun _ => ⟨upS Slip S told G0, Sub.new (Sub.refl _) hf, ?_⟩⟩
    rw [mSq ht] at q
    exact q
  | false =>
    have qm : rCq told x = [] := by unfold bAq at hm; rw [ha] at hm; simpa [ht] using hm
    have tl : ∀ r ∈ x.used, told r = true := fun r hr => by
      have z := (List.filter_eq_nil_iff.mp qm) r hr
      simpa using z
    have hsz := ok.sz a x ha
    refine ⟨fun _ => ?_, fun c => yIq c⟩
    refine a6q (by rw [a9q nfa]; exact cGq ha) ?_
    refine ⟨fc, [.tup (x.rs.map D.ref)], a2q, rfl, fun i j h => ?_, x.t, fc, _, _, _, _, _, _, d6q S x.rs, fun n w => (n, w) ∈ x.t.nmsR 0, x.used.map (fun r => (r, slO Slip ((S r).getD d0) true)), rfl, a2q, fRq c_Slip n_told (fun r hr => (ok.sub a x ha r hr).1) _ (fun n w hn hw => ?_), fun y hy => ?_, by omega, fun z hz => hz, rfl, ?_⟩
    . match i, j, h with
      | 0, _, rfl => exact ⟨_, rfl, rfl⟩
    . have lt := ok.nm a x ha (n, w) hn hw
      have er : x.rs[n - w]? = some x.rs[n - w] := List.getElem?_eq_getElem lt
      obtain ⟨⟨y, hy⟩, _⟩ := ok.sub a x ha _ (List.mem_of_getElem? er)
      exact ⟨_, y, er, hy, List.mem_map.mpr ⟨_, Sl.used_of hn hw er, by rw [hy]; rfl⟩⟩
    . obtain ⟨r, hr, rfl⟩ := List.mem_map.mp hy
      obtain ⟨⟨z, hz⟩, _⟩ := ok.sub a x ha r (Sl.used_mem hr)
      have nr : r ≠ fc := by rintro rfl; rw [hz] at f1; cases f1
      rw [a9q nr, a9q nr, cGq hz, tl r hr, hz]; rfl
    . refine a6q (by rw [a9q nfa]; exact cGq ha) ⟨?_, ?_⟩
      . exact (by decide : 3 < 1000)
      refine ⟨up (upS Slip S told G0) a (slO Slip x true), ?_, by rw [rRq ha]; exact q⟩
      have e : slO Slip x true = .ins Slip (m3q "told" (x.t.mapN (d6q S x.rs) 0).enc [("part", x.t.enc), ("row", .tup (x.rs.map D.ref)), ("told", if told a then x.due.enc else .non)]) := by
        rw [<- ok.due a x ha]; rfl
      rw [e]
      exact Sub.put (Sub.new (Sub.refl _) hf)
abbrev cKq : Stmt := (bHq (top 7)).getD 1 (.Pass ⟨0, 0, 0, 0⟩)
theorem sc_s_back : FnScope ["self", "pending", "slip", "missing"] ["self"] (a3q cKq) := ⟨rfl, rfl, rfl, by decide +kernel, rfl, by decide +kernel, by decide +kernel⟩
theorem m1q {Slip T : Addr} {tp : Pos} (B : Blt mg) (c_Slip : Cls K Slip) (n_told : NoAttr K Slip "told") (g_s_unread : MGot P w K mg base 3 Slip "unread" ["self"] (aWq K (i4q Slip))) (g_s_read : MGot P w K mg base 4 Slip "read" ["self"] (aWq K (nSq Slip T tp))) (F : Fun K "back" "Slip.back" cKq f fd) : FnOk P w K mg base CX0 5 f fd ["self"] (aWq K (mQq Slip T tp)) := by
  refine okD (k := 4) F sc_s_back (fun ds G DQ h => ?_) (fun cdv A outer s H E hr ds G DQ h => ?_)
  . obtain ⟨_, _, _, _, _, _, rfl, _⟩ := h; rfl
  obtain ⟨S, rk, told, G0, a, x, rfl, ok, ha, rfl, hTS, hT, q⟩ := h
  refine ⟨_, (a7q (aZq (k := 1) sc_s_back.nd rfl (Or.inl rfl) (eQq (a0q (a1q 0) a5q)))
      (a7q (hOq PassesOwn.never (b7q (a1q 1)) (a7q (aZq (k := 2) sc_s_back.nd rfl (Or.inl rfl) (aMq aix (a1q 1) (rOq kBq a4q) (fun _ _ => rfl)))
      (a7q (aZq (k := 3) sc_s_back.nd rfl (Or.inl rfl) (aVq c_Slip g_s_unread hr (by omega) (a1q 2)))
      (a8q (bDq (aUq (bEq (bXq hr)) (b1q b9q rfl B.len PySem.boot_len (a0q (a1q 3) a5q)) a4q (aPq _)) (a7q (bOq (aVq c_Slip g_s_read hr (by omega) (a1q 2)))
      (a8q (bOq (h9q PySem.F.plainAttrs_list PySem.F.slot_list_pop PySem.F.type_list_pop fAq (a1q 1))))) (a8q (bOq (eEq PySem.F.plainAttrs_list PySem.F.slot_list_extend PySem.F.type_list_extend f2q (a1q 1) (a0q (a1q 3) a5q)))))))))
      (a8q (aLq (aNq c_Slip n_told (a1q 0)))))), ?_⟩
  intro l hl
  obtain ⟨hlS, hl0⟩ := hLq hl
  obtain ⟨toldF, _, hF, hEnd⟩ := kQq ok (rk a + 1) told a (by omega) ⟨x, ha⟩
  obtain ⟨k, hk⟩ := hEnd [] 0 toldF .nil
  have nT : T ≠ l := by rintro rfl; rw [hT] at hl0; cases hl0
  refine ⟨fun m ρ G' => ∃ (told1 : Addr -> Bool) (st : List Addr) (o2 o3 : Option D), ρ = [some (.ref a), some (.ref l), o2, o3] /\ G' = upS Slip S told1 (up G0 l (.lst (st.reverse.map D.ref))) /\ Ends S m told1 st toldF /\ (∀ b ∈ st, ∃ y, S b = some y) /\ p7q rk st, ⟨k, told, [a], _, _, rfl, by rw [iRq hlS]; rfl, hk, by intro b hb; simp at hb; subst hb; exact ⟨x, ha⟩, ⟨by have := ok.top a x ha; simp; omega, trivial⟩⟩, ?_⟩
  rintro m ρ G' ⟨told1, st, o2, o3, rfl, rfl, he, hst, hol⟩
  have atl : ∀ (t : Addr -> Bool) (o : DO), upS Slip S t (up G0 l o) l = some o := fun t o => by rw [dFq hlS]; exact a2q
  refine aAq (atl _ _) ⟨fun c => ?_, fun c => ?_⟩
  . cases st with
    | nil => simp at c
    | cons b st =>
      obtain ⟨y, hy⟩ := hst b (List.mem_cons_self ..)
      refine aAq (atl _ _) (jGq (d := .ref b) (by rw [List.reverse_cons, List.map_append]; exact mHq _ _) ?_)
      refine ⟨a6q (cGq hy) rfl, S, rk, told1, _, b, y, rfl, ok, hy, rfl, fun p hp => ?_⟩
      obtain ⟨hpS, hp0⟩ := hLq hp
      obtain ⟨_, hp1, npl⟩ := hAq (o := .lst []) hp0
      have nTp : T ≠ p := by rintro rfl; rw [hT] at hp1; cases hp1
      rw [iRq hpS]
      have atp : ∀ (t : Addr -> Bool) (o u : DO), upS Slip S t (up (up G0 l o) p u) p = some u := fun t o u => by rw [dFq hpS]; exact a2q
      have atl2 : ∀ (t : Addr -> Bool) (o u : DO), upS Slip S t (up (up G0 l o) p u) l = some o := fun t o u => by rw [dFq hlS, a9q (Ne.symm npl)]; exact a2q
      refine aAq (atp _ _ _) ⟨fun c => ?_, fun c => ?_⟩
      . have hm : bAq S told1 b = [] := by simpa using c
        cases he with
        | push h => exact absurd hm h
        | pop _ he =>
          refine ⟨a6q (cGq hy) rfl, S, rk, told1, _, b, y, rfl, ok, hy, rfl, hm, hTS, by rw [a9q nTp, a9q nT]; exact hT, ?_⟩
          refine ⟨aAq (atl2 _ _ _) trivial, aBq (atl2 _ _ _) ⟨st.reverse.map D.ref, .ref b, by simp, ?_⟩⟩
          rw [iRq hlS]
          refine ⟨_, upS Slip S (kRq told1 b) (up G0 l (.lst (st.reverse.map D.ref))), .refl _, ?_, _, Nat.lt_succ_self _, kRq told1 b, st, _, _, rfl, rfl, he, fun c hc => hst c (List.mem_cons_of_mem _ hc), hol.2⟩
          exact oMq (Sub.put (Sub.trans (Sub.new (Sub.refl _) hl0) (Sub.new (Sub.refl _) hp0)))
      . have hm : bAq S told1 b ≠ [] := by simpa using c
        cases he with
        | pop h => exact absurd h hm
        | push _ he =>
          have hml := k6q (told := told1) (a := b) ok
          have h1 := hol.1
          refine ⟨aAq (atl2 _ _ _) trivial, aBq (atl2 _ _ _) (aBq (atp _ _ _) ⟨bTq (by simp only [List.length_map, List.length_reverse]; omega), ?_⟩)⟩
          rw [iRq hlS]
          refine ⟨_, upS Slip S told1 (up G0 l (.lst (((bAq S told1 b).reverse ++ b :: st).reverse.map D.ref))), .refl _, ?_, _, Nat.lt_succ_self _, told1, _, _, _, rfl, rfl, he, fun c hc => ?_, ?_⟩
          . rw [show ((bAq S told1 b).reverse ++ b :: st).reverse.map D.ref = (b :: st).reverse.map D.ref ++ (bAq S told1 b).map D.ref by simp]
            exact oMq (Sub.put (Sub.trans (Sub.new (Sub.refl _) hl0) (Sub.new (Sub.refl _) hp0)))
          . rcases List.mem_append.mp hc with hc | hc
            . exact (e8q ok (List.mem_reverse.mp hc)).1
            . exact hst c hc
          . exact h3q hol _ (by rw [List.length_reverse]; exact hml) fun c hc => (e8q ok (List.mem_reverse.mp hc)).2
  . cases st with
    | cons _ _ => simp at c
    | nil =>
      cases he
      refine a6q (cGq ha) ?_
      rw [hF]
      refine ⟨upS Slip S toldF G0, ?_, q toldF⟩
      rw [<- iRq hlS]
      exact Sub.new (Sub.refl _) (by rw [dFq hlS]; exact hl0)
abbrev d7q : Stmt := (bHq (top 14)).getD 3 (.Pass ⟨0, 0, 0, 0⟩)
theorem q8q : FnScope ["self"] ["self"] (a3q d7q) := ⟨rfl, rfl, rfl, by decide +kernel, rfl, by decide +kernel, by decide +kernel⟩
theorem pGq {Slip Machine : Addr} (c_Machine : Cls K Machine) (n_stack : NoAttr K Machine "stack") (F : Fun K "top" "Machine.top" d7q f fd) : FnOk P w K mg base CX0 1 f fd ["self"] (aWq K (pBq Slip Machine)) := by
  refine okD (k := 0) F q8q (fun ds G DQ h => ?_) (fun cdv A outer s H E hr ds G DQ h => ?_)
  . obtain ⟨_, _, _, rfl, _⟩ := h; rfl
  obtain ⟨a, lm, c, rfl, M, q⟩ := h
  refine ⟨_, (a8q (aLq (eYq (b7q (aNq c_Machine n_stack (a1q 0))) (aMq aix (aMq aix (aNq c_Machine n_stack (a1q 0)) (rOq kBq a4q) (fun _ _ => rfl)) a4q (fun _ _ => rfl)) h2q))), ?_⟩
  refine a6q M.im (aOq rfl (aAq M.il ?_))
  cases e : c.m.stack with
  | nil =>
    rw [e] at q
    exact ⟨fun h => (by simp at h), fun _ => Dr.of q⟩
  | cons k st =>
    rw [e] at q
    refine ⟨fun _ => a6q M.im (aOq rfl ?_), fun h => (by simp at h)⟩
    have M2 := M.il
    rw [e] at M2
    refine aAq M2 (jGq (d := k.enc) (by rw [List.reverse_cons, List.map_append]; exact mHq _ _) ?_)
    cases k <;> exact Dr.of q
abbrev c6q : Stmt := (bHq (top 14)).getD 12 (.Pass ⟨0, 0, 0, 0⟩)
theorem l6q : FnScope ["self"] ["self"] (a3q c6q) := ⟨rfl, rfl, rfl, by decide +kernel, rfl, by decide +kernel, by decide +kernel⟩
theorem lQq {Slip Machine : Addr} (c_Machine : Cls K Machine) (n_steps_done : NoAttr K Machine "steps_done") (F : Fun K "steps" "Machine.steps" c6q f fd) : FnOk P w K mg base CX0 1 f fd ["self"] (aWq K (dDq Slip Machine fun m => .int m.steps)) := by
  refine okD (k := 0) F l6q (fun ds G DQ h => ?_) (fun cdv A outer s H E hr ds G DQ h => ?_)
  . obtain ⟨_, _, _, rfl, _⟩ := h; rfl
  obtain ⟨a, lm, c, rfl, M, q⟩ := h
  refine ⟨_, (a8q (aLq (aNq c_Machine n_steps_done (a1q 0)))), ?_⟩
  exact a6q M.im (aOq rfl (Dr.of q))
abbrev cAq : Stmt := (bHq (top 14)).getD 13 (.Pass ⟨0, 0, 0, 0⟩)
theorem lSq : FnScope ["self"] ["self"] (a3q cAq) := ⟨rfl, rfl, rfl, by decide +kernel, rfl, by decide +kernel, by decide +kernel⟩
theorem lGq {Slip Machine : Addr} (c_Machine : Cls K Machine) (n_rules_done : NoAttr K Machine "rules_done") (F : Fun K "rules" "Machine.rules" cAq f fd) : FnOk P w K mg base CX0 1 f fd ["self"] (aWq K (dDq Slip Machine fun m => .int m.rules)) := by
  refine okD (k := 0) F lSq (fun ds G DQ h => ?_) (fun cdv A outer s H E hr ds G DQ h => ?_)
  . obtain ⟨_, _, _, rfl, _⟩ := h; rfl
  obtain ⟨a, lm, c, rfl, M, q⟩ := h
  refine ⟨_, (a8q (aLq (aNq c_Machine n_rules_done (a1q 0)))), ?_⟩
  exact a6q M.im (aOq rfl (Dr.of q))
abbrev c8q : Stmt := (bHq (top 14)).getD 14 (.Pass ⟨0, 0, 0, 0⟩)
theorem l8q : FnScope ["self"] ["self"] (a3q c8q) := ⟨rfl, rfl, rfl, by decide +kernel, rfl, by decide +kernel, by decide +kernel⟩
theorem lBq {Slip Machine : Addr} (c_Machine : Cls K Machine) (n_slips_made : NoAttr K Machine "slips_made") (F : Fun K "slips" "Machine.slips" c8q f fd) : FnOk P w K mg base CX0 1 f fd ["self"] (aWq K (dDq Slip Machine fun m => .int m.slips)) := by
  refine okD (k := 0) F l8q (fun ds G DQ h => ?_) (fun cdv A outer s H E hr ds G DQ h => ?_)
  . obtain ⟨_, _, _, rfl, _⟩ := h; rfl
  obtain ⟨a, lm, c, rfl, M, q⟩ := h
  refine ⟨_, (a8q (aLq (aNq c_Machine n_slips_made (a1q 0)))), ?_⟩
  exact a6q M.im (aOq rfl (Dr.of q))
abbrev bKq : Stmt := (bHq (top 14)).getD 15 (.Pass ⟨0, 0, 0, 0⟩)
theorem iGq : FnScope ["self"] ["self"] (a3q bKq) := ⟨rfl, rfl, rfl, by decide +kernel, rfl, by decide +kernel, by decide +kernel⟩
theorem i5q {Slip Machine : Addr} (c_Machine : Cls K Machine) (n_looked_up : NoAttr K Machine "looked_up") (F : Fun K "look_ups" "Machine.look_ups" bKq f fd) : FnOk P w K mg base CX0 1 f fd ["self"] (aWq K (dDq Slip Machine fun m => .int m.looks)) := by
  refine okD (k := 0) F iGq (fun ds G DQ h => ?_) (fun cdv A outer s H E hr ds G DQ h => ?_)
  . obtain ⟨_, _, _, rfl, _⟩ := h; rfl
  obtain ⟨a, lm, c, rfl, M, q⟩ := h
  refine ⟨_, (a8q (aLq (aNq c_Machine n_looked_up (a1q 0)))), ?_⟩
  exact a6q M.im (aOq rfl (Dr.of q))
abbrev bQq : Stmt := (bHq (top 14)).getD 6 (.Pass ⟨0, 0, 0, 0⟩)
theorem jAq : FnScope ["self"] ["self"] (a3q bQq) := ⟨rfl, rfl, rfl, by decide +kernel, rfl, by decide +kernel, by decide +kernel⟩
theorem jMq {Slip Machine : Addr} (c_Slip : Cls K Slip) (n_part : NoAttr K Slip "part") (n_row : NoAttr K Slip "row") (c_Machine : Cls K Machine) (n_here : NoAttr K Machine "here") (n_looked_up : NoAttr K Machine "looked_up") (F : Fun K "look_up" "Machine.look_up" bQq f fd) : FnOk P w K mg base CX0 1 f fd ["self"] (aWq K (iAq Slip Machine)) := by
  refine okD (k := 0) F jAq (fun ds G DQ h => ?_) (fun cdv A outer s H E hr ds G DQ h => ?_)
  . obtain ⟨_, _, _, _, _, _, rfl, _⟩ := h; rfl
  obtain ⟨a, lm, c, x, n, r, rfl, M, hx, ht, hr', q⟩ := h
  refine ⟨_, (a7q (cVq c_Machine n_here (a1q 0) (aMq aix (aNq c_Slip n_row (aNq c_Machine n_here (a1q 0))) (aMq aix (aNq c_Slip n_part (aNq c_Machine n_here (a1q 0))) a4q (fun _ _ => rfl)) (fun _ _ => rfl)))
      (a8q (ePq c_Machine n_looked_up (a1q 0) a4q))), ?_⟩
  obtain ⟨tb, hsl⟩ := M.sl _ _ hx
  obtain ⟨t, rs, due⟩ := x
  cases ht
  refine a6q M.im (aOq rfl (a6q hsl (aOq rfl (a6q M.im (aOq rfl (a6q hsl (aOq rfl ?_)))))))
  refine c5q (d := .int n) rfl (c5q (d := .ref r) (e6q (by rw [List.getElem?_map, hr']; rfl)) ?_)
  refine a6q M.im ⟨show 7 < 1000 by decide, a6q a2q (aOq (d := .int c.m.looks) rfl (a6q a2q ⟨show 7 < 1000 by decide, Dr.of ?_⟩))⟩
  rw [c1q]
  exact q
abbrev c0q : Stmt := (bHq (top 14)).getD 8 (.Pass ⟨0, 0, 0, 0⟩)
theorem jRq : FnScope ["self", "k"] ["self", "k"] (a3q c0q) := ⟨rfl, rfl, rfl, by decide +kernel, rfl, by decide +kernel, by decide +kernel⟩
theorem kAq {Slip Machine : Addr} (c_Slip : Cls K Slip) (n_part : NoAttr K Slip "part") (n_row : NoAttr K Slip "row") (c_Machine : Cls K Machine) (n_here : NoAttr K Machine "here") (g_Slip : MkGot P w K mg base 1 Slip "Slip" ["self", "program", "slips"] (aWq K (iXq Slip))) (F : Fun K "within" "Machine.within" c0q f fd) : FnOk P w K mg base CX0 3 f fd ["self", "k"] (aWq K (fTq Slip Machine)) := by
  refine okD (k := 2) F jRq (fun ds G DQ h => ?_) (fun cdv A outer s H E hr ds G DQ h => ?_)
  . obtain ⟨_, _, _, _, _, _, rfl, _⟩ := h; rfl
  obtain ⟨a, lm, c, x, k, u, rfl, M, hx, hu, hlf, q⟩ := h
  refine ⟨_, (a8q (aLq (f7q g_Slip hr (by omega) rfl (a0q (aMq aix (aNq c_Slip n_part (aNq c_Machine n_here (a1q 0))) (a1q 1) (fun _ _ => rfl)) (a0q (aNq c_Slip n_row (aNq c_Machine n_here (a1q 0))) a5q))))), ?_⟩
  obtain ⟨tb, hsl⟩ := M.sl _ _ hx
  refine a6q M.im (aOq rfl (a6q hsl (aOq rfl ?_)))
  rw [Tm.enc_nd hlf]
  refine c5q (d := u.enc) (e6q (j := k + 1) (by rw [List.getElem?_cons_succ, List.getElem?_map, hu]; rfl)) ?_
  refine a6q M.im (aOq rfl (a6q hsl (aOq rfl ?_)))
  intro p hp
  refine ⟨p, u, x.rs, _, rfl, a2q, .inl rfl, rfl, Dr.of ?_⟩
  rw [c1q]
  exact q p hp
abbrev cBq : Stmt := (bHq (top 14)).getD 4 (.Pass ⟨0, 0, 0, 0⟩)
theorem lTq : FnScope ["self"] ["self"] (a3q cBq) := ⟨rfl, rfl, rfl, by decide +kernel, rfl, by decide +kernel, by decide +kernel⟩
theorem lLq {Slip Machine aMEETS : Addr} (c_Slip : Cls K Slip) (n_part : NoAttr K Slip "part") (c_Machine : Cls K Machine) (n_here : NoAttr K Machine "here") (n_paired : NoAttr K Machine "paired") (m_MEETS : mg "MEETS" = some (.ref aMEETS)) (T_MEETS : KTabD K w aMEETS e3q) (g_m_top : MGot P w K mg base 1 Machine "top" ["self"] (aWq K (pBq Slip Machine))) (F : Fun K "meets" "Machine.meets" cBq f fd) : FnOk P w K mg base CX0 2 f fd ["self"] (aWq K (hXq Slip Machine)) := by
  refine okD (k := 1) F lTq (fun ds G DQ h => ?_) (fun cdv A outer s H E hr ds G DQ h => ?_)
  . obtain ⟨_, _, _, rfl, _⟩ := h; rfl
  obtain ⟨a, lm, c, rfl, M, q⟩ := h
  refine ⟨_, (a7q (bDq (b7q (aNq c_Machine n_paired (a1q 0))) (a8q (aLq (e4q kKq (aVq c_Machine g_m_top hr (by omega) (a1q 0)) (aRq (a0q aJq (a0q aJq a5q))) (by with_unfolding_all rfl)))) b0q)
      (a8q (aLq (e4q kKq (aVq c_Machine g_m_top hr (by omega) (a1q 0)) (pXq rfl m_MEETS T_MEETS (aMq aix (aNq c_Slip n_part (aNq c_Machine n_here (a1q 0))) a4q (fun _ _ => rfl)) (aRq a5q)) (by with_unfolding_all rfl))))), ?_⟩
  obtain ⟨x, hx⟩ := M.hs
  obtain ⟨tb, hsl⟩ := M.sl _ _ hx
  have ht : c.t = x.t := by unfold Cf.t; rw [hx]
  rw [ht] at q
  refine a6q M.im (aOq rfl ⟨fun h => ?_, fun h => ?_⟩)
  . refine ⟨a6q M.im rfl, a, lm, c, rfl, M, ?_⟩
    refine ⟨hQq _, rfl, ?_⟩
    rw [Bool.false_xor, sOq x.t]
    replace h : c.m.paired = true := h
    rw [h] at q
    exact Dr.of q
  . refine ⟨a6q M.im rfl, a, lm, c, rfl, M, a6q M.im (aOq rfl (a6q hsl (aOq rfl ?_)))⟩
    refine pEq ?_
    obtain ⟨ds, e1, e2, e3⟩ := m6q x.t
    have fin : ∀ (R : DK), R (.bl (b8q c.m.paired x.t c.m.stack)) G -> inD false (jQq c.m.stack) ((e3q x.t.word).getD (.tup [])) G R := fun R hR => by
      rw [e1]
      refine ⟨hQq _, e2, ?_⟩
      replace h : c.m.paired = false := h
      rw [Bool.false_xor, e3, <- h]
      exact hR
    exact fin _ (Dr.of q)
abbrev bYq : Stmt := (bHq (top 14)).getD 5 (.Pass ⟨0, 0, 0, 0⟩)
theorem sc_m_enters : FnScope ["self", "word"] ["self"] (a3q bYq) := ⟨rfl, rfl, rfl, by decide +kernel, rfl, by decide +kernel, by decide +kernel⟩
theorem jVq {Slip Machine aMARK : Addr} (c_Slip : Cls K Slip) (n_part : NoAttr K Slip "part") (c_Machine : Cls K Machine) (n_here : NoAttr K Machine "here") (n_paired : NoAttr K Machine "paired") (m_MARK_FOR : mg "MARK_FOR" = some (.ref aMARK)) (T_MARK_FOR : KTabD K w aMARK eKq) (g_m_top : MGot P w K mg base 1 Machine "top" ["self"] (aWq K (pBq Slip Machine))) (F : Fun K "enters" "Machine.enters" bYq f fd) : FnOk P w K mg base CX0 2 f fd ["self"] (aWq K (i7q Slip Machine)) := by
  refine okD (k := 1) F sc_m_enters (fun ds G DQ h => ?_) (fun cdv A outer s H E hr ds G DQ h => ?_)
  . obtain ⟨_, _, _, rfl, _⟩ := h; rfl
  obtain ⟨a, lm, c, rfl, M, q⟩ := h
  refine ⟨_, (a7q (aZq (k := 1) sc_m_enters.nd rfl (Or.inl rfl) (aMq aix (aNq c_Slip n_part (aNq c_Machine n_here (a1q 0))) a4q (fun _ _ => rfl)))
      (a7q (bDq (aUq (bEq (bXq hr)) (a1q 1) aJq (aPq _)) (a8q (aLq (l2q (qVq (aNq c_Machine n_paired (a1q 0))) (n9q (e4q kKq (aVq c_Machine g_m_top hr (by omega) (a1q 0)) (aRq (a0q h2q (a0q aJq (a0q aJq a5q)))) (by with_unfolding_all rfl)))))) b0q)
      (a8q (aLq (e4q (s8q T_MARK_FOR) (a1q 1) (k8q (d := .ref _) (v := .ref _) rfl m_MARK_FOR rfl (fun _ => rfl)) (by with_unfolding_all rfl)))))), ?_⟩
  obtain ⟨x, hx⟩ := M.hs
  obtain ⟨tb, hsl⟩ := M.sl _ _ hx
  have ht : c.t = x.t := by unfold Cf.t; rw [hx]
  rw [ht] at q
  refine a6q M.im (aOq rfl (a6q hsl (aOq rfl ?_)))
  refine pEq ⟨fun h => ?_, fun h => ?_⟩
  . obtain ⟨t1, t2, e⟩ := (j8q x.t).mp h
    rw [e] at q
    refine a6q M.im (aOq rfl ⟨fun z => ?_, fun z => ?_⟩)
    . refine ⟨a6q M.im rfl, a, lm, c, rfl, M, hQq _, rfl, ?_⟩
      rw [Bool.false_xor, v4q]
      have q' : DQ (D.bl (!c.m.paired && hCq c.m.stack)) G := q
      rw [z, Bool.true_and] at q'
      exact Dr.of q'
    . have q' : DQ (D.bl (!c.m.paired && hCq c.m.stack)) G := q
      rw [z, Bool.false_and] at q'
      exact Dr.of q'
  . replace h : eqD (.str x.t.word) (.str "pair") = false := h
    have nb : ∀ a b, x.t ≠ .pair a b := fun a b e => absurd ((j8q x.t).mpr ⟨a, b, e⟩) (by rw [h]; decide)
    refine ⟨rfl, ?_⟩
    rw [pSq nb c.m.paired c.m.stack]
    exact Dr.of q
abbrev cLq : Stmt := (bHq (top 14)).getD 2 (.Pass ⟨0, 0, 0, 0⟩)
theorem lXq : FnScope ["self"] ["self"] (a3q cLq) := ⟨rfl, rfl, rfl, by decide +kernel, rfl, by decide +kernel, by decide +kernel⟩
theorem o2q {Slip Machine : Addr} (c_Slip : Cls K Slip) (n_part : NoAttr K Slip "part") (c_Machine : Cls K Machine) (n_here : NoAttr K Machine "here") (n_stack : NoAttr K Machine "stack") (g_m_meets : MGot P w K mg base 2 Machine "meets" ["self"] (aWq K (hXq Slip Machine))) (g_m_enters : MGot P w K mg base 2 Machine "enters" ["self"] (aWq K (i7q Slip Machine))) (F : Fun K "word" "Machine.word" cLq f fd) : FnOk P w K mg base CX0 3 f fd ["self"] (aWq K (kJq Slip Machine)) := by
  refine okD (k := 2) F lXq (fun ds G DQ h => ?_) (fun cdv A outer s H E hr ds G DQ h => ?_)
  . obtain ⟨_, _, _, rfl, _⟩ := h; rfl
  obtain ⟨a, lm, c, rfl, M, q⟩ := h
  refine ⟨_, (a7q (bDq (AW.at (lRq (b7q (aVq c_Machine g_m_meets hr (by omega) (a1q 0))) (lRq (b7q (aVq c_Machine g_m_enters hr (by omega) (a1q 0))) (j6q (aUq (bEq (bXq hr)) (aMq aix (aNq c_Slip n_part (aNq c_Machine n_here (a1q 0))) a4q (fun _ _ => rfl)) aJq (aPq _)))))) (a8q (aLq aJq)) b0q)
      (a8q (aLq (eYq (b7q (aNq c_Machine n_stack (a1q 0))) aJq aJq)))), ?_⟩
  obtain ⟨x, hx⟩ := M.hs
  obtain ⟨tb, hsl⟩ := M.sl _ _ hx
  have ht : c.t = x.t := by unfold Cf.t; rw [hx]
  refine ⟨a6q M.im rfl, a, lm, c, rfl, M, ?_⟩
  have w1 : gOq c = if dEq c.m.paired x.t c.m.stack then ("going" : Str) else if c.m.stack.isEmpty then ("answer" : Str) else ("stuck" : Str) := by unfold gOq Cf.going; rw [ht]
  rw [w1] at q
  unfold dEq at q
  have e2 : (c.t) = x.t := ht
  refine ⟨fun h => ?_, fun h => ⟨a6q M.im rfl, a, lm, c, rfl, M, fun h2 => ?_, fun h2 => ?_⟩⟩
  . rw [e2] at h; rw [h] at q; exact Br.yes rfl (Dr.of q)
  . rw [e2] at h h2; rw [h, h2] at q; exact Br.yes rfl (Dr.of q)
  . rw [e2] at h h2; rw [h, h2] at q
    refine a6q M.im (aOq rfl (a6q hsl (aOq rfl (pEq ⟨fun h3 => ?_, fun h3 => ?_⟩))))
    . rw [show x.t.isName = true from (eLq x.t).symm.trans h3] at q
      exact Dr.of q
    . rw [show x.t.isName = false from (eLq x.t).symm.trans h3] at q
      refine a6q M.im (aOq rfl (aAq M.il ?_))
      cases e : c.m.stack with
      | nil => rw [e] at q; exact ⟨fun z => (by simp at z), fun _ => Dr.of q⟩
      | cons k st => rw [e] at q; exact ⟨fun _ => Dr.of q, fun z => (by simp at z)⟩
abbrev c9q : Stmt := (bHq (top 14)).getD 7 (.Pass ⟨0, 0, 0, 0⟩)
theorem sc_m_enter : FnScope ["self", "part", "held"] ["self"] (a3q c9q) := ⟨rfl, rfl, rfl, by decide +kernel, rfl, by decide +kernel, by decide +kernel⟩
theorem lIq {Slip Machine aMARK : Addr} (B : Blt mg) (c_Slip : Cls K Slip) (n_part : NoAttr K Slip "part") (c_Machine : Cls K Machine) (n_here : NoAttr K Machine "here") (n_stack : NoAttr K Machine "stack") (n_slips_made : NoAttr K Machine "slips_made") (m_MARK_FOR : mg "MARK_FOR" = some (.ref aMARK)) (T_MARK_FOR : KTabD K w aMARK eKq) (g_m_within : MGot P w K mg base 3 Machine "within" ["self", "k"] (aWq K (fTq Slip Machine))) (F : Fun K "enter" "Machine.enter" c9q f fd) : FnOk P w K mg base CX0 4 f fd ["self"] (aWq K (k2q Slip Machine)) := by
  refine okD (k := 3) F sc_m_enter (fun ds G DQ h => ?_) (fun cdv A outer s H E hr ds G DQ h => ?_)
  . obtain ⟨_, _, _, _, rfl, _⟩ := h; rfl
  obtain ⟨a, lm, c, x, rfl, M, hx, hen, hln, q⟩ := h
  refine ⟨_, (a7q (aZq (k := 1) sc_m_enter.nd rfl (Or.inl rfl) (aNq c_Slip n_part (aNq c_Machine n_here (a1q 0))))
      (a7q (d2q (k := 2) rfl sc_m_enter.nd rfl (Or.inl rfl) (CompOk.of (N' := ["k", "self"]) (nt := 1) (cap := [0]) rfl (by kernel_rfl)) (bLq (k := 0) (by decide)) (m4q rfl B.range (a0q a4q (a0q (b1q b9q rfl B.len PySem.boot_len (a0q (a1q 1) a5q)) a5q))) (fun _ _ _ _ => (bFq (k := 0) (show List.Nodup (["k", "self"] : List Str) by decide +kernel) rfl (Or.inl rfl)))  (fun _ _ _ _ => (gJq c_Machine g_m_within hr (by omega) (a1q 1) (a0q (a1q 0) a5q))))
      (a7q (bOq (eEq PySem.F.plainAttrs_list PySem.F.slot_list_append PySem.F.type_list_append bSq (aNq c_Machine n_stack (a1q 0)) (a0q (bCq bNq (aRq (a0q (tUq rfl m_MARK_FOR T_MARK_FOR (aMq aix (a1q 1) a4q (fun _ _ => rfl)) (fun _ _ => rfl)) a5q)) (eRq e5q rfl B.tuple PyProof.Rows.boot_tuple (a0q (a1q 2) a5q))) a5q)))
      (a7q (cVq c_Machine n_here (a1q 0) (gJq c_Machine g_m_within hr (by omega) (a1q 0) (a0q a4q a5q)))
      (a8q (bDq (aUq (bEq (bXq hr)) (aMq aix (a1q 1) a4q (fun _ _ => rfl)) aJq (aPq _)) (a8q (ePq c_Machine n_slips_made (a1q 0) a4q)) b0q)))))), ?_⟩
  obtain ⟨tb, hsl⟩ := M.sl _ _ hx
  refine a6q M.im (aOq rfl (a6q hsl (aOq rfl ?_)))
  obtain ⟨hlf, hwy, ⟨u, ts, hin, htl⟩, sw, hmk, hmf⟩ := k4q hen
  unfold enterP at q
  rw [hin] at q
  rw [Tm.enc_nd hlf]
  have hle : (D.str x.t.word :: x.t.inn.map Tm.enc).length = ts.length + 2 := by rw [hin]; simp
  refine sLq (by decide) (by rw [hle]; omega) ?_
  rw [hle, show ((ts.length + 2 : Nat) : Int) - 2 = (ts.length : Int) by omega, Int.toNat_natCast]
  refine cIq (fun i ds G' => ∃ (qs : List Addr) (ci : Cf), ds = qs.map D.ref /\ qs.length = i /\ MAt Slip Machine G' a lm ci /\ ci.m = c.m /\ ci.S c.m.here = some x /\ Fr a lm G G' /\ (∀ q ∈ qs, ∃ y, ci.S q = some y) ∧
    ci.allocs (ts.drop i) x.rs fun qs' c1 => c1.alloc u x.rs fun p c' => ∀ G', MAt Slip Machine G' a lm { c' with m := { c.m with here := p, stack := qHq x.t (qs ++ qs') :: c.m.stack, slips := c.m.slips + (if x.t.isGive then 1 else 0) } } -> Fr a lm G G' -> DQ .non G') (aEq (by show (d0q 2 ts.length).length <= _; rw [c3q]; omega)) ⟨[], c, rfl, rfl, M, rfl, hx, Fr.refl, fun _ h => (by cases h), q⟩ (fun _ _ _ _ _ => trivial) ?_ ?_
  . rintro i d ds G' hd ⟨qs, ci, rfl, hql, M', hm, hx', F', hqs, qa⟩
    obtain ⟨hi, rfl⟩ := dSq hd
    have hti : ts[i]? = some ts[i] := List.getElem?_eq_getElem hi
    refine ⟨a6q M'.im rfl, a, lm, ci, x, i + 1, ts[i], ?_, M', by rw [hm]; exact hx', by rw [hin]; exact hti, hlf, fun p hp => ?_⟩
    . show [D.ref a, D.int (2 + (i : Int))] = [D.ref a, D.int (((i + 1 : Nat) : Int) + 1)]
      rw [show (2 : Int) + (i : Int) = ((i + 1 : Nat) : Int) + 1 by omega]
    . rw [List.drop_eq_getElem_cons hi] at qa
      have fp := M'.fresh hp
      refine WkV.of ⟨qs ++ [p], ci.add p ts[i] x.rs, by simp, by simp [hql], M'.adds hp (M'.sw.inn hx' (by rw [hin]; exact List.mem_cons_of_mem _ (List.getElem_mem hi)) hwy), hm, c4q fp hx', F'.trans (Fr.new hp), fun r hr => ?_, Cf.allocs.mono (qa p fp) fun ps c2 h => by rw [List.append_assoc]; exact h⟩
      rcases List.mem_append.mp hr with hr | hr
      . obtain ⟨y, hy⟩ := hqs r hr; exact ⟨y, c4q fp hy⟩
      . rw [List.mem_singleton.mp hr]; exact ⟨_, aCq⟩
  . rintro ds G' ⟨qs, ci, rfl, hql, M', hm, hx', F', hqs, qa⟩ lp hlp
    have hql' : qs.length = ts.length := hql.trans c3q
    rw [show ts.drop (DIt.mk (d0q 2 ts.length) fun _ => True).items.length = [] from List.drop_eq_nil_of_le (by show ts.length <= (d0q 2 ts.length).length; rw [c3q]; exact Nat.le_refl _)] at qa
    unfold Cf.allocs at qa
    rw [List.append_nil, <- hm] at qa
    have M5 := M'.new hlp (o := .lst (qs.map D.ref))
    obtain ⟨f1, f2⟩ := hmf qs (by rw [hin, hql']; rfl)
    have hst : ci.m.stack.length < 100000 := by rw [hm]; exact hln
    refine a6q M5.im (aOq rfl ⟨aAq M5.il trivial, ⟨_, hmk, aAq a2q ⟨bTq (by rw [List.length_map]; show 1 + qs.length <= _; omega), aBq M5.il ⟨aEq (by rw [List.length_map, List.length_reverse]; omega), ?_⟩⟩⟩⟩)
    have el : (ci.m.stack.reverse.map Mk.enc ++ [D.tup ([D.str sw] ++ qs.map D.ref)]) = (qHq x.t qs :: ci.m.stack).reverse.map Mk.enc := by
      rw [List.reverse_cons, List.map_append]
      show _ = _ ++ [(qHq x.t qs).enc]
      rw [f1]; rfl
    have M6 : MAt Slip Machine (up (up G' lp (.lst (qs.map D.ref))) lm (.lst (ci.m.stack.reverse.map Mk.enc ++ [D.tup ([D.str sw] ++ qs.map D.ref)]))) a lm { ci with m := { ci.m with stack := qHq x.t qs :: ci.m.stack } } := by
      rw [el]
      refine M5.putL fun k hk => ?_
      rcases List.mem_cons.mp hk with rfl | hk
      . rw [f2]; exact hqs
      . exact M'.ms k hk
    have hx6 : ci.S ci.m.here = some x := by rw [hm]; exact hx'
    have F6 : Fr a lm G (up (up G' lp (.lst (qs.map D.ref))) lm (.lst (ci.m.stack.reverse.map Mk.enc ++ [D.tup ([D.str sw] ++ qs.map D.ref)]))) := (F'.trans (Fr.new hlp)).trans Fr.l
    refine ⟨a6q M6.im rfl, a, lm, _, x, 0, u, rfl, M6, hx6, by rw [hin]; rfl, hlf, fun p hp => ?_⟩
    have M7 := M6.adds hp (M6.sw.inn hx6 (by rw [hin]; exact List.mem_cons_self ..) hwy)
    have fp := M6.fresh hp
    refine a6q M7.im ⟨show 7 < 1000 by decide, ⟨fun h => ?_, fun h => ?_⟩⟩
    . have hg : x.t.isGive = true := (jEq x.t).symm.trans h
      rw [hg] at qa
      refine a6q a2q (aOq (d := .int ci.m.slips) rfl (a6q a2q ⟨show 7 < 1000 by decide, Dr.of ?_⟩))
      rw [c1q]
      exact qa p fp _ (M7.putA (m := { ci.m with here := p, stack := qHq x.t qs :: ci.m.stack, slips := ci.m.slips + 1 }) rfl ⟨_, aCq⟩) ((F6.trans (Fr.new hp)).trans Fr.a)
    . have hg : x.t.isGive = false := (jEq x.t).symm.trans h
      rw [hg] at qa
      exact Dr.of (qa p fp _ (M7.putA (m := { ci.m with here := p, stack := qHq x.t qs :: ci.m.stack }) rfl ⟨_, aCq⟩) ((F6.trans (Fr.new hp)).trans Fr.a))
abbrev bZq : Stmt := (bHq (top 14)).getD 10 (.Pass ⟨0, 0, 0, 0⟩)
theorem sc_m_behind : FnScope ["self", "mark", "here"] ["self", "mark"] (a3q bZq) := ⟨rfl, rfl, rfl, by decide +kernel, rfl, by decide +kernel, by decide +kernel⟩
theorem jSq {Slip Machine aPAIR : Addr} (c_Slip : Cls K Slip) (n_part : NoAttr K Slip "part") (n_row : NoAttr K Slip "row") (c_Machine : Cls K Machine) (n_here : NoAttr K Machine "here") (m_PAIR_OF_SLIPS : mg "PAIR_OF_SLIPS" = some (.ref aPAIR)) (t_PAIR_OF_SLIPS : ∀ H, Abs K H (Tm.pair (.name 0) (.name 1)).enc (.ref aPAIR)) (g_Slip : MkGot P w K mg base 1 Slip "Slip" ["self", "program", "slips"] (aWq K (iXq Slip))) (g_m_within : MGot P w K mg base 3 Machine "within" ["self", "k"] (aWq K (fTq Slip Machine))) (F : Fun K "behind" "Machine.behind" bZq f fd) : FnOk P w K mg base CX0 4 f fd ["self", "mark"] (aWq K (hWq Slip Machine)) := by
  refine okD (k := 3) F sc_m_behind (fun ds G DQ h => ?_) (fun cdv A outer s H E hr ds G DQ h => ?_)
  . obtain ⟨_, _, _, _, _, rfl, _⟩ := h; rfl
  obtain ⟨a, lm, c, x, k, rfl, M, hx, hk, q⟩ := h
  refine ⟨_, (a7q (aZq (k := 2) sc_m_behind.nd rfl (Or.inl rfl) (aNq c_Machine n_here (a1q 0)))
      (a7q (bDq (aUq (bEq (bXq hr)) (aMq aix (a1q 1) a4q (fun _ _ => rfl)) aJq (aPq _)) (a8q (aLq (f7q g_Slip hr (by omega) rfl (a0q (aMq aix (aNq c_Slip n_part (a1q 2)) a4q (fun _ _ => rfl)) (a0q (bCq bNq (aRq (a0q (aMq aix (a1q 1) a4q (fun _ _ => rfl)) a5q)) (aNq c_Slip n_row (a1q 2))) a5q))))) b0q)
      (a7q (bDq (aUq (bEq (bXq hr)) (aMq aix (a1q 1) a4q (fun _ _ => rfl)) aJq (aPq _)) (a8q (aLq (gJq c_Machine g_m_within hr (by omega) (a1q 0) (a0q a4q a5q)))) b0q)
      (a7q (bDq (aUq (bEq (bXq hr)) (aMq aix (a1q 1) a4q (fun _ _ => rfl)) aJq (aPq _)) (a8q (aLq (gJq c_Machine g_m_within hr (by omega) (a1q 0) (a0q a4q a5q)))) b0q)
      (a7q (bDq (aUq (bEq (bXq hr)) (aMq aix (a1q 1) a4q (fun _ _ => rfl)) aJq (aPq _)) (a8q (aLq (f7q g_Slip hr (by omega) rfl (a0q (aRq (a0q aJq (a0q (bCq bNq (aMq aix (a1q 1) a4q (fun _ _ => rfl)) (aMq aix (aNq c_Slip n_part (a1q 2)) a4q (fun _ _ => rfl))) a5q))) (a0q (aRq a5q) a5q))))) b0q)
      (a7q (bDq (aUq (bEq (bXq hr)) (aMq aix (a1q 1) a4q (fun _ _ => rfl)) aJq (aPq _)) (a8q (aLq (eYq (aUq (bEq (bXq hr)) (aMq aix (aNq c_Slip n_part (a1q 2)) a4q (fun _ _ => rfl)) a4q (aPq _)) (aMq aix (a1q 1) a4q (fun _ _ => rfl)) (aMq aix (a1q 1) a4q (fun _ _ => rfl))))) b0q)
      (a7q (bDq (aUq (bEq (bXq hr)) (aMq aix (a1q 1) a4q (fun _ _ => rfl)) aJq (aPq _)) (a8q (aLq (f7q g_Slip hr (by omega) rfl (a0q (k8q (v := .ref _) rfl m_PAIR_OF_SLIPS rfl t_PAIR_OF_SLIPS) (a0q (aRq (a0q (aMq aix (a1q 1) a4q (fun _ _ => rfl)) (a0q (a1q 2) a5q))) a5q))))) b0q)
      (a8q (aLq (aMq aix (a1q 1) a4q (fun _ _ => rfl))))))))))), ?_⟩
  obtain ⟨tb, hsl⟩ := M.sl _ _ hx
  refine a6q M.im (aOq rfl ?_)
  obtain ⟨t, rs, due⟩ := x
  cases k with
  | slip b =>
    cases t with
    | way u =>
      refine Br.yes (sEq _) ?_
      refine a6q hsl (aOq rfl (c5q (d := u.enc) rfl (c5q (d := .ref b) rfl (a6q hsl (aOq rfl ?_)))))
      obtain ⟨hrl, q⟩ := q
      replace hrl : rs.length < 100000 := hrl
      refine ⟨bTq (by rw [List.length_map]; show 1 + rs.length <= _; omega), ?_⟩
      intro p hp
      refine ⟨p, u, b :: rs, _, rfl, a2q, .inl rfl, rfl, Dr.of ?_⟩
      rw [c1q]
      exact q p (M.fresh hp) _ (M.adds hp (M.sw.body hx (hk b (List.mem_cons_self ..)))) (Fr.new hp)
    | _ => exact q.elim
  | first =>
    cases t with
    | pair u v =>
      refine Br.no (sNe (by decide)) ?_
      refine Br.yes (sEq _) ?_
      exact ⟨a6q M.im rfl, a, lm, c, _, 0, u, rfl, M, hx, rfl, rfl, fun p hp => Dr.of (q p (M.fresh hp) _ (M.adds hp (M.sw.inn hx (List.mem_cons_self ..) rfl)) (Fr.new hp))⟩
    | _ => exact q.elim
  | second =>
    cases t with
    | pair u v =>
      refine Br.no (sNe (by decide)) ?_
      refine Br.no (sNe (by decide)) ?_
      refine Br.yes (sEq _) ?_
      exact ⟨a6q M.im rfl, a, lm, c, _, 1, v, rfl, M, hx, rfl, rfl, fun p hp => Dr.of (q p (M.fresh hp) _ (M.adds hp (M.sw.inn hx (List.mem_cons_of_mem _ (List.mem_cons_self ..)) rfl)) (Fr.new hp))⟩
    | _ => exact q.elim
  | had n =>
    cases t with
    | whole j =>
      refine Br.no (sNe (by decide)) ?_
      refine Br.no (sNe (by decide)) ?_
      refine Br.no (sNe (by decide)) ?_
      refine Br.yes (sEq _) ?_
      refine c5q (d := .int n) rfl (a6q hsl (aOq rfl (c5q (d := .int j) rfl ?_)))
      intro p hp
      refine ⟨p, .whole (n + j), [], _, rfl, a2q, .inl rfl, rfl, Dr.of ?_⟩
      rw [c1q]
      exact q p (M.fresh hp) _ (M.adds hp mUq) (Fr.new hp)
    | _ => exact q.elim
  | look u v =>
    cases t with
    | whole j =>
      refine Br.no (sNe (by decide)) ?_
      refine Br.no (sNe (by decide)) ?_
      refine Br.no (sNe (by decide)) ?_
      refine Br.no (sNe (by decide)) ?_
      refine Br.yes (sEq _) ?_
      refine a6q hsl (aOq rfl (c5q (d := .int j) rfl ⟨fun h => ?_, fun h => ?_⟩))
      . have h' : j = 0 := by simpa using h
        refine c5q (d := .ref u) rfl (Dr.of ?_)
        have q' := q
        unfold k0q at q'
        simp only [h', if_true] at q'
        exact q' _ M Fr.refl
      . have h' : ¬ j = 0 := by simpa using h
        refine c5q (d := .ref v) rfl (Dr.of ?_)
        have q' := q
        unfold k0q at q'
        simp only [h', if_false] at q'
        exact q' _ M Fr.refl
    | _ => exact q.elim
  | beside b =>
    refine Br.no (sNe (by decide)) ?_
    refine Br.no (sNe (by decide)) ?_
    refine Br.no (sNe (by decide)) ?_
    refine Br.no (sNe (by decide)) ?_
    refine Br.no (sNe (by decide)) ?_
    refine Br.yes (sEq _) ?_
    refine c5q (d := .ref b) rfl ?_
    intro p hp
    refine ⟨p, .pair (.name 0) (.name 1), [b, c.m.here], _, rfl, a2q, .inl rfl, rfl, Dr.of ?_⟩
    rw [c1q]
    have q' : c.alloc (.pair (.name 0) (.name 1)) [b, c.m.here] fun r c' => ∀ G', MAt Slip Machine G' a lm c' -> Fr a lm G G' -> DQ (.ref r) G' := by cases t <;> exact q
    exact q' p (M.fresh hp) _ (M.adds hp (q1q (hk b (List.mem_cons_self ..)) ⟨_, hx⟩)) (Fr.new hp)
  | plus u =>
    refine Br.no (sNe (by decide)) ?_
    refine Br.no (sNe (by decide)) ?_
    refine Br.no (sNe (by decide)) ?_
    refine Br.no (sNe (by decide)) ?_
    refine Br.no (sNe (by decide)) ?_
    refine Br.no (sNe (by decide)) ?_
    refine Dr.of ?_
    cases t <;> exact q _ M Fr.refl
  | both u =>
    refine Br.no (sNe (by decide)) ?_
    refine Br.no (sNe (by decide)) ?_
    refine Br.no (sNe (by decide)) ?_
    refine Br.no (sNe (by decide)) ?_
    refine Br.no (sNe (by decide)) ?_
    refine Br.no (sNe (by decide)) ?_
    refine Dr.of ?_
    cases t <;> exact q _ M Fr.refl
abbrev cSq : Stmt := (bHq (top 14)).getD 9 (.Pass ⟨0, 0, 0, 0⟩)
theorem sc_m_meet : FnScope ["self", "mark"] ["self"] (a3q cSq) := ⟨rfl, rfl, rfl, by decide +kernel, rfl, by decide +kernel, by decide +kernel⟩
theorem n3q {Slip Machine aRULE : Addr} (c_Slip : Cls K Slip) (n_part : NoAttr K Slip "part") (c_Machine : Cls K Machine) (n_here : NoAttr K Machine "here") (n_paired : NoAttr K Machine "paired") (n_stack : NoAttr K Machine "stack") (n_rules_done : NoAttr K Machine "rules_done") (m_RULE_MARKS : mg "RULE_MARKS" = some (.ref aRULE)) (t_RULE_MARKS : ∀ H, Abs K H (.tup [.str "slip", .str "first", .str "second", .str "had", .str "look"]) (.ref aRULE)) (g_m_behind : MGot P w K mg base 4 Machine "behind" ["self", "mark"] (aWq K (hWq Slip Machine))) (F : Fun K "meet" "Machine.meet" cSq f fd) : FnOk P w K mg base CX0 5 f fd ["self"] (aWq K (mJq Slip Machine)) := by
  refine okD (k := 4) F sc_m_meet (fun ds G DQ h => ?_) (fun cdv A outer s H E hr ds G DQ h => ?_)
  . obtain ⟨_, _, _, _, rfl, _⟩ := h; rfl
  obtain ⟨a, lm, c, x, rfl, M, hx, hme, hln, q⟩ := h
  refine ⟨_, (a7q (aZq (k := 1) sc_m_meet.nd rfl (Or.inl rfl) (h9q PySem.F.plainAttrs_list PySem.F.slot_list_pop PySem.F.type_list_pop fAq (aNq c_Machine n_stack (a1q 0))))
      (a7q (bDq (aUq kKq (aMq aix (a1q 1) a4q (fun _ _ => rfl)) (k8q (v := .ref _) rfl m_RULE_MARKS rfl t_RULE_MARKS) (by with_unfolding_all rfl)) (a8q (ePq c_Machine n_rules_done (a1q 0) a4q)) b0q)
      (a7q (bDq (aUq (bEq (bXq hr)) (aMq aix (a1q 1) a4q (fun _ _ => rfl)) aJq (aPq _)) (a8q (bOq (eEq PySem.F.plainAttrs_list PySem.F.slot_list_append PySem.F.type_list_append bSq (aNq c_Machine n_stack (a1q 0)) (a0q (aRq (a0q aJq (a0q (aMq aix (aNq c_Slip n_part (aNq c_Machine n_here (a1q 0))) a4q (fun _ _ => rfl)) a5q))) a5q)))) (a8q (bDq (aUq (bEq (bXq hr)) (aMq aix (a1q 1) a4q (fun _ _ => rfl)) aJq (aPq _)) (a8q (bOq (eEq PySem.F.plainAttrs_list PySem.F.slot_list_append PySem.F.type_list_append bSq (aNq c_Machine n_stack (a1q 0)) (a0q (aRq (a0q aJq (a0q (aNq c_Machine n_here (a1q 0)) a5q))) a5q)))) b0q)))
      (a7q (cVq c_Machine n_here (a1q 0) (gJq c_Machine g_m_behind hr (by omega) (a1q 0) (a0q (a1q 1) a5q)))
      (a8q (cVq c_Machine n_paired (a1q 0) (e4q (bEq (bXq hr)) (aMq aix (a1q 1) a4q (fun _ _ => rfl)) aJq (aPq _)))))))), ?_⟩
  obtain ⟨tb, hsl⟩ := M.sl _ _ hx
  refine a6q M.im (aOq rfl ?_)
  cases est : c.m.stack with
  | nil => unfold meetP at q; rw [est] at q; exact q.elim
  | cons k st =>
    have hil := M.il
    rw [est] at hil
    refine ⟨aAq hil trivial, aBq hil ⟨st.reverse.map Mk.enc, k.enc, by simp, ?_⟩⟩
    have hms := M.ms
    rw [est] at hms
    have M1 : MAt Slip Machine (up G lm (.lst (st.reverse.map Mk.enc))) a lm { c with m := { c.m with stack := st } } := M.putL fun k' hk' => hms k' (List.mem_cons_of_mem _ hk')
    have F1 : Fr a lm G (up G lm (.lst (st.reverse.map Mk.enc))) := Fr.l
    have hk := hms k (List.mem_cons_self ..)
    have hln' : st.length + 1 < 100000 := by rw [est] at hln; exact hln
    obtain ⟨tb1, hsl1⟩ := M1.sl _ _ hx
    obtain ⟨t, rs, due⟩ := x
    unfold meetP at q
    rw [est] at q
    generalize up G lm (.lst (st.reverse.map Mk.enc)) = G1 at *
    have M2 : MAt Slip Machine (up G1 a (.ins Machine (mFs lm { c.m with stack := st, rules := c.m.rules + 1 }))) a lm { c with m := { c.m with stack := st, rules := c.m.rules + 1 } } := M1.putA (m := { c.m with stack := st, rules := c.m.rules + 1 }) rfl ⟨_, hx⟩
    have F2 : Fr a lm G (up G1 a (.ins Machine (mFs lm { c.m with stack := st, rules := c.m.rules + 1 }))) := F1.trans Fr.a
    cases k with
    | slip b =>
      cases t with
      | way u =>
        refine ⟨rfl, rfl, ?_⟩
        refine Br.yes (by with_unfolding_all rfl) ?_
        refine a6q M1.im (aOq (d := .int c.m.rules) rfl (a6q M1.im ⟨show 7 < 1000 by decide, ?_⟩))
        refine Br.no (sNe (by decide)) ?_
        refine Br.no (sNe (by decide)) ?_
        obtain ⟨hrl, q⟩ := q
        refine ⟨a6q M2.im rfl, a, lm, _, _, .slip b, rfl, M2, hx, hk, hrl, fun p hp G' M' F' => ?_⟩
        refine a6q M'.im ⟨show 7 < 1000 by decide, ?_⟩
        refine a6q a2q ⟨show 7 < 1000 by decide, Dr.of ?_⟩
        rw [c1q]
        exact q p hp _ (M'.putA (m := { c.m with here := p, paired := false, stack := st, rules := c.m.rules + 1 }) rfl ⟨_, aCq⟩) ((F2.trans F').trans Fr.a)
      | _ => exact q.elim
    | first =>
      cases t with
      | pair u v =>
        refine ⟨rfl, rfl, ?_⟩
        refine Br.yes (by with_unfolding_all rfl) ?_
        refine a6q M1.im (aOq (d := .int c.m.rules) rfl (a6q M1.im ⟨show 7 < 1000 by decide, ?_⟩))
        refine Br.no (sNe (by decide)) ?_
        refine Br.no (sNe (by decide)) ?_
        refine ⟨a6q M2.im rfl, a, lm, _, _, .first, rfl, M2, hx, hk, fun p hp G' M' F' => ?_⟩
        refine a6q M'.im ⟨show 7 < 1000 by decide, ?_⟩
        refine a6q a2q ⟨show 7 < 1000 by decide, Dr.of ?_⟩
        rw [c1q]
        exact q p hp _ (M'.putA (m := { c.m with here := p, paired := false, stack := st, rules := c.m.rules + 1 }) rfl ⟨_, aCq⟩) ((F2.trans F').trans Fr.a)
      | _ => exact q.elim
    | second =>
      cases t with
      | pair u v =>
        refine ⟨rfl, rfl, ?_⟩
        refine Br.yes (by with_unfolding_all rfl) ?_
        refine a6q M1.im (aOq (d := .int c.m.rules) rfl (a6q M1.im ⟨show 7 < 1000 by decide, ?_⟩))
        refine Br.no (sNe (by decide)) ?_
        refine Br.no (sNe (by decide)) ?_
        refine ⟨a6q M2.im rfl, a, lm, _, _, .second, rfl, M2, hx, hk, fun p hp G' M' F' => ?_⟩
        refine a6q M'.im ⟨show 7 < 1000 by decide, ?_⟩
        refine a6q a2q ⟨show 7 < 1000 by decide, Dr.of ?_⟩
        rw [c1q]
        exact q p hp _ (M'.putA (m := { c.m with here := p, paired := false, stack := st, rules := c.m.rules + 1 }) rfl ⟨_, aCq⟩) ((F2.trans F').trans Fr.a)
      | _ => exact q.elim
    | had n =>
      cases t with
      | whole j =>
        refine ⟨rfl, rfl, ?_⟩
        refine Br.yes (by with_unfolding_all rfl) ?_
        refine a6q M1.im (aOq (d := .int c.m.rules) rfl (a6q M1.im ⟨show 7 < 1000 by decide, ?_⟩))
        refine Br.no (sNe (by decide)) ?_
        refine Br.no (sNe (by decide)) ?_
        refine ⟨a6q M2.im rfl, a, lm, _, _, .had n, rfl, M2, hx, hk, fun p hp G' M' F' => ?_⟩
        refine a6q M'.im ⟨show 7 < 1000 by decide, ?_⟩
        refine a6q a2q ⟨show 7 < 1000 by decide, Dr.of ?_⟩
        rw [c1q]
        exact q p hp _ (M'.putA (m := { c.m with here := p, paired := false, stack := st, rules := c.m.rules + 1 }) rfl ⟨_, aCq⟩) ((F2.trans F').trans Fr.a)
      | _ => exact q.elim
    | look u v =>
      cases t with
      | whole j =>
        refine ⟨rfl, rfl, ?_⟩
        refine Br.yes (by with_unfolding_all rfl) ?_
        refine a6q M1.im (aOq (d := .int c.m.rules) rfl (a6q M1.im ⟨show 7 < 1000 by decide, ?_⟩))
        refine Br.no (sNe (by decide)) ?_
        refine Br.no (sNe (by decide)) ?_
        refine ⟨a6q M2.im rfl, a, lm, _, _, .look u v, rfl, M2, hx, hk, fun G' M' F' => ?_⟩
        refine a6q M'.im ⟨show 7 < 1000 by decide, ?_⟩
        refine a6q a2q ⟨show 7 < 1000 by decide, Dr.of ?_⟩
        rw [c1q]
        have hy : ∃ y, c.S (if j = 0 then u else v) = some y := by split; exact hk u (List.mem_cons_self ..); exact hk v (List.mem_cons_of_mem _ (List.mem_cons_self ..))
        exact q _ (M'.putA (m := { c.m with here := if j = 0 then u else v, paired := false, stack := st, rules := c.m.rules + 1 }) rfl hy) ((F2.trans F').trans Fr.a)
      | _ => exact q.elim
    | plus u =>
      cases t with
      | whole j =>
        refine ⟨rfl, rfl, ?_⟩
        refine Br.no (by with_unfolding_all rfl) ?_
        refine Br.yes (sEq _) ?_
        refine a6q M1.im (aOq rfl ⟨aAq M1.il trivial, a6q M1.im (aOq rfl (a6q hsl1 (aOq rfl (aBq M1.il ⟨?_, ?_⟩))))⟩)
        . rw [List.length_map, List.length_reverse]; exact aEq (by show st.length <= _; omega)
        have M3 : MAt Slip Machine (up G1 lm (.lst ((Mk.had j :: st).reverse.map Mk.enc))) a lm { c with m := { c.m with stack := .had j :: st } } := M1.putL (st := .had j :: st) fun k' hk' => by
          rcases List.mem_cons.mp hk' with rfl | hk'
          . intro b hb; cases hb
          . exact M1.ms k' hk'
        rw [List.reverse_cons, List.map_append] at M3
        refine ⟨a6q M3.im rfl, a, lm, _, _, .plus u, rfl, M3, hx, hk, fun G' M' F' => ?_⟩
        refine a6q M'.im ⟨show 7 < 1000 by decide, ?_⟩
        refine a6q a2q ⟨show 7 < 1000 by decide, Dr.of ?_⟩
        rw [c1q]
        exact q _ (M'.putA (m := { c.m with here := u, paired := false, stack := .had j :: st }) rfl (hk u (List.mem_cons_self ..))) (((F1.trans Fr.l).trans F').trans Fr.a)
      | _ => exact q.elim
    | both u =>
      replace q : ∀ G', MAt Slip Machine G' a lm { c with m := { c.m with here := u, paired := false, stack := .beside c.m.here :: st } } -> Fr a lm G G' -> DQ .non G' := by cases t <;> exact q
      refine ⟨rfl, rfl, ?_⟩
      refine Br.no (by with_unfolding_all rfl) ?_
      refine Br.no (sNe (by decide)) ?_
      refine Br.yes (sEq _) ?_
      refine a6q M1.im (aOq rfl ⟨aAq M1.il trivial, a6q M1.im (aOq rfl (aBq M1.il ⟨?_, ?_⟩))⟩)
      . rw [List.length_map, List.length_reverse]; exact aEq (by show st.length <= _; omega)
      have M3 : MAt Slip Machine (up G1 lm (.lst ((Mk.beside c.m.here :: st).reverse.map Mk.enc))) a lm { c with m := { c.m with stack := .beside c.m.here :: st } } := M1.putL (st := .beside c.m.here :: st) fun k' hk' => by
        rcases List.mem_cons.mp hk' with rfl | hk'
        . intro b hb; rw [List.mem_singleton.mp hb]; exact ⟨_, hx⟩
        . exact M1.ms k' hk'
      rw [List.reverse_cons, List.map_append] at M3
      refine ⟨a6q M3.im rfl, a, lm, _, _, .both u, rfl, M3, hx, hk, ?_⟩
      have go : ∀ G', MAt Slip Machine G' a lm { c with m := { c.m with stack := .beside c.m.here :: st } } -> Fr a lm (up G1 lm (.lst (st.reverse.map Mk.enc ++ [Mk.beside c.m.here].map Mk.enc))) G' -> DQ .non (up G' a (.ins Machine (mFs lm { c.m with here := u, paired := false, stack := .beside c.m.here :: st }))) := fun G' M' F' =>
        q _ (M'.putA (m := { c.m with here := u, paired := false, stack := .beside c.m.here :: st }) rfl (hk u (List.mem_cons_self ..))) (((F1.trans Fr.l).trans F').trans Fr.a)
      cases t <;> exact fun G' M' F' => a6q M'.im ⟨show 7 < 1000 by decide, a6q a2q ⟨show 7 < 1000 by decide, Dr.of (by rw [c1q]; exact go G' M' F')⟩⟩
    | beside b =>
      replace q : c.alloc (.pair (.name 0) (.name 1)) [b, c.m.here] fun p c' => ∀ G', MAt Slip Machine G' a lm { c' with m := { c.m with here := p, paired := true, stack := st } } -> Fr a lm G G' -> DQ .non G' := by cases t <;> exact q
      refine ⟨rfl, rfl, ?_⟩
      refine Br.no (by with_unfolding_all rfl) ?_
      refine Br.no (sNe (by decide)) ?_
      refine Br.no (sNe (by decide)) ?_
      refine ⟨a6q M1.im rfl, a, lm, _, _, .beside b, rfl, M1, hx, hk, ?_⟩
      cases t <;> exact fun p hp G' M' F' => a6q M'.im ⟨show 7 < 1000 by decide, a6q a2q ⟨show 7 < 1000 by decide, Dr.of (by rw [c1q]; exact q p hp _ (M'.putA (m := { c.m with here := p, paired := true, stack := st }) rfl ⟨_, aCq⟩) ((F1.trans F').trans Fr.a))⟩⟩
abbrev cMq : Stmt := (bHq (top 14)).getD 1 (.Pass ⟨0, 0, 0, 0⟩)
theorem oCq : FnScope ["self"] ["self"] (a3q cMq) := ⟨rfl, rfl, rfl, by decide +kernel, rfl, by decide +kernel, by decide +kernel⟩
theorem mNq {Slip Machine : Addr} (c_Slip : Cls K Slip) (n_part : NoAttr K Slip "part") (c_Machine : Cls K Machine) (n_here : NoAttr K Machine "here") (n_steps_done : NoAttr K Machine "steps_done") (g_m_word : MGot P w K mg base 3 Machine "word" ["self"] (aWq K (kJq Slip Machine))) (g_m_meets : MGot P w K mg base 2 Machine "meets" ["self"] (aWq K (hXq Slip Machine))) (g_m_meet : MGot P w K mg base 5 Machine "meet" ["self"] (aWq K (mJq Slip Machine))) (g_m_enter : MGot P w K mg base 4 Machine "enter" ["self"] (aWq K (k2q Slip Machine))) (g_m_look_up : MGot P w K mg base 1 Machine "look_up" ["self"] (aWq K (iAq Slip Machine))) (F : Fun K "step" "Machine.step" cMq f fd) : FnOk P w K mg base CX0 6 f fd ["self"] (aWq K (mKq Slip Machine)) := by
  refine okD (k := 5) F oCq (fun ds G DQ h => ?_) (fun cdv A outer s H E hr ds G DQ h => ?_)
  . obtain ⟨_, _, _, rfl, _⟩ := h; rfl
  obtain ⟨a, lm, c, rfl, M, hln, qy, qn⟩ := h
  refine ⟨_, (a7q (bDq (aUq (nNq (bXq hr)) (aVq c_Machine g_m_word hr (by omega) (a1q 0)) aJq (aPq _)) (a8q (aLq dVq)) b0q)
      (a7q (ePq c_Machine n_steps_done (a1q 0) a4q)
      (a7q (bDq (aUq (bEq (bXq hr)) (aMq aix (aNq c_Slip n_part (aNq c_Machine n_here (a1q 0))) a4q (fun _ _ => rfl)) aJq (aPq _)) (a8q (bOq (aVq c_Machine g_m_look_up hr (by omega) (a1q 0)))) (a8q (bDq (b7q (aVq c_Machine g_m_meets hr (by omega) (a1q 0))) (a8q (bOq (aVq c_Machine g_m_meet hr (by omega) (a1q 0)))) (a8q (bOq (aVq c_Machine g_m_enter hr (by omega) (a1q 0)))))))
      (a8q (aLq dVq))))), ?_⟩
  obtain ⟨x, hx⟩ := M.hs
  obtain ⟨tb, hsl⟩ := M.sl _ _ hx
  refine ⟨a6q M.im rfl, a, lm, c, rfl, M, ?_⟩
  have hw := fZq c
  refine ⟨fun h => ?_, fun h => ?_⟩
  . replace h : (!(gOq c == "going")) = true := h
    rw [hw] at h
    exact Dr.of (qn (by simpa using h))
  replace h : (!(gOq c == "going")) = false := h
  rw [hw] at h
  have hgo : c.going = true := by simpa using h
  have qs := qy hgo
  refine a6q M.im (aOq (d := .int c.m.steps) rfl (a6q M.im ⟨show 7 < 1000 by decide, ?_⟩))
  have M1 : MAt Slip Machine (up G a (.ins Machine (mFs lm c.tick.m))) a lm c.tick := M.putA (m := c.tick.m) rfl ⟨x, hx⟩
  have F1 : Fr a lm G (up G a (.ins Machine (mFs lm c.tick.m))) := Fr.a
  obtain ⟨tb1, hsl1⟩ := M1.sl _ _ hx
  have ht : c.t = x.t := by unfold Cf.t; rw [hx]
  unfold stepP at qs
  rw [hx] at qs
  unfold Cf.going dEq at hgo
  rw [ht] at hgo
  refine a6q M1.im (aOq rfl (a6q hsl1 (aOq rfl (pEq ⟨fun h2 => ?_, fun h2 => ?_⟩))))
  . have hn : x.t.isName = true := (eLq x.t).symm.trans h2
    obtain ⟨t, rs, due⟩ := x
    cases t with
    | name n =>
      replace qs : (match rs[n]? with | some r => _ | none => False) := qs
      cases er : rs[n]? with
      | none => rw [er] at qs; exact qs.elim
      | some r =>
        rw [er] at qs
        obtain ⟨⟨y, hy⟩, _⟩ := M1.sw.sub _ _ hx r (List.mem_of_getElem? er)
        refine ⟨a6q M1.im rfl, a, lm, c.tick, _, n, r, rfl, M1, hx, rfl, er, Dr.of (qs _ (M1.putA (m := { c.tick.m with here := r, looks := c.m.looks + 1 }) rfl ⟨y, hy⟩) (F1.trans Fr.a))⟩
    | _ => cases hn
  . have hn : x.t.isName = false := (eLq x.t).symm.trans h2
    have qs' : if b8q c.m.paired x.t c.m.stack = true then meetP c.tick x (fun c' => ∀ G', MAt Slip Machine G' a lm c' -> Fr a lm G G' -> DQ (.bl true) G') else enterP c.tick x (fun c' => ∀ G', MAt Slip Machine G' a lm c' -> Fr a lm G G' -> DQ (.bl true) G') := by
      obtain ⟨t, rs, due⟩ := x
      cases t <;> first | exact qs | cases hn
    refine ⟨a6q M1.im rfl, a, lm, c.tick, rfl, M1, ⟨fun h3 => ?_, fun h3 => ?_⟩⟩
    . replace h3 : b8q c.m.paired c.t c.m.stack = true := h3
      rw [ht] at h3
      rw [if_pos h3] at qs'
      exact ⟨a6q M1.im rfl, a, lm, c.tick, x, rfl, M1, hx, h3, hln, qs'.mono fun c' h G' M' F' => Dr.of (h G' M' (F1.trans F'))⟩
    . replace h3 : b8q c.m.paired c.t c.m.stack = false := h3
      rw [ht] at h3
      rw [h3, if_neg (by decide)] at qs'
      rw [h3, hn, Bool.false_or, Bool.or_false] at hgo
      exact ⟨a6q M1.im rfl, a, lm, c.tick, x, rfl, M1, hx, hgo, hln, qs'.mono fun c' h G' M' F' => Dr.of (h G' M' (F1.trans F'))⟩
abbrev cTq : Stmt := (bHq (top 14)).getD 0 (.Pass ⟨0, 0, 0, 0⟩)
theorem mIq : FnScope ["self", "program"] ["self", "program"] (a3q cTq) := ⟨rfl, rfl, rfl, by decide +kernel, rfl, by decide +kernel, by decide +kernel⟩
theorem nYq {Slip Machine : Addr} (c_Machine : Cls K Machine) (n_here : NoAttr K Machine "here") (n_paired : NoAttr K Machine "paired") (n_stack : NoAttr K Machine "stack") (n_steps_done : NoAttr K Machine "steps_done") (n_rules_done : NoAttr K Machine "rules_done") (n_slips_made : NoAttr K Machine "slips_made") (n_looked_up : NoAttr K Machine "looked_up") (g_Slip : MkGot P w K mg base 1 Slip "Slip" ["self", "program", "slips"] (aWq K (iXq Slip))) (F : Fun K "__init__" "Machine.__init__" cTq f fd) : FnOk P w K mg base CX0 3 f fd ["self", "program"] (aWq K (jTq Slip Machine)) := by
  refine okD (k := 2) F mIq (fun ds G DQ h => ?_) (fun cdv A outer s H E hr ds G DQ h => ?_)
  . obtain ⟨_, _, rfl, _⟩ := h; rfl
  obtain ⟨a, t, rfl, ha, hcl, hz, q⟩ := h
  refine ⟨_, (a7q (cVq c_Machine n_here (a1q 0) (f7q g_Slip hr (by omega) rfl (a0q (a1q 1) (a0q (aRq a5q) a5q))))
      (a7q (cVq c_Machine n_paired (a1q 0) dVq)
      (a7q (cVq c_Machine n_stack (a1q 0) (eQq a5q))
      (a7q (cVq c_Machine n_steps_done (a1q 0) a4q)
      (a7q (cVq c_Machine n_rules_done (a1q 0) a4q)
      (a7q (cVq c_Machine n_slips_made (a1q 0) a4q)
      (a8q (cVq c_Machine n_looked_up (a1q 0) a4q)))))))), ?_⟩
  intro p hp
  refine ⟨p, t, [], _, rfl, a2q, .inl rfl, rfl, ?_⟩
  rw [c1q]
  have npa : a ≠ p := by rintro rfl; rw [ha] at hp; cases hp
  have h1 : ∀ o, up G p o a = some (.ins Machine []) := fun o => by rw [a9q npa]; exact ha
  refine a6q (h1 _) ⟨show 0 < 1000 by decide, a6q a2q ⟨show 1 < 1000 by decide, ?_⟩⟩
  intro lm hlm
  have nla : a ≠ lm := by rintro rfl; rw [a2q] at hlm; cases hlm
  rw [a9q (Ne.symm nla), a9q (Ne.symm nla)] at hlm
  have nlp : lm ≠ p := by rintro rfl; rw [a2q] at hlm; cases hlm
  rw [a9q nlp] at hlm
  have h2 : ∀ (X : DV) (fs : List (Str × D)), up (up X a (.ins Machine fs)) lm (.lst []) a = some (.ins Machine fs) := fun X fs => by rw [a9q nla]; exact a2q
  refine a6q (h2 _ _) ⟨show 2 < 1000 by decide, a6q a2q ⟨show 3 < 1000 by decide, a6q a2q ⟨show 4 < 1000 by decide, a6q a2q ⟨show 5 < 1000 by decide, a6q a2q ⟨show 6 < 1000 by decide, Dr.of ?_⟩⟩⟩⟩⟩
  simp only [c1q]
  refine q p lm _ ⟨a2q, by rw [a9q (Ne.symm nla)]; exact a2q, fun b x e => ?_, ⟨⟨t, [], t⟩, show bMq (fun _ => none) p ⟨t, [], t⟩ p = _ from aCq⟩, fun k hk => (by cases hk), ?_⟩ fun b o hb e => ?_
  . replace e : bMq (fun _ => none) p ⟨t, [], t⟩ b = some x := e
    by_cases cb : b = p
    . subst cb
      rw [aCq] at e
      cases e
      exact ⟨false, by rw [a9q (Ne.symm npa), a9q (Ne.symm nlp), a9q (Ne.symm npa)]; exact a2q⟩
    . rw [d8q cb] at e; cases e
  . have e0 : ∀ b x, bMq (fun _ => none) p ⟨t, [], t⟩ b = some x -> x = ⟨t, [], t⟩ := fun b x e => by
      by_cases cb : b = p
      . subst cb; rw [aCq] at e; cases e; rfl
      . rw [d8q cb] at e; cases e
    refine ⟨fun b x e r hr' => ?_, fun b x e z hz' hw => ?_, fun b x e => ?_, fun b x e => ?_⟩
    . rw [e0 b x e] at hr'; cases hr'
    . rw [e0 b x e] at hz'; exact absurd hw (hcl z hz')
    . rw [e0 b x e]; exact hz
    . rw [e0 b x e]; exact (aXq hcl).symm
  . have nbp : b ≠ p := by rintro rfl; rw [hp] at e; cases e
    have nbl : b ≠ lm := by rintro rfl; rw [hlm] at e; cases e
    rw [a9q hb, a9q nbl, a9q hb, a9q nbp]
    exact e
abbrev bRq : Stmt := (bHq (top 14)).getD 11 (.Pass ⟨0, 0, 0, 0⟩)
theorem sc_m_program : FnScope ["self", "now", "mark"] ["self"] (a3q bRq) := ⟨rfl, rfl, rfl, by decide +kernel, rfl, by decide +kernel, by decide +kernel⟩
theorem jCq {Slip Machine T : Addr} {tp : Pos} (B : Blt mg) (c_Slip : Cls K Slip) (c_Machine : Cls K Machine) (n_here : NoAttr K Machine "here") (n_stack : NoAttr K Machine "stack") (g_s_back : MGot P w K mg base 5 Slip "back" ["self"] (aWq K (mQq Slip T tp))) (g_around : Got P w K mg base 1 "around" ["mark", "program"] (aWq K fun _ _ _ => False)) (F : Fun K "program" "Machine.program" bRq f fd) : FnOk P w K mg base CX0 6 f fd ["self"] (aWq K (kDq Slip Machine T tp)) := by
  refine okD (k := 5) F sc_m_program (fun ds G DQ h => ?_) (fun cdv A outer s H E hr ds G DQ h => ?_)
  . obtain ⟨_, _, _, _, rfl, _⟩ := h; rfl
  obtain ⟨a, lm, c, x, rfl, M, hx, hst, hrk, hT, q⟩ := h
  refine ⟨_, (a7q (aZq (k := 1) sc_m_program.nd rfl (Or.inl rfl) (aVq c_Slip g_s_back hr (by omega) (aNq c_Machine n_here (a1q 0))))
      (a7q (g1q PassesOwn.never rfl (v3q rfl B.reversed (aNq c_Machine n_stack (a1q 0))) (bFq (k := 2) sc_m_program.nd rfl (Or.inl rfl)) (a8q (aZq (k := 1) sc_m_program.nd rfl (Or.inl rfl) (b5q g_around hr (by omega) rfl (a0q (a1q 2) (a0q (a1q 1) a5q))))))
      (a8q (aLq (a1q 1))))), ?_⟩
  obtain ⟨tb, hsl⟩ := M.sl _ _ hx
  obtain ⟨told, et⟩ := M.told
  refine a6q M.im (aOq rfl ⟨a6q hsl rfl, c.S, c.rk, told, G, c.m.here, x, rfl, M.sw.ok hrk, hx, et, M.noT hT, hT, fun told' => ?_⟩)
  have M' := M.tell told'
  refine a6q M'.im (aOq rfl (sAq M'.il ?_))
  refine ⟨fun i ρ G' => ∃ o2, ρ = [some (.ref a), some x.due.enc, o2] /\ G' = upS Slip c.S told' G, ⟨_, rfl, rfl⟩, fun i ρ G' _ ⟨_, _, h⟩ => by rw [h]; exact M'.il, ?_, ?_⟩
  . rintro i d ρ G' hd -
    rw [hst] at hd
    cases hd
  . rintro ρ G' ⟨o2, rfl, rfl⟩
    exact Dr.of (q _ M' fun b o hb e => by rw [dFq hb]; exact e)
abbrev dPq : Stmt := top 15
theorem o0q : FnOk P w K mg base CX0 1 f fd ["mark", "program"] (aWq K fun _ _ _ => False) := zNq fun ds G DQ h => h
abbrev cUq : Stmt := top 21
theorem sc_inmost : FnScope ["_law_feed_here", "_law_wholes", "_law_picks", "_law_names", "_law_found", "_law_form"] ["_law_feed_here", "_law_wholes"] (a3q cUq) := ⟨rfl, rfl, rfl, by decide +kernel, rfl, by decide +kernel, by decide +kernel⟩
theorem nQq (B : Blt mg) (g_take : Got P w K mg base 1 "_law_take" ["_law_feed_here", "_law_many"] (aWq K gNq)) (F : Fun K "_law_inmost" "_law_inmost" cUq f fd) : FnOk P w K mg base CX0 2 f fd ["_law_feed_here", "_law_wholes"] (aWq K i9q) := by
  refine okD (k := 1) F sc_inmost (fun ds G DQ h => ?_) (fun cdv A outer s H E hr ds G DQ h => ?_)
  . obtain ⟨_, _, _, rfl, _⟩ := h; rfl
  obtain ⟨r, l, ws, rfl, hF, hl, h0, h12, hne, q⟩ := h
  refine ⟨_, (a7q (d2q (k := 2) rfl sc_inmost.nd rfl (Or.inl rfl) (CompOk.of (N' := ["_law_k", "_law_feed_here", "_law_wholes"]) (nt := 1) (cap := [0, 1]) rfl (by kernel_rfl)) (bLq (k := 0) (by decide)) (f0q rfl B.range (a0q a4q a5q)) (fun _ _ _ _ => (bFq (k := 0) (show List.Nodup (["_law_k", "_law_feed_here", "_law_wholes"] : List Str) by decide +kernel) rfl (Or.inl rfl)))  (fun _ _ _ _ => (b5q g_take hr (by omega) rfl (a0q (a1q 1) (a0q (b1q b9q rfl B.len PySem.boot_len (a0q (a1q 2) a5q)) a5q)))))
      (a7q (d2q (k := 3) rfl sc_inmost.nd rfl (Or.inl rfl) (CompOk.of (N' := ["_law_at"]) (nt := 1) (cap := []) rfl (by kernel_rfl)) (bLq (k := 0) (by decide)) (eNq (a1q 2)) (fun _ _ _ _ => (bFq (k := 0) (show List.Nodup (["_law_at"] : List Str) by decide +kernel) rfl (Or.inl rfl)))  (fun _ _ _ _ => (aRq (a0q aJq (a0q (a1q 0) a5q)))))
      (a7q (d2q (k := 4) rfl sc_inmost.nd rfl (Or.inl rfl) (CompOk.of (N' := ["_law_at", "_law_wholes"]) (nt := 1) (cap := [1]) rfl (by kernel_rfl)) (bLq (k := 0) (by decide)) (eNq (a1q 2)) (fun _ _ _ _ => (bFq (k := 0) (show List.Nodup (["_law_at", "_law_wholes"] : List Str) by decide +kernel) rfl (Or.inl rfl)))  (fun _ _ _ _ => (aRq (a0q aJq (a0q (aMq aix (a1q 1) (bCq f1q (bCq f1q (b1q b9q rfl B.len PySem.boot_len (a0q (a1q 1) a5q)) a4q) (a1q 0)) (fun _ _ => rfl)) a5q)))))
      (a7q (aZq (k := 5) sc_inmost.nd rfl (Or.inl rfl) (b5q g_take hr (by omega) rfl (a0q (a1q 0) (a0q a4q a5q))))
      (a7q (bDq (aUq (bEq (bXq hr)) (a1q 5) a4q (aPq _)) (a8q (aLq (aRq (a0q (aRq (a0q aJq (a0q (aMq aix (a1q 3) a4q (fun _ _ => rfl)) (a0q (aMq aix (a1q 3) a4q (fun _ _ => rfl)) a5q)))) (a0q (aRq (a0q aJq (a0q (bCq bNq (aMq aix (aMq aix (a1q 4) a4q (fun _ _ => rfl)) a4q (fun _ _ => rfl)) (aMq aix (aMq aix (a1q 4) a4q (fun _ _ => rfl)) a4q (fun _ _ => rfl))) a5q))) (a0q aJq a5q)))))) b0q)
      (a7q (bDq (aUq (bEq (bXq hr)) (a1q 5) a4q (aPq _)) (a8q (aLq (aRq (a0q (aRq (a0q aJq (a0q (aMq aix (a1q 3) a4q (fun _ _ => rfl)) (a0q (aMq aix (a1q 3) a4q (fun _ _ => rfl)) a5q)))) (a0q (aRq (a0q aJq (a0q (aMq aix (a1q 4) a4q (fun _ _ => rfl)) (a0q (aMq aix (a1q 4) a4q (fun _ _ => rfl)) a5q)))) (a0q aJq a5q)))))) b0q)
      (a7q (bDq (aUq (bEq (bXq hr)) (a1q 5) a4q (aPq _)) (a8q (aLq (aRq (a0q (aRq (a0q aJq (a0q (aRq (a0q aJq (a0q (aMq aix (a1q 3) a4q (fun _ _ => rfl)) (a0q (aMq aix (a1q 3) a4q (fun _ _ => rfl)) a5q)))) a5q))) (a0q (aMq aix (a1q 4) a4q (fun _ _ => rfl)) (a0q aJq a5q)))))) b0q)
      (a7q (bDq (aUq (bEq (bXq hr)) (a1q 5) a4q (aPq _)) (a8q (aLq (aRq (a0q (aRq (a0q aJq (a0q (aRq (a0q aJq (a0q (aMq aix (a1q 3) a4q (fun _ _ => rfl)) (a0q (aMq aix (a1q 3) a4q (fun _ _ => rfl)) a5q)))) a5q))) (a0q (aMq aix (a1q 4) a4q (fun _ _ => rfl)) (a0q aJq a5q)))))) b0q)
      (a8q (aLq (aRq (a0q (aRq (a0q aJq (a0q (aMq aix (a1q 3) a4q (fun _ _ => rfl)) (a0q (aMq aix (a1q 3) a4q (fun _ _ => rfl)) (a0q (aMq aix (a1q 3) a4q (fun _ _ => rfl)) a5q))))) (a0q (aMq aix (a1q 4) (bCq bNq a4q (eRq mXq rfl B.int PyProof.Rows.boot_int (a0q (e4q (nNq (bXq hr)) (aMq aix (aMq aix (a1q 4) a4q (fun _ _ => rfl)) a4q (fun _ _ => rfl)) a4q (aPq _)) a5q))) (fun _ _ => rfl)) (a0q aJq a5q)))))))))))))), ?_⟩
  refine hMq (by decide) ?_
  refine cIq (fun i ds G' => ∃ ps : List Nat, ds = ps.map nD /\ ps.length = i /\ (∀ k ∈ ps, k < ws.length) /\ Fx r G G') ?_ ⟨[], rfl, rfl, by simp, .refl hF⟩ (fun _ _ _ _ _ => trivial) ?_ ?_
  . show (d0q 0 (3 : Int).toNat).length < sizeLine
    rw [c3q]; exact aEq (by decide)
  . rintro i d ds G' hd ⟨ps, rfl, hpl, hpb, u⟩
    refine aAq (by rw [u.other (Ne.symm hne)]; exact hl) ⟨u.fd, by rw [List.length_map]; omega, by rw [List.length_map]; omega, fun k G2 u2 k0 k1 => WkV.of ⟨ps ++ [k.toNat], ?_, by simp [hpl], fun j hj => ?_, u.trans u2⟩⟩
    . simp [nD, show max k 0 = k by omega]
    . rw [List.length_map] at k1
      rcases List.mem_append.mp hj with hj | hj
      . exact hpb j hj
      . simp at hj; omega
  rintro ds G1 ⟨ps, rfl, hpl, hpb, u1⟩ p1 hp1
  have hpl' : ps.length = 3 := by rw [hpl]; exact c3q
  obtain ⟨a, b, e, rfl⟩ : ∃ a b e, ps = [a, b, e] := by
    rcases ps with _ | ⟨a, _ | ⟨b, _ | ⟨e, _ | ⟨_, _⟩⟩⟩⟩ <;> simp at hpl'
    exact ⟨a, b, e, rfl⟩
  have n1r : p1 ≠ r := u1.fd.ne hp1
  have hl1 : G1 l = some (.lst (ws.map D.int)) := by rw [u1.other (Ne.symm hne)]; exact hl
  have n1l : l ≠ p1 := by rintro rfl; rw [hl1] at hp1; cases hp1
  refine f4q a2q ?_
  refine bBq [a, b, e] nD (fun k => (Tm.name k).enc) rfl (aEq (show 3 <= 200000 by decide)) a2q (fun x _ R hR => hR) (fun p2 hp2 => ?_)
  have n21 : p1 ≠ p2 := by rintro rfl; rw [a2q] at hp2; cases hp2
  have hp2' : G1 p2 = none := by rw [a9q (Ne.symm n21)] at hp2; exact hp2
  have n2r : p2 ≠ r := u1.fd.ne hp2'
  have n2l : l ≠ p2 := by rintro rfl; rw [hl1] at hp2'; cases hp2'
  have hl2 : up (up G1 p1 (.lst ([a, b, e].map nD))) p2 (.lst ([a, b, e].map fun k => (Tm.name k).enc)) l = some (.lst (ws.map D.int)) := by rw [a9q n2l, a9q n1l]; exact hl1
  obtain ⟨x, hx, ax⟩ := oNq (hpb a (by simp))
  obtain ⟨y, hy, ay⟩ := oNq (hpb b (by simp))
  obtain ⟨z, hz, az⟩ := oNq (hpb e (by simp))
  have he1 : up (up G1 p1 (.lst ([a, b, e].map nD))) p2 (.lst ([a, b, e].map fun k => (Tm.name k).enc)) p1 = some (.lst ([a, b, e].map nD)) := by rw [a9q n21]; exact a2q
  refine f4q he1 ?_
  refine bBq [(a, x), (b, y), (e, z)] (fun k => nD k.1) (fun k => (Tm.whole k.2).enc) rfl (aEq (show 3 <= 200000 by decide)) he1 (fun k hk R hR => ?_) (fun p3 hp3 => ?_)
  . refine aAq hl2 (bUq hl2 ?_ hR)
    rw [List.length_map]
    simp only [List.mem_cons, List.not_mem_nil, or_false] at hk
    rcases hk with rfl | rfl | rfl
    . exact ax
    . exact ay
    . exact az
  have n31 : p1 ≠ p3 := by rintro rfl; rw [he1] at hp3; cases hp3
  have n32 : p2 ≠ p3 := by rintro rfl; rw [a2q] at hp3; cases hp3
  have hp3' : G1 p3 = none := by rw [a9q (Ne.symm n32), a9q (Ne.symm n31)] at hp3; exact hp3
  have n3r : p3 ≠ r := u1.fd.ne hp3'
  refine ⟨((u1.fd.new hp1).new hp2).new hp3, by decide, by decide, fun fm G5 u5 f0 f1 => ?_⟩
  have e2 : G5 p2 = some (.lst [(Tm.name a).enc, (Tm.name b).enc, (Tm.name e).enc]) := by rw [u5.other n2r, a9q n32]; exact a2q
  have e3 : G5 p3 = some (.lst [(Tm.whole x).enc, (Tm.whole y).enc, (Tm.whole z).enc]) := by rw [u5.other n3r]; exact a2q
  have fr : ∀ b o, b ≠ r -> G b = some o -> G5 b = some o := fun b o nb hb => by
    have g1 : G1 b = some o := by rw [u1.other nb]; exact hb
    have ne : ∀ {p : Addr}, G1 p = none -> b ≠ p := fun h e => by rw [<- e, g1] at h; cases h
    rw [u5.other nb, a9q (ne hp3'), a9q (ne hp2'), a9q (ne hp1)]; exact g1
  refine ⟨fun c => ?_, fun c => ⟨fun c => ?_, fun c => ⟨fun c => ?_, fun c => ⟨fun c => ?_, fun c => ?_⟩⟩⟩⟩
  . exact bUq e2 rfl (bUq e2 rfl (bUq e3 rfl (c5q rfl (bUq e3 rfl (c5q rfl (Dr.of (q 0 a b e x y z G5 hx hy hz fr)))))))
  . exact bUq e2 rfl (bUq e2 rfl (bUq e3 rfl (bUq e3 rfl (Dr.of (q 1 a b e x y z G5 hx hy hz fr)))))
  . exact bUq e2 rfl (bUq e2 rfl (bUq e3 rfl (Dr.of (q 2 a b e x y z G5 hx hy hz fr))))
  . exact bUq e2 rfl (bUq e2 rfl (bUq e3 rfl (Dr.of (q 3 a b e x y z G5 hx hy hz fr))))
  . refine bUq e2 rfl (bUq e2 rfl (bUq e2 rfl (bUq e3 rfl (c5q rfl ?_))))
    have qq := q 4 a b e x y z G5 hx hy hz fr
    by_cases h0 : x = 0
    . subst h0
      rw [show iSq 0 y z 4 = .whole y from rfl] at qq
      exact bUq e3 rfl (Dr.of qq)
    . rw [show iSq x y z 4 = .whole z from if_neg h0] at qq
      refine bUq e3 (d := (Tm.whole z).enc) ?_ (Dr.of qq)
      rw [if_pos (by simpa using h0)]; rfl
abbrev cPq : Stmt := top 22
theorem sc_counts : FnScope ["_law_machine", "_law_deeds", "_law_at", "_law_did", "_law_due"] ["_law_machine", "_law_deeds", "_law_at"] (a3q cPq) := ⟨rfl, rfl, rfl, by decide +kernel, rfl, by decide +kernel, by decide +kernel⟩
theorem nKq {Slip Machine : Addr} (B : Blt mg) (c_Machine : Cls K Machine) (g_same : Got P w K mg base 91 "_law_same" ["_law_found", "_law_due"] (aWq K (f9q 90))) (g_m_word : MGot P w K mg base 3 Machine "word" ["self"] (aWq K (kJq Slip Machine)))
    (g_m_steps : MGot P w K mg base 1 Machine "steps" ["self"] (aWq K (dDq Slip Machine fun m => .int m.steps))) (g_m_rules : MGot P w K mg base 1 Machine "rules" ["self"] (aWq K (dDq Slip Machine fun m => .int m.rules))) (g_m_slips : MGot P w K mg base 1 Machine "slips" ["self"] (aWq K (dDq Slip Machine fun m => .int m.slips))) (g_m_look_ups : MGot P w K mg base 1 Machine "look_ups" ["self"] (aWq K (dDq Slip Machine fun m => .int m.looks)))
    (F : Fun K "_law_counts" "_law_counts" cPq f fd) : FnOk P w K mg base CX0 92 f fd ["_law_machine", "_law_deeds", "_law_at"] (aWq K (hVq Slip Machine)) := by
  refine okD (k := 91) F sc_counts (fun ds G DQ h => ?_) (fun cdv A outer s H E hr ds G DQ h => ?_)
  . obtain ⟨_, _, _, _, _, rfl, _⟩ := h; rfl
  obtain ⟨a, lm, c, z, i, rfl, M, hz, hi, h1, h2, h3, h4, h5, h6, q⟩ := h
  refine ⟨_, (a7q (aZq (k := 3) sc_counts.nd rfl (Or.inl rfl) (l0q aslS (a1q 1) n2q (nWq (a1q 2))))
      (a7q (aZq (k := 4) sc_counts.nd rfl (Or.inl rfl) (aRq (a0q (a1q 2) (a0q (eEq PySem.F.plainAttrs_str PySem.F.slot_str_count PySem.F.type_str_count gBq (a1q 3) (a0q aJq a5q)) (a0q (eEq PySem.F.plainAttrs_str PySem.F.slot_str_count PySem.F.type_str_count gBq (a1q 3) (a0q aJq a5q)) (a0q (eEq PySem.F.plainAttrs_str PySem.F.slot_str_count PySem.F.type_str_count gBq (a1q 3) (a0q aJq a5q)) a5q))))))
      (a7q (bDq (g6q (b7q (b5q g_same hr (by omega) rfl (a0q (aRq (a0q (aVq c_Machine g_m_steps hr (by omega) (a1q 0)) (a0q (aVq c_Machine g_m_rules hr (by omega) (a1q 0)) (a0q (aVq c_Machine g_m_slips hr (by omega) (a1q 0)) (a0q (aVq c_Machine g_m_look_ups hr (by omega) (a1q 0)) a5q))))) (a0q (a1q 4) a5q))))) (a8q (aLq dVq)) b0q)
      (a7q (bDq (aUq kPq (a1q 2) (b1q b9q rfl B.len PySem.boot_len (a0q (a1q 1) a5q)) (aPq _)) (a8q (aLq (e4q (bEq (bXq hr)) (aVq c_Machine g_m_word hr (by omega) (a1q 0)) aJq (aPq _)))) b0q)
      (a8q (aLq (e4q (bEq (bXq hr)) (aVq c_Machine g_m_word hr (by omega) (a1q 0)) aJq (aPq _)))))))), ?_⟩
  refine ⟨bTq (by omega), trivial, trivial, trivial, ?_⟩
  refine ⟨a6q M.im rfl, a, lm, c, rfl, M, ⟨a6q M.im rfl, a, lm, c, rfl, M, ⟨a6q M.im rfl, a, lm, c, rfl, M, ⟨a6q M.im rfl, a, lm, c, rfl, M, ?_⟩⟩⟩⟩
  refine ⟨.tup [.int i, .int ((z.cps.toList.take i).count 114 : Nat), .int ((z.cps.toList.take i).count 115 : Nat), .int ((z.cps.toList.take i).count 110 : Nat)], ?_, rfl, show 1 < 90 by decide, ?_⟩
  . dsimp only
    rw [h1, h2, h3, h4, r1q hi, rEq hi, t0q hi]
  refine Br.no rfl ?_
  refine ⟨bTq (by omega), ⟨fun c1 => ?_, fun c1 => ?_⟩⟩
  . have hgo := h5 (by simpa using c1)
    refine ⟨a6q M.im rfl, a, lm, c, rfl, M, Dr.of ?_⟩
    show DQ (.bl (gOq c == "going")) G
    rw [fZq, hgo]; exact q
  . obtain ⟨hgf, hst⟩ := h6 (by have c2 : ¬ ((i : Int) < z.length) := by simpa using c1
                                omega)
    refine ⟨a6q M.im rfl, a, lm, c, rfl, M, Dr.of ?_⟩
    show DQ (.bl (gOq c == "answer")) G
    have hw : gOq c = "answer" := by
      unfold gOq
      rw [hgf, hst]
      rfl
    rw [hw]; exact q
abbrev eUq : Stmt := top 23
theorem sc_law : FnScope ["_law_script", "_law_wholes", "_law_k", "_law_program", "_law_answer", "_law_deeds", "_law_whole_here", "_law_machine", "_law_at"] ["_law_script"] (a3q eUq) := ⟨rfl, rfl, rfl, by decide +kernel, rfl, by decide +kernel, by decide +kernel⟩
theorem vEq {Slip Machine T : Addr} {tp : Pos} (B : Blt mg) (c_Machine : Cls K Machine) (g_feed : Got P w K mg base 1 "_law_feed" ["_law_script", "_law_k"] (aWq K iQq)) (g_take : Got P w K mg base 1 "_law_take" ["_law_feed_here", "_law_many"] (aWq K gNq)) (g_whole : Got P w K mg base 2 "_law_whole" ["_law_feed_here"] (aWq K fYq))
    (g_inmost : Got P w K mg base 2 "_law_inmost" ["_law_feed_here", "_law_wholes"] (aWq K i9q)) (g_counts : Got P w K mg base 92 "_law_counts" ["_law_machine", "_law_deeds", "_law_at"] (aWq K (hVq Slip Machine))) (g_same : Got P w K mg base 91 "_law_same" ["_law_found", "_law_due"] (aWq K (f9q 90)))
    (g_Machine : MkGot P w K mg base 3 Machine "Machine" ["self", "program"] (aWq K (jTq Slip Machine))) (g_m_step : MGot P w K mg base 6 Machine "step" ["self"] (aWq K (mKq Slip Machine))) (g_m_program : MGot P w K mg base 6 Machine "program" ["self"] (aWq K (kDq Slip Machine T tp)))
    (F : Fun K "law" "law" eUq f fd) : FnOk P w K mg base CX0 200 f fd ["_law_script"] (aWq K (gEq [(T, tp, "Slip.read.<locals>.filled")])) := by
  refine okD (k := 199) F sc_law (fun ds G DQ h => ?_) (fun cdv A outer s H E hr ds G DQ h => ?_)
  . obtain ⟨_, rfl, _⟩ := h; rfl
  obtain ⟨ns, rfl, hl, hTs, q⟩ := h
  have hT : G T = some (.tab tp "Slip.read.<locals>.filled") := hTs _ (List.mem_cons_self ..)
  refine ⟨_, (a7q (aZq (k := 1) sc_law.nd rfl (Or.inl rfl) (eQq a5q))
      (a7q (g1q PassesOwn.never rfl (f0q rfl B.range (a0q (bCq bNq a4q (b5q g_take hr (by omega) rfl (a0q (b5q g_feed hr (by omega) rfl (a0q (a1q 0) (a0q a4q a5q))) (a0q a4q a5q)))) a5q)) (bFq (k := 2) sc_law.nd rfl (Or.inl rfl)) (a8q (bOq (eEq PySem.F.plainAttrs_list PySem.F.slot_list_append PySem.F.type_list_append bSq (a1q 1) (a0q (aMq aix (b5q g_whole hr (by omega) rfl (a0q (b5q g_feed hr (by omega) rfl (a0q (a1q 0) (a0q (bCq bNq (a1q 2) a4q) a5q))) a5q)) a4q (fun _ _ => rfl)) a5q)))))
      (a7q (nHq (b5q g_inmost hr (by omega) rfl (a0q (b5q g_feed hr (by omega) rfl (a0q (a1q 0) (a0q a4q a5q))) (a0q (a1q 1) a5q))) (mAq (n := 3) rfl (dAq (bFq (k := 3) sc_law.nd rfl (Or.inl rfl)) (dAq (bFq (k := 4) sc_law.nd rfl (Or.inl rfl)) (dAq (bFq (k := 5) sc_law.nd rfl (Or.inl rfl)) kCq)))))
      (a7q (g1q PassesOwn.never rfl (eNq (a1q 1)) (bFq (k := 6) sc_law.nd rfl (Or.inl rfl)) (a8q (aZq (k := 3) sc_law.nd rfl (Or.inl rfl) (aRq (a0q aJq (a0q (a1q 3) a5q))))))
      (a7q (g1q PassesOwn.never rfl (eNq (a1q 1)) (bFq (k := 6) sc_law.nd rfl (Or.inl rfl)) (a8q (aZq (k := 3) sc_law.nd rfl (Or.inl rfl) (aRq (a0q aJq (a0q (a1q 3) (a0q (aRq (a0q aJq (a0q (a1q 6) a5q))) a5q)))))))
      (a7q (aZq (k := 5) sc_law.nd rfl (Or.inl rfl) (bCq bNq (bCq bNq (bCq kVq aJq (b1q b9q rfl B.len PySem.boot_len (a0q (a1q 1) a5q))) (bCq kVq aJq (b1q b9q rfl B.len PySem.boot_len (a0q (a1q 1) a5q)))) (a1q 5)))
      (a7q (aZq (k := 7) sc_law.nd rfl (Or.inl rfl) (f7q g_Machine hr (by omega) rfl (a0q (a1q 3) a5q)))
      (a7q (bDq (g6q (b7q (b5q g_same hr (by omega) rfl (a0q (aVq c_Machine g_m_program hr (by omega) (a1q 7)) (a0q (a1q 3) a5q))))) (a8q (aLq dVq)) b0q)
      (a7q (g1q PassesOwn.never rfl (f0q rfl B.range (a0q (b1q b9q rfl B.len PySem.boot_len (a0q (a1q 5) a5q)) a5q)) (bFq (k := 8) sc_law.nd rfl (Or.inl rfl)) (a8q (bDq (AW.at (lRq (g6q (b7q (b5q g_counts hr (by omega) rfl (a0q (a1q 7) (a0q (a1q 5) (a0q (a1q 8) a5q)))))) (j6q (aUq h7q (aVq c_Machine g_m_step hr (by omega) (a1q 7)) dVq (aPq _))))) (a8q (aLq dVq)) b0q)))
      (a7q (g1q PassesOwn.never rfl (f0q rfl B.range (a0q a4q a5q)) (bFq (k := 2) sc_law.nd rfl (Or.inl rfl)) (a7q (bDq (AW.at (lRq (g6q (b7q (b5q g_counts hr (by omega) rfl (a0q (a1q 7) (a0q (a1q 5) (a0q (b1q b9q rfl B.len PySem.boot_len (a0q (a1q 5) a5q)) a5q)))))) (j6q (aUq h7q (aVq c_Machine g_m_step hr (by omega) (a1q 7)) dVq (aPq _))))) (a8q (aLq dVq)) b0q)
      (a8q (bDq (g6q (b7q (b5q g_same hr (by omega) rfl (a0q (aVq c_Machine g_m_program hr (by omega) (a1q 7)) (a0q (a1q 4) a5q))))) (a8q (aLq dVq)) b0q))))
      (a8q (aLq (b5q g_counts hr (by omega) rfl (a0q (a1q 7) (a0q (a1q 5) (a0q (b1q b9q rfl B.len PySem.boot_len (a0q (a1q 5) a5q)) a5q)))))))))))))))), ?_⟩
  intro lw hlw
  have nT : T ≠ lw := by rintro rfl; rw [hT] at hlw; cases hlw
  refine ⟨ns, rfl, hl, by decide, by decide, fun rf x0 y0 hrf => ⟨.up, by decide, by decide, fun d1 G1 u1 e0 e1 => ?_⟩⟩
  have nwr : lw ≠ rf := by rintro rfl; rw [a2q] at hrf; cases hrf
  have nTr : T ≠ rf := by rintro rfl; rw [a9q nT, hT] at hrf; cases hrf
  have hw1 : G1 lw = some (.lst []) := by rw [u1.other nwr, a9q nwr]; exact a2q
  have hT1 : G1 T = some (.tab tp "Slip.read.<locals>.filled") := by rw [u1.other nTr, a9q nTr, a9q nT]; exact hT
  refine hMq (by omega) ?_
  refine ⟨fun i ρ G' => ∃ (o2 : Option D) (ws : List Int), ρ = [some (.frl (ns.map D.int)), some (.ref lw), o2, none, none, none, none, none, none] /\ ws.length = i /\ G' lw = some (.lst (ws.map D.int)) /\ G' T = some (.tab tp "Slip.read.<locals>.filled"), ⟨_, [], rfl, rfl, hw1, hT1⟩, fun _ _ _ _ _ => trivial, ?_, ?_⟩
  . rintro i d ρ G2 hd ⟨o2, ws, rfl, hwl, hw, ht⟩
    obtain ⟨hi, rfl⟩ := dSq hd
    refine ⟨aAq hw trivial, ns, rfl, hl, by omega, by omega, fun r2 x2 y2 hr2 => ⟨.up, fun n G3 u3 _ _ => c5q rfl ?_⟩⟩
    have n1 : lw ≠ r2 := by rintro rfl; rw [hw] at hr2; cases hr2
    have n2 : T ≠ r2 := by rintro rfl; rw [ht] at hr2; cases hr2
    have hw3 : G3 lw = some (.lst (ws.map D.int)) := by rw [u3.other n1, a9q n1]; exact hw
    have ht3 : G3 T = some (.tab tp "Slip.read.<locals>.filled") := by rw [u3.other n2, a9q n2]; exact ht
    refine aBq hw3 ⟨aEq (by rw [List.length_map]; omega), Wk.of ⟨_, ws ++ [n], rfl, by simp [hwl], by rw [a2q]; simp, by rw [a9q nT]; exact ht3⟩⟩
  rintro ρ G2 ⟨o2, ws, rfl, hwl, hw, ht⟩
  rw [c3q] at hwl
  have h1 : 1 <= ws.length := by omega
  have h12 : ws.length <= 12 := by omega
  refine ⟨ns, rfl, hl, by decide, by decide, fun r3 x3 y3 hr3 => ?_⟩
  have n3w : r3 ≠ lw := by rintro rfl; rw [hw] at hr3; cases hr3
  have n3T : T ≠ r3 := by rintro rfl; rw [ht] at hr3; cases hr3
  refine ⟨r3, lw, ws, rfl, .up, by rw [a9q (Ne.symm n3w)]; exact hw, by omega, h12, n3w, fun f a b e x y z G3 hx hy hz fr => ?_⟩
  have hw3 : G3 lw = some (.lst (ws.map D.int)) := fr _ _ (Ne.symm n3w) (by rw [a9q (Ne.symm n3w)]; exact hw)
  have ht3 : G3 T = some (.tab tp "Slip.read.<locals>.filled") := fr _ _ n3T (by rw [a9q n3T]; exact ht)
  refine f4q hw3 ?_
  refine ⟨fun i ρ G' => ∃ o6 : Option D, ρ = [some (.frl (ns.map D.int)), some (.ref lw), o2, some (lWq i (mCq f a b e)).enc, some (iSq x y z f).enc, some (.str (tEq f)), o6, none, none] /\ G3 = G', ⟨_, rfl, rfl⟩, fun _ _ _ _ h => by obtain ⟨_, _, rfl⟩ := h; exact hw3, ?_, ?_⟩
  . rintro i d ρ G' hd ⟨o6, rfl, rfl⟩
    exact Wk.of ⟨_, rfl, rfl⟩
  rintro ρ G' ⟨o6, hρ, rfl⟩
  rw [show (⟨ws.map D.int, _⟩ : DIt).items.length = ws.length from List.length_map _] at hρ
  subst hρ
  refine f4q hw3 ?_
  refine ⟨fun i ρ G' => ∃ o6 : Option D, ρ = [some (.frl (ns.map D.int)), some (.ref lw), o2, some (dBq (lWq ws.length (mCq f a b e)) (ws.take i).reverse).enc, some (iSq x y z f).enc, some (.str (tEq f)), o6, none, none] /\ G3 = G', ⟨_, rfl, rfl⟩, fun _ _ _ _ h => by obtain ⟨_, _, rfl⟩ := h; exact hw3, ?_, ?_⟩
  . rintro i d ρ G' hd ⟨o6, rfl, rfl⟩
    have hd' : (ws.map D.int)[i]? = some d := hd
    rw [List.getElem?_map] at hd'
    cases hv : ws[i]? with
    | none => rw [hv] at hd'; cases hd'
    | some v =>
      rw [hv] at hd'; cases hd'
      refine Wk.of ⟨some (.int v), ?_, rfl⟩
      rw [List.take_add_one, hv, Option.toList_some, List.reverse_append]
      rfl
  rintro ρ G' ⟨o6, hρ, rfl⟩
  rw [show (⟨ws.map D.int, _⟩ : DIt).items.length = ws.length from List.length_map _, List.take_length] at hρ
  subst hρ
  generalize hP : dBq (lWq ws.length (mCq f a b e)) ws.reverse = pr
  have hva : a < ws.length := by have := (List.getElem?_eq_some_iff.mp hx).1; rwa [List.length_reverse] at this
  have hvb : b < ws.length := by have := (List.getElem?_eq_some_iff.mp hy).1; rwa [List.length_reverse] at this
  have hve : e < ws.length := by have := (List.getElem?_eq_some_iff.mp hz).1; rwa [List.length_reverse] at this
  have hsz : pr.sz <= 40 := by
    rw [<- hP, jIq, mEq, List.length_reverse]
    have := rDq (f := f) (a := a) (b := b) (e := e); omega
  have hdp := pr.dp_sz
  have hnm : ∀ z ∈ pr.nmsR 0, ¬ z.2 <= z.1 := by
    rw [<- hP, hDq, kEq, Nat.zero_add]
    exact q3q hva hvb hve
  have hZl := mRq ws.length f
  have hZL := hEq ws.length f
  refine aAq hw3 ⟨by omega, by rw [List.length_map]; omega, by decide +kernel, aAq hw3 ⟨by omega, by rw [List.length_map]; omega, by decide +kernel, ?_⟩⟩
  rw [List.length_map, Int.toNat_natCast]
  refine ⟨bTq ?_, bTq ?_, ?_⟩
  . rw [eDq, eDq]
    have e1 : (("s" : String) : Str).length = 1 := by decide +kernel
    have e2 : (("r" : String) : Str).length = 1 := by decide +kernel
    rw [e1, e2]; omega
  . have e3 : (bVq ws.length f).length = (hBq "s" ws.length ++ hBq "r" ws.length).length + (tEq f).length := by
      rw [bVq, m2q, k5q, List.length_append]; rfl
    omega
  intro am ham
  have nTa : T ≠ am := by rintro rfl; rw [ht3] at ham; cases ham
  refine ⟨am, pr, rfl, a2q, hnm, by omega, fun p lm G6 M0 fr6 => ⟨rfl, ?_⟩⟩
  have t6 : G6 T = some (.tab tp "Slip.read.<locals>.filled") := fr6 T _ nTa (by rw [a9q nTa]; exact ht3)
  refine ⟨a6q M0.im rfl, am, lm, c0 p pr, ⟨pr, [], pr⟩, rfl, M0, show bMq (fun _ => none) p ⟨pr, [], pr⟩ p = _ from aCq, rfl, fun _ _ _ => Nat.zero_le _, t6, fun G7 M7 fr7 => ?_⟩
  have t7 : G7 T = some (.tab tp "Slip.read.<locals>.filled") := fr7 T _ (M0.notab t6) t6
  refine ⟨pr.enc, rfl, Tm.plain_enc _, by rw [Tm.enc_dp]; omega, ?_⟩
  refine Br.no rfl ?_
  have hRun := sFq (c := c0 p pr) (vs := ws.reverse) (du := pr) (f := f) (a := a) (b := b) (e := e) (x := x) (y := y) (z := z) (by rw [List.length_reverse, hP]; exact (show bMq (fun _ => none) p ⟨pr, [], pr⟩ p = _ from aCq)) rfl rfl (by rw [List.length_reverse]; omega) hx hy hz
  rw [List.length_reverse, <- hZL] at hRun
  have hLl : (bVq ws.length f).cps.toList.length = (bVq ws.length f).length := rfl
  refine ⟨bTq (by show (bVq ws.length f).length <= _; omega), hMq (by show _ /\ ((bVq ws.length f).length : Int) < _; omega) ?_⟩
  refine ⟨fun i ρ G' => ∃ (o8 : Option D) (c : Cf), ρ = [some (.frl (ns.map D.int)), some (.ref lw), o2, some pr.enc, some (iSq x y z f).enc, some (.str (bVq ws.length f)), o6, some (.ref am), o8] /\ MAt Slip Machine G' am lm c /\ G' T = some (.tab tp "Slip.read.<locals>.filled") /\ c.m.steps = i /\ c.m.rules = ((bVq ws.length f).cps.toList.take i).count 114 /\ c.m.slips = ((bVq ws.length f).cps.toList.take i).count 115 /\ c.m.looks = ((bVq ws.length f).cps.toList.take i).count 110 /\ c.m.stack.length <= i /\ Run ((bVq ws.length f).cps.toList.drop i) c (fun c' => K23End (c0 p pr) c' (iSq x y z f)),
    ⟨_, c0 p pr, rfl, M7, t7, rfl, rfl, rfl, rfl, Nat.le_refl _, hRun⟩, fun _ _ _ _ _ => trivial, ?_, ?_⟩
  . rintro i d ρ G1 hd ⟨o8, c, rfl, M, ht, s1, s2, s3, s4, sl, rn⟩
    obtain ⟨hi, rfl⟩ := dSq hd
    have hi' : i < (bVq ws.length f).length := by
      have : i < ((bVq ws.length f).length : Int).toNat := hi
      omega
    obtain ⟨dd, rr, hdr⟩ := o1q (l := (bVq ws.length f).cps.toList) (i := i) hi'
    rw [hdr] at rn
    obtain ⟨hgo, hst⟩ := rn
    have nTlm : T ≠ lm := by rintro rfl; have e := M.il; rw [ht] at e; cases e
    refine ⟨am, lm, c, bVq ws.length f, i, by rw [Int.zero_add], M, by omega, by omega, s1, s2, s3, s4, fun _ => hgo, fun e => absurd e (by omega), ?_⟩
    refine Br.no rfl ?_
    refine ⟨a6q M.im rfl, am, lm, c, rfl, M, by omega, fun _ => hst.more.mono fun c' ⟨⟨de, h'⟩, h2, h3⟩ G2 M2 F2 => ?_, fun z => absurd (hgo.symm.trans z) (by decide)⟩
    refine Br.no rfl (Wk.of ⟨_, c', rfl, M2, F2 T _ nTa nTlm ht, by rw [h3, s1], ?_, ?_, ?_, by omega, ?_⟩)
    . rw [f3q hdr, de.ru, s2]
    . rw [f3q hdr, de.sl, s3]
    . rw [f3q hdr, de.lo, s4]
    . rw [nVq hdr]; exact h'
  rintro ρ G8 ⟨o8, c, rfl, M, ht, s1, s2, s3, s4, sl, rn⟩
  rw [c3q, Int.toNat_natCast] at s1 s2 s3 s4 sl rn
  replace s1 : c.m.steps = (bVq ws.length f).length := s1
  replace s2 : c.m.rules = ((bVq ws.length f).cps.toList.take (bVq ws.length f).length).count 114 := s2
  replace s3 : c.m.slips = ((bVq ws.length f).cps.toList.take (bVq ws.length f).length).count 115 := s3
  replace s4 : c.m.looks = ((bVq ws.length f).cps.toList.take (bVq ws.length f).length).count 110 := s4
  replace rn : Run ((bVq ws.length f).cps.toList.drop (bVq ws.length f).length) c (fun c' => K23End (c0 p pr) c' (iSq x y z f)) := rn
  rw [<- hLl, List.drop_length] at rn
  obtain ⟨sp, hst, hgf, x9, hx9, hdue⟩ := rn
  refine hMq (by decide) ?_
  refine ⟨fun i ρ G' => ∃ (o2 : Option D), ρ = [some (.frl (ns.map D.int)), some (.ref lw), o2, some pr.enc, some (iSq x y z f).enc, some (.str (bVq ws.length f)), o6, some (.ref am), o8] /\ MAt Slip Machine G' am lm c /\ G' T = some (.tab tp "Slip.read.<locals>.filled"), ⟨_, rfl, M, ht⟩, fun _ _ _ _ _ => trivial, ?_, ?_⟩
  . rintro i d ρ G1 hd ⟨o2, rfl, M, ht⟩
    refine ⟨bTq (by omega), am, lm, c, bVq ws.length f, (bVq ws.length f).length, rfl, M, by omega, Nat.le_refl _, s1, s2, s3, s4, fun e => absurd e (Nat.lt_irrefl _), fun _ => ⟨hgf, hst⟩, ?_⟩
    refine Br.no rfl ?_
    refine ⟨a6q M.im rfl, am, lm, c, rfl, M, by rw [hst]; exact (by decide : 0 < 100000), fun z => absurd (z.symm.trans hgf) (by decide), fun _ => ?_⟩
    refine Br.no rfl ?_
    refine ⟨a6q M.im rfl, am, lm, c, x9, rfl, M, hx9, hst, sp.bd (fun _ _ _ => Nat.zero_le _), ht, fun G2 M2 fr2 => ?_⟩
    have hA := (iSq x y z f).dp_sz
    have hA2 := rSq (x := x) (y := y) (z := z) (f := f)
    refine ⟨(iSq x y z f).enc, by rw [hdue], Tm.plain_enc _, by rw [Tm.enc_dp]; omega, ?_⟩
    exact Br.no rfl (Wk.of ⟨_, rfl, M2, fr2 T _ (M.notab ht) ht⟩)
  rintro ρ G9 ⟨o2, rfl, M, ht⟩
  exact ⟨bTq (by omega), am, lm, c, bVq ws.length f, (bVq ws.length f).length, rfl, M, by omega, Nat.le_refl _, s1, s2, s3, s4, fun e => absurd e (Nat.lt_irrefl _), fun _ => ⟨hgf, hst⟩, Dr.of (q _)⟩
end
end KB
namespace KB
open PySem L2 L3
set_option maxHeartbeats 4000000
abbrev tAq : List (Addr × Addr) := [(70, 66)]
abbrev tl9 : List (Addr × Pos × Str) := [(66, iMq aYq, "Slip.read.<locals>.filled")]
theorem uQq {l : PySem.W.OpenLaw} {w : World} {K : PySem.W.Frag} {h : Heap} {mg : Str -> Option Value} {fa f0 f1 f2 f3 f4 f5 f6 f7 f8 f9 f10 f11 f12 f13 f14 f15 f16 f17 f18 f19 f20 f21 f22 f23 f24 f25 f26 f27 f28 f29 f30 f31 C_Slip C_Machine : Addr} (X : K.In h) (G : h.Ns mainGlobals mg) (hfa : mg "law" = some (.ref fa))
    {od0 an0 od1 an1 od2 an2 od3 an3 od4 an4 od5 an5 od6 an6 od7 an7 od8 an8 od9 an9 od10 an10 od11 an11 od12 an12 od13 an13 od14 an14 od15 an15 od16 an16 od17 an17 od18 an18 od19 an19 od20 an20 od21 an21 od22 an22 od23 an23 od24 an24 od25 an25 od26 an26 od27 an27 od28 an28 od29 an29 od30 an30 od31 an31 : Option Addr} {sl0 sl1 sl2 sl3 sl4 sl5 sl6 sl7 sl8 sl9 sl10 sl11 sl12 sl13 sl14 sl15 sl16 sl17 sl18 sl19 sl20 sl21 sl22 sl23 sl24 sl25 sl26 sl27 sl28 sl29 sl30 sl31 : Array (Option Value)} {oc0 kV0 dc0 pm0 ct0 cd0 oc1 kV1 dc1 pm1 ct1 cd1 oc2 kV2 dc2 pm2 ct2 cd2 oc3 kV3 dc3 pm3 ct3 cd3 oc4 kV4 dc4 pm4 ct4 cd4 oc5 kV5 dc5 pm5 ct5 cd5 oc6 kV6 dc6 pm6 ct6 cd6 oc7 kV7 dc7 pm7 ct7 oc8 kV8 dc8 pm8 ct8 cd8 oc9 kV9 dc9 pm9 ct9 cd9 oc10 kV10 dc10 pm10 ct10 cd10 oc11 kV11 dc11 pm11 ct11 cd11 oc12 kV12 dc12 pm12 ct12 cd12 oc13 kV13 dc13 pm13 ct13 cd13 oc14 kV14 dc14 pm14 ct14 cd14 oc15 kV15 dc15 pm15 ct15 cd15 oc16 kV16 dc16 pm16 ct16 cd16 oc17 kV17 dc17 pm17 ct17 cd17 oc18 kV18 dc18 pm18 ct18 cd18 oc19 kV19 dc19 pm19 ct19 cd19 oc20 kV20 dc20 pm20 ct20 cd20 oc21 kV21 dc21 pm21 ct21 cd21 oc22 kV22 dc22 pm22 ct22 cd22 oc23 kV23 dc23 pm23 ct23 cd23 oc24 kV24 dc24 pm24 ct24 cd24 oc25 kV25 dc25 pm25 ct25 cd25 oc26 kV26 dc26 pm26 ct26 cd26 oc27 kV27 dc27 pm27 ct27 cd27 oc28 kV28 dc28 pm28 ct28 cd28 oc29 kV29 dc29 pm29 ct29 cd29 oc30 kV30 dc30 pm30 ct30 cd30 oc31 kV31 dc31 pm31 ct31 cd31 : Value}
 (aC_Slip : PySem.W.nsIn K mainGlobals "Slip" = some (some (.ref C_Slip)))
 (pg_Slip : PySem.W.plainGet K C_Slip Str.empty = true)
 (hd_Slip : PySem.W.hasDictIn K C_Slip = true)
 (po_Slip : PySem.W.plainOver K C_Slip = true)
 (sa_Slip : PySem.W.findIn K (.ref C_Slip) "__setattr__" = some (some (.builtin "object.__setattr__")))
 (n_Slip_part : PySem.W.findIn K (.ref C_Slip) "part" = some none)
 (n_Slip_row : PySem.W.findIn K (.ref C_Slip) "row" = some none)
 (n_Slip_told : PySem.W.findIn K (.ref C_Slip) "told" = some none)
 (mk_Slip : PySem.W.makesIn K C_Slip = true)
 (kc_Slip : PySem.W.keepIn K (.ref C_Slip) = true)
 (aC_Machine : PySem.W.nsIn K mainGlobals "Machine" = some (some (.ref C_Machine)))
 (pg_Machine : PySem.W.plainGet K C_Machine Str.empty = true)
 (hd_Machine : PySem.W.hasDictIn K C_Machine = true)
 (po_Machine : PySem.W.plainOver K C_Machine = true)
 (sa_Machine : PySem.W.findIn K (.ref C_Machine) "__setattr__" = some (some (.builtin "object.__setattr__")))
 (n_Machine_here : PySem.W.findIn K (.ref C_Machine) "here" = some none)
 (n_Machine_paired : PySem.W.findIn K (.ref C_Machine) "paired" = some none)
 (n_Machine_stack : PySem.W.findIn K (.ref C_Machine) "stack" = some none)
 (n_Machine_steps_done : PySem.W.findIn K (.ref C_Machine) "steps_done" = some none)
 (n_Machine_rules_done : PySem.W.findIn K (.ref C_Machine) "rules_done" = some none)
 (n_Machine_slips_made : PySem.W.findIn K (.ref C_Machine) "slips_made" = some none)
 (n_Machine_looked_up : PySem.W.findIn K (.ref C_Machine) "looked_up" = some none)
 (mk_Machine : PySem.W.makesIn K C_Machine = true)
 (kc_Machine : PySem.W.keepIn K (.ref C_Machine) = true)
 (a0 : PySem.W.nsIn K mainGlobals "inner" = some (some (.ref f0)))
 (l0 : K.lookup f0 = some ⟨oc0, od0, .func (PySem.W.fnOf "inner" "inner" (aKq d5q) (aGq d5q) (a3q d5q) .none kV0 dc0 pm0 an0 cd0 ct0), sl0⟩)
 (c0 : PySem.W.codeIn K cd0 "inner" = true)
 (k0 : PySem.W.keepIn K (.ref f0) = true)
 (a1 : PySem.W.nsIn K mainGlobals "names_in" = some (some (.ref f1)))
 (l1 : K.lookup f1 = some ⟨oc1, od1, .func (PySem.W.fnOf "names_in" "names_in" (aKq c7q) (aGq c7q) (a3q c7q) .none kV1 dc1 pm1 an1 cd1 ct1), sl1⟩)
 (c1 : PySem.W.codeIn K cd1 "names_in" = true)
 (k1 : PySem.W.keepIn K (.ref f1) = true)
 (a2 : PySem.W.nsIn K mainGlobals "ways_below" = some (some (.ref f2)))
 (l2 : K.lookup f2 = some ⟨oc2, od2, .func (PySem.W.fnOf "ways_below" "ways_below" (aKq cRq) (aGq cRq) (a3q cRq) .none kV2 dc2 pm2 an2 cd2 ct2), sl2⟩)
 (c2 : PySem.W.codeIn K cd2 "ways_below" = true)
 (k2 : PySem.W.keepIn K (.ref f2) = true)
 (a3 : PySem.W.nsIn K mainGlobals "with_names" = some (some (.ref f3)))
 (l3 : K.lookup f3 = some ⟨oc3, od3, .func (PySem.W.fnOf "with_names" "with_names" (aKq d4q) (aGq d4q) (a3q d4q) .none kV3 dc3 pm3 an3 cd3 ct3), sl3⟩)
 (c3 : PySem.W.codeIn K cd3 "with_names" = true)
 (k3 : PySem.W.keepIn K (.ref f3) = true)
 (a4 : PySem.W.findIn K (.ref C_Slip) "__init__" = some (some (.ref f4)))
 (i4 : PySem.W.isFn K (.ref f4) = true)
 (l4 : K.lookup f4 = some ⟨oc4, od4, .func (PySem.W.fnOf "__init__" "Slip.__init__" (aKq cNq) (aGq cNq) (a3q cNq) .none kV4 dc4 pm4 an4 cd4 ct4), sl4⟩)
 (c4 : PySem.W.codeIn K cd4 "Slip.__init__" = true)
 (k4 : PySem.W.keepIn K (.ref f4) = true)
 (a5 : PySem.W.findIn K (.ref C_Slip) "back" = some (some (.ref f5)))
 (i5 : PySem.W.isFn K (.ref f5) = true)
 (l5 : K.lookup f5 = some ⟨oc5, od5, .func (PySem.W.fnOf "back" "Slip.back" (aKq cKq) (aGq cKq) (a3q cKq) .none kV5 dc5 pm5 an5 cd5 ct5), sl5⟩)
 (c5 : PySem.W.codeIn K cd5 "Slip.back" = true)
 (k5 : PySem.W.keepIn K (.ref f5) = true)
 (a6 : PySem.W.findIn K (.ref C_Slip) "unread" = some (some (.ref f6)))
 (i6 : PySem.W.isFn K (.ref f6) = true)
 (l6 : K.lookup f6 = some ⟨oc6, od6, .func (PySem.W.fnOf "unread" "Slip.unread" (aKq c2q) (aGq c2q) (a3q c2q) .none kV6 dc6 pm6 an6 cd6 ct6), sl6⟩)
 (c6 : PySem.W.codeIn K cd6 "Slip.unread" = true)
 (k6 : PySem.W.keepIn K (.ref f6) = true)
 (a7 : PySem.W.findIn K (.ref C_Slip) "read" = some (some (.ref f7)))
 (i7 : PySem.W.isFn K (.ref f7) = true)
 (l7 : K.lookup f7 = some ⟨oc7, od7, .func (PySem.W.fnOf "read" "Slip.read" (aKq cFq) (aGq cFq) (a3q cFq) .none kV7 dc7 pm7 an7 (.ref 70) ct7), sl7⟩)
 (c7 : PySem.W.codeIn K (.ref 70) "Slip.read" = true)
 (k7 : PySem.W.keepIn K (.ref f7) = true)
 (a8 : PySem.W.findIn K (.ref C_Machine) "__init__" = some (some (.ref f8)))
 (i8 : PySem.W.isFn K (.ref f8) = true)
 (l8 : K.lookup f8 = some ⟨oc8, od8, .func (PySem.W.fnOf "__init__" "Machine.__init__" (aKq cTq) (aGq cTq) (a3q cTq) .none kV8 dc8 pm8 an8 cd8 ct8), sl8⟩)
 (c8 : PySem.W.codeIn K cd8 "Machine.__init__" = true)
 (k8 : PySem.W.keepIn K (.ref f8) = true)
 (a9 : PySem.W.findIn K (.ref C_Machine) "step" = some (some (.ref f9)))
 (i9 : PySem.W.isFn K (.ref f9) = true)
 (l9 : K.lookup f9 = some ⟨oc9, od9, .func (PySem.W.fnOf "step" "Machine.step" (aKq cMq) (aGq cMq) (a3q cMq) .none kV9 dc9 pm9 an9 cd9 ct9), sl9⟩)
 (c9 : PySem.W.codeIn K cd9 "Machine.step" = true)
 (k9 : PySem.W.keepIn K (.ref f9) = true)
 (a10 : PySem.W.findIn K (.ref C_Machine) "word" = some (some (.ref f10)))
 (i10 : PySem.W.isFn K (.ref f10) = true)
 (l10 : K.lookup f10 = some ⟨oc10, od10, .func (PySem.W.fnOf "word" "Machine.word" (aKq cLq) (aGq cLq) (a3q cLq) .none kV10 dc10 pm10 an10 cd10 ct10), sl10⟩)
 (c10 : PySem.W.codeIn K cd10 "Machine.word" = true)
 (k10 : PySem.W.keepIn K (.ref f10) = true)
 (a11 : PySem.W.findIn K (.ref C_Machine) "top" = some (some (.ref f11)))
 (i11 : PySem.W.isFn K (.ref f11) = true)
 (l11 : K.lookup f11 = some ⟨oc11, od11, .func (PySem.W.fnOf "top" "Machine.top" (aKq d7q) (aGq d7q) (a3q d7q) .none kV11 dc11 pm11 an11 cd11 ct11), sl11⟩)
 (c11 : PySem.W.codeIn K cd11 "Machine.top" = true)
 (k11 : PySem.W.keepIn K (.ref f11) = true)
 (a12 : PySem.W.findIn K (.ref C_Machine) "meets" = some (some (.ref f12)))
 (i12 : PySem.W.isFn K (.ref f12) = true)
 (l12 : K.lookup f12 = some ⟨oc12, od12, .func (PySem.W.fnOf "meets" "Machine.meets" (aKq cBq) (aGq cBq) (a3q cBq) .none kV12 dc12 pm12 an12 cd12 ct12), sl12⟩)
 (c12 : PySem.W.codeIn K cd12 "Machine.meets" = true)
 (k12 : PySem.W.keepIn K (.ref f12) = true)
 (a13 : PySem.W.findIn K (.ref C_Machine) "enters" = some (some (.ref f13)))
 (i13 : PySem.W.isFn K (.ref f13) = true)
 (l13 : K.lookup f13 = some ⟨oc13, od13, .func (PySem.W.fnOf "enters" "Machine.enters" (aKq bYq) (aGq bYq) (a3q bYq) .none kV13 dc13 pm13 an13 cd13 ct13), sl13⟩)
 (c13 : PySem.W.codeIn K cd13 "Machine.enters" = true)
 (k13 : PySem.W.keepIn K (.ref f13) = true)
 (a14 : PySem.W.findIn K (.ref C_Machine) "enter" = some (some (.ref f14)))
 (i14 : PySem.W.isFn K (.ref f14) = true)
 (l14 : K.lookup f14 = some ⟨oc14, od14, .func (PySem.W.fnOf "enter" "Machine.enter" (aKq c9q) (aGq c9q) (a3q c9q) .none kV14 dc14 pm14 an14 cd14 ct14), sl14⟩)
 (c14 : PySem.W.codeIn K cd14 "Machine.enter" = true)
 (k14 : PySem.W.keepIn K (.ref f14) = true)
 (a15 : PySem.W.findIn K (.ref C_Machine) "look_up" = some (some (.ref f15)))
 (i15 : PySem.W.isFn K (.ref f15) = true)
 (l15 : K.lookup f15 = some ⟨oc15, od15, .func (PySem.W.fnOf "look_up" "Machine.look_up" (aKq bQq) (aGq bQq) (a3q bQq) .none kV15 dc15 pm15 an15 cd15 ct15), sl15⟩)
 (c15 : PySem.W.codeIn K cd15 "Machine.look_up" = true)
 (k15 : PySem.W.keepIn K (.ref f15) = true)
 (a16 : PySem.W.findIn K (.ref C_Machine) "within" = some (some (.ref f16)))
 (i16 : PySem.W.isFn K (.ref f16) = true)
 (l16 : K.lookup f16 = some ⟨oc16, od16, .func (PySem.W.fnOf "within" "Machine.within" (aKq c0q) (aGq c0q) (a3q c0q) .none kV16 dc16 pm16 an16 cd16 ct16), sl16⟩)
 (c16 : PySem.W.codeIn K cd16 "Machine.within" = true)
 (k16 : PySem.W.keepIn K (.ref f16) = true)
 (a17 : PySem.W.findIn K (.ref C_Machine) "meet" = some (some (.ref f17)))
 (i17 : PySem.W.isFn K (.ref f17) = true)
 (l17 : K.lookup f17 = some ⟨oc17, od17, .func (PySem.W.fnOf "meet" "Machine.meet" (aKq cSq) (aGq cSq) (a3q cSq) .none kV17 dc17 pm17 an17 cd17 ct17), sl17⟩)
 (c17 : PySem.W.codeIn K cd17 "Machine.meet" = true)
 (k17 : PySem.W.keepIn K (.ref f17) = true)
 (a18 : PySem.W.findIn K (.ref C_Machine) "behind" = some (some (.ref f18)))
 (i18 : PySem.W.isFn K (.ref f18) = true)
 (l18 : K.lookup f18 = some ⟨oc18, od18, .func (PySem.W.fnOf "behind" "Machine.behind" (aKq bZq) (aGq bZq) (a3q bZq) .none kV18 dc18 pm18 an18 cd18 ct18), sl18⟩)
 (c18 : PySem.W.codeIn K cd18 "Machine.behind" = true)
 (k18 : PySem.W.keepIn K (.ref f18) = true)
 (a19 : PySem.W.findIn K (.ref C_Machine) "program" = some (some (.ref f19)))
 (i19 : PySem.W.isFn K (.ref f19) = true)
 (l19 : K.lookup f19 = some ⟨oc19, od19, .func (PySem.W.fnOf "program" "Machine.program" (aKq bRq) (aGq bRq) (a3q bRq) .none kV19 dc19 pm19 an19 cd19 ct19), sl19⟩)
 (c19 : PySem.W.codeIn K cd19 "Machine.program" = true)
 (k19 : PySem.W.keepIn K (.ref f19) = true)
 (a20 : PySem.W.findIn K (.ref C_Machine) "steps" = some (some (.ref f20)))
 (i20 : PySem.W.isFn K (.ref f20) = true)
 (l20 : K.lookup f20 = some ⟨oc20, od20, .func (PySem.W.fnOf "steps" "Machine.steps" (aKq c6q) (aGq c6q) (a3q c6q) .none kV20 dc20 pm20 an20 cd20 ct20), sl20⟩)
 (c20 : PySem.W.codeIn K cd20 "Machine.steps" = true)
 (k20 : PySem.W.keepIn K (.ref f20) = true)
 (a21 : PySem.W.findIn K (.ref C_Machine) "rules" = some (some (.ref f21)))
 (i21 : PySem.W.isFn K (.ref f21) = true)
 (l21 : K.lookup f21 = some ⟨oc21, od21, .func (PySem.W.fnOf "rules" "Machine.rules" (aKq cAq) (aGq cAq) (a3q cAq) .none kV21 dc21 pm21 an21 cd21 ct21), sl21⟩)
 (c21 : PySem.W.codeIn K cd21 "Machine.rules" = true)
 (k21 : PySem.W.keepIn K (.ref f21) = true)
 (a22 : PySem.W.findIn K (.ref C_Machine) "slips" = some (some (.ref f22)))
 (i22 : PySem.W.isFn K (.ref f22) = true)
 (l22 : K.lookup f22 = some ⟨oc22, od22, .func (PySem.W.fnOf "slips" "Machine.slips" (aKq c8q) (aGq c8q) (a3q c8q) .none kV22 dc22 pm22 an22 cd22 ct22), sl22⟩)
 (c22 : PySem.W.codeIn K cd22 "Machine.slips" = true)
 (k22 : PySem.W.keepIn K (.ref f22) = true)
 (a23 : PySem.W.findIn K (.ref C_Machine) "look_ups" = some (some (.ref f23)))
 (i23 : PySem.W.isFn K (.ref f23) = true)
 (l23 : K.lookup f23 = some ⟨oc23, od23, .func (PySem.W.fnOf "look_ups" "Machine.look_ups" (aKq bKq) (aGq bKq) (a3q bKq) .none kV23 dc23 pm23 an23 cd23 ct23), sl23⟩)
 (c23 : PySem.W.codeIn K cd23 "Machine.look_ups" = true)
 (k23 : PySem.W.keepIn K (.ref f23) = true)
 (a24 : PySem.W.nsIn K mainGlobals "around" = some (some (.ref f24)))
 (l24 : K.lookup f24 = some ⟨oc24, od24, .func (PySem.W.fnOf "around" "around" (aKq dPq) (aGq dPq) (a3q dPq) .none kV24 dc24 pm24 an24 cd24 ct24), sl24⟩)
 (c24 : PySem.W.codeIn K cd24 "around" = true)
 (k24 : PySem.W.keepIn K (.ref f24) = true)
 (a25 : PySem.W.nsIn K mainGlobals "_law_feed" = some (some (.ref f25)))
 (l25 : K.lookup f25 = some ⟨oc25, od25, .func (PySem.W.fnOf "_law_feed" "_law_feed" (aKq eCq) (aGq eCq) (a3q eCq) .none kV25 dc25 pm25 an25 cd25 ct25), sl25⟩)
 (c25 : PySem.W.codeIn K cd25 "_law_feed" = true)
 (k25 : PySem.W.keepIn K (.ref f25) = true)
 (a26 : PySem.W.nsIn K mainGlobals "_law_take" = some (some (.ref f26)))
 (l26 : K.lookup f26 = some ⟨oc26, od26, .func (PySem.W.fnOf "_law_take" "_law_take" (aKq eFq) (aGq eFq) (a3q eFq) .none kV26 dc26 pm26 an26 cd26 ct26), sl26⟩)
 (c26 : PySem.W.codeIn K cd26 "_law_take" = true)
 (k26 : PySem.W.keepIn K (.ref f26) = true)
 (a27 : PySem.W.nsIn K mainGlobals "_law_whole" = some (some (.ref f27)))
 (l27 : K.lookup f27 = some ⟨oc27, od27, .func (PySem.W.fnOf "_law_whole" "_law_whole" (aKq d3q) (aGq d3q) (a3q d3q) .none kV27 dc27 pm27 an27 cd27 ct27), sl27⟩)
 (c27 : PySem.W.codeIn K cd27 "_law_whole" = true)
 (k27 : PySem.W.keepIn K (.ref f27) = true)
 (a28 : PySem.W.nsIn K mainGlobals "_law_same" = some (some (.ref f28)))
 (l28 : K.lookup f28 = some ⟨oc28, od28, .func (PySem.W.fnOf "_law_same" "_law_same" (aKq e9q) (aGq e9q) (a3q e9q) .none kV28 dc28 pm28 an28 cd28 ct28), sl28⟩)
 (c28 : PySem.W.codeIn K cd28 "_law_same" = true)
 (k28 : PySem.W.keepIn K (.ref f28) = true)
 (a29 : PySem.W.nsIn K mainGlobals "_law_inmost" = some (some (.ref f29)))
 (l29 : K.lookup f29 = some ⟨oc29, od29, .func (PySem.W.fnOf "_law_inmost" "_law_inmost" (aKq cUq) (aGq cUq) (a3q cUq) .none kV29 dc29 pm29 an29 cd29 ct29), sl29⟩)
 (c29 : PySem.W.codeIn K cd29 "_law_inmost" = true)
 (k29 : PySem.W.keepIn K (.ref f29) = true)
 (a30 : PySem.W.nsIn K mainGlobals "_law_counts" = some (some (.ref f30)))
 (l30 : K.lookup f30 = some ⟨oc30, od30, .func (PySem.W.fnOf "_law_counts" "_law_counts" (aKq cPq) (aGq cPq) (a3q cPq) .none kV30 dc30 pm30 an30 cd30 ct30), sl30⟩)
 (c30 : PySem.W.codeIn K cd30 "_law_counts" = true)
 (k30 : PySem.W.keepIn K (.ref f30) = true)
 (a31 : PySem.W.nsIn K mainGlobals "law" = some (some (.ref f31)))
 (l31 : K.lookup f31 = some ⟨oc31, od31, .func (PySem.W.fnOf "law" "law" (aKq eUq) (aGq eUq) (a3q eUq) .none kV31 dc31 pm31 an31 cd31 ct31), sl31⟩)
 (c31 : PySem.W.codeIn K cd31 "law" = true)
 (k31 : PySem.W.keepIn K (.ref f31) = true)
 (z0 : PySem.W.nsIn K mainGlobals "len" = some none)
 (z1 : PySem.W.nsIn K mainGlobals "isinstance" = some none)
 (z2 : PySem.W.nsIn K mainGlobals "range" = some none)
 (z3 : PySem.W.nsIn K mainGlobals "int" = some none)
 (z4 : PySem.W.nsIn K mainGlobals "bool" = some none)
 (z5 : PySem.W.nsIn K mainGlobals "str" = some none)
 (z6 : PySem.W.nsIn K mainGlobals "tuple" = some none)
 (z7 : PySem.W.nsIn K mainGlobals "list" = some none)
 (z8 : PySem.W.nsIn K mainGlobals "zip" = some none)
 (z9 : PySem.W.nsIn K mainGlobals "reversed" = some none)
    {aK : Addr} (aK0 : PySem.W.nsIn K mainGlobals "MARK_FOR" = some (some (.ref aK)))
    {eaK : Array DictEntry} {jaK : Nat} (aK1 : K.lookup aK = some ⟨.type "dict", none, .dict eaK jaK, #[]⟩)
    (aK2 : (aK == sysModules) = false)
 (aK3 : PySem.W.KeysLit w.params eaK.toList)
    (aK4 : Paired (fun (kv : Str × V) (e : DictEntry) => (∃ t1, e.key = .str kv.1 t1) /\ RelV kv.2 e.val) qNq eaK.toList)
    {aM : Addr} (aM0 : PySem.W.nsIn K mainGlobals "MEETS" = some (some (.ref aM)))
    {mA mB mC : Addr}
    {eaM : Array DictEntry} {jaM : Nat} (aM1 : K.lookup aM = some ⟨.type "dict", none, .dict eaM jaM, #[]⟩)
    (aM2 : (aM == sysModules) = false)
 (aM3 : PySem.W.KeysLit w.params eaM.toList)
    (aM4 : Paired (fun (kv : Str × V) (e : DictEntry) => (∃ t1, e.key = .str kv.1 t1) /\ RelV kv.2 e.val) [("way", .ref mA), ("pair", .ref mB), ("whole", .ref mC)] eaM.toList)
    {imA : Array Value} {jmA : Nat} (mA1 : K.lookup mA = some ⟨.type "tuple", none, .seq imA jmA, #[]⟩)
    (mA2 : Nat.ble imA.size 1000 = true)
    (mA3 : Vals [V.str "slip", V.str "both", V.str "beside"] imA.toList)
    {imB : Array Value} {jmB : Nat} (mB1 : K.lookup mB = some ⟨.type "tuple", none, .seq imB jmB, #[]⟩)
    (mB2 : Nat.ble imB.size 1000 = true)
    (mB3 : Vals [V.str "first", V.str "second"] imB.toList)
    {imC : Array Value} {jmC : Nat} (mC1 : K.lookup mC = some ⟨.type "tuple", none, .seq imC jmC, #[]⟩)
    (mC2 : Nat.ble imC.size 1000 = true)
    (mC3 : Vals [V.str "plus", V.str "had", V.str "look", V.str "both", V.str "beside"] imC.toList)
    {aR : Addr} (aR0 : PySem.W.nsIn K mainGlobals "RULE_MARKS" = some (some (.ref aR)))
    {iaR : Array Value} {jaR : Nat} (aR1 : K.lookup aR = some ⟨.type "tuple", none, .seq iaR jaR, #[]⟩)
    (aR2 : Nat.ble iaR.size 1000 = true)
    (aR3 : Vals [V.str "slip", V.str "first", V.str "second", V.str "had", V.str "look"] iaR.toList)
    {aP : Addr} (aP0 : PySem.W.nsIn K mainGlobals "PAIR_OF_SLIPS" = some (some (.ref aP)))
    {pB pC : Addr}
    {iaP : Array Value} {jaP : Nat} (aP1 : K.lookup aP = some ⟨.type "tuple", none, .seq iaP jaP, #[]⟩)
    (aP2 : Nat.ble iaP.size 1000 = true)
    (aP3 : Vals [V.str "pair", .ref pB, .ref pC] iaP.toList)
    {ipB : Array Value} {jpB : Nat} (pB1 : K.lookup pB = some ⟨.type "tuple", none, .seq ipB jpB, #[]⟩)
    (pB2 : Nat.ble ipB.size 1000 = true)
    (pB3 : Vals [V.str "name", V.int 0] ipB.toList)
    {ipC : Array Value} {jpC : Nat} (pC1 : K.lookup pC = some ⟨.type "tuple", none, .seq ipC jpC, #[]⟩)
    (pC2 : Nat.ble ipC.size 1000 = true)
    (pC3 : Vals [V.str "name", V.int 1] ipC.toList)
    : ∃ fd : FuncData, (∀ (s : Shared) (v : Value), BindsTo s fd ⟨[v], []⟩ [("_law_script", v)]) /\ ∀ base : Heap, K.In base -> base.Ns mainGlobals mg -> (∀ q ∈ tAq, PySem.W.CodeHd base q.1 q.2) -> gWq mg base -> FnOk l.prog w K mg base CX0 200 fa fd ["_law_script"] ((fun K => aWq K (gEq tl9)) K) := by
  have e := hfa.symm.trans (PySem.W.mg_of X G a31)
  cases e
  have c_Slip : Cls K C_Slip := ⟨pg_Slip, hd_Slip, po_Slip, sa_Slip⟩
  have m_Slip := PySem.W.mg_of X G aC_Slip
  have c_Machine : Cls K C_Machine := ⟨pg_Machine, hd_Machine, po_Machine, sa_Machine⟩
  have m_Machine := PySem.W.mg_of X G aC_Machine
  have F_inner := aIq (st := d5q) l0 c0 k0
  have F_namesin := aIq (st := c7q) l1 c1 k1
  have F_wbelow := aIq (st := cRq) l2 c2 k2
  have F_withn := aIq (st := d4q) l3 c3 k3
  have F_s_init := aIq (st := cNq) l4 c4 k4
  have F_s_back := aIq (st := cKq) l5 c5 k5
  have F_s_unread := aIq (st := c2q) l6 c6 k6
  have F_s_read : FunC K "read" "Slip.read" cFq f7 _ 70 := ⟨⟨_, _, _, _, _, _, _, _, rfl, l7, c7⟩⟩
  have F_m_init := aIq (st := cTq) l8 c8 k8
  have F_m_step := aIq (st := cMq) l9 c9 k9
  have F_m_word := aIq (st := cLq) l10 c10 k10
  have F_m_top := aIq (st := d7q) l11 c11 k11
  have F_m_meets := aIq (st := cBq) l12 c12 k12
  have F_m_enters := aIq (st := bYq) l13 c13 k13
  have F_m_enter := aIq (st := c9q) l14 c14 k14
  have F_m_look_up := aIq (st := bQq) l15 c15 k15
  have F_m_within := aIq (st := c0q) l16 c16 k16
  have F_m_meet := aIq (st := cSq) l17 c17 k17
  have F_m_behind := aIq (st := bZq) l18 c18 k18
  have F_m_program := aIq (st := bRq) l19 c19 k19
  have F_m_steps := aIq (st := c6q) l20 c20 k20
  have F_m_rules := aIq (st := cAq) l21 c21 k21
  have F_m_slips := aIq (st := c8q) l22 c22 k22
  have F_m_look_ups := aIq (st := bKq) l23 c23 k23
  have F_around := aIq (st := dPq) l24 c24 k24
  have F_feed := aIq (st := eCq) l25 c25 k25
  have F_take := aIq (st := eFq) l26 c26 k26
  have F_whole := aIq (st := d3q) l27 c27 k27
  have F_same := aIq (st := e9q) l28 c28 k28
  have F_inmost := aIq (st := cUq) l29 c29 k29
  have F_counts := aIq (st := cPq) l30 c30 k30
  have F_law := aIq (st := eUq) l31 c31 k31
  have b_inner := (aIq (st := d5q) l0 c0 k0).binds (ps := g3q) fun _ _ _ _ _ _ us hl => match us, hl with | [_], _ => rfl
  have m_inner := PySem.W.mg_of X G a0
  have kp_inner := k0
  have b_namesin := (aIq (st := c7q) l1 c1 k1).binds (ps := eOq) fun _ _ _ _ _ _ us hl => match us, hl with | [_], _ => rfl
  have m_namesin := PySem.W.mg_of X G a1
  have kp_namesin := k1
  have b_wbelow := (aIq (st := cRq) l2 c2 k2).binds (ps := fOq) fun _ _ _ _ _ _ us hl => match us, hl with | [_, _], _ => rfl
  have m_wbelow := PySem.W.mg_of X G a2
  have kp_wbelow := k2
  have b_withn := (aIq (st := d4q) l3 c3 k3).binds (ps := gIq) fun _ _ _ _ _ _ us hl => match us, hl with | [_, _], _ => rfl
  have m_withn := PySem.W.mg_of X G a3
  have kp_withn := k3
  have b_s_init := (aIq (st := cNq) l4 c4 k4).binds (ps := fEq) fun _ _ _ _ _ _ us hl => match us, hl with | [_, _, _], _ => rfl
  have mt_s_init : Meth K C_Slip "__init__" f4 := ⟨a4, i4, k4⟩
  have kp_s_init := k4
  have b_s_back := (aIq (st := cKq) l5 c5 k5).binds (ps := fHq) fun _ _ _ _ _ _ us hl => match us, hl with | [_], _ => rfl
  have mt_s_back : Meth K C_Slip "back" f5 := ⟨a5, i5, k5⟩
  have kp_s_back := k5
  have b_s_unread := (aIq (st := c2q) l6 c6 k6).binds (ps := dZq) fun _ _ _ _ _ _ us hl => match us, hl with | [_], _ => rfl
  have mt_s_unread : Meth K C_Slip "unread" f6 := ⟨a6, i6, k6⟩
  have kp_s_unread := k6
  have b_s_read := (aIq (st := cFq) l7 c7 k7).binds (ps := fPq) fun _ _ _ _ _ _ us hl => match us, hl with | [_], _ => rfl
  have mt_s_read : Meth K C_Slip "read" f7 := ⟨a7, i7, k7⟩
  have kp_s_read := k7
  have b_m_init := (aIq (st := cTq) l8 c8 k8).binds (ps := fBq) fun _ _ _ _ _ _ us hl => match us, hl with | [_, _], _ => rfl
  have mt_m_init : Meth K C_Machine "__init__" f8 := ⟨a8, i8, k8⟩
  have kp_m_init := k8
  have b_m_step := (aIq (st := cMq) l9 c9 k9).binds (ps := fDq) fun _ _ _ _ _ _ us hl => match us, hl with | [_], _ => rfl
  have mt_m_step : Meth K C_Machine "step" f9 := ⟨a9, i9, k9⟩
  have kp_m_step := k9
  have b_m_word := (aIq (st := cLq) l10 c10 k10).binds (ps := fJq) fun _ _ _ _ _ _ us hl => match us, hl with | [_], _ => rfl
  have mt_m_word : Meth K C_Machine "word" f10 := ⟨a10, i10, k10⟩
  have kp_m_word := k10
  have b_m_top := (aIq (st := d7q) l11 c11 k11).binds (ps := g4q) fun _ _ _ _ _ _ us hl => match us, hl with | [_], _ => rfl
  have mt_m_top : Meth K C_Machine "top" f11 := ⟨a11, i11, k11⟩
  have kp_m_top := k11
  have b_m_meets := (aIq (st := cBq) l12 c12 k12).binds (ps := eTq) fun _ _ _ _ _ _ us hl => match us, hl with | [_], _ => rfl
  have mt_m_meets : Meth K C_Machine "meets" f12 := ⟨a12, i12, k12⟩
  have kp_m_meets := k12
  have b_m_enters := (aIq (st := bYq) l13 c13 k13).binds (ps := e0q) fun _ _ _ _ _ _ us hl => match us, hl with | [_], _ => rfl
  have mt_m_enters : Meth K C_Machine "enters" f13 := ⟨a13, i13, k13⟩
  have kp_m_enters := k13
  have b_m_enter := (aIq (st := c9q) l14 c14 k14).binds (ps := eIq) fun _ _ _ _ _ _ us hl => match us, hl with | [_], _ => rfl
  have mt_m_enter : Meth K C_Machine "enter" f14 := ⟨a14, i14, k14⟩
  have kp_m_enter := k14
  have b_m_look_up := (aIq (st := bQq) l15 c15 k15).binds (ps := dJq) fun _ _ _ _ _ _ us hl => match us, hl with | [_], _ => rfl
  have mt_m_look_up : Meth K C_Machine "look_up" f15 := ⟨a15, i15, k15⟩
  have kp_m_look_up := k15
  have b_m_within := (aIq (st := c0q) l16 c16 k16).binds (ps := dXq) fun _ _ _ _ _ _ us hl => match us, hl with | [_, _], _ => rfl
  have mt_m_within : Meth K C_Machine "within" f16 := ⟨a16, i16, k16⟩
  have kp_m_within := k16
  have b_m_meet := (aIq (st := cSq) l17 c17 k17).binds (ps := fLq) fun _ _ _ _ _ _ us hl => match us, hl with | [_], _ => rfl
  have mt_m_meet : Meth K C_Machine "meet" f17 := ⟨a17, i17, k17⟩
  have kp_m_meet := k17
  have b_m_behind := (aIq (st := bZq) l18 c18 k18).binds (ps := e1q) fun _ _ _ _ _ _ us hl => match us, hl with | [_, _], _ => rfl
  have mt_m_behind : Meth K C_Machine "behind" f18 := ⟨a18, i18, k18⟩
  have kp_m_behind := k18
  have b_m_program := (aIq (st := bRq) l19 c19 k19).binds (ps := dNq) fun _ _ _ _ _ _ us hl => match us, hl with | [_], _ => rfl
  have mt_m_program : Meth K C_Machine "program" f19 := ⟨a19, i19, k19⟩
  have kp_m_program := k19
  have b_m_steps := (aIq (st := c6q) l20 c20 k20).binds (ps := eJq) fun _ _ _ _ _ _ us hl => match us, hl with | [_], _ => rfl
  have mt_m_steps : Meth K C_Machine "steps" f20 := ⟨a20, i20, k20⟩
  have kp_m_steps := k20
  have b_m_rules := (aIq (st := cAq) l21 c21 k21).binds (ps := eSq) fun _ _ _ _ _ _ us hl => match us, hl with | [_], _ => rfl
  have mt_m_rules : Meth K C_Machine "rules" f21 := ⟨a21, i21, k21⟩
  have kp_m_rules := k21
  have b_m_slips := (aIq (st := c8q) l22 c22 k22).binds (ps := eXq) fun _ _ _ _ _ _ us hl => match us, hl with | [_], _ => rfl
  have mt_m_slips : Meth K C_Machine "slips" f22 := ⟨a22, i22, k22⟩
  have kp_m_slips := k22
  have b_m_look_ups := (aIq (st := bKq) l23 c23 k23).binds (ps := dCq) fun _ _ _ _ _ _ us hl => match us, hl with | [_], _ => rfl
  have mt_m_look_ups : Meth K C_Machine "look_ups" f23 := ⟨a23, i23, k23⟩
  have kp_m_look_ups := k23
  have b_around := (aIq (st := dPq) l24 c24 k24).binds (ps := fGq) fun _ _ _ _ _ _ us hl => match us, hl with | [_, _], _ => rfl
  have m_around := PySem.W.mg_of X G a24
  have kp_around := k24
  have b_feed := (aIq (st := eCq) l25 c25 k25).binds (ps := h4q) fun _ _ _ _ _ _ us hl => match us, hl with | [_, _], _ => rfl
  have m_feed := PySem.W.mg_of X G a25
  have kp_feed := k25
  have b_take := (aIq (st := eFq) l26 c26 k26).binds (ps := gZq) fun _ _ _ _ _ _ us hl => match us, hl with | [_, _], _ => rfl
  have m_take := PySem.W.mg_of X G a26
  have kp_take := k26
  have b_whole := (aIq (st := d3q) l27 c27 k27).binds (ps := g5q) fun _ _ _ _ _ _ us hl => match us, hl with | [_], _ => rfl
  have m_whole := PySem.W.mg_of X G a27
  have kp_whole := k27
  have b_same := (aIq (st := e9q) l28 c28 k28).binds (ps := hKq) fun _ _ _ _ _ _ us hl => match us, hl with | [_, _], _ => rfl
  have m_same := PySem.W.mg_of X G a28
  have kp_same := k28
  have b_inmost := (aIq (st := cUq) l29 c29 k29).binds (ps := fIq) fun _ _ _ _ _ _ us hl => match us, hl with | [_, _], _ => rfl
  have m_inmost := PySem.W.mg_of X G a29
  have kp_inmost := k29
  have b_counts := (aIq (st := cPq) l30 c30 k30).binds (ps := fMq) fun _ _ _ _ _ _ us hl => match us, hl with | [_, _, _], _ => rfl
  have m_counts := PySem.W.mg_of X G a30
  have kp_counts := k30
  have M_Slip : Mk K C_Slip f4 := ⟨mk_Slip, a4, i4, kc_Slip⟩
  have M_Machine : Mk K C_Machine f8 := ⟨mk_Machine, a8, i8, kc_Machine⟩
  have B : Blt mg := ⟨PySem.W.mg_none_of X G z0, PySem.W.mg_none_of X G z1, PySem.W.mg_none_of X G z2, PySem.W.mg_none_of X G z3, PySem.W.mg_none_of X G z4, PySem.W.mg_none_of X G z5, PySem.W.mg_none_of X G z6, PySem.W.mg_none_of X G z7, PySem.W.mg_none_of X G z8, PySem.W.mg_none_of X G z9⟩
  refine ⟨PySem.W.fnOf "law" "law" (aKq eUq) (aGq eUq) (a3q eUq) .none kV31 dc31 pm31 an31 cd31 ct31, fun s v => .of_eq rfl, fun base _ _ hCs hB => ?_⟩
  have m_MARK_FOR := PySem.W.mg_of X G aK0
  have m_MEETS := PySem.W.mg_of X G aM0
  have m_RULE_MARKS := PySem.W.mg_of X G aR0
  have m_PAIR_OF_SLIPS := PySem.W.mg_of X G aP0
  have T_MARK_FOR : KTabD K w aK eKq := n8q aK1 aK2 aK3 aK4 pRq yPq
  have T_MEETS : KTabD K w aM e3q := n8q aM1 aM2 aM3 aM4 n6q (.cons ⟨rfl, fun _ => ⟨mA, _, rfl, gKq mA1 mA2 mA3, dHq ["slip", "both", "beside"]⟩⟩ (.cons ⟨rfl, fun _ => ⟨mB, _, rfl, gKq mB1 mB2 mB3, dHq ["first", "second"]⟩⟩ (.cons ⟨rfl, fun _ => ⟨mC, _, rfl, gKq mC1 mC2 mC3, dHq ["plus", "had", "look", "both", "beside"]⟩⟩ .nil)))
  have t_RULE_MARKS : ∀ H, Abs K H (.tup [.str "slip", .str "first", .str "second", .str "had", .str "look"]) (.ref aR) := fun _ => ⟨aR, _, rfl, gKq aR1 aR2 aR3, dHq ["slip", "first", "second", "had", "look"]⟩
  have t_PAIR := xUq aP1 aP2 aP3 pB1 pB2 pB3 pC1 pC2 pC3
  have g_inner : Got l.prog w K mg base 1 "inner" g3q (aWq K (pPq Tm.enc Tm.inn)) := ⟨f0, _, p1q F_inner, m_inner, kp_inner, b_inner⟩
  have g_wbelow : Got l.prog w K mg base 1 "ways_below" fOq (aWq K hNq) := ⟨f2, _, mOq F_wbelow, m_wbelow, kp_wbelow, b_wbelow⟩
  have g_namesin : Got l.prog w K mg base 2 "names_in" eOq (aWq K gMq) := ⟨f1, _, lJq B g_inner g_wbelow F_namesin, m_namesin, kp_namesin, b_namesin⟩
  have g_withn : Got l.prog w K mg base 3 "with_names" gIq (aWq K (nAq l.prog w K mg base 1)) := ⟨f3, _, q2q B g_inner g_wbelow F_withn, m_withn, kp_withn, b_withn⟩
  have g_Slip : MkGot l.prog w K mg base 1 C_Slip "Slip" fEq (aWq K (iXq C_Slip)) := ⟨⟨f4, _, nBq B c_Slip n_Slip_part n_Slip_row n_Slip_told F_s_init, M_Slip, m_Slip, b_s_init⟩⟩
  have g_s_unread : MGot l.prog w K mg base 3 C_Slip "unread" dZq (aWq K (i4q C_Slip)) := ⟨⟨f6, _, jZq B c_Slip n_Slip_part n_Slip_row n_Slip_told g_namesin F_s_unread, mt_s_unread, b_s_unread⟩⟩
  have g_s_read : MGot l.prog w K mg base 4 C_Slip "read" fPq (aWq K (nSq C_Slip 66 (iMq aYq))) := ⟨⟨f7, _, nGq (hCs (70, 66) (List.mem_cons_self ..)) hB c_Slip n_Slip_part n_Slip_row n_Slip_told g_withn F_s_read, mt_s_read, b_s_read⟩⟩
  have g_s_back : MGot l.prog w K mg base 5 C_Slip "back" fHq (aWq K (mQq C_Slip 66 (iMq aYq))) := ⟨⟨f5, _, m1q B c_Slip n_Slip_told g_s_unread g_s_read F_s_back, mt_s_back, b_s_back⟩⟩
  have g_around : Got l.prog w K mg base 1 "around" fGq (aWq K fun _ _ _ => False) := ⟨f24, _, o0q, m_around, kp_around, b_around⟩
  have g_Machine : MkGot l.prog w K mg base 3 C_Machine "Machine" fBq (aWq K (jTq C_Slip C_Machine)) := ⟨⟨f8, _, nYq c_Machine n_Machine_here n_Machine_paired n_Machine_stack n_Machine_steps_done n_Machine_rules_done n_Machine_slips_made n_Machine_looked_up g_Slip F_m_init, M_Machine, m_Machine, b_m_init⟩⟩
  have g_m_top : MGot l.prog w K mg base 1 C_Machine "top" g4q (aWq K (pBq C_Slip C_Machine)) := ⟨⟨f11, _, pGq c_Machine n_Machine_stack F_m_top, mt_m_top, b_m_top⟩⟩
  have g_m_steps : MGot l.prog w K mg base 1 C_Machine "steps" eJq (aWq K (dDq C_Slip C_Machine fun m => .int m.steps)) := ⟨⟨f20, _, lQq c_Machine n_Machine_steps_done F_m_steps, mt_m_steps, b_m_steps⟩⟩
  have g_m_rules : MGot l.prog w K mg base 1 C_Machine "rules" eSq (aWq K (dDq C_Slip C_Machine fun m => .int m.rules)) := ⟨⟨f21, _, lGq c_Machine n_Machine_rules_done F_m_rules, mt_m_rules, b_m_rules⟩⟩
  have g_m_slips : MGot l.prog w K mg base 1 C_Machine "slips" eXq (aWq K (dDq C_Slip C_Machine fun m => .int m.slips)) := ⟨⟨f22, _, lBq c_Machine n_Machine_slips_made F_m_slips, mt_m_slips, b_m_slips⟩⟩
  have g_m_look_ups : MGot l.prog w K mg base 1 C_Machine "look_ups" dCq (aWq K (dDq C_Slip C_Machine fun m => .int m.looks)) := ⟨⟨f23, _, i5q c_Machine n_Machine_looked_up F_m_look_ups, mt_m_look_ups, b_m_look_ups⟩⟩
  have g_m_look_up : MGot l.prog w K mg base 1 C_Machine "look_up" dJq (aWq K (iAq C_Slip C_Machine)) := ⟨⟨f15, _, jMq c_Slip n_Slip_part n_Slip_row c_Machine n_Machine_here n_Machine_looked_up F_m_look_up, mt_m_look_up, b_m_look_up⟩⟩
  have g_m_within : MGot l.prog w K mg base 3 C_Machine "within" dXq (aWq K (fTq C_Slip C_Machine)) := ⟨⟨f16, _, kAq c_Slip n_Slip_part n_Slip_row c_Machine n_Machine_here g_Slip F_m_within, mt_m_within, b_m_within⟩⟩
  have g_m_meets : MGot l.prog w K mg base 2 C_Machine "meets" eTq (aWq K (hXq C_Slip C_Machine)) := ⟨⟨f12, _, lLq c_Slip n_Slip_part c_Machine n_Machine_here n_Machine_paired m_MEETS T_MEETS g_m_top F_m_meets, mt_m_meets, b_m_meets⟩⟩
  have g_m_enters : MGot l.prog w K mg base 2 C_Machine "enters" e0q (aWq K (i7q C_Slip C_Machine)) := ⟨⟨f13, _, jVq c_Slip n_Slip_part c_Machine n_Machine_here n_Machine_paired m_MARK_FOR T_MARK_FOR g_m_top F_m_enters, mt_m_enters, b_m_enters⟩⟩
  have g_m_word : MGot l.prog w K mg base 3 C_Machine "word" fJq (aWq K (kJq C_Slip C_Machine)) := ⟨⟨f10, _, o2q c_Slip n_Slip_part c_Machine n_Machine_here n_Machine_stack g_m_meets g_m_enters F_m_word, mt_m_word, b_m_word⟩⟩
  have g_m_enter : MGot l.prog w K mg base 4 C_Machine "enter" eIq (aWq K (k2q C_Slip C_Machine)) := ⟨⟨f14, _, lIq B c_Slip n_Slip_part c_Machine n_Machine_here n_Machine_stack n_Machine_slips_made m_MARK_FOR T_MARK_FOR g_m_within F_m_enter, mt_m_enter, b_m_enter⟩⟩
  have g_m_behind : MGot l.prog w K mg base 4 C_Machine "behind" e1q (aWq K (hWq C_Slip C_Machine)) := ⟨⟨f18, _, jSq c_Slip n_Slip_part n_Slip_row c_Machine n_Machine_here m_PAIR_OF_SLIPS t_PAIR g_Slip g_m_within F_m_behind, mt_m_behind, b_m_behind⟩⟩
  have g_m_meet : MGot l.prog w K mg base 5 C_Machine "meet" fLq (aWq K (mJq C_Slip C_Machine)) := ⟨⟨f17, _, n3q c_Slip n_Slip_part c_Machine n_Machine_here n_Machine_paired n_Machine_stack n_Machine_rules_done m_RULE_MARKS t_RULE_MARKS g_m_behind F_m_meet, mt_m_meet, b_m_meet⟩⟩
  have g_m_step : MGot l.prog w K mg base 6 C_Machine "step" fDq (aWq K (mKq C_Slip C_Machine)) := ⟨⟨f9, _, mNq c_Slip n_Slip_part c_Machine n_Machine_here n_Machine_steps_done g_m_word g_m_meets g_m_meet g_m_enter g_m_look_up F_m_step, mt_m_step, b_m_step⟩⟩
  have g_m_program : MGot l.prog w K mg base 6 C_Machine "program" dNq (aWq K (kDq C_Slip C_Machine 66 (iMq aYq))) := ⟨⟨f19, _, jCq B c_Slip c_Machine n_Machine_here n_Machine_stack g_s_back g_around F_m_program, mt_m_program, b_m_program⟩⟩
  have g_feed : Got l.prog w K mg base 1 "_law_feed" h4q (aWq K iQq) := ⟨f25, _, sTq B F_feed, m_feed, kp_feed, b_feed⟩
  have g_take : Got l.prog w K mg base 1 "_law_take" gZq (aWq K gNq) := ⟨f26, _, rNq F_take, m_take, kp_take, b_take⟩
  have g_whole : Got l.prog w K mg base 2 "_law_whole" g5q (aWq K fYq) := ⟨f27, _, qAq g_take F_whole, m_whole, kp_whole, b_whole⟩
  have g_same : ∀ n : Nat, Got l.prog w K mg base (n + 1) "_law_same" hKq (aWq K (f9q n)) := fun n => by
    induction n with
    | zero => exact ⟨f28, _, t1q, m_same, kp_same, b_same⟩
    | succ n ih => exact ⟨f28, _, sKq B ih F_same, m_same, kp_same, b_same⟩
  have g_inmost : Got l.prog w K mg base 2 "_law_inmost" fIq (aWq K i9q) := ⟨f29, _, nQq B g_take F_inmost, m_inmost, kp_inmost, b_inmost⟩
  have g_counts : Got l.prog w K mg base 92 "_law_counts" fMq (aWq K (hVq C_Slip C_Machine)) := ⟨f30, _, nKq B c_Machine (g_same 90) g_m_word g_m_steps g_m_rules g_m_slips g_m_look_ups F_counts, m_counts, kp_counts, b_counts⟩
  exact vEq B c_Machine g_feed g_take g_whole g_inmost g_counts (g_same 90) g_Machine g_m_step g_m_program F_law
theorem walk {l : PySem.W.OpenLaw} {q : Program} {loose : List Str} {XP : (Str -> Option Value) -> Heap -> Prop} {YP : World -> Heap -> Prop} {d : DefRec} {K : Params -> PySem.W.Frag} (hn : l.most = some 63) (hdf : d.params.defaults = [])
    (hY : ∀ (w : World) (h : Heap), YP w h -> (K w.params).In h) (hK : ∀ w : World, PySem.W.noTabs (K w.params) = true) (hTab : ∀ (w : World) (h : Heap), YP w h -> PySem.W.TabsAt tAq h)
    (F : ∀ (w : World) (mg : Str -> Option Value) (fa : Addr) (h : Heap), (K w.params).In h -> h.Ns mainGlobals mg -> mg d.name = some (.ref fa) →
      ∃ fd : FuncData, (∀ (s : Shared) (u : Value), BindsTo s fd ⟨[u], []⟩ [("_law_script", u)]) /\ ∀ base : Heap, (K w.params).In base -> base.Ns mainGlobals mg -> (∀ q ∈ tAq, PySem.W.CodeHd base q.1 q.2) -> gWq mg base -> FnOk l.prog w (K w.params) mg base CX0 200 fa fd ["_law_script"] ((fun K => aWq K (gEq tl9)) (K w.params))) :
    PySem.W.WalkO q loose XP YP l.row.toRowW d [] (fun f vs => PySem.call f vs) :=
  L2.pHq (n := 63) (k := 200) (x := "_law_script") (sp := fun K => (fun K => aWq K (gEq tl9)) K) hn (by decide) hdf ⟨rfl, by decide, by decide⟩ hY hK hTab F fun _ _ _ _ hl hE hS => pDq rfl (by decide) hl hE hS
end KB
def PySem.W.Fast.tw13588121897144375079:=0
def PySem.W.Fast.tw11935857411809015586:=0
def PySem.W.Fast.tw18203570630460657297:=0
def PySem.W.Fast.tw3692900578661445762:=0
def PySem.W.Fast.tw909357538928286011:=0
def PySem.W.Fast.tw12374998052979909147:=0
def PySem.W.Fast.tw9732595060179108713:=0
def PySem.W.Fast.tw14153174048427129084:=0
def PySem.W.Fast.tw2012715477025404135:=0
def PySem.W.Fast.tw5598833097007185126:=0
def PySem.W.Fast.tw7294317250147753576:=0
def PySem.W.Fast.tw17571276001585570572:=0
def PySem.W.Fast.tw10361239152696889396:=0
def PySem.W.Fast.tw14031864638070504383:=0
def PySem.W.Fast.tw16828384635608600358:=0
def PySem.W.Fast.tw6398861476227369256:=0
def PySem.W.Fast.tw12872986670629352525:=0
def PySem.W.Fast.tw14282117580649112730:=0
def PySem.W.Fast.tw11712034301309485728:=0
def PySem.W.Fast.tw1980585068709402380:=0
def PySem.W.Fast.tw7629247257366185191:=0
def PySem.W.Fast.tw17216381061142843232:=0
def PySem.W.Fast.tw4422870084192138828:=0
def PySem.W.Fast.tw1958700581912641184:=0
def PySem.W.Fast.tw15516730692678829511:=0
def PySem.W.Fast.tw7227908288755748284:=0
def PySem.W.Fast.tw17618886699075683509:=0
def PySem.W.Fast.tw3109981603909340269:=0
def PySem.W.Fast.tw17663128398002562919:=0
def PySem.W.Fast.tw10808873517100446865:=0
def PySem.W.Fast.tw16052422640980497830:=0
def PySem.W.Fast.tw2659785072229688553:=0
def PySem.W.Fast.tw3206411054209593980:=0
def PySem.W.Fast.tw5264345711752409704:=0
def PySem.W.Fast.tw2316447848180339854:=0
def PySem.W.Fast.tw8156393946464970176:=0
def PySem.W.Fast.tw1162719198900406649:=0
def PySem.W.Fast.tw14440154701742888326:=0
def PySem.W.Fast.tw3595644872941502027:=0
def PySem.W.Fast.tw15611069903716109505:=0
open PySem PySem.W PyProof.Rows
set_option maxRecDepth 100000 in
set_option maxHeartbeats 0 in
theorem PySem.Challenge.cw_kindbags_k23_names_and_slips_by_numbers_holds : PySem.Challenge.rw_kindbags_k23_names_and_slips_by_numbers.Holds := by
  w_on; o_law; k_head; (case hw => w_witness2)
  k_fill
  refine KB.walk (l := PySem.Challenge.rw_kindbags_k23_names_and_slips_by_numbers) rfl rfl (fun w h Y => PySem.W.km_in_of Y) (fun w => by kernel_rfl) (fun w h Y => List.forall_mem_cons.mpr ⟨⟨PySem.W.codeHd_of_K (c := 70) (P := 66) (PySem.W.km_in_of Y) (by kernel_rfl), PySem.W.km_tabs_of Y 66 (by k_mem)⟩, fun _ h => nomatch h⟩) ?F
  case F =>
    intro w mg fa h KX G hmg
    refine' KB.uQq KX G hmg ?aC_Slip ?pg_Slip ?hd_Slip ?po_Slip ?sa_Slip ?n_Slip_part ?n_Slip_row ?n_Slip_told ?mk_Slip ?kc_Slip ?aC_Machine ?pg_Machine ?hd_Machine ?po_Machine ?sa_Machine ?n_Machine_here ?n_Machine_paired ?n_Machine_stack ?n_Machine_steps_done ?n_Machine_rules_done ?n_Machine_slips_made ?n_Machine_looked_up ?mk_Machine ?kc_Machine ?a0 ?l0 ?c0 ?k0 ?a1 ?l1 ?c1 ?k1 ?a2 ?l2 ?c2 ?k2 ?a3 ?l3 ?c3 ?k3 ?a4 ?i4 ?l4 ?c4 ?k4 ?a5 ?i5 ?l5 ?c5 ?k5 ?a6 ?i6 ?l6 ?c6 ?k6 ?a7 ?i7 ?l7 ?c7 ?k7 ?a8 ?i8 ?l8 ?c8 ?k8 ?a9 ?i9 ?l9 ?c9 ?k9 ?a10 ?i10 ?l10 ?c10 ?k10 ?a11 ?i11 ?l11 ?c11 ?k11 ?a12 ?i12 ?l12 ?c12 ?k12 ?a13 ?i13 ?l13 ?c13 ?k13 ?a14 ?i14 ?l14 ?c14 ?k14 ?a15 ?i15 ?l15 ?c15 ?k15 ?a16 ?i16 ?l16 ?c16 ?k16 ?a17 ?i17 ?l17 ?c17 ?k17 ?a18 ?i18 ?l18 ?c18 ?k18 ?a19 ?i19 ?l19 ?c19 ?k19 ?a20 ?i20 ?l20 ?c20 ?k20 ?a21 ?i21 ?l21 ?c21 ?k21 ?a22 ?i22 ?l22 ?c22 ?k22 ?a23 ?i23 ?l23 ?c23 ?k23 ?a24 ?l24 ?c24 ?k24 ?a25 ?l25 ?c25 ?k25 ?a26 ?l26 ?c26 ?k26 ?a27 ?l27 ?c27 ?k27 ?a28 ?l28 ?c28 ?k28 ?a29 ?l29 ?c29 ?k29 ?a30 ?l30 ?c30 ?k30 ?a31 ?l31 ?c31 ?k31 ?z0 ?z1 ?z2 ?z3 ?z4 ?z5 ?z6 ?z7 ?z8 ?z9 ?aK0 ?aK1 ?aK2 ?aK3 ?aK4 ?aM0 ?aM1 ?aM2 ?aM3 ?aM4 ?mA1 ?mA2 ?mA3 ?mB1 ?mB2 ?mB3 ?mC1 ?mC2 ?mC3 ?aR0 ?aR1 ?aR2 ?aR3 ?aP0 ?aP1 ?aP2 ?aP3 ?pB1 ?pB2 ?pB3 ?pC1 ?pC2 ?pC3
    (case aC_Slip => k_is)
    (case pg_Slip => k_is)
    (case hd_Slip => k_is)
    (case po_Slip => k_is)
    (case sa_Slip => k_is)
    (case n_Slip_part => k_is)
    (case n_Slip_row => k_is)
    (case n_Slip_told => k_is)
    (case mk_Slip => k_is)
    (case kc_Slip => k_is)
    (case aC_Machine => k_is)
    (case pg_Machine => k_is)
    (case hd_Machine => k_is)
    (case po_Machine => k_is)
    (case sa_Machine => k_is)
    (case n_Machine_here => k_is)
    (case n_Machine_paired => k_is)
    (case n_Machine_stack => k_is)
    (case n_Machine_steps_done => k_is)
    (case n_Machine_rules_done => k_is)
    (case n_Machine_slips_made => k_is)
    (case n_Machine_looked_up => k_is)
    (case mk_Machine => k_is)
    (case kc_Machine => k_is)
    (case a0 => k_is)
    (case l0 => k_is)
    (case c0 => k_is)
    (case k0 => k_is)
    (case a1 => k_is)
    (case l1 => k_is)
    (case c1 => k_is)
    (case k1 => k_is)
    (case a2 => k_is)
    (case l2 => k_is)
    (case c2 => k_is)
    (case k2 => k_is)
    (case a3 => k_is)
    (case l3 => k_is)
    (case c3 => k_is)
    (case k3 => k_is)
    (case a4 => k_is)
    (case i4 => k_is)
    (case l4 => k_is)
    (case c4 => k_is)
    (case k4 => k_is)
    (case a5 => k_is)
    (case i5 => k_is)
    (case l5 => k_is)
    (case c5 => k_is)
    (case k5 => k_is)
    (case a6 => k_is)
    (case i6 => k_is)
    (case l6 => k_is)
    (case c6 => k_is)
    (case k6 => k_is)
    (case a7 => k_is)
    (case i7 => k_is)
    (case l7 => k_is)
    (case c7 => k_is)
    (case k7 => k_is)
    (case a8 => k_is)
    (case i8 => k_is)
    (case l8 => k_is)
    (case c8 => k_is)
    (case k8 => k_is)
    (case a9 => k_is)
    (case i9 => k_is)
    (case l9 => k_is)
    (case c9 => k_is)
    (case k9 => k_is)
    (case a10 => k_is)
    (case i10 => k_is)
    (case l10 => k_is)
    (case c10 => k_is)
    (case k10 => k_is)
    (case a11 => k_is)
    (case i11 => k_is)
    (case l11 => k_is)
    (case c11 => k_is)
    (case k11 => k_is)
    (case a12 => k_is)
    (case i12 => k_is)
    (case l12 => k_is)
    (case c12 => k_is)
    (case k12 => k_is)
    (case a13 => k_is)
    (case i13 => k_is)
    (case l13 => k_is)
    (case c13 => k_is)
    (case k13 => k_is)
    (case a14 => k_is)
    (case i14 => k_is)
    (case l14 => k_is)
    (case c14 => k_is)
    (case k14 => k_is)
    (case a15 => k_is)
    (case i15 => k_is)
    (case l15 => k_is)
    (case c15 => k_is)
    (case k15 => k_is)
    (case a16 => k_is)
    (case i16 => k_is)
    (case l16 => k_is)
    (case c16 => k_is)
    (case k16 => k_is)
    (case a17 => k_is)
    (case i17 => k_is)
    (case l17 => k_is)
    (case c17 => k_is)
    (case k17 => k_is)
    (case a18 => k_is)
    (case i18 => k_is)
    (case l18 => k_is)
    (case c18 => k_is)
    (case k18 => k_is)
    (case a19 => k_is)
    (case i19 => k_is)
    (case l19 => k_is)
    (case c19 => k_is)
    (case k19 => k_is)
    (case a20 => k_is)
    (case i20 => k_is)
    (case l20 => k_is)
    (case c20 => k_is)
    (case k20 => k_is)
    (case a21 => k_is)
    (case i21 => k_is)
    (case l21 => k_is)
    (case c21 => k_is)
    (case k21 => k_is)
    (case a22 => k_is)
    (case i22 => k_is)
    (case l22 => k_is)
    (case c22 => k_is)
    (case k22 => k_is)
    (case a23 => k_is)
    (case i23 => k_is)
    (case l23 => k_is)
    (case c23 => k_is)
    (case k23 => k_is)
    (case a24 => k_is)
    (case l24 => k_is)
    (case c24 => k_is)
    (case k24 => k_is)
    (case a25 => k_is)
    (case l25 => k_is)
    (case c25 => k_is)
    (case k25 => k_is)
    (case a26 => k_is)
    (case l26 => k_is)
    (case c26 => k_is)
    (case k26 => k_is)
    (case a27 => k_is)
    (case l27 => k_is)
    (case c27 => k_is)
    (case k27 => k_is)
    (case a28 => k_is)
    (case l28 => k_is)
    (case c28 => k_is)
    (case k28 => k_is)
    (case a29 => k_is)
    (case l29 => k_is)
    (case c29 => k_is)
    (case k29 => k_is)
    (case a30 => k_is)
    (case l30 => k_is)
    (case c30 => k_is)
    (case k30 => k_is)
    (case a31 => k_is)
    (case l31 => k_is)
    (case c31 => k_is)
    (case k31 => k_is)
    (case z0 => k_is)
    (case z1 => k_is)
    (case z2 => k_is)
    (case z3 => k_is)
    (case z4 => k_is)
    (case z5 => k_is)
    (case z6 => k_is)
    (case z7 => k_is)
    (case z8 => k_is)
    (case z9 => k_is)
    (case aK0 => k_is)
    (case aK1 => k_is)
    (case aK2 => rfl)
    (case aK3 => exact ⟨⟨_, _, rfl, rfl⟩, ⟨_, _, rfl, rfl⟩, ⟨_, _, rfl, rfl⟩, ⟨_, _, rfl, rfl⟩, ⟨_, _, rfl, rfl⟩, ⟨_, _, rfl, rfl⟩, trivial⟩)
    (case aK4 => exact .cons ⟨⟨_, rfl⟩, ⟨_, rfl⟩⟩ (.cons ⟨⟨_, rfl⟩, ⟨_, rfl⟩⟩ (.cons ⟨⟨_, rfl⟩, ⟨_, rfl⟩⟩ (.cons ⟨⟨_, rfl⟩, ⟨_, rfl⟩⟩ (.cons ⟨⟨_, rfl⟩, ⟨_, rfl⟩⟩ (.cons ⟨⟨_, rfl⟩, ⟨_, rfl⟩⟩ (.nil)))))))
    (case aM0 => k_is)
    (case aM1 => k_is)
    (case aM2 => rfl)
    (case aM3 => exact ⟨⟨_, _, rfl, rfl⟩, ⟨_, _, rfl, rfl⟩, ⟨_, _, rfl, rfl⟩, trivial⟩)
    (case aM4 => exact .cons ⟨⟨_, rfl⟩, rfl⟩ (.cons ⟨⟨_, rfl⟩, rfl⟩ (.cons ⟨⟨_, rfl⟩, rfl⟩ (.nil))))
    (case mA1 => k_is)
    (case mA2 => rfl)
    (case mA3 => exact .cons ⟨_, rfl⟩ (.cons ⟨_, rfl⟩ (.cons ⟨_, rfl⟩ (.nil))))
    (case mB1 => k_is)
    (case mB2 => rfl)
    (case mB3 => exact .cons ⟨_, rfl⟩ (.cons ⟨_, rfl⟩ (.nil)))
    (case mC1 => k_is)
    (case mC2 => rfl)
    (case mC3 => exact .cons ⟨_, rfl⟩ (.cons ⟨_, rfl⟩ (.cons ⟨_, rfl⟩ (.cons ⟨_, rfl⟩ (.cons ⟨_, rfl⟩ (.nil))))))
    (case aR0 => k_is)
    (case aR1 => k_is)
    (case aR2 => rfl)
    (case aR3 => exact .cons ⟨_, rfl⟩ (.cons ⟨_, rfl⟩ (.cons ⟨_, rfl⟩ (.cons ⟨_, rfl⟩ (.cons ⟨_, rfl⟩ (.nil))))))
    (case aP0 => k_is)
    (case aP1 => k_is)
    (case aP2 => rfl)
    (case aP3 => exact .cons ⟨_, rfl⟩ (.cons rfl (.cons rfl (.nil))))
    (case pB1 => k_is)
    (case pB2 => rfl)
    (case pB3 => exact .cons ⟨_, rfl⟩ (.cons ⟨_, rfl⟩ (.nil)))
    (case pC1 => k_is)
    (case pC2 => rfl)
    (case pC3 => exact .cons ⟨_, rfl⟩ (.cons ⟨_, rfl⟩ (.nil)))
