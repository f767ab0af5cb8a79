import PyProof.Rows.All
import Wide.All
import OpenK.AllK
import Wide.FinOn
import Lean
import PyProof.EqAt
import PyProof.EqKinds
import PyProof.TupleCall
import PySem.Challenge.RW_kindbags_k11_names_and_wholes
set_option Elab.async false
set_option linter.all false
set_option maxRecDepth 100000
namespace L2
open PySem PySem.Spec PyProof.Rows
abbrev Key := Sum Int Str
def oEq : Key -> Value -> Bool
  | .inl k, v => Value.isInt k v
  | .inr x, v => Value.isStrOf x v
def r4q (w : World) : Key -> Int
  | .inl k => hashInt k
  | .inr x => hashStr w x
theorem aKq : ∀ {k : Key} {v : Value}, oEq k v = true -> (∃ i t, k = Sum.inl i /\ v = Value.int i t) \/ (∃ x t, k = Sum.inr x /\ v = Value.str x t)
  | .inl i, v, h => by
    obtain ⟨t, e⟩ := Value.isInt_shape (k := i) (v := v) h
    exact .inl ⟨i, t, rfl, e⟩
  | .inr x, v, h => by
    obtain ⟨t, e⟩ := Value.isStrOf_shape (x := x) (v := v) h
    exact .inr ⟨x, t, rfl, e⟩
theorem lOq (a b : Int) : decide ((Sum.inl a : Key) = Sum.inl b) = (a == b) := by
  by_cases e : a = b
  . subst e; simp
  . have h : ¬ (Sum.inl a : Key) = Sum.inl b := fun q => e (Sum.inl.inj q)
    rw [decide_eq_false h]
    exact (beq_eq_false_iff_ne.mpr e).symm
theorem oNq (a b : Str) : decide ((Sum.inr a : Key) = Sum.inr b) = decide (a = b) := by
  by_cases e : a = b
  . subst e; simp
  . have h : ¬ (Sum.inr a : Key) = Sum.inr b := fun q => e (Sum.inr.inj q)
    rw [decide_eq_false h, decide_eq_false e]
theorem nFq (a : Int) (b : Str) : decide ((Sum.inl a : Key) = Sum.inr b) = false := decide_eq_false (fun q => nomatch q)
theorem mVq (a : Str) (b : Int) : decide ((Sum.inr a : Key) = Sum.inl b) = false := decide_eq_false (fun q => nomatch q)
def f7q (prog : Program) (w : World) : PySem.KeyKind prog w Key where
  is := oEq
  hash := r4q w
  inj := fun v a b ha hb => by
    rcases aKq ha with ⟨i, t, rfl, rfl⟩ | ⟨x, t, rfl, rfl⟩
    . rcases aKq hb with ⟨j, u, rfl, e⟩ | ⟨y, u, rfl, e⟩
      . injection e with e1 _; rw [e1]
      . exact nomatch e
    . rcases aKq hb with ⟨j, u, rfl, e⟩ | ⟨y, u, rfl, e⟩
      . exact nomatch e
      . injection e with e1 _; rw [e1]
  byValue := fun k v h => by
    rcases aKq h with ⟨i, t, rfl, rfl⟩ | ⟨x, t, rfl, rfl⟩ <;> rfl
  pyHash := fun hv h => by
    rcases aKq hv with ⟨i, t, rfl, rfl⟩ | ⟨x, t, rfl, rfl⟩
    . exact wpAny_pyHash_int h
    . exact wpAny_pyHash_str h
  eqBool := fun hu hv h => by
    rcases aKq hu with ⟨i, t, rfl, rfl⟩ | ⟨x, t, rfl, rfl⟩
    . rcases aKq hv with ⟨j, u, rfl, rfl⟩ | ⟨y, u, rfl, rfl⟩
      . rw [lOq] at h; exact wpAny_eqBool_int h
      . rw [nFq] at h; exact SeqAt.EqAt.int_str i t y u _ _ _ _ h
    . rcases aKq hv with ⟨j, u, rfl, rfl⟩ | ⟨y, u, rfl, rfl⟩
      . rw [mVq] at h; exact SeqAt.EqAt.str_int x t j u _ _ _ _ h
      . rw [oNq] at h; exact wpAny_eqBool_str h
  «strs» := fun k x t v h => by
    rcases aKq h with ⟨i, u, rfl, e⟩ | ⟨y, u, rfl, e⟩
    . exact nomatch e
    . injection e with e1 _
      subst e1
      cases v <;> rfl
inductive V where
  | non | bl (b : Bool) | int (i : Int) | str (x : Str) | byt (b : Array UInt8) | flt (b : UInt64) | ref (a : Addr) | ty (n : String)
  deriving DecidableEq
def RelV : V -> Value -> Prop
  | .non, u => u = Value.none
  | .bl b, u => u = Value.bool b
  | .int i, u => ∃ t, u = Value.int i t
  | .str x, u => ∃ t, u = Value.str x t
  | .byt b, u => ∃ t, u = Value.bytes b t
  | .flt b, u => ∃ t, u = Value.float b t
  | .ref a, u => u = Value.ref a
  | .ty n, u => u = Value.type n
abbrev Vals : List V -> List Value -> Prop := Paired RelV
theorem Vals.length {xs : List V} {us : List Value} (r : Vals xs us) : xs.length = us.length := Paired.length r
theorem Vals.get : ∀ {xs : List V} {us : List Value} {i : Nat} {x : V}, Vals xs us -> xs[i]? = some x -> ∃ u, us[i]? = some u /\ RelV x u
  | _, _, _, _, .nil, e => by simp at e
  | _, _, 0, _, .cons r _, e => by simp at e; subst e; exact ⟨_, rfl, r⟩
  | _, _, i + 1, x, .cons _ t, e => by
    obtain ⟨u, h1, h2⟩ := Vals.get (i := i) (x := x) t (by simpa using e)
    exact ⟨u, by simpa using h1, h2⟩
theorem Vals.set {x : V} {u : Value} (r : RelV x u) : ∀ {xs : List V} {us : List Value} (i : Nat), Vals xs us -> Vals (xs.set i x) (us.set i u)
  | _, _, _, .nil => .nil
  | _, _, 0, .cons _ t => .cons r t
  | _, _, i + 1, .cons q t => .cons q (Vals.set r i t)
theorem Vals.append : ∀ {xs ys : List V} {us ws : List Value}, Vals xs us -> Vals ys ws -> Vals (xs ++ ys) (us ++ ws)
  | _, _, _, _, .nil, s => s
  | _, _, _, _, .cons r t, s => .cons r (Vals.append t s)
def RelO : Option V -> Option Value -> Prop
  | some v, some u => RelV v u
  | none, none => True
  | _, _ => False
def KV {κ : Type} : List (κ × V) -> List (κ × Value) -> Prop := Paired fun (p : κ × V) (q : κ × Value) => p.1 = q.1 /\ RelV p.2 q.2
def kV : Key -> V
  | .inl i => .int i
  | .inr x => .str x
inductive HO where
  | lst (xs : List V)
  | tup (xs : List V)
  | dK (kvs : List (Key × V)) | dT (kvs : List (List Key × V))
  | set (S : Int -> Bool) (n : Nat)
  | ins (C dx : Addr) (fs : List (Str × V))
  | own (x : Addr)
  | xd (fs : List (Str × V))
  | met (f x : Addr)
  | rng (lo hi : Int)
  | frz (o : Obj) (u : HO)
  | tbl (ps : Array Value)
  | ext (φ : Heap -> Prop)
abbrev Hp := Addr -> Option HO
def upd (H : Hp) (a : Addr) (o : HO) : Hp := fun b => if b = a then some o else H b
theorem aSq {H : Hp} {a : Addr} {o : HO} : upd H a o a = some o := by unfold upd; rw [if_pos rfl]
theorem aGq {H : Hp} {a b : Addr} {o : HO} (h : b ≠ a) : upd H a o b = H b := by unfold upd; rw [if_neg h]
theorem aFq {H : Hp} {a b : Addr} {o : HO} (h : H a = some o) (h' : H b = none) : a ≠ b := by
  intro e; subst e; rw [h] at h'; cases h'
section
variable (P : Program) (w : World)
def ObjOk (H : Hp) (h : Heap) (a : Addr) : HO -> Prop
  | .lst xs => xs.length <= sizeLine /\ ∃ (its : List Value) (n : Nat), Vals xs its /\ h.get? a = some { cls := .type "list", data := .seq its.toArray n }
  | .tup xs => xs.length <= sizeLine /\ ∃ its : List Value, Vals xs its /\ IsTup h a its.toArray
  | .dK kvs => kvs.length <= sizeLine /\ (a == sysModules) = false /\ ∃ vs, KV kvs vs /\ h.DictOf (f7q P w) a vs
  | .dT kvs => kvs.length <= sizeLine /\ (a == sysModules) = false /\ ∃ xs : List (List Key × Addr × Value),
      Paired (fun (p : List Key × V) (q : List Key × Addr × Value) => p.1 = q.1 /\ H q.2.1 = some (.tup (p.1.map kV)) /\ RelV p.2 q.2.2) kvs xs ∧
      ∃ o es ep, h.get? a = some o /\ o.ExactDict /\ o.data = .dict es ep /\ es.toList = xs.map (entryOfKey (tupleKind (f7q P w))) /\ (xs.map (·.1)).Nodup
  | .set S n => h.SetOf (intKind P w) a S n
  | .ins C dx fs => H dx = some (.own a) /\ fs.length <= 1000 /\ dx ≠ a /\ h.get? a = some (PySem.W.instObj C dx) ∧
      ∃ mA, h.Ns1 dx mA /\ (∀ f, RelO (fs.lookup f) (mA f)) /\ PySem.Within mA (fs.map (·.1))
  | .own _ => ∃ o, h.get? a = some o
  | .xd fs => ∃ mA, h.Ns1 a mA /\ ∀ f, RelO (fs.lookup f) (mA f)
  | .rng lo hi => ∃ t u v, h.get? a = some { cls := .type "range", data := .fields #[.int lo t, .int hi u, .int 1 v] }
  | .frz o u => h.get? a = some o /\ ObjOk H h a u
  | .tbl ps => h.get? a = some { cls := .none, data := .fields ps }
  | .met f x => h.get? a = some (PySem.W.methodObj (.ref f) (.ref x))
  | .ext φ => φ h /\ (∃ o, h.get? a = some o) /\ ∀ h1 h2 : Heap, φ h1 -> (∀ o, h1.get? a = some o -> h2.get? a = some o) -> φ h2
def HOk (H : Hp) (h : Heap) : Prop := ∀ a o, H a = some o -> ObjOk P w H h a o
end
section
variable {P : Program} {w : World} {H H' : Hp} {h h' : Heap} {a : Addr} {o : HO}
theorem ObjOk.lt (x : ObjOk P w H h a o) : a < h.objs.size := by
  cases o with
  | lst xs => obtain ⟨_, _, _, _, e⟩ := x; exact Heap.lt_size e
  | tup xs => obtain ⟨_, _, _, p⟩ := x; exact p.lt
  | dK kvs => obtain ⟨_, _, _, _, o, _, _, e, _⟩ := x; exact Heap.lt_size e
  | dT kvs => obtain ⟨_, _, _, _, o, _, _, e, _⟩ := x; exact Heap.lt_size e
  | set S n => obtain ⟨o, _, _, _, e, _⟩ := x; exact Heap.lt_size e
  | ins C dx fs => obtain ⟨_, _, _, e, _⟩ := x; exact Heap.lt_size e
  | own y => obtain ⟨_, e⟩ := x; exact Heap.lt_size e
  | xd fs => obtain ⟨_, ⟨_, _, _, e, _⟩, _⟩ := x; exact Heap.lt_size e
  | rng lo hi => obtain ⟨_, _, _, e⟩ := x; exact Heap.lt_size e
  | frz ob u => obtain ⟨e, _⟩ := x; exact Heap.lt_size e
  | tbl ps => exact Heap.lt_size (show h.get? a = some _ from x)
  | met f y => exact Heap.lt_size (show h.get? a = some _ from x)
  | ext φ => obtain ⟨_, ⟨_, e⟩, _⟩ := x; exact Heap.lt_size e
theorem Paired.mapP {α β : Type} {F G : α -> β -> Prop} : ∀ {l₁ : List α} {l₂ : List β}, Paired F l₁ l₂ -> (∀ a b, F a b -> G a b) -> Paired G l₁ l₂
  | _, _, .nil, _ => .nil
  | _, _, .cons r t, f => .cons (f _ _ r) (Paired.mapP t f)
theorem ObjOk.stay (x : ObjOk P w H h a o) (k : ∀ b u, (b = a \/ H b = some (.own a)) -> h.get? b = some u -> h'.get? b = some u)
    (ho : ∀ b, H b = some (.own a) -> H' b = some (.own a)) (ht : ∀ b xs, H b = some (.tup xs) -> H' b = some (.tup xs)) : ObjOk P w H' h' a o := by
  induction o with
  | lst xs => obtain ⟨z, its, n, r, e⟩ := x; exact ⟨z, its, n, r, k _ _ (.inl rfl) e⟩
  | tup xs => obtain ⟨z, its, r, ob, e, c⟩ := x; exact ⟨z, its, r, ob, k _ _ (.inl rfl) e, c⟩
  | dK kvs => obtain ⟨z, y, vs, r, ob, es, ep, e, c⟩ := x; exact ⟨z, y, vs, r, ob, es, ep, k _ _ (.inl rfl) e, c⟩
  | dT kvs =>
    obtain ⟨z, y, xs, r, ob, es, ep, e, c⟩ := x
    exact ⟨z, y, xs, Paired.mapP r fun p q z => ⟨z.1, ht _ _ z.2.1, z.2.2⟩, ob, es, ep, k _ _ (.inl rfl) e, c⟩
  | set S n => obtain ⟨ob, es, ep, t, e, c⟩ := x; exact ⟨ob, es, ep, t, k _ _ (.inl rfl) e, c⟩
  | ins C dx fs =>
    obtain ⟨d, z, ne, e, mA, ⟨od, es, ep, e2, c⟩, r⟩ := x
    exact ⟨ho _ d, z, ne, k _ _ (.inl rfl) e, mA, ⟨od, es, ep, k _ _ (.inr d) e2, c⟩, r⟩
  | own y => obtain ⟨ob, e⟩ := x; exact ⟨ob, k _ _ (.inl rfl) e⟩
  | xd fs => obtain ⟨mA, ⟨od, es, ep, e, c⟩, r⟩ := x; exact ⟨mA, ⟨od, es, ep, k _ _ (.inl rfl) e, c⟩, r⟩
  | rng lo hi => obtain ⟨t, u, v, e⟩ := x; exact ⟨t, u, v, k _ _ (.inl rfl) e⟩
  | frz ob u ih => obtain ⟨e, q⟩ := x; exact ⟨k _ _ (.inl rfl) e, ih q⟩
  | tbl ps =>
    have e : h.get? a = some { cls := .none, data := .fields ps } := x
    show h'.get? a = some { cls := .none, data := .fields ps }
    exact k a _ (.inl rfl) e
  | met f y =>
    have e : h.get? a = some (PySem.W.methodObj (.ref f) (.ref y)) := x
    show h'.get? a = some (PySem.W.methodObj (.ref f) (.ref y))
    exact k a _ (.inl rfl) e
  | ext φ => obtain ⟨p, ⟨o, e⟩, st⟩ := x; exact ⟨st _ _ p fun o q => k _ _ (.inl rfl) q, ⟨o, k _ _ (.inl rfl) e⟩, st⟩
theorem HOk.lt (x : HOk P w H h) (e : H a = some o) : a < h.objs.size := (x a o e).lt
theorem HOk.fresh (x : HOk P w H h) (e : h.objs.size <= a) : H a = none := by
  cases q : H a with
  | none => rfl
  | some u => exact absurd (Nat.lt_of_lt_of_le (x.lt q) e) (Nat.lt_irrefl _)
theorem HOk.kept (x : HOk P w H h) (k : ∀ b u, h.get? b = some u -> h'.get? b = some u) : HOk P w H h' := fun a o e =>
  (x a o e).stay (fun b u _ q => k b u q) (fun _ q => q) fun _ _ q => q
theorem HOk.laid (x : HOk P w H h) (k : ∀ b u, h.get? b = some u -> h'.get? b = some u) (hp : h.objs.size <= a) (new : ObjOk P w (upd H a o) h' a o) : HOk P w (upd H a o) h' := fun b u e => by
  have hn := x.fresh hp
  by_cases hb : b = a
  . subst hb; rw [aSq] at e; cases e; exact new
  . rw [aGq hb] at e
    exact (x b u e).stay (fun c v _ q => k c v q) (fun c q => by rw [aGq (aFq q hn)]; exact q) fun c xs q => by rw [aGq (aFq q hn)]; exact q
end
def Rd (H : Hp) (a : Addr) (u : HO) : Prop := H a = some u \/ ∃ o, H a = some (.frz o u)
theorem Rd.ok {P : Program} {w : World} {H : Hp} {h : Heap} {a : Addr} {u : HO} (r : Rd H a u) (x : HOk P w H h) : ObjOk P w H h a u := by
  rcases r with r | ⟨o, r⟩
  . exact x a u r
  . obtain ⟨_, q⟩ := x a _ r
    exact q
def Mut : Option HO -> Prop
  | some (.lst _) => True
  | some (.dK _) => True
  | some (.dT _) => True
  | some (.set _ _) => True
  | some (.ins _ _ _) => True
  | some (.ext _) => True
  | _ => False
section
variable {P : Program} {w : World} {H : Hp} {h h' : Heap} {x e : Addr} {o' : HO}
theorem HOk.write (ok : HOk P w H h) (mu : Mut (H x)) (he : e = x \/ H e = some (.own x)) (k : ∀ b u, b ≠ e -> h.get? b = some u -> h'.get? b = some u) (heo : ∃ u, h'.get? e = some u)
    (new : ObjOk P w (upd H x o') h' x o') : HOk P w (upd H x o') h' := fun b u q => by
  have nown : ∀ c y, H c = some (.own y) -> c ≠ x := fun c y r z => by subst z; rw [r] at mu; exact mu
  have ntup : ∀ c xs, H c = some (.tup xs) -> c ≠ x := fun c xs r z => by subst z; rw [r] at mu; exact mu
  by_cases hb : b = x
  . subst hb; rw [aSq] at q; cases q; exact new
  . rw [aGq hb] at q
    by_cases hbe : b = e
    . have q' : H b = some (.own x) := by
        rcases he with z | z
        . exact absurd (hbe.trans z) hb
        . rw [hbe]; exact z
      rw [q] at q'; cases q'
      obtain ⟨v, hv⟩ := heo
      exact ⟨v, by rw [hbe]; exact hv⟩
    . refine (ok b u q).stay (fun c v hc r => k c v ?_ r) (fun c r => by rw [aGq (nown c b r)]; exact r) fun c xs r => by rw [aGq (ntup c xs r)]; exact r
      rcases hc with rfl | hc
      . exact hbe
      . rintro rfl
        rcases he with z | z
        . exact nown c b hc z
        . rw [hc] at z; cases z; exact hb rfl
end
structure Un (fs ex : List Addr) (H H' : Hp) (h h' : Heap) : Prop where
  keep : ∀ b o, h.get? b = some o -> H b = none -> b ∉ fs -> b ∉ ex -> h'.get? b = some o
  slot : ∀ b o, h.get? b = some o -> H b = none -> b ∈ fs -> b ∉ ex -> ∃ sl, h'.get? b = some { o with slots := sl }
  free : ∀ b o, h.get? b = some o -> H b = none -> b ∉ ex -> H' b = none
  there : ∀ b o, h.get? b = some o -> b ∉ ex -> ∃ o', h'.get? b = some o'
  tups : ∀ b xs, H b = some (.tup xs) -> H' b = some (.tup xs)
  frzs : ∀ b o u, H b = some (.frz o u) -> H' b = some (.frz o u)
  tbls : ∀ b ps, H b = some (.tbl ps) -> ∃ more, H' b = some (.tbl (ps ++ more))
section
variable {fs fs' ex ex' : List Addr} {H H1 H2 : Hp} {h h1 h2 h' : Heap} {a x e : Addr} {o : HO}
theorem Un.any (u : Un fs ex H H1 h h1) {b : Addr} {ob : Obj} (q : h.get? b = some ob) (n : H b = none) (hx : b ∉ ex) : ∃ sl, h1.get? b = some { ob with slots := sl } := by
  by_cases hb : b ∈ fs
  . exact u.slot b ob q n hb hx
  . exact ⟨ob.slots, u.keep b ob q n hb hx⟩
theorem Un.kept (k : ∀ b u, h.get? b = some u -> h'.get? b = some u) : Un fs ex H H h h' :=
  ⟨fun b ob q _ _ _ => k b ob q, fun b ob q _ _ _ => ⟨ob.slots, k b ob q⟩, fun _ _ _ n _ => n, fun b ob q _ => ⟨ob, k b ob q⟩, fun _ _ q => q, fun _ _ _ q => q, fun _ ps q => ⟨#[], by rw [q]; simp⟩⟩
theorem Un.refl : Un fs ex H H h h := Un.kept fun _ _ q => q
theorem Un.laid (k : ∀ b u, h.get? b = some u -> h'.get? b = some u) (hp : h.objs.size <= a) (hn : H a = none) : Un fs ex H (upd H a o) h h' where
  keep := fun b u q _ _ _ => k b u q
  slot := fun b u q _ _ _ => ⟨u.slots, k b u q⟩
  free := fun b u q n _ => by rw [aGq (Nat.ne_of_lt (Nat.lt_of_lt_of_le (Heap.lt_size q) hp))]; exact n
  there := fun b u q _ => ⟨u, k b u q⟩
  tups := fun b xs q => by rw [aGq (aFq q hn)]; exact q
  frzs := fun b u xs q => by rw [aGq (aFq q hn)]; exact q
  tbls := fun b ps q => ⟨#[], by rw [aGq (aFq q hn), q]; simp⟩
theorem Un.write (mu : Mut (H x)) (he : e = x \/ H e = some (.own x)) (k : ∀ b u, b ≠ e -> h.get? b = some u -> h'.get? b = some u) (heo : ∃ u, h'.get? e = some u) : Un fs ex H (upd H x o) h h' := by
  have hx : ∀ b, H b = none -> b ≠ x := fun b n z => by subst z; rw [n] at mu; exact mu
  have hb : ∀ b, H b = none -> b ≠ e := fun b n z => by
    subst z
    rcases he with r | r
    . exact hx b n r
    . rw [n] at r; cases r
  have hm : ∀ b u, H b = some u -> ¬ Mut (some u) -> b ≠ x := fun b u q nm z => by subst z; rw [q] at mu; exact nm mu
  refine ⟨fun b u q n _ _ => k b u (hb b n) q, fun b u q n _ _ => ⟨u.slots, k b u (hb b n) q⟩, fun b u q n _ => by rw [aGq (hx b n)]; exact n, fun b u q _ => ?_,
    fun b xs q => by rw [aGq (hm b _ q fun z => z)]; exact q, fun b u xs q => by rw [aGq (hm b _ q fun z => z)]; exact q, fun b ps q => ⟨#[], by rw [aGq (hm b _ q fun z => z), q]; simp⟩⟩
  by_cases hbe : b = e
  . subst hbe; exact heo
  . exact ⟨u, k b u hbe q⟩
end
def trk (h : Heap) (H : Hp) : List Addr := (List.range h.objs.size).filter fun a => (H a).isSome
def iUq (h : Heap) (H : Hp) : Heap := PySem.W.hideAll h (trk h H)
theorem gTq (h : Heap) (H : Hp) : (iUq h H).objs.size = h.objs.size := PySem.W.hideAll_size _ _
theorem j5q {h : Heap} {H : Hp} {b : Addr} {o : Obj} (e : h.get? b = some o) (n : H b = none) : (iUq h H).get? b = some o :=
  PySem.W.hideAll_get _ e fun hm => by
    have q : (H b).isSome = true := (List.mem_filter.mp hm).2
    rw [n] at q; simp at q
theorem kLq {h : Heap} {H : Hp} {b : Addr} {o : Obj} (e : (iUq h H).get? b = some o) : h.get? b = some o /\ H b = none := by
  have e' : h.get? b = some o := PySem.W.of_hideAll (trk h H) e
  refine ⟨e', ?_⟩
  cases q : H b with
  | none => rfl
  | some x =>
    have hm : b ∈ trk h H := List.mem_filter.mpr ⟨List.mem_range.mpr (Heap.lt_size e'), by simp [q]⟩
    have z : (iUq h H).get? b = none := PySem.W.hideAll_none (trk h H) hm
    rw [z] at e; cases e
structure Mod (K : PySem.W.Frag) (mg : Str -> Option Value) (base : Heap) : Prop where
  kin : K.In base
  glob : base.Ns mainGlobals mg
  blt : ∃ mb, base.Ns builtinsNs mb /\ ∀ x : Str, x ≠ "__name__" -> mb x = bootBuiltins x
  nolimit : base.NoLimit
structure Cx where
  prog : Program
  w : World
  K : PySem.W.Frag
  mg : Str -> Option Value
  base : Heap
  A : Around
  N : List Str
  s₀ : Shared
  H₀ : Hp
  env : Env
  outer : List Env
  stack : List Env
  ex : List Addr
  fn : Str -> Bool
  calm : Bool
  pn : List (Addr × Obj)
  xe : Value -> Shared -> Prop
def frs (l : List Env) : List Addr := l.filterMap (·.frame)
abbrev Cx.fs (X : Cx) : List Addr := frs X.outer
def Vis (sc : Scope) (x : Str) : Prop := sc.names.lookup x = some .local \/ sc.names.lookup x = some .cell \/ sc.names.lookup x = some .free
def Loc (sc : Scope) (x : Str) : Prop := sc.names.lookup x = some .local \/ sc.names.lookup x = some .cell
def rZq (env : Env) (h : Heap) (m : Str -> Option Value) (x : Str) (u : Value) : Prop :=
  (env.kindOf x = some .local /\ m x = some u) \/ ((env.kindOf x = some .cell \/ env.kindOf x = some .free) /\ ∃ c, env.cells.lookup x = some c /\ h.IsCell c (some u))
structure Cx.Ok (X : Cx) : Prop where
  mod : Mod X.K X.mg X.base
  kind : X.env.scope.kind = .function
  glob : X.env.globals = mainGlobals
  blt : X.env.builtins = builtinsNs
  above : X.s₀.heap.objs.size <= X.env.locals
  inj : ∀ x y c, X.env.cells.lookup x = some c -> X.env.cells.lookup y = some c -> x = y
  has : ∀ x, (X.env.kindOf x = some .cell \/ X.env.kindOf x = some .free) -> ∃ c, X.env.cells.lookup x = some c
  cab : ∀ x c, X.fn x = true -> X.env.cells.lookup x = some c -> X.s₀.heap.objs.size <= c
  hd : X.calm = true -> X.A.handled = none
  frames : X.A.frames = some X.stack
  stk : X.stack = X.outer \/ (X.stack = X.env :: X.outer /\ X.env.frame = some X.env.locals)
  exf : ∀ b ∈ X.ex, b ≠ X.env.locals /\ ∀ x c, X.env.cells.lookup x = some c -> c ≠ b
  bs : ∀ b o, X.base.get? b = some o -> X.s₀.heap.get? b = some o /\ X.H₀ b = none
  bsz : X.base.objs.size <= X.s₀.heap.objs.size
  noex : ∀ b o, X.base.get? b = some o -> b ∉ X.ex
  exfs : ∀ b ∈ X.ex, b ∉ X.fs
  funs : X.s₀.heap.FunFrames X.base X.outer
  frf : ∀ b ∈ X.fs, X.H₀ b = none
structure Inv (X : Cx) (pins : List (Addr × Obj)) (σ : List (Option V)) (H : Hp) (s : Shared) : Prop where
  ok : X.Ok
  os : s.os = X.s₀.os
  bare : AllBare s.gens
  base : Un X.fs X.ex X.H₀ H X.s₀.heap s.heap
  loc : ∃ m, s.heap.Ns X.env.locals m /\ ∀ (i : Nat) (x : Str) (v : V), X.N[i]? = some x -> σ[i]? = some (some v) -> Vis X.env.scope x -> ∃ u, RelV v u /\ rZq X.env s.heap m x u
  cell : ∀ x c, X.env.cells.lookup x = some c -> ∃ v, s.heap.IsCell c v
  free : H X.env.locals = none
  freeC : ∀ x c, X.env.cells.lookup x = some c -> H c = none
  pin : ∀ p ∈ X.pn ++ pins, s.heap.get? p.1 = some p.2 /\ H p.1 = none /\ p.1 ≠ X.env.locals /\ p.1 ∉ X.fs /\ ∀ v, p.2.data ≠ .cell v
  hok : HOk X.prog X.w H s.heap
  len : σ.length = X.N.length
section
variable {X : Cx} {pins : List (Addr × Obj)} {σ : List (Option V)} {H H' : Hp} {s : Shared} {h' : Heap}
theorem Cx.Ok.nofr (ok : X.Ok) {b : Addr} {o : Obj} (e : X.base.get? b = some o) : b ∉ X.fs := fun hb => by
  have := (ok.funs.mem hb).1
  rw [e] at this; cases this
theorem Inv.bs (I : Inv X pins σ H s) : ∀ b o, X.base.get? b = some o -> s.heap.get? b = some o /\ H b = none := fun b o e =>
  ⟨I.base.keep b o (I.ok.bs b o e).1 (I.ok.bs b o e).2 (I.ok.nofr e) (I.ok.noex b o e), I.base.free b o (I.ok.bs b o e).1 (I.ok.bs b o e).2 (I.ok.noex b o e)⟩
theorem Inv.bk (I : Inv X pins σ H s) : ∀ b o, X.base.get? b = some o -> s.heap.get? b = some o := fun b o e => (I.bs b o e).1
theorem Inv.mod (I : Inv X pins σ H s) : Mod X.K X.mg X.base := I.ok.mod
theorem Inv.kIn (I : Inv X pins σ H s) : X.K.In s.heap := I.ok.mod.kin.keeps I.bk
theorem Inv.lt (I : Inv X pins σ H s) : X.env.locals < s.heap.objs.size := let ⟨_, hn, _⟩ := I.loc; hn.lt
theorem Inv.sz (I : Inv X pins σ H s) : X.s₀.heap.objs.size <= s.heap.objs.size := Nat.le_trans I.ok.above (Nat.le_of_lt I.lt)
theorem Inv.nofs (I : Inv X pins σ H s) {a : Addr} (h : s.heap.objs.size <= a) : a ∉ X.fs := fun hb => by
  obtain ⟨_, o, ho, _⟩ := I.ok.funs.mem hb
  exact absurd (Nat.lt_of_lt_of_le (Heap.lt_size ho) (Nat.le_trans I.sz h)) (Nat.lt_irrefl _)
theorem Inv.cne (I : Inv X pins σ H s) : ∀ x c, X.env.cells.lookup x = some c -> c ≠ X.env.locals := fun x c e z => by
  obtain ⟨v, o, ho, hd⟩ := I.cell x c e
  obtain ⟨m, ⟨o', es, ep, ho', hd', _⟩, _⟩ := I.loc
  rw [z, ho'] at ho; cases ho; rw [hd'] at hd; cases hd
theorem Inv.funs (I : Inv X pins σ H s) : s.heap.FunFrames X.base X.outer := by
  have all : ∀ (l : List Env), (∀ b ∈ frs l, b ∈ X.fs) -> X.s₀.heap.FunFrames X.base l -> s.heap.FunFrames X.base l := by
    intro l
    induction l with
    | nil => intro _ _; trivial
    | cons env r ih =>
      intro hs hl
      obtain ⟨hk, ⟨L, o, hf, hn, ho, hd⟩, hr⟩ := hl
      have hL : L ∈ X.fs := hs L (by unfold frs; rw [List.filterMap_cons, hf]; exact List.mem_cons_self)
      obtain ⟨sl, e⟩ := I.base.slot L o ho (I.ok.frf L hL) hL fun z => I.ok.exfs L z hL
      exact ⟨hk, ⟨L, _, hf, hn, e, hd⟩, ih (fun b hb => hs b (by unfold frs; rw [List.filterMap_cons, hf]; exact List.mem_cons_of_mem _ hb)) hr⟩
  exact all X.outer (fun _ hb => hb) I.ok.funs
theorem Inv.stack (I : Inv X pins σ H s) : s.heap.FunFrames X.base X.stack := by
  rcases I.ok.stk with e | ⟨e, hf⟩
  . rw [e]; exact I.funs
  . rw [e]
    obtain ⟨m, hn, _⟩ := I.loc
    refine .cons (by rw [I.ok.kind]; decide) hf hn ?_ I.funs
    exact Heap.get?_none_of_le (Nat.le_trans I.ok.bsz I.ok.above)
theorem Inv.stkSub (I : Inv X pins σ H s) : ∀ b ∈ frs X.stack, b ∈ X.env.locals :: X.fs := fun b hb => by
  rcases I.ok.stk with e | ⟨e, hf⟩
  . rw [e] at hb; exact List.mem_cons_of_mem _ hb
  . rw [e] at hb
    unfold frs at hb
    rw [List.filterMap_cons, hf] at hb
    exact hb
theorem Inv.stkFree (I : Inv X pins σ H s) : ∀ b ∈ frs X.stack, H b = none := fun b hb => by
  rcases List.mem_cons.mp (I.stkSub b hb) with e | hb
  . rw [e]; exact I.free
  . obtain ⟨_, o, ho, _⟩ := I.ok.funs.mem hb
    exact I.base.free b o ho (I.ok.frf b hb) fun z => I.ok.exfs b z hb
theorem Inv.step {g' : Array GenState} {t' : Nat} {d' : Drawn} {ch : List Addr} (I : Inv X pins σ H s)
    (hch : ∀ b ∈ ch, (b ∈ X.ex \/ X.s₀.heap.objs.size <= b) /\ b ≠ X.env.locals /\ (∀ x c, X.env.cells.lookup x = some c -> c ≠ b) /\ ∀ p ∈ X.pn ++ pins, p.1 ≠ b)
    (keep : ∀ b o, b ≠ X.env.locals -> b ∉ X.fs -> b ∉ ch -> s.heap.get? b = some o -> H b = none -> h'.get? b = some o)
    (slot : ∀ b o, b ≠ X.env.locals -> b ∈ X.fs -> b ∉ ch -> s.heap.get? b = some o -> H b = none -> ∃ sl, h'.get? b = some { o with slots := sl }) (free : ∀ b o, b ∉ ch -> s.heap.get? b = some o -> H b = none -> H' b = none)
    (there : ∀ b o, b ∉ ch -> s.heap.get? b = some o -> ∃ o', h'.get? b = some o')
    (tups : ∀ b xs, H b = some (.tup xs) -> H' b = some (.tup xs)) (frzs : ∀ b o u, H b = some (.frz o u) -> H' b = some (.frz o u)) (tbls : ∀ b ps, H b = some (.tbl ps) -> ∃ more, H' b = some (.tbl (ps ++ more)))
    (ns : ∀ m, s.heap.Ns X.env.locals m -> h'.Ns X.env.locals m) (hok : HOk X.prog X.w H' h') (hg : AllBare g') :
    Inv X pins σ H' { s with heap := h', gens := g', drawn := d', toks := t' } := by
  have neL : ∀ b o, X.s₀.heap.get? b = some o -> b ≠ X.env.locals := fun b o e => Nat.ne_of_lt (Nat.lt_of_lt_of_le (Heap.lt_size e) I.ok.above)
  have neC : ∀ b o, X.s₀.heap.get? b = some o -> b ∉ X.ex -> b ∉ ch := fun b o e hx hb => by
    rcases (hch b hb).1 with z | z
    . exact hx z
    . exact absurd (Nat.lt_of_lt_of_le (Heap.lt_size e) z) (Nat.lt_irrefl _)
  have cellK : ∀ x c, X.env.cells.lookup x = some c -> ∀ v, s.heap.IsCell c v -> h'.IsCell c v := fun x c e v ⟨o, ho, hd⟩ => by
    have nch : c ∉ ch := fun z => (hch c z).2.2.1 x c e rfl
    by_cases hc : c ∈ X.fs
    . obtain ⟨sl, q⟩ := slot c o (I.cne x c e) hc nch ho (I.freeC x c e)
      exact ⟨_, q, hd⟩
    . exact ⟨o, keep c o (I.cne x c e) hc nch ho (I.freeC x c e), hd⟩
  refine ⟨I.ok, I.os, hg, ⟨fun b o e n hb hx => ?_, fun b o e n hb hx => ?_, fun b o e n hx => ?_, fun b o e hx => ?_, fun b xs e => tups b xs (I.base.tups b xs e), fun b o xs e => frzs b o xs (I.base.frzs b o xs e), fun b ps e => ?_⟩, ?_, fun x c e => ?_, ?_, fun x c e => ?_, fun p hp => ?_, hok, I.len⟩
  . exact keep b o (neL b o e) hb (neC b o e hx) (I.base.keep b o e n hb hx) (I.base.free b o e n hx)
  . obtain ⟨sl, e1⟩ := I.base.slot b o e n hb hx
    obtain ⟨sl', e2⟩ := slot b _ (neL b o e) hb (neC b o e hx) e1 (I.base.free b o e n hx)
    exact ⟨sl', e2⟩
  . obtain ⟨o', e1⟩ := I.base.there b o e hx
    exact free b o' (neC b o e hx) e1 (I.base.free b o e n hx)
  . obtain ⟨o', e1⟩ := I.base.there b o e hx
    exact there b o' (neC b o e hx) e1
  . obtain ⟨m1, e1⟩ := I.base.tbls b ps e
    obtain ⟨m2, e2⟩ := tbls b _ e1
    exact ⟨m1 ++ m2, by rw [e2, Array.append_assoc]⟩
  . obtain ⟨m, hn, hl⟩ := I.loc
    refine ⟨m, ns m hn, fun i x v e1 e2 e3 => ?_⟩
    obtain ⟨u, r, l⟩ := hl i x v e1 e2 e3
    refine ⟨u, r, ?_⟩
    rcases l with l | ⟨k, c, e, z⟩
    . exact .inl l
    . exact .inr ⟨k, c, e, cellK x c e _ z⟩
  . obtain ⟨v, z⟩ := I.cell x c e
    exact ⟨v, cellK x c e v z⟩
  . obtain ⟨m, ⟨o, _, _, ho, _⟩, _⟩ := I.loc
    exact free _ o (fun z => (hch _ z).2.1 rfl) ho I.free
  . obtain ⟨v, o, ho, hd⟩ := I.cell x c e
    exact free c o (fun z => (hch c z).2.2.1 x c e rfl) ho (I.freeC x c e)
  . obtain ⟨e, n, ne, nf, d⟩ := I.pin p hp
    have nch : p.1 ∉ ch := fun z => (hch p.1 z).2.2.2 p hp rfl
    exact ⟨keep p.1 p.2 ne nf nch e n, free p.1 p.2 nch e n, ne, nf, d⟩
theorem Inv.un {t' : Nat} (I : Inv X pins σ H s) (u : Un X.fs [] H H' s.heap h') (hok : HOk X.prog X.w H' h') : Inv X pins σ H' { s with heap := h', toks := t' } := by
  obtain ⟨m, ⟨o, es, ep, ho, r⟩, _⟩ := id I.loc
  obtain ⟨sl, hL⟩ := u.any ho I.free (by simp)
  exact I.step (g' := s.gens) (d' := s.drawn) (ch := []) (fun _ z => nomatch z) (fun b o _ hb _ e n => u.keep b o e n hb (by simp)) (fun b o _ hb _ e n => u.slot b o e n hb (by simp)) (fun b o _ e n => u.free b o e n (by simp)) (fun b o _ e => u.there b o e (by simp)) u.tups u.frzs u.tbls (fun m' hm => by
    obtain ⟨o', es', ep', ho', r'⟩ := hm
    rw [ho] at ho'; cases ho'
    exact ⟨_, es', ep', hL, r'⟩) hok I.bare
theorem Inv.call {g' : Array GenState} {t' : Nat} {d' : Drawn} {ch : List Addr} (I : Inv X pins σ H s) (u : Un (frs X.stack) ch H H' s.heap h') (hok : HOk X.prog X.w H' h') (hg : AllBare g')
    (hch : ∀ b ∈ ch, (b ∈ X.ex \/ X.s₀.heap.objs.size <= b) /\ b ≠ X.env.locals /\ (∀ x c, X.env.cells.lookup x = some c -> c ≠ b) /\ ∀ p ∈ X.pn ++ pins, p.1 ≠ b) :
    Inv X pins σ H' { s with heap := h', gens := g', drawn := d', toks := t' } := by
  obtain ⟨m, ⟨o, es, ep, ho, r⟩, _⟩ := id I.loc
  obtain ⟨sl, hL⟩ := u.any ho I.free fun z => (hch _ z).2.1 rfl
  exact I.step (ch := ch) hch (fun b o hL hb hc e n => u.keep b o e n (fun z => (List.mem_cons.mp (I.stkSub b z)).elim hL hb) hc) (fun b o _ _ hc e n => u.any e n hc) (fun b o hc e n => u.free b o e n hc) (fun b o hc e => u.there b o e hc) u.tups u.frzs u.tbls (fun m' hm => by
    obtain ⟨o', es', ep', ho', r'⟩ := hm
    rw [ho] at ho'; cases ho'
    exact ⟨_, es', ep', hL, r'⟩) hok hg
theorem Inv.turned {t' : Nat} {it : Addr} (I : Inv X pins σ H s) (k : ∀ b o, b ≠ it -> s.heap.get? b = some o -> h'.get? b = some o) (hn : H it = none) (hL : it ≠ X.env.locals)
    (h1 : it ∈ X.ex \/ X.s₀.heap.objs.size <= it) (h2 : ∀ x c, X.env.cells.lookup x = some c -> c ≠ it) (h3 : ∀ p ∈ X.pn ++ pins, p.1 ≠ it) : Inv X pins σ H { s with heap := h', toks := t' } := by
  have nit : ∀ b u, H b = some u -> b ≠ it := fun b u e z => by rw [z, hn] at e; cases e
  refine I.step (g' := s.gens) (d' := s.drawn) (ch := [it]) (fun b hb => ?_) (fun b o _ _ hc e _ => k b o (fun z => hc (by simp [z])) e) (fun b o _ _ hc e _ => ⟨o.slots, k b o (fun z => hc (by simp [z])) e⟩) (fun _ _ _ _ n => n)
    (fun b o hc e => ⟨o, k b o (fun z => hc (by simp [z])) e⟩) (fun _ _ e => e) (fun _ _ _ e => e) (fun b ps e => ⟨#[], by rw [e]; simp⟩) (fun m hm => ?_) (fun b u e => ?_) I.bare
  . have e : b = it := by simpa using hb
    subst e
    exact ⟨h1, hL, h2, h3⟩
  . obtain ⟨o, es, ep, ho, r⟩ := hm
    exact ⟨o, es, ep, k _ o (Ne.symm hL) ho, r⟩
  . refine (I.hok b u e).stay (fun c v hc q => k c v ?_ q) (fun _ q => q) fun _ _ q => q
    rcases hc with z | z
    . rw [z]; exact nit b u e
    . exact nit c _ z
theorem Inv.tok (I : Inv X pins σ H s) (t : Nat) : Inv X pins σ H { s with toks := t } := I.un (h' := s.heap) (t' := t) Un.refl I.hok
theorem Inv.kept {t' : Nat} (I : Inv X pins σ H s) (k : ∀ b u, s.heap.get? b = some u -> h'.get? b = some u) : Inv X pins σ H { s with heap := h', toks := t' } := I.un (Un.kept k) (I.hok.kept k)
theorem Inv.laid {a : Addr} {o : HO} {t' : Nat} (I : Inv X pins σ H s) (k : ∀ b u, s.heap.get? b = some u -> h'.get? b = some u) (hp : s.heap.objs.size <= a) (new : ObjOk X.prog X.w (upd H a o) h' a o) :
    Inv X pins σ (upd H a o) { s with heap := h', toks := t' } := I.un (Un.laid k hp (I.hok.fresh hp)) (I.hok.laid k hp new)
theorem Inv.write {x e : Addr} {o : HO} {t' : Nat} (I : Inv X pins σ H s) (mu : Mut (H x)) (he : e = x \/ H e = some (.own x)) (k : ∀ b u, b ≠ e -> s.heap.get? b = some u -> h'.get? b = some u) (heo : ∃ u, h'.get? e = some u)
    (new : ObjOk X.prog X.w (upd H x o) h' x o) : Inv X pins σ (upd H x o) { s with heap := h', toks := t' } := I.un (Un.write mu he k heo) (I.hok.write mu he k heo new)
theorem Inv.pins_of {pins' : List (Addr × Obj)} (I : Inv X pins σ H s) (h : ∀ p ∈ pins', s.heap.get? p.1 = some p.2 /\ H p.1 = none /\ p.1 ≠ X.env.locals /\ p.1 ∉ X.fs /\ ∀ v, p.2.data ≠ .cell v) : Inv X pins' σ H s :=
  ⟨I.ok, I.os, I.bare, I.base, I.loc, I.cell, I.free, I.freeC, fun p hp => (List.mem_append.mp hp).elim (fun z => I.pin p (List.mem_append_left _ z)) (h p), I.hok, I.len⟩
theorem fJq {N : List Str} (hN : N.Nodup) {i j : Nat} {x : Str} (a : N[i]? = some x) (b : N[j]? = some x) : i = j := by
  obtain ⟨h1, e1⟩ := List.getElem?_eq_some_iff.mp a
  obtain ⟨h2, e2⟩ := List.getElem?_eq_some_iff.mp b
  exact (List.getElem_inj hN).mp (e1.trans e2.symm)
theorem hUq {M : Model} {A : Around} {E : Value -> Shared -> Prop} {i : Nat} {x : Str} {v : V} {u : Value} {Q : Unit -> Shared -> Prop} (I : Inv X pins σ H s) (hN : X.N.Nodup) (hi : X.N[i]? = some x) (hx : Loc X.env.scope x) (r : RelV v u)
    (h : ∀ s', Inv X pins (σ.set i (some v)) H s' -> (∃ a, Heap.SameBut a s.heap s'.heap /\ (a = X.env.locals \/ X.env.cells.lookup x = some a)) -> Q () s') (hf : X.fn x = true \/ X.env.scope.names.lookup x = some .local := by first | exact .inl rfl | exact .inr rfl | assumption) : wpAny M A (storeName X.env x u) Q E s := by
  obtain ⟨m, hn, hl⟩ := id I.loc
  have hcls : (X.env.scope.kind == .class || (X.env.scope.kind == .module && X.env.locals != X.env.globals)) = false := by rw [I.ok.kind]; rfl
  have hiσ : i < σ.length := by rw [I.len]; exact (List.getElem?_eq_some_iff.mp hi).1
  have cne := I.cne
  have tracked : ∀ {a : Addr} {h' : Heap}, (∃ o, s.heap.get? a = some o /\ H a = none) -> Heap.SameBut a s.heap h' -> HOk X.prog X.w H h' := fun {a h'} ha hs b ob e => by
    obtain ⟨_, _, hfree⟩ := ha
    refine (I.hok b ob e).stay (fun c w' hc q => (hs.2 c ?_).trans q) (fun _ q => q) fun _ _ q => q
    rintro rfl
    rcases hc with rfl | hc
    . rw [hfree] at e; cases e
    . rw [hfree] at hc; cases hc
  rcases hx with hk | hk
  . refine wpAny_storeName_local hk hn (fun h' hn' hs => ?_) hcls
    obtain ⟨oL, _, _, hoL, _⟩ := id hn
    refine h _ ⟨I.ok, I.os, I.bare, ⟨fun b o e n hb hx => ?_, fun b o e n hb hx => ?_, I.base.free, fun b o e hx => ?_, I.base.tups, I.base.frzs, I.base.tbls⟩, ⟨_, hn', fun j y v' e1 e2 e3 => ?_⟩, fun y c e => ?_, I.free, I.freeC, fun p hp => ?_, tracked ⟨oL, hoL, I.free⟩ hs, by simpa using I.len⟩ ⟨_, hs, .inl rfl⟩
    . exact (hs.2 b (Nat.ne_of_lt (Nat.lt_of_lt_of_le (Heap.lt_size e) I.ok.above))).trans (I.base.keep b o e n hb hx)
    . obtain ⟨sl, e1⟩ := I.base.slot b o e n hb hx
      exact ⟨sl, (hs.2 b (Nat.ne_of_lt (Nat.lt_of_lt_of_le (Heap.lt_size e) I.ok.above))).trans e1⟩
    . obtain ⟨o', e1⟩ := I.base.there b o e hx
      exact ⟨o', (hs.2 b (Nat.ne_of_lt (Nat.lt_of_lt_of_le (Heap.lt_size e) I.ok.above))).trans e1⟩
    . by_cases hj : j = i
      . subst hj
        rw [hi] at e1; cases e1
        rw [List.getElem?_set_self hiσ] at e2
        cases e2
        exact ⟨u, r, .inl ⟨hk, by simp⟩⟩
      . rw [List.getElem?_set_ne (Ne.symm hj)] at e2
        obtain ⟨u', r', q⟩ := hl j y v' e1 e2 e3
        refine ⟨u', r', ?_⟩
        rcases q with ⟨k, e⟩ | ⟨k, c, e, z⟩
        . refine .inl ⟨k, ?_⟩
          have : y ≠ x := fun e => hj (fJq hN e1 (e ▸ hi))
          simp [this, e]
        . exact .inr ⟨k, c, e, z.sameBut hs (cne y c e)⟩
    . obtain ⟨w', z⟩ := I.cell y c e
      exact ⟨w', z.sameBut hs (cne y c e)⟩
    . obtain ⟨e, n, ne, nf, d⟩ := I.pin p hp
      exact ⟨(hs.2 p.1 ne).trans e, n, ne, nf, d⟩
  . have hfn : X.fn x = true := by
      rcases hf with z | z
      . exact z
      . rw [z] at hk; cases hk
    obtain ⟨c, hc⟩ := I.ok.has x (.inl hk)
    obtain ⟨w', z⟩ := I.cell x c hc
    refine wpAny_storeName_cell I.ok.kind hk hc z (fun h' hc' hs => ?_)
    obtain ⟨oc, hoc, hocd⟩ := id z
    refine h { s with heap := h' } ⟨I.ok, I.os, I.bare, ⟨fun b o e n hb hx => ?_, fun b o e n hb hx => ?_, I.base.free, fun b o e hx => ?_, I.base.tups, I.base.frzs, I.base.tbls⟩, ⟨m, hn.sameBut hs (Ne.symm (cne x c hc)), fun j y v' e1 e2 e3 => ?_⟩, fun y c' e => ?_, I.free, I.freeC, fun p hp => ?_, tracked ⟨oc, hoc, I.freeC x c hc⟩ hs, by simpa using I.len⟩ ⟨c, hs, .inr hc⟩
    . exact (hs.2 b (Nat.ne_of_lt (Nat.lt_of_lt_of_le (Heap.lt_size e) (I.ok.cab x c hfn hc)))).trans (I.base.keep b o e n hb hx)
    . obtain ⟨sl, e1⟩ := I.base.slot b o e n hb hx
      exact ⟨sl, (hs.2 b (Nat.ne_of_lt (Nat.lt_of_lt_of_le (Heap.lt_size e) (I.ok.cab x c hfn hc)))).trans e1⟩
    . obtain ⟨o', e1⟩ := I.base.there b o e hx
      exact ⟨o', (hs.2 b (Nat.ne_of_lt (Nat.lt_of_lt_of_le (Heap.lt_size e) (I.ok.cab x c hfn hc)))).trans e1⟩
    . by_cases hj : j = i
      . subst hj
        rw [hi] at e1; cases e1
        rw [List.getElem?_set_self hiσ] at e2
        cases e2
        exact ⟨u, r, .inr ⟨.inl hk, c, hc, hc'⟩⟩
      . rw [List.getElem?_set_ne (Ne.symm hj)] at e2
        obtain ⟨u', r', q⟩ := hl j y v' e1 e2 e3
        refine ⟨u', r', ?_⟩
        rcases q with q | ⟨k, c', e, z'⟩
        . exact .inl q
        . refine .inr ⟨k, c', e, z'.sameBut hs ?_⟩
          rintro rfl
          exact hj (fJq hN e1 (I.ok.inj _ _ _ e hc ▸ hi))
    . by_cases hcc : c' = c
      . subst hcc; exact ⟨_, hc'⟩
      . obtain ⟨w2, z2⟩ := I.cell y c' e
        exact ⟨w2, z2.sameBut hs hcc⟩
    . obtain ⟨e, n, ne, nf, d⟩ := I.pin p hp
      refine ⟨(hs.2 p.1 ?_).trans e, n, ne, nf, d⟩
      intro q
      rw [q, hoc] at e
      have q' : oc = p.2 := Option.some.inj e
      exact d w' (by rw [<- q']; exact hocd)
theorem eBq {M : Model} {A : Around} {E : Value -> Shared -> Prop} {i : Nat} {x : Str} {v : V} {u : Value} {Q : Unit -> Shared -> Prop} (I : Inv X pins σ H s) (hN : X.N.Nodup) (hi : X.N[i]? = some x) (hx : Loc X.env.scope x) (r : RelV v u)
    (h : ∀ s', Inv X pins (σ.set i (some v)) H s' -> Q () s') (hf : X.fn x = true \/ X.env.scope.names.lookup x = some .local := by first | exact .inl rfl | exact .inr rfl | assumption) : wpAny M A (storeName X.env x u) Q E s :=
  hUq I hN hi hx r (fun s' I' _ => h s' I') hf
theorem Inv.call' {s' : Shared} {ch : List Addr} (I : Inv X pins σ H s) (ho : s'.os = s.os) (u : Un (frs X.stack) ch H H' s.heap s'.heap) (hok : HOk X.prog X.w H' s'.heap) (hg : AllBare s'.gens)
    (hch : ∀ b ∈ ch, (b ∈ X.ex \/ X.s₀.heap.objs.size <= b) /\ b ≠ X.env.locals /\ (∀ x c, X.env.cells.lookup x = some c -> c ≠ b) /\ ∀ p ∈ X.pn ++ pins, p.1 ≠ b) : Inv X pins σ H' s' := by
  obtain ⟨h', g', d', t', o'⟩ := s'
  have e : o' = s.os := ho
  subst e
  exact I.call (g' := g') (t' := t') (d' := d') u hok hg hch
end
abbrev XK := Value -> Option Addr -> Hp -> Prop
abbrev St := List (Option V)
abbrev VK := V -> Hp -> Prop
abbrev TE := St -> Hp -> VK -> Prop
abbrev TT := St -> Hp -> (Bool -> Hp -> Prop) -> Prop
abbrev TA := St -> Hp -> (List V -> Hp -> Prop) -> Prop
structure Ends where
  nx : St -> Hp -> Prop
  rt : VK
  bk : St -> Hp -> Prop := fun _ _ => False
  ct : St -> Hp -> Prop := fun _ _ => False
abbrev TS := Ends -> St -> Hp -> Prop
def EP (X : Cx) (pins : List (Addr × Obj)) (σ : St) (Q : VK) (u : Value) (s' : Shared) : Prop := ∃ v H', Inv X pins σ H' s' /\ RelV v u /\ Q v H'
def TP (X : Cx) (pins : List (Addr × Obj)) (σ : St) (Q : Bool -> Hp -> Prop) (b : Bool) (s' : Shared) : Prop := ∃ H', Inv X pins σ H' s' /\ Q b H'
def AP (X : Cx) (pins : List (Addr × Obj)) (σ : St) (Q : List V -> Hp -> Prop) (us : List Value) (s' : Shared) : Prop := ∃ vs H', Inv X pins σ H' s' /\ Vals vs us /\ Q vs H'
def SP (X : Cx) (pins : List (Addr × Obj)) (D : Ends) (f : Flow) (s' : Shared) : Prop :=
  match f with
  | .next => ∃ σ' H', Inv X pins σ' H' s' /\ D.nx σ' H'
  | .brk => ∃ σ' H', Inv X pins σ' H' s' /\ D.bk σ' H'
  | .cont => ∃ σ' H', Inv X pins σ' H' s' /\ D.ct σ' H'
  | .ret u => ∃ v σ' H', Inv X pins σ' H' s' /\ RelV v u /\ D.rt v H'
def PE (X : Cx) (e : Expr) (t : TE) : Prop :=
  ∀ (pins : List (Addr × Obj)) (s : Shared) (σ : St) (H : Hp) (Q : VK), Inv X pins σ H s -> t σ H Q -> wpAny (model X.prog X.w) X.A (eval e X.env) (EP X pins σ Q) X.xe s
def PT (X : Cx) (e : Expr) (t : TT) : Prop :=
  ∀ (pins : List (Addr × Obj)) (s : Shared) (σ : St) (H : Hp) (Q : Bool -> Hp -> Prop), Inv X pins σ H s -> t σ H Q -> wpAny (model X.prog X.w) X.A (isTrue e X.env (eval e X.env)) (TP X pins σ Q) X.xe s
def PW (X : Cx) (e : Expr) (t : TT) : Prop :=
  ∀ (whole : Sem Value) (pins : List (Addr × Obj)) (s : Shared) (σ : St) (H : Hp) (Q : Bool -> Hp -> Prop), Inv X pins σ H s -> t σ H Q -> wpAny (model X.prog X.w) X.A (isTrue e X.env whole) (TP X pins σ Q) X.xe s
theorem PW.pt {X : Cx} {e : Expr} {t : TT} (h : PW X e t) : PT X e t := h _
def PA (X : Cx) (es : List Expr) (t : TA) : Prop :=
  ∀ (pos : Pos) (pins : List (Addr × Obj)) (s : Shared) (σ : St) (H : Hp) (Q : List V -> Hp -> Prop), Inv X pins σ H s -> t σ H Q -> wpAny (model X.prog X.w) X.A (spliced (backTo pos (starEach es X.env))) (AP X pins σ Q) X.xe s
def PS (X : Cx) (st : Stmt) (t : TS) : Prop :=
  ∀ (pins : List (Addr × Obj)) (s : Shared) (σ : St) (H : Hp) (D : Ends), Inv X pins σ H s -> t D σ H -> wpAny (model X.prog X.w) X.A (exec st X.env) (SP X pins D) X.xe s
def PSs (X : Cx) (st : List Stmt) (t : TS) : Prop :=
  ∀ (pins : List (Addr × Obj)) (s : Shared) (σ : St) (H : Hp) (D : Ends), Inv X pins σ H s -> t D σ H -> wpAny (model X.prog X.w) X.A (execs st X.env) (SP X pins D) X.xe s
theorem thn {α : Type} {t : Sem α} {Q Q' : α -> Shared -> Prop} {M : Model} {A : Around} {E : Value -> Shared -> Prop} {s : Shared} (h : wpAny M A t Q E s) (hQ : ∀ a s, Q a s -> Q' a s) : wpAny M A t Q' E s := wpAny_mono h hQ fun _ _ x => x
section
variable {X : Cx}
theorem bin {a b : Expr} {ta tb : TE} (ha : PE X a ta) (hb : PE X b tb) {pins : List (Addr × Obj)} {s : Shared} {σ : St} {H : Hp} {R : V -> V -> Hp -> Prop} (I : Inv X pins σ H s) (h : ta σ H fun x H1 => tb σ H1 fun y H2 => R x y H2)
    {α : Type} {Q : α -> Shared -> Prop} {f : Value -> Value -> Sem α}
    (hf : ∀ v u s2 x y H2, Inv X pins σ H2 s2 -> RelV x v -> RelV y u -> R x y H2 -> wpAny (model X.prog X.w) X.A (f v u) Q X.xe s2) :
    wpAny (model X.prog X.w) X.A (eval a X.env) (fun v s₁ => wpAny (model X.prog X.w) X.A (eval b X.env) (fun u s₂ => wpAny (model X.prog X.w) X.A (f v u) Q X.xe s₂) X.xe s₁) X.xe s := by
  refine thn (ha pins s σ H _ I h) fun v s1 ⟨x, H1, I1, r1, q1⟩ => ?_
  refine thn (hb pins s1 σ H1 _ I1 q1) fun u s2 ⟨y, H2, I2, r2, q2⟩ => ?_
  exact hf v u s2 x y H2 I2 r1 r2 q2
def qKq (i : Nat) : TE := fun σ H Q => ∃ v, σ[i]? = some (some v) /\ Q v H
def tC (v : V) : TE := fun _ H Q => Q v H
theorem m9q {i : Nat} {x : Str} {pos : Pos} (hN : X.N[i]? = some x) (hv : Vis X.env.scope x) (hd : (x == ("__debug__" : Str)) = false := by decide) (hcd : (x == ("__classdict__" : Str)) = false := by decide) : PE X (.Name x pos) (qKq i) := by
  intro pins s σ H Q I h
  obtain ⟨v, e, h⟩ := h
  obtain ⟨m, hn, hl⟩ := I.loc
  obtain ⟨u, r, l⟩ := hl i x v hN e hv
  have fin : EP X pins σ Q u s := ⟨v, H, I, r, h⟩
  rcases l with ⟨hk, hm⟩ | ⟨hk, c, hc, hcell⟩
  . exact wpAny_Name (wpAny_loadName_local I.ok.kind hk hn hm fin) hd
  . rcases hk with hk | hk
    . exact wpAny_Name (wpAny_loadName_cell I.ok.kind hk hc hcell fin) hd
    . exact wpAny_Name (wpAny_loadName_free I.ok.kind hk hc hcell fin hcd) hd
theorem nNq {i j pos} : PE X (.Constant (.int i) j pos) (tC (.int i)) := fun _ _ _ H _ I h => wpAny_Constant_int ⟨.int i, H, I.tok _, ⟨_, rfl⟩, h⟩
theorem pPq {b j pos} : PE X (.Constant (.bool b) j pos) (tC (.bl b)) := fun _ _ _ H _ I h => Constant_bool ⟨.bl b, H, I, rfl, h⟩
theorem n5q {x j pos} : PE X (.Constant (.str x) j pos) (tC (.str x)) := fun _ _ _ H _ I h => Calls.Constant_str ⟨.str x, H, I.tok _, ⟨_, rfl⟩, h⟩
def Gl (X : Cx) (x : Str) : Prop := X.env.kindOf x = some .globalImplicit
theorem hAq {E : Value -> Shared -> Prop} {pins : List (Addr × Obj)} {s : Shared} {σ : St} {H : Hp} {x : Str} {u : Value} {pos : Pos} {Q : Value -> Shared -> Prop} (I : Inv X pins σ H s) (hg : Gl X x) (hm : X.mg x = some u) (h : Q u s)
    (hd : (x == ("__debug__" : Str)) = false := by decide) : wpAny (model X.prog X.w) X.A (eval (.Name x pos) X.env) Q E s :=
  Calls.Name_function_global I.ok.kind hg (Calls.loadGlobal_global (by rw [I.ok.glob]; exact I.mod.glob.keeps I.bk) hm h) hd
theorem dJq {E : Value -> Shared -> Prop} {pins : List (Addr × Obj)} {s : Shared} {σ : St} {H : Hp} {x : Str} {u : Value} {pos : Pos} {Q : Value -> Shared -> Prop} (I : Inv X pins σ H s) (hg : Gl X x) (hm : X.mg x = none) (hv : bootBuiltins x = some u) (h : Q u s)
    (hn : x ≠ "__name__" := by decide) (hd : (x == ("__debug__" : Str)) = false := by decide) : wpAny (model X.prog X.w) X.A (eval (.Name x pos) X.env) Q E s := by
  obtain ⟨mb, h1, h2⟩ := I.mod.blt
  exact Calls.Name_function_global I.ok.kind hg (Calls.loadGlobal_builtin (by rw [I.ok.glob]; exact I.mod.glob.keeps I.bk) hm (by rw [I.ok.blt]; exact h1.keeps I.bk) ((h2 x hn).trans hv) h) hd
theorem gOq {x : Str} {v : V} {u : Value} {pos : Pos} (hg : Gl X x) (hm : X.mg x = some u) (r : RelV v u) (hd : (x == ("__debug__" : Str)) = false := by decide) : PE X (.Name x pos) (tC v) :=
  fun _ _ _ H _ I h => hAq I hg hm ⟨v, H, I, r, h⟩ hd
theorem l6q {x : Str} {v : V} {u : Value} {pos : Pos} (hg : Gl X x) (hm : X.mg x = none) (hv : bootBuiltins x = some u) (r : RelV v u) (hn : x ≠ "__name__" := by decide) (hd : (x == ("__debug__" : Str)) = false := by decide) : PE X (.Name x pos) (tC v) :=
  fun _ _ _ H _ I h => dJq I hg hm hv ⟨v, H, I, r, h⟩ hn hd
variable {a b : Expr} {ta tb : TE} {pos : Pos}
variable {tA tB' : TT} {rest : List Expr}
def qHq (t u : TT) : TT := fun σ H Q => t σ H fun c H1 => if c = true then u σ H1 Q else Q false H1
def tOr (t u : TT) : TT := fun σ H Q => t σ H fun c H1 => if c = true then Q true H1 else u σ H1 Q
def qWq (t : TT) : TT := fun σ H Q => t σ H fun c H1 => Q (!c) H1
theorem kEq (ha : PT X a tA) : PW X (.BoolOp .And [a] pos) tA := by
  intro wh pins s σ H Q I h
  refine isTrue_and (thn (ha pins s σ H Q I h) fun c s1 e => ?_)
  cases c with
  | true => exact isTrue_and_nil e
  | false => exact e
theorem oDq (ha : PT X a tA) : PW X (.BoolOp .Or [a] pos) tA := by
  intro wh pins s σ H Q I h
  refine isTrue_or (thn (ha pins s σ H Q I h) fun c s1 e => ?_)
  cases c with
  | false => exact isTrue_or_nil e
  | true => exact e
theorem o7q (ha : PT X a tA) (hb : PW X (.BoolOp .And (b :: rest) pos) tB') : PW X (.BoolOp .And (a :: b :: rest) pos) (qHq tA tB') := by
  intro wh pins s σ H Q I h
  refine isTrue_and (thn (ha pins s σ H _ I h) fun c s1 ⟨H1, I1, q1⟩ => ?_)
  cases c with
  | true => exact hb wh pins s1 σ H1 Q I1 q1
  | false => exact ⟨H1, I1, q1⟩
theorem oVq (ha : PT X a tA) (hb : PW X (.BoolOp .Or (b :: rest) pos) tB') : PW X (.BoolOp .Or (a :: b :: rest) pos) (tOr tA tB') := by
  intro wh pins s σ H Q I h
  refine isTrue_or (thn (ha pins s σ H _ I h) fun c s1 ⟨H1, I1, q1⟩ => ?_)
  cases c with
  | true => exact ⟨H1, I1, q1⟩
  | false => exact hb wh pins s1 σ H1 Q I1 q1
theorem nXq (ha : PT X a tA) : PT X (.UnaryOp .Not a pos) (qWq tA) := by
  intro pins s σ H Q I h
  exact isTrue_not (ha pins s σ H (fun c H1 => Q (!c) H1) I h)
def mCq (ta tb : TE) : TE := fun σ H Q => ta σ H fun x H1 => ∃ c, x = .bl c /\ if c = true then tb σ H1 Q else Q (.bl false) H1
def qNq (ta tb : TE) : TE := fun σ H Q => ta σ H fun x H1 => ∃ c, x = .bl c /\ if c = true then Q (.bl true) H1 else tb σ H1 Q
def mPq (ta : TE) : TE := fun σ H Q => ta σ H fun x H1 => ∃ c, x = .bl c /\ Q (.bl (!c)) H1
theorem nPq {op} {t : TE} (h : PE X a t) : PE X (.BoolOp op [a] pos) t := fun pins s σ H Q I hw => BoolOp_one (h pins s σ H Q I hw)
theorem mBq (ha : PE X a ta) (hb : PE X (.BoolOp .And (b :: rest) pos) tb) : PE X (.BoolOp .And (a :: b :: rest) pos) (mCq ta tb) := by
  intro pins s σ H Q I h
  refine BoolOp_and (thn (ha pins s σ H _ I h) fun v s1 ⟨x, H1, I1, r1, q1⟩ => ?_)
  obtain ⟨c, rfl, q1⟩ := q1
  cases r1
  refine wpAny_truthy_bool ?_
  cases c with
  | true => exact hb pins s1 σ H1 Q I1 q1
  | false => exact ⟨.bl false, H1, I1, rfl, q1⟩
theorem qBq (ha : PE X a ta) (hb : PE X (.BoolOp .Or (b :: rest) pos) tb) : PE X (.BoolOp .Or (a :: b :: rest) pos) (qNq ta tb) := by
  intro pins s σ H Q I h
  refine BoolOp_or (thn (ha pins s σ H _ I h) fun v s1 ⟨x, H1, I1, r1, q1⟩ => ?_)
  obtain ⟨c, rfl, q1⟩ := q1
  cases r1
  refine wpAny_truthy_bool ?_
  cases c with
  | false => exact hb pins s1 σ H1 Q I1 q1
  | true => exact ⟨.bl true, H1, I1, rfl, q1⟩
theorem nWq (ha : PE X a ta) : PE X (.UnaryOp .Not a pos) (mPq ta) := by
  intro pins s σ H Q I h
  refine UnaryOp_ (thn (ha pins s σ H _ I h) fun v s1 ⟨x, H1, I1, r1, q1⟩ => ?_)
  obtain ⟨c, rfl, q1⟩ := q1
  cases r1
  exact not_of (wpAny_truthy_bool ⟨.bl (!c), H1, I1, rfl, q1⟩)
def tIf (t : TT) (ta tb : TE) : TE := fun σ H Q => t σ H fun c H1 => if c = true then ta σ H1 Q else tb σ H1 Q
theorem iVq {c : Expr} (hc : PT X c tA) (ha : PE X a ta) (hb : PE X b tb) : PE X (.IfExp c a b pos) (tIf tA ta tb) := by
  intro pins s σ H Q I h
  refine wpAny_IfExp (thn (hc pins s σ H _ I h) fun d s1 ⟨H1, I1, q1⟩ => ?_)
  cases d with
  | true => exact ha pins s1 σ H1 Q I1 q1
  | false => exact hb pins s1 σ H1 Q I1 q1
end
def SqL (K : PySem.W.Frag) (H : Hp) (a : Addr) (xs : List V) : Prop :=
  Rd H a (.lst xs) ∨
    ∃ (o : Obj) (its : Array Value) (n : Nat), K.lookup a = some o /\ o.cls = .type "list" /\ o.dict = none /\ o.data = .seq its n /\ its.size <= sizeLine /\ Vals xs its.toList
def SqT (K : PySem.W.Frag) (H : Hp) (a : Addr) (xs : List V) : Prop :=
  Rd H a (.tup xs) ∨
    ∃ (o : Obj) (its : Array Value) (n : Nat), K.lookup a = some o /\ o.cls = .type "tuple" /\ o.data = .seq its n /\ its.size <= sizeLine /\ Vals xs its.toList
def rCq : Value -> Option V
  | .none => some .non
  | .bool b => some (.bl b)
  | .int i _ => some (.int i)
  | .str x _ => some (.str x)
  | .bytes b _ => some (.byt b)
  | .float b _ => some (.flt b)
  | .ref a => some (.ref a)
  | .type n => some (.ty n)
  | _ => none
theorem RelV.abs {x : V} {u : Value} (r : RelV x u) : rCq u = some x := by
  cases x with
  | non => cases r; rfl
  | bl _ => cases r; rfl
  | int _ => obtain ⟨t, rfl⟩ := r; rfl
  | str _ => obtain ⟨t, rfl⟩ := r; rfl
  | byt _ => obtain ⟨t, rfl⟩ := r; rfl
  | flt _ => obtain ⟨t, rfl⟩ := r; rfl
  | ref _ => cases r; rfl
  | ty _ => cases r; rfl
theorem RelV.inj {x y : V} {u : Value} (r : RelV x u) (q : RelV y u) : x = y := Option.some.inj (r.abs.symm.trans q.abs)
theorem Vals.inj : ∀ {xs ys : List V} {us : List Value}, Vals xs us -> Vals ys us -> xs = ys
  | _, _, _, .nil, .nil => rfl
  | _, _, _, .cons r t, .cons r' t' => by rw [r.inj r', Vals.inj t t']
section
variable {X : Cx} {pins : List (Addr × Obj)} {σ : St} {H : Hp} {s : Shared} {a : Addr} {xs ys : List V}
theorem SqL.of {K : PySem.W.Frag} (h : H a = some (.lst xs)) : SqL K H a xs := .inl (.inl h)
theorem SqT.of {K : PySem.W.Frag} (h : H a = some (.tup xs)) : SqT K H a xs := .inl (.inl h)
theorem Inv.list (I : Inv X pins σ H s) (h : SqL X.K H a xs) : ∃ its : List Value, Vals xs its /\ PlainL s.heap a its.toArray /\ xs.length <= sizeLine := by
  rcases h with h | ⟨o, its, n, hk, hc, hd, hs, hz, r⟩
  . obtain ⟨z, its, n, r, e⟩ := h.ok I.hok
    exact ⟨its, r, ⟨_, n, e, rfl, rfl, rfl⟩, z⟩
  . refine ⟨its.toList, r, ⟨o, n, I.kIn a o hk, hc, hd, by simpa using hs⟩, ?_⟩
    have e := r.length
    simp only [Array.length_toList] at e
    omega
theorem Inv.tuple (I : Inv X pins σ H s) (h : SqT X.K H a xs) : ∃ its : List Value, Vals xs its /\ IsTup s.heap a its.toArray /\ xs.length <= sizeLine := by
  rcases h with h | ⟨o, its, n, hk, hc, hs, hz, r⟩
  . obtain ⟨z, its, r, p⟩ := h.ok I.hok
    exact ⟨its, r, p, z⟩
  . refine ⟨its.toList, r, ⟨o, I.kIn a o hk, hc, n, by simpa using hs⟩, ?_⟩
    have e := r.length
    simp only [Array.length_toList] at e
    omega
theorem Inv.list_inj (I : Inv X pins σ H s) (h : SqL X.K H a xs) (h' : SqL X.K H a ys) : xs = ys := by
  obtain ⟨its, r, ⟨o, n, e, _, _, d⟩, _⟩ := I.list h
  obtain ⟨its', r', ⟨o', n', e', _, _, d'⟩, _⟩ := I.list h'
  rw [e] at e'; cases e'
  rw [d] at d'
  injection d' with d1 _
  have : its = its' := by simpa using congrArg Array.toList d1
  subst this
  exact r.inj r'
theorem Inv.tuple_inj (I : Inv X pins σ H s) (h : SqT X.K H a xs) (h' : SqT X.K H a ys) : xs = ys := by
  obtain ⟨its, r, ⟨o, e, _, n, d⟩, _⟩ := I.tuple h
  obtain ⟨its', r', ⟨o', e', _, n', d'⟩, _⟩ := I.tuple h'
  rw [e] at e'; cases e'
  rw [d] at d'
  injection d' with d1 _
  have : its = its' := by simpa using congrArg Array.toList d1
  subst this
  exact r.inj r'
end
abbrev Cx.wish (X : Cx) (E : Value -> Shared -> Prop) : Cx := { X with xe := E }
abbrev Cx.nox (X : Cx) : Cx := X.wish fun _ _ => False
theorem Cx.Ok.wish {X : Cx} (ok : X.Ok) (E : Value -> Shared -> Prop) : (X.wish E).Ok :=
  ⟨ok.mod, ok.kind, ok.glob, ok.blt, ok.above, ok.inj, ok.has, ok.cab, ok.hd, ok.frames, ok.stk, ok.exf, ok.bs, ok.bsz, ok.noex, ok.exfs, ok.funs, ok.frf⟩
theorem Cx.Ok.unwish {X : Cx} {E : Value -> Shared -> Prop} (ok : (X.wish E).Ok) : X.Ok :=
  ⟨ok.mod, ok.kind, ok.glob, ok.blt, ok.above, ok.inj, ok.has, ok.cab, ok.hd, ok.frames, ok.stk, ok.exf, ok.bs, ok.bsz, ok.noex, ok.exfs, ok.funs, ok.frf⟩
section
variable {X : Cx} {pins : List (Addr × Obj)} {σ : St} {H : Hp} {s : Shared} {E : Value -> Shared -> Prop}
theorem Inv.wish (I : Inv X pins σ H s) (E : Value -> Shared -> Prop) : Inv (X.wish E) pins σ H s := ⟨I.ok.wish E, I.os, I.bare, I.base, I.loc, I.cell, I.free, I.freeC, I.pin, I.hok, I.len⟩
theorem Inv.unwish (I : Inv (X.wish E) pins σ H s) : Inv X pins σ H s := ⟨I.ok.unwish, I.os, I.bare, I.base, I.loc, I.cell, I.free, I.freeC, I.pin, I.hok, I.len⟩
theorem SP.unwish {D : Ends} {f : Flow} {s' : Shared} (h : SP (X.wish E) pins D f s') : SP X pins D f s' := by
  cases f with
  | next => obtain ⟨σ', H', I, q⟩ := h; exact ⟨σ', H', I.unwish, q⟩
  | brk => obtain ⟨σ', H', I, q⟩ := h; exact ⟨σ', H', I.unwish, q⟩
  | cont => obtain ⟨σ', H', I, q⟩ := h; exact ⟨σ', H', I.unwish, q⟩
  | ret u => obtain ⟨v, σ', H', I, r, q⟩ := h; exact ⟨v, σ', H', I.unwish, r, q⟩
theorem PSs.nox {st : List Stmt} {t : TS} (h : PSs X.nox st t) : PSs X st t := fun pins s σ H D I hw =>
  wpAny_mono (h pins s σ H D (I.wish _) hw) (fun _ _ q => q.unwish) fun _ _ z => False.elim z
end
section
variable {X : Cx} {st : Stmt} {rest : List Stmt} {t u : TS} {e : Expr} {te : TE} {pos : Pos}
def m0q : TS := fun D σ H => D.nx σ H
def qQq (t u : TS) : TS := fun D σ H => t { D with nx := u D } σ H
theorem lKq : PSs X [] m0q := fun _ _ σ H _ I h => wpAny_execs_nil ⟨σ, H, I, h⟩
theorem iPq (h1 : PS X st t) (h2 : PSs X rest u) : PSs X (st :: rest) (qQq t u) := by
  intro pins s σ H D I h
  refine wpAny_execs_cons (thn (h1 pins s σ H { D with nx := u D } I h) fun f s1 q => ?_)
  cases f with
  | next =>
    obtain ⟨σ', H', I', q⟩ := q
    exact h2 pins s1 σ' H' D I' q
  | ret v => exact q
  | brk => exact q
  | cont => exact q
theorem k4q (h1 : PS X st t) : PSs X [st] t := by
  intro pins s σ H D I h
  refine wpAny_execs_cons (thn (h1 pins s σ H D I h) fun f s1 q => ?_)
  cases f with
  | next => exact wpAny_execs_nil q
  | ret v => exact q
  | brk => exact q
  | cont => exact q
def r2q (te : TE) : TS := fun D σ H => te σ H D.rt
theorem o8q (he : PE X e te) : PS X (.Return (some e) pos) (r2q te) := by
  intro pins s σ H D I h
  exact wpAny_Return_some (thn (he pins s σ H _ I h) fun v s1 ⟨x, H1, I1, r1, q1⟩ => ⟨x, σ, H1, I1, r1, q1⟩)
def qGq (c : TT) (t u : TS) : TS := fun D σ H => c σ H fun b H1 => if b = true then t D σ H1 else u D σ H1
theorem q5q {c : Expr} {a b : List Stmt} {tc : TT} (hc : PT X c tc) (ha : PSs X a t) (hb : PSs X b u) : PS X (.If c a b pos) (qGq tc t u) := by
  intro pins s σ H D I h
  refine wpAny_If (thn (hc pins s σ H _ I h) fun d s1 ⟨H1, I1, q1⟩ => ?_)
  cases d with
  | true => exact ha pins s1 σ H1 D I1 q1
  | false => exact hb pins s1 σ H1 D I1 q1
end
abbrev TG := V -> St -> Hp -> (St -> Hp -> Prop) -> Prop
def PG (X : Cx) (target : Expr) (t : TG) : Prop :=
  ∀ (pins : List (Addr × Obj)) (s : Shared) (σ : St) (H : Hp) (v : V) (u : Value) (Q : St -> Hp -> Prop), Inv X pins σ H s -> RelV v u -> t v σ H Q →
    wpAny (model X.prog X.w) X.A (assign target X.env u) (fun _ s' => ∃ σ' H', Inv X pins σ' H' s' /\ Q σ' H') X.xe s
abbrev mYq := V -> V -> V -> Hp -> (Hp -> Prop) -> Prop
def pZq (X : Cx) (t : mYq) : Prop :=
  ∀ (pins : List (Addr × Obj)) (s : Shared) (σ : St) (H : Hp) (o i v : V) (ov iv u : Value) (Q : Hp -> Prop), Inv X pins σ H s -> RelV o ov -> RelV i iv -> RelV v u -> t o i v H Q →
    wpAny (model X.prog X.w) X.A (setItem ov iv u) (fun _ s' => ∃ H', Inv X pins σ H' s' /\ Q H') X.xe s
abbrev TIp := V -> V -> Hp -> VK -> Prop
def PIp (X : Cx) (op : Operator) (t : TIp) : Prop :=
  ∀ (pins : List (Addr × Obj)) (s : Shared) (σ : St) (H : Hp) (x y : V) (v u : Value) (Q : VK), Inv X pins σ H s -> RelV x v -> RelV y u -> t x y H Q →
    wpAny (model X.prog X.w) X.A (inplaceOp op v u) (EP X pins σ Q) X.xe s
section
variable {X : Cx} {pos : Pos}
def i5q (i : Nat) : TG := fun v σ H Q => Q (σ.set i (some v)) H
theorem kSq {i : Nat} {x : Str} (hN : X.N.Nodup) (hi : X.N[i]? = some x) (hx : Loc X.env.scope x) (hf : X.fn x = true \/ X.env.scope.names.lookup x = some .local := by first | exact .inl rfl | exact .inr rfl | assumption) : PG X (.Name x pos) (i5q i) := by
  intro pins s σ H v u Q I r h
  exact wpAny_assign_Name (eBq I hN hi hx r (fun s' I' => ⟨_, H, I', h⟩) hf)
def r3q (to ti : TE) (t : mYq) : TG := fun v σ H Q => to σ H fun o H1 => ti σ H1 fun i H2 => t o i v H2 fun H3 => Q σ H3
theorem m7q {o i : Expr} {to ti : TE} {t : mYq} (ho : PE X o to) (hi : PE X i ti) (hs : pZq X t)
    (ha : ∀ v, assign (.Subscript o i pos) X.env v = (do
      let ov ← holding [v] (eval o X.env)
      let iv ← holding [v, ov] (eval i X.env)
      standAt pos
      holding [v, ov, iv] (setItem ov iv v)
      release [v, ov, iv] []) := by intro _; rfl) : PG X (.Subscript o i pos) (r3q to ti t) := by
  intro pins s σ H v u Q I r h
  rw [ha]
  refine wpAny_bind (wpAny_holding (thn (ho pins s σ H _ I h) fun ov s1 ⟨x, H1, I1, r1, q1⟩ => ?_))
  refine wpAny_bind (wpAny_holding (thn (hi pins s1 σ H1 _ I1 q1) fun iv s2 ⟨y, H2, I2, r2, q2⟩ => ?_))
  refine wpAny_bind (wpAny_standAt (wpAny_bind (wpAny_holding (thn (hs pins s2 σ H2 x y v ov iv u _ I2 r1 r2 r q2) fun _ s3 ⟨H3, I3, q3⟩ => ?_))))
  exact wpAny_release ⟨σ, H3, I3, q3⟩
def oSq (te : TE) (g : TG) : TS := fun D σ H => te σ H fun x H1 => g x σ H1 D.nx
theorem mKq {tg e : Expr} {te : TE} {g : TG} (he : PE X e te) (hg : PG X tg g) (hs : swapsWithSole [tg] e pos.line X.env = pure false := by rfl) (hw : swappedStores [tg] e X.env = pure none := by rfl)
    (h1 : (assignEach [tg] X.env).map (·.2) = [assign tg X.env] := by rfl) : PS X (.Assign [tg] e pos) (oSq te g) := by
  intro pins s σ H D I h
  refine wpAny_Assign_stores (thn (he pins s σ H _ I h) fun v s1 ⟨x, H1, I1, r1, q1⟩ => ?_) hs hw
  rw [h1]
  exact thn (hg pins s1 σ H1 x v _ I1 r1 q1) fun _ s2 q => q
theorem m5q {i : Nat} {x : Str} {e : Expr} {te : TE} {pos' : Pos} (hN : X.N.Nodup) (hi : X.N[i]? = some x) (hx : Loc X.env.scope x) (he : PE X e te) (hs : swapsWith e (some (.Name x pos')) pos.line X.env = pure false := by rfl) (hf : X.fn x = true \/ X.env.scope.names.lookup x = some .local := by first | exact .inl rfl | exact .inr rfl | assumption) :
    PS X (.Assign [.Name x pos'] e pos) (oSq te (i5q i)) := by
  intro pins s σ H D I h
  refine wpAny_Assign_Name (thn (he pins s σ H _ I h) fun v s1 ⟨y, H1, I1, r1, q1⟩ => ?_) hs
  exact eBq I1 hN hi hx r1 (fun s2 I2 => ⟨_, H1, I2, q1⟩) hf
def qVq (i : Nat) (te : TE) (ti : TIp) : TS := fun D σ H => ∃ x, σ[i]? = some (some x) /\ te σ H fun y H1 => ti x y H1 fun z H2 => D.nx (σ.set i (some z)) H2
theorem oKq {i : Nat} {x : Str} {e : Expr} {te : TE} {op : Operator} {ti : TIp} {pos' : Pos} (hN : X.N.Nodup) (hi : X.N[i]? = some x) (hx : Loc X.env.scope x) (he : PE X e te) (ho : PIp X op ti) (hf : X.fn x = true \/ X.env.scope.names.lookup x = some .local := by first | exact .inl rfl | exact .inr rfl | assumption) :
    PS X (.AugAssign (.Name x pos') op e pos) (qVq i te ti) := by
  intro pins s σ H D I h
  obtain ⟨v, e1, h⟩ := h
  obtain ⟨m, hn, hl⟩ := I.loc
  have vis : Vis X.env.scope x := by rcases hx with k | k; exact .inl k; exact .inr (.inl k)
  obtain ⟨u, r, l⟩ := hl i x v hi e1 vis
  refine wpAny_AugAssign_Name ?_
  have go : wpAny (model X.prog X.w) X.A (eval e X.env) (fun w s₂ => wpAny (model X.prog X.w) X.A (inplaceOp op u w) (fun r s₃ => wpAny (model X.prog X.w) X.A (storeName X.env x r) (fun _ => SP X pins D .next) X.xe s₃) X.xe s₂) X.xe s := by
    refine thn (he pins s σ H _ I h) fun w s1 ⟨y, H1, I1, r1, q1⟩ => ?_
    refine thn (ho pins s1 σ H1 v y u w _ I1 r r1 q1) fun z s2 ⟨zv, H2, I2, r2, q2⟩ => ?_
    exact eBq I2 hN hi hx r2 (fun s3 I3 => ⟨_, H2, I3, q2⟩) hf
  rcases l with ⟨hk, hm⟩ | ⟨hk, c, hc, hcell⟩
  . exact wpAny_loadName_local I.ok.kind hk hn hm go
  . rcases hk with hk | hk
    . exact wpAny_loadName_cell I.ok.kind hk hc hcell go
    . rcases hx with k | k
      . have : X.env.scope.names.lookup x = some .free := hk
        rw [k] at this; cases this
      . have : X.env.scope.names.lookup x = some .free := hk
        rw [k] at this; cases this
def ipI (f : Int -> Int -> Int) : TIp := fun x y H Q => ∃ i j, x = .int i /\ y = .int j /\ Q (.int (f i j)) H
theorem lXq : PIp X .Add (ipI fun i j => i + j) := by
  intro pins s σ H x y v u Q I r1 r2 h
  obtain ⟨i, j, e1, e2, q⟩ := h
  subst e1; subst e2
  obtain ⟨t, rfl⟩ := r1
  obtain ⟨t', rfl⟩ := r2
  exact iadd_int ⟨.int _, H, I.tok _, ⟨_, rfl⟩, q⟩
end
section
variable {X : Cx} {pos : Pos}
def jAq (c : TT) (tb : TS) : TS := fun D σ H => ∃ W : Nat -> St -> Hp -> Prop, (∃ m, W m σ H) /\ ∀ m σ H, W m σ H →
  c σ H fun b H1 => if b = true then ∃ N : St -> Hp -> Prop, (∀ σ' H', N σ' H' -> ∃ m', m' < m /\ W m' σ' H') /\ tb { D with nx := N, ct := N, bk := D.nx } σ H1 else D.nx σ H1
theorem iQq {c : Expr} {body : List Stmt} {tc : TT} {tb : TS} (hp : PassesOwn (model X.prog X.w) X.A X.env X.xe) (hc : PT X c tc) (hb : PSs X body tb) : PS X (.While c body [] pos) (jAq tc tb) := by
  intro pins s σ H D I h
  obtain ⟨W, ⟨m0, w0⟩, turn⟩ := h
  refine wpAny_While (codeAny_whileLoop (fun n s' => ∃ σ' H', Inv X pins σ' H' s' /\ W n σ' H') ?_ m0 ⟨σ, H, I, w0⟩)
  rintro n s1 ⟨σ1, H1, I1, w1⟩
  refine wpAny_passesOwn hp (thn (hc pins s1 σ1 H1 _ I1 (turn n σ1 H1 w1)) fun b s2 ⟨H2, I2, q2⟩ => ?_)
  cases b with
  | true =>
    obtain ⟨N, hN, q2⟩ := q2
    rw [if_pos rfl]
    refine wpAny_passesOwn hp (thn (hb pins s2 σ1 H2 _ I2 q2) fun f s3 q3 => ?_)
    cases f with
    | next =>
      obtain ⟨σ3, H3, I3, n3⟩ := q3
      obtain ⟨m', hm, w3⟩ := hN σ3 H3 n3
      exact ⟨m', hm, σ3, H3, I3, w3⟩
    | cont =>
      obtain ⟨σ3, H3, I3, n3⟩ := q3
      obtain ⟨m', hm, w3⟩ := hN σ3 H3 n3
      exact ⟨m', hm, σ3, H3, I3, w3⟩
    | brk => exact q3
    | ret v => exact q3
  | false =>
    rw [if_neg Bool.false_ne_true]
    exact wpAny_execs_nil ⟨σ1, H2, I2, q2⟩
end
structure It where
  go : Nat -> Hp -> Prop
  yld : Nat -> Hp -> V -> Hp -> Prop
  stop : Nat -> Hp -> Prop
def gDq (X : Cx) (pins : List (Addr × Obj)) (H : Hp) (b : Addr) : Prop :=
  H b = none /\ b ≠ X.env.locals /\ b ∉ X.fs /\ (b ∈ X.ex \/ X.s₀.heap.objs.size <= b) /\ (∀ x c, X.env.cells.lookup x = some c -> c ≠ b) /\ ∀ p ∈ X.pn ++ pins, p.1 ≠ b
theorem Inv.fpOk {X : Cx} {pins : List (Addr × Obj)} {σ : St} {H H' : Hp} {s : Shared} {b : Addr} (I : Inv X pins σ H s) (hb : s.heap.objs.size <= b) (hn : H' b = none) : gDq X pins H' b := by
  refine ⟨hn, Nat.ne_of_gt (Nat.lt_of_lt_of_le I.lt hb), I.nofs hb, .inr (Nat.le_trans I.sz hb), fun x c e z => ?_, fun p hp z => ?_⟩
  . obtain ⟨v, q⟩ := I.cell x c e
    exact absurd (Nat.lt_of_lt_of_le q.lt (by rw [z]; exact hb)) (Nat.lt_irrefl _)
  . exact absurd (Nat.lt_of_lt_of_le (Heap.lt_size (I.pin p hp).1) (by rw [z]; exact hb)) (Nat.lt_irrefl _)
structure Turn (P : Program) (w : World) (K : PySem.W.Frag) (tg : Expr) (J : It) (fp : List Addr) (it : Addr) (tn : Nat -> Heap -> Prop) : Prop where
  mem : it ∈ fp
  obj : ∀ i h, tn i h -> ∀ b ∈ fp, ∃ o, h.get? b = some o /\ ∀ v, o.data ≠ .cell v
  keep : ∀ i h h', tn i h -> (∀ b ∈ fp, ∀ o, h.get? b = some o -> h'.get? b = some o) -> tn i h'
  item : ∀ (X : Cx), X.prog = P -> X.w = w -> X.K = K -> X.calm = true -> ∀ (i : Nat) (pins : List (Addr × Obj)) (s : Shared) (σ : St) (H : Hp) (E : Value -> Shared -> Prop), Inv X pins σ H s -> (∀ b ∈ fp, gDq X pins H b) -> tn i s.heap -> J.go i H →
    wpAny (model P w) X.A (pyNext (.ref it)) (fun r s1 => ∃ u, r = some u ∧
      wpAny (model P w) X.A (letOwnedTupleGo tg (.ref it) u) (fun _ s2 => ∃ x H', Inv X pins σ H' s2 /\ RelV x u /\ J.yld i H x H' /\ tn (i + 1) s2.heap /\ ∀ b ∈ fp, H' b = none) E s1) E s
  done : ∀ (X : Cx), X.prog = P -> X.w = w -> X.K = K -> X.calm = true -> ∀ (i : Nat) (pins : List (Addr × Obj)) (s : Shared) (σ : St) (H : Hp) (E : Value -> Shared -> Prop), Inv X pins σ H s -> (∀ b ∈ fp, gDq X pins H b) -> tn i s.heap -> J.stop i H →
    wpAny (model P w) X.A (pyNext (.ref it)) (fun r s1 => r = none /\ Inv X pins σ H s1) E s
  self : ∀ (A : Around) (i : Nat) (s : Shared) (Q : Value -> Shared -> Prop) (E : Value -> Shared -> Prop), tn i s.heap -> Q (.ref it) s -> wpAny (model P w) A (pyIter (.ref it)) Q E s
abbrev TI := St -> Hp -> (It -> Hp -> Prop) -> Prop
def PIE (X : Cx) (pins : List (Addr × Obj)) (σ : St) (tg : Expr) (R : It -> Hp -> Prop) (itv : Value) (s2 : Shared) : Prop :=
  ∃ (it : Addr) (fp : List Addr) (tn : Nat -> Heap -> Prop) (J : It) (H' : Hp), itv = .ref it /\ Inv X pins σ H' s2 /\ Turn X.prog X.w X.K tg J fp it tn /\ tn 0 s2.heap /\ (∀ b ∈ fp, gDq X pins H' b) /\ R J H'
def PI (X : Cx) (tg iter : Expr) (wi : TI) : Prop :=
  ∀ (pins : List (Addr × Obj)) (s : Shared) (σ : St) (H : Hp) (R : It -> Hp -> Prop), Inv X pins σ H s -> wi σ H R →
    wpAny (model X.prog X.w) X.A (eval iter X.env) (fun v s1 => wpAny (model X.prog X.w) X.A (pyIter v) (PIE X pins σ tg R) X.xe s1) X.xe s
theorem h2q {M : Model} {A : Around} {E : Value -> Shared -> Prop} {s : Shared} {tg : Expr} {it : Addr} {u : Value} {o : Obj} {n : String} {vs : Array Value} {Q : Unit -> Shared -> Prop} (ho : s.heap.get? it = some o) (hc : o.cls = .type n) (hd : o.data = .fields vs)
    (hn : ["enumerate", "zip", "dict_itemiterator", "dict_reverseitemiterator", "odict_iterator", "itertools.zip_longest", "itertools.pairwise"].contains n = false) (hQ : Q () s) : wpAny M A (letOwnedTupleGo tg (.ref it) u) Q E s := by
  unfold letOwnedTupleGo
  cases tg <;> first
    | exact wpAny_pure hQ
    | (cases u <;> first
        | exact wpAny_pure hQ
        | (refine wpAny_bind (wpAny_load ho ?_)
           rw [hc, hd]
           show wpAny M A (if (["enumerate", "zip", "dict_itemiterator", "dict_reverseitemiterator", "odict_iterator", "itertools.zip_longest", "itertools.pairwise"].contains n && vs[0]? == some (rawInt _)) = true then _ else _) Q E s
           rw [if_neg (by intro h; rw [hn, Bool.false_and] at h; cases h)]
           exact wpAny_pure hQ))
def Itl (K : PySem.W.Frag) (a : Addr) : It :=
  ⟨fun i H => ∃ xs x, SqL K H a xs /\ xs[i]? = some x, fun i H x H' => H' = H /\ ∀ xs, SqL K H a xs -> xs[i]? = some x, fun i H => ∃ xs, SqL K H a xs /\ xs.length <= i⟩
def Itt (K : PySem.W.Frag) (a : Addr) : It :=
  ⟨fun i H => ∃ xs x, SqT K H a xs /\ xs[i]? = some x, fun i H x H' => H' = H /\ ∀ xs, SqT K H a xs -> xs[i]? = some x, fun i H => ∃ xs, SqT K H a xs /\ xs.length <= i⟩
def Itr (lo : Int) (n : Nat) : It := ⟨fun i _ => i < n, fun i H x H' => H' = H /\ x = .int (lo + i), fun i _ => n <= i⟩
theorem hNq {P : Program} {w : World} {K : PySem.W.Frag} {tg : Expr} (a it : Addr) : Turn P w K tg (Itl K a) [it] it (fun i h => h.IsListIter it a i) where
  mem := by simp
  obj := fun i h st b hb => by
    have e : b = it := by simpa using hb
    subst e
    obtain ⟨o, e, c, d⟩ := st
    exact ⟨o, e, fun v z => by rw [d] at z; cases z⟩
  keep := fun i h h' st k => st.at fun o e => k it (by simp) o e
  item := by
    intro X hP hw hK hc i pins s σ H E I hf st hg
    subst hP hw hK
    obtain ⟨xs, x, hq, hx⟩ := hg
    obtain ⟨its, rv, p, hz⟩ := I.list hq
    obtain ⟨u, hu, ru⟩ := rv.get hx
    obtain ⟨f0, f1, f2, f3, f4, f5⟩ := hf it (by simp)
    refine wpAny_pyNext_list_item st p.isList (x := u) (by simpa using hu) fun h' st' sb => ?_
    have I1 : Inv X pins σ H { s with heap := h' } := I.turned (t' := s.toks) (fun b o hb e => (sb.2 b hb).trans e) f0 f1 f3 f4 f5
    obtain ⟨o, e, c, d⟩ := id st'
    exact ⟨u, rfl, h2q (s := { s with heap := h' }) e c d (by decide) ⟨x, H, I1, ru, ⟨rfl, fun ys hy => by rw [I.list_inj hy hq]; exact hx⟩, st', fun b hb => (hf b hb).1⟩⟩
  done := by
    intro X hP hw hK hc i pins s σ H E I hf st hg
    subst hP hw hK
    obtain ⟨xs, hq, hx⟩ := hg
    obtain ⟨its, rv, p, hz⟩ := I.list hq
    obtain ⟨f0, f1, f2, f3, f4, f5⟩ := hf it (by simp)
    have hl := rv.length
    exact wpAny_pyNext_list_end (I.ok.hd hc) st p.isList (by simp; omega) fun h' eb => ⟨rfl, I.turned (t' := s.toks) (fun b o hb e => eb b o hb e) f0 f1 f3 f4 f5⟩
  self := fun _ _ _ _ _ st h => wpAny_pyIter_listiter st h
theorem g9q {P : Program} {w : World} {K : PySem.W.Frag} {tg : Expr} (a it : Addr) : Turn P w K tg (Itt K a) [it] it (fun i h => h.IsTupleIter it a i) where
  mem := by simp
  obj := fun i h st b hb => by
    have e : b = it := by simpa using hb
    subst e
    obtain ⟨o, e, c, d⟩ := st
    exact ⟨o, e, fun v z => by rw [d] at z; cases z⟩
  keep := fun i h h' st k => st.at fun o e => k it (by simp) o e
  item := by
    intro X hP hw hK hc i pins s σ H E I hf st hg
    subst hP hw hK
    obtain ⟨xs, x, hq, hx⟩ := hg
    obtain ⟨its, rv, p, hz⟩ := I.tuple hq
    obtain ⟨u, hu, ru⟩ := rv.get hx
    obtain ⟨f0, f1, f2, f3, f4, f5⟩ := hf it (by simp)
    refine wpAny_pyNext_tuple_item st (show s.heap.IsTuple a its.toArray from p) (x := u) (by simpa using hu) fun h' st' sb => ?_
    have I1 : Inv X pins σ H { s with heap := h' } := I.turned (t' := s.toks) (fun b o hb e => (sb.2 b hb).trans e) f0 f1 f3 f4 f5
    obtain ⟨o, e, c, d⟩ := id st'
    exact ⟨u, rfl, h2q (s := { s with heap := h' }) e c d (by decide) ⟨x, H, I1, ru, ⟨rfl, fun ys hy => by rw [I.tuple_inj hy hq]; exact hx⟩, st', fun b hb => (hf b hb).1⟩⟩
  done := by
    intro X hP hw hK hc i pins s σ H E I hf st hg
    subst hP hw hK
    obtain ⟨xs, hq, hx⟩ := hg
    obtain ⟨its, rv, p, hz⟩ := I.tuple hq
    obtain ⟨f0, f1, f2, f3, f4, f5⟩ := hf it (by simp)
    have hl := rv.length
    exact wpAny_pyNext_tuple_end (I.ok.hd hc) st (show s.heap.IsTuple a its.toArray from p) (by simp; omega) fun h' eb => ⟨rfl, I.turned (t' := s.toks) (fun b o hb e => eb b o hb e) f0 f1 f3 f4 f5⟩
  self := fun _ _ _ _ _ st h => wpAny_pyIter_tupleiter st h
theorem g4q {P : Program} {w : World} {K : PySem.W.Frag} {tg : Expr} (it : Addr) (lo : Int) (n : Nat) : Turn P w K tg (Itr lo n) [it] it (fun i h => IsRangeIter h it (lo + (i : Nat) * 1) ((n : Int) - (i : Nat)) 1) where
  mem := by simp
  obj := fun i h st b hb => by
    have e : b = it := by simpa using hb
    subst e
    exact ⟨_, st, fun v z => by
      have z' : Data.fields _ = Data.cell v := z
      cases z'⟩
  keep := fun i h h' st k => k it (by simp) _ st
  item := by
    intro X hP hw hK hc i pins s σ H E I hf st hg
    subst hP hw hK
    obtain ⟨f0, f1, f2, f3, f4, f5⟩ := hf it (by simp)
    have W := Walks.range (prog := X.prog) (w := X.w) (I.ok.hd hc) it lo 1 n
    refine W.item i s _ _ hg st fun v h' tk hv st' kk => ?_
    obtain ⟨t, rfl⟩ := hv
    have I1 : Inv X pins σ H { s with heap := h', toks := tk } := I.turned (fun b o hb e => kk b o (by simpa using hb) e) f0 f1 f3 f4 f5
    refine ⟨_, rfl, h2q (s := { s with heap := h', toks := tk }) (n := "range_iterator") st' rfl rfl (by decide) ⟨.int (lo + i), H, I1, ⟨t, ?_⟩, ⟨rfl, rfl⟩, st', fun b hb => (hf b hb).1⟩⟩
    rw [Int.mul_one]
  done := by
    intro X hP hw hK hc i pins s σ H E I hf st hg
    subst hP hw hK
    obtain ⟨f0, f1, f2, f3, f4, f5⟩ := hf it (by simp)
    exact wpAny_pyNext_range_end (I.ok.hd hc) st (by have : n <= i := hg; omega) fun h' eb => ⟨rfl, I.turned (t' := s.toks) (fun b o hb e => eb b o hb e) f0 f1 f3 f4 f5⟩
  self := fun _ _ _ _ _ st h => wpAny_pyIter_rangeiter st h
section
variable {X : Cx} {tg : Expr}
theorem iGq {pins : List (Addr × Obj)} {σ : St} {H : Hp} {s : Shared} {R : It -> Hp -> Prop} {E : Value -> Shared -> Prop} {lo hi : Int} {t u v : Tok} {tk : Nat} (I : Inv X pins σ H s) (h1 : -(2 ^ 62) <= lo) (h2 : lo < 2 ^ 62) (h3 : -(2 ^ 62) <= hi) (h4 : hi < 2 ^ 62)
    (q : R (Itr lo (hi - lo).toNat) H) : wpAny (model X.prog X.w) X.A (pyIter (.ref s.heap.objs.size)) (PIE X pins σ tg R) E { s with heap := s.heap.push { cls := .type "range", data := .fields #[.int lo t, .int hi u, .int 1 v] }, toks := tk } := by
  refine wpAny_pyIter_range (IsRange.new ..) (small_one h1 h2 h3 h4) ?_
  have I1 : Inv X pins σ H { s with heap := s.heap.push { cls := .type "range", data := .fields #[.int lo t, .int hi u, .int 1 v] }, toks := tk } := I.kept fun b o e => Heap.get?_push_of_some _ e
  refine ⟨(s.heap.push { cls := .type "range", data := .fields #[.int lo t, .int hi u, .int 1 v] }).objs.size, [(s.heap.push { cls := .type "range", data := .fields #[.int lo t, .int hi u, .int 1 v] }).objs.size], _, _, H, rfl,
    I1.kept (t' := tk) fun b o e => Heap.get?_push_of_some _ e, g4q _ lo (hi - lo).toNat, ?_, fun b hb => ?_, q⟩
  . have e1 : lo + ((0 : Nat) : Int) * 1 = lo := by simp
    have e2 : (((hi - lo).toNat : Nat) : Int) - ((0 : Nat) : Int) = Builtin.Range.rangeSize lo hi 1 := by rw [rangeSize_one]; split <;> omega
    show IsRangeIter _ _ (lo + ((0 : Nat) : Int) * 1) ((((hi - lo).toNat : Nat) : Int) - ((0 : Nat) : Int)) 1
    rw [e1, e2]
    exact Heap.get?_push_size _ rfl
  . have e : b = (s.heap.push { cls := .type "range", data := .fields #[.int lo t, .int hi u, .int 1 v] }).objs.size := by simpa using hb
    subst e
    exact I1.fpOk (Nat.le_refl _) (I1.hok.fresh (Nat.le_refl _))
def m3q (ta : TA) : TI := fun σ H R => ta σ H fun vs H1 => ∃ j : Int, vs = [.int j] /\ -(2 ^ 62) <= j /\ j < 2 ^ 62 /\ R (Itr 0 j.toNat) H1
theorem gLq {a : Expr} {ta : TA} {p pos : Pos} (hg : Gl X "range") (hm : X.mg "range" = none) (ha : PA X [a] ta) (hs : starEach [a] X.env = [(false, eval a X.env)] := by rfl) : PI X tg (.Call (.Name "range" p) [a] [] pos) (m3q ta) := by
  intro pins s σ H R I h
  refine Call_ (dJq I hg hm boot_range (PyProof.Rows.callWith_type1 (thn (ha pos pins s σ H _ I h) fun us s1 ⟨vs, H1, I1, r1, q1⟩ => ?_) hs rfl))
  obtain ⟨j, e, q1, q2, q⟩ := q1
  subst e
  cases r1 with
  | cons r rr =>
    cases rr
    obtain ⟨t, rfl⟩ := r
    exact call_range_1 (iGq I1 (by omega) (by omega) q1 q2 (by simpa using q))
def qLq (wi : TI) (g : TG) (tb : TS) : TS := fun D σ H => wi σ H fun J H1 => ∃ W : Nat -> Nat -> St -> Hp -> Prop, (∃ m, W 0 m σ H1) /\ ∀ i m σ H, W i m σ H →
  (J.stop i H /\ D.nx σ H) \/ (J.go i H /\ ∃ N : St -> Hp -> Prop, (∀ σ' H', N σ' H' -> ∃ m', m' < m /\ W (i + 1) m' σ' H') /\ ∀ x H', J.yld i H x H' -> g x σ H' fun σ2 H2 => tb { D with nx := N, ct := N, bk := D.nx } σ2 H2)
def fTq (fp : List Addr) (h : Heap) : List (Addr × Obj) := fp.filterMap fun b => (h.get? b).map fun o => (b, o)
theorem bMq {fp : List Addr} {h : Heap} {b : Addr} {o : Obj} (hb : b ∈ fp) (e : h.get? b = some o) : (b, o) ∈ fTq fp h := List.mem_filterMap.mpr ⟨b, hb, by rw [e]; rfl⟩
theorem hGq {fp : List Addr} {h : Heap} {p : Addr × Obj} (hp : p ∈ fTq fp h) : p.1 ∈ fp /\ h.get? p.1 = some p.2 := by
  obtain ⟨b, hb, e⟩ := List.mem_filterMap.mp hp
  cases q : h.get? b with
  | none => rw [q] at e; cases e
  | some o =>
    rw [q] at e
    have e' : (b, o) = p := Option.some.inj e
    subst e'
    exact ⟨hb, q⟩
theorem Inv.pinned {pins : List (Addr × Obj)} {σ : St} {H : Hp} {s : Shared} {fp : List Addr} (I : Inv X pins σ H s) (hf : ∀ b ∈ fp, gDq X pins H b) (ho : ∀ b ∈ fp, ∃ o, s.heap.get? b = some o /\ ∀ v, o.data ≠ .cell v) : Inv X (pins ++ fTq fp s.heap) σ H s :=
  I.pins_of fun p hp => (List.mem_append.mp hp).elim (fun z => I.pin p (List.mem_append_right _ z)) fun z => by
    obtain ⟨hb, e⟩ := hGq z
    obtain ⟨f0, f1, f2, _⟩ := hf p.1 hb
    obtain ⟨o, e', d⟩ := ho p.1 hb
    rw [e] at e'; cases e'
    exact ⟨e, f0, f1, f2, d⟩
theorem Inv.unpinned {pins pl : List (Addr × Obj)} {σ : St} {H : Hp} {s : Shared} (I : Inv X (pins ++ pl) σ H s) : Inv X pins σ H s := I.pins_of fun p hp => I.pin p (List.mem_append_right _ (List.mem_append_left _ hp))
theorem oFq {iter : Expr} {body : List Stmt} {wi : TI} {g : TG} {tb : TS} {pos : Pos} (hp : PassesOwn (model X.prog X.w) X.A X.env X.xe) (hc : X.calm = true) (hi : PI X tg iter wi) (hg : PG X tg g) (hb : PSs X body tb)
    (hs : ∀ x, foldedSetIterable iter X.env x = pure x := by intro _; rfl) : PS X (.For tg iter body [] pos) (qLq wi g tb) := by
  intro pins s σ H D I h
  refine wpAny_For (thn (hi pins s σ H _ I h) fun v s1 h1 => thn h1 fun itv s2 h2 => ?_) hs
  obtain ⟨it, fp, tn, J, H2, e, I2, T, st2, f2, W, ⟨m0, w0⟩, turn⟩ := h2
  subst e
  have stat : ∀ {H' : Hp}, (∀ b ∈ fp, H' b = none) -> ∀ b ∈ fp, gDq X pins H' b := fun hn b hb => ⟨hn b hb, (f2 b hb).2⟩
  refine codeAny_forLoop_any (fun n s' => ∃ i σ' H', Inv X pins σ' H' s' /\ tn i s'.heap /\ (∀ b ∈ fp, H' b = none) /\ W i n σ' H') ?_ m0 ⟨0, σ, H2, I2, st2, fun b hb => (f2 b hb).1, w0⟩
  rintro n s3 ⟨i, σ3, H3, I3, st3, fr3, w3⟩
  rcases turn i n σ3 H3 w3 with ⟨stop, qn⟩ | ⟨go, N, hN, step⟩
  . refine wpAny_passesOwn hp (thn (T.done X rfl rfl rfl hc i pins s3 σ3 H3 X.xe I3 (stat fr3) st3 stop) fun r s4 ⟨hr, I4⟩ => ?_)
    subst hr
    exact wpAny_execs_nil ⟨σ3, H3, I4, qn⟩
  . refine wpAny_passesOwn hp (thn (T.item X rfl rfl rfl hc i pins s3 σ3 H3 X.xe I3 (stat fr3) st3 go) fun r s4 ⟨u, hr, h4⟩ => ?_)
    subst hr
    refine wpAny_passesOwn hp (thn h4 fun _ s5 ⟨x, H5, I5, r5, y5, st5, fr5⟩ => ?_)
    have I5' := I5.pinned (stat fr5) (T.obj _ _ st5)
    refine wpAny_passesOwn hp (thn (hg _ s5 σ3 H5 x u _ I5' r5 (step x H5 y5)) fun _ s6 ⟨σ6, H6, I6, q6⟩ => ?_)
    refine wpAny_passesOwn hp (thn (hb _ s6 σ6 H6 _ I6 q6) fun f s7 q7 => ?_)
    have again : ∀ {σ7 : St} {H7 : Hp}, Inv X (pins ++ fTq fp s5.heap) σ7 H7 s7 -> N σ7 H7 -> ∃ m, m < n /\ ∃ i σ' H', Inv X pins σ' H' s7 /\ tn i s7.heap /\ (∀ b ∈ fp, H' b = none) /\ W i m σ' H' := fun {σ7 H7} I7 n7 => by
      obtain ⟨m', hm, w7⟩ := hN σ7 H7 n7
      refine ⟨m', hm, i + 1, σ7, H7, I7.unpinned, T.keep _ _ _ st5 fun b hb o e => (I7.pin (b, o) (List.mem_append_right _ (List.mem_append_right _ (bMq hb e)))).1, fun b hb => ?_, w7⟩
      obtain ⟨o, e, d⟩ := T.obj _ _ st5 b hb
      exact (I7.pin (b, o) (List.mem_append_right _ (List.mem_append_right _ (bMq hb e)))).2.1
    cases f with
    | next => obtain ⟨σ7, H7, I7, n7⟩ := q7; exact again I7 n7
    | cont => obtain ⟨σ7, H7, I7, n7⟩ := q7; exact again I7 n7
    | brk => obtain ⟨σ7, H7, I7, q7⟩ := q7; exact ⟨σ7, H7, I7.unpinned, q7⟩
    | ret v => obtain ⟨x7, σ7, H7, I7, r7, q7⟩ := q7; exact ⟨x7, σ7, H7, I7.unpinned, r7, q7⟩
end
abbrev R2 := V -> V -> Hp -> VK -> Prop
def OpR (X : Cx) (f : Value -> Value -> Sem Value) (r : R2) : Prop :=
  ∀ (pins : List (Addr × Obj)) (s : Shared) (σ : St) (H : Hp) (x y : V) (v u : Value) (Q : VK), Inv X pins σ H s -> RelV x v -> RelV y u -> r x y H Q →
    wpAny (model X.prog X.w) X.A (f v u) (EP X pins σ Q) X.xe s
def UnR (X : Cx) (f : Value -> Sem Value) (r : V -> Hp -> VK -> Prop) : Prop :=
  ∀ (pins : List (Addr × Obj)) (s : Shared) (σ : St) (H : Hp) (x : V) (v : Value) (Q : VK), Inv X pins σ H s -> RelV x v -> r x H Q →
    wpAny (model X.prog X.w) X.A (f v) (EP X pins σ Q) X.xe s
def CallR (X : Cx) (f : Value) (r : List V -> Hp -> VK -> Prop) : Prop :=
  ∀ (pins : List (Addr × Obj)) (s : Shared) (σ : St) (H : Hp) (xs : List V) (us : List Value) (Q : VK), Inv X pins σ H s -> Vals xs us -> r xs H Q →
    wpAny (model X.prog X.w) X.A (call f us) (EP X pins σ Q) X.xe s
def r5q (X : Cx) (r : V -> Hp -> (Bool -> Hp -> Prop) -> Prop) : Prop :=
  ∀ (pins : List (Addr × Obj)) (s : Shared) (σ : St) (H : Hp) (x : V) (v : Value) (Q : Bool -> Hp -> Prop), Inv X pins σ H s -> RelV x v -> r x H Q →
    wpAny (model X.prog X.w) X.A (truthy v) (TP X pins σ Q) X.xe s
def tOp (r : R2) (ta tb : TE) : TE := fun σ H Q => ta σ H fun x H1 => tb σ H1 fun y H2 => r x y H2 Q
def tUn (r : V -> Hp -> VK -> Prop) (ta : TE) : TE := fun σ H Q => ta σ H fun x H1 => r x H1 Q
def rI (C : Int -> Int -> Prop) (g : Int -> Int -> V) : R2 := fun x y H Q => ∃ i j, x = .int i /\ y = .int j /\ C i j /\ Q (g i j) H
def rI0 (g : Int -> Int -> V) : R2 := fun x y H Q => ∃ i j, x = .int i /\ y = .int j /\ Q (g i j) H
def rU (g : Int -> V) : V -> Hp -> VK -> Prop := fun x H Q => ∃ i, x = .int i /\ Q (g i) H
section
variable {X : Cx} {a b c : Expr} {ta tb tc : TE} {pos : Pos}
theorem q1q (ha : PE X a ta) (hb : PE X b tb) {pins : List (Addr × Obj)} {s : Shared} {σ : St} {H : Hp} {R : V -> V -> Hp -> Prop} (I : Inv X pins σ H s)
    (h : ta σ H fun x H1 => tb σ H1 fun y H2 => R x y H2) {Q : Value -> Shared -> Prop} {f : Value -> Value -> Sem Value}
    (hf : ∀ v u s2 x y H2, Inv X pins σ H2 s2 -> RelV x v -> RelV y u -> R x y H2 -> wpAny (model X.prog X.w) X.A (f v u) Q X.xe s2) :
    wpAny (model X.prog X.w) X.A (eval a X.env) (fun v s₁ => wpAny (model X.prog X.w) X.A (eval b X.env) (fun u s₂ => wpAny (model X.prog X.w) X.A (f v u) Q X.xe s₂) X.xe s₁) X.xe s := by
  refine thn (ha pins s σ H _ I h) fun v s1 ⟨x, H1, I1, r1, q1⟩ => ?_
  refine thn (hb pins s1 σ H1 _ I1 q1) fun u s2 ⟨y, H2, I2, r2, q2⟩ => ?_
  exact hf v u s2 x y H2 I2 r1 r2 q2
theorem pEq {op : Operator} {r : R2} (ho : OpR X (binaryOp op) r) (ha : PE X a ta) (hb : PE X b tb) : PE X (.BinOp a op b pos) (tOp r ta tb) := by
  intro pins s σ H Q I h
  exact wpAny_BinOp (q1q ha hb I h fun v u s2 x y H2 I2 rx ry q => ho pins s2 σ H2 x y v u Q I2 rx ry q)
theorem q3q {op : UnaryOp} {r : V -> Hp -> VK -> Prop} (ho : UnR X (unaryOp op) r) (ha : PE X a ta) : PE X (.UnaryOp op a pos) (tUn r ta) := by
  intro pins s σ H Q I h
  exact UnaryOp_ (thn (ha pins s σ H _ I h) fun v s1 ⟨x, H1, I1, r1, q1⟩ => ho pins s1 σ H1 x v Q I1 r1 q1)
theorem opI {f : Value -> Value -> Sem Value} {C : Int -> Int -> Prop} {g : Int -> Int -> Int}
    (rule : ∀ (i j : Int) (t u : Tok) (s : Shared) (Q : Value -> Shared -> Prop) (E : Value -> Shared -> Prop), C i j -> Q (.int (g i j) s.toks) { s with toks := s.toks + 1 } -> wpAny (model X.prog X.w) X.A (f (.int i t) (.int j u)) Q E s) :
    OpR X f (rI C fun i j => .int (g i j)) := by
  intro pins s σ H x y v u Q I rx ry h
  obtain ⟨i, j, rfl, rfl, hc, q⟩ := h
  obtain ⟨t, rfl⟩ := rx
  obtain ⟨t', rfl⟩ := ry
  exact rule i j t t' s _ _ hc ⟨.int (g i j), H, I.tok _, ⟨_, rfl⟩, q⟩
theorem qJq {f : Value -> Value -> Sem Value} {g : Int -> Int -> Int}
    (rule : ∀ (i j : Int) (t u : Tok) (s : Shared) (Q : Value -> Shared -> Prop) (E : Value -> Shared -> Prop), Q (.int (g i j) s.toks) { s with toks := s.toks + 1 } -> wpAny (model X.prog X.w) X.A (f (.int i t) (.int j u)) Q E s) :
    OpR X f (rI0 fun i j => .int (g i j)) := by
  intro pins s σ H x y v u Q I rx ry h
  obtain ⟨i, j, rfl, rfl, q⟩ := h
  obtain ⟨t, rfl⟩ := rx
  obtain ⟨t', rfl⟩ := ry
  exact rule i j t t' s _ _ ⟨.int (g i j), H, I.tok _, ⟨_, rfl⟩, q⟩
theorem oRq {f : Value -> Value -> Sem Value} {g : Int -> Int -> Bool}
    (rule : ∀ (i j : Int) (t u : Tok) (s : Shared) (Q : Value -> Shared -> Prop) (E : Value -> Shared -> Prop), Q (.bool (g i j)) s -> wpAny (model X.prog X.w) X.A (f (.int i t) (.int j u)) Q E s) :
    OpR X f (rI0 fun i j => .bl (g i j)) := by
  intro pins s σ H x y v u Q I rx ry h
  obtain ⟨i, j, rfl, rfl, q⟩ := h
  obtain ⟨t, rfl⟩ := rx
  obtain ⟨t', rfl⟩ := ry
  exact rule i j t t' s _ _ ⟨.bl (g i j), H, I, rfl, q⟩
def qYq (i j : Int) : Prop := 0 <= j /\ j <= 1000000 /\ i.natAbs < 2 ^ 64
def CMul (i j : Int) : Prop := (-(2 ^ 64) < i /\ i < 2 ^ 64) \/ (-(2 ^ 64) < j /\ j < 2 ^ 64)
theorem CMul.ok {i j : Int} (h : CMul i j) : IntMulOk i j := by
  rcases h with ⟨h1, h2⟩ | ⟨h1, h2⟩
  . exact .of_left (intBits_le_64 h1 h2)
  . exact .of_right (intBits_le_64 h1 h2)
theorem op_add : OpR X (binaryOp .Add) (rI0 fun i j => .int (i + j)) := qJq fun _ _ _ _ _ _ _ q => add_int q
theorem mZq : OpR X (binaryOp .Sub) (rI0 fun i j => .int (i - j)) := qJq fun _ _ _ _ _ _ _ q => sub_int q
theorem n2q : OpR X (binaryOp .Mult) (rI CMul fun i j => .int (i * j)) := opI fun _ _ _ _ _ _ _ hc q => mul_int q hc.ok
theorem nIq : OpR X (binaryOp .Mod) (rI (fun _ j => 0 < j) fun i j => .int (i % j)) := opI fun i j _ _ _ _ _ hc q => by
  have h1 : (0 : Int) < j := hc
  exact mod_int' (by omega) (by rw [Int.fmod_eq_emod_of_nonneg i (by omega)]; exact q)
theorem lPq : OpR X (binaryOp .Pow) (rI qYq fun i j => .int (i ^ j.toNat)) := opI fun _ _ _ _ _ _ _ hc q => pow_int_small hc.1 hc.2.1 hc.2.2 q
theorem unI {f : Value -> Sem Value} {g : Int -> Int}
    (rule : ∀ (i : Int) (t : Tok) (s : Shared) (Q : Value -> Shared -> Prop) (E : Value -> Shared -> Prop), Q (.int (g i) s.toks) { s with toks := s.toks + 1 } -> wpAny (model X.prog X.w) X.A (f (.int i t)) Q E s) :
    UnR X f (rU fun i => .int (g i)) := by
  intro pins s σ H x v Q I rx h
  obtain ⟨i, rfl, q⟩ := h
  obtain ⟨t, rfl⟩ := rx
  exact rule i t s _ _ ⟨.int (g i), H, I.tok _, ⟨_, rfl⟩, q⟩
theorem oPq : UnR X (unaryOp .USub) (rU fun i => .int (-i)) := unI fun _ _ _ _ _ q => neg_int q
end
section
variable {X : Cx} {a b c : Expr} {ta tb tc : TE} {pos : Pos}
theorem o6q {pins : List (Addr × Obj)} {σ : St} {H : Hp} {s : Shared} {Q : VK} {k k' : Bool} (I : Inv X pins σ H s) (q : Q (.bl k) H) (e : k = k') : EP X pins σ Q (.bool k') s := by
  subst e
  exact ⟨.bl k, H, I, rfl, q⟩
theorem q8q : OpR X (compareOp .Lt) (rI0 fun i j => .bl (decide (i < j))) := oRq fun _ _ _ _ _ _ _ q => lt_int q
theorem qAq : OpR X (compareOp .LtE) (rI0 fun i j => .bl (decide (i <= j))) := oRq fun _ _ _ _ _ _ _ q => le_int q
theorem q2q : OpR X (compareOp .Gt) (rI0 fun i j => .bl (decide (j < i))) := oRq fun _ _ _ _ _ _ _ q => gt_int q
theorem pNq : OpR X (compareOp .GtE) (rI0 fun i j => .bl (decide (j <= i))) := oRq fun _ _ _ _ _ _ _ q => ge_int q
theorem i3q : OpR X (compareOp .In) (fun x y H Q => ∃ i j, x = .str i /\ y = .str j /\ Q (.bl (!(Builtin.Str.occurrences j i 0 j.length 1).isEmpty)) H) := by
  intro pins s σ H x y v u Q I rx ry h
  obtain ⟨i, j, rfl, rfl, q⟩ := h
  obtain ⟨t, rfl⟩ := rx
  obtain ⟨t', rfl⟩ := ry
  exact in_str (o6q I q rfl)
theorem OpR.or {f : Value -> Value -> Sem Value} {r r' : R2} (h : OpR X f r) (h' : OpR X f r') : OpR X f (fun x y H Q => r x y H Q \/ r' x y H Q) := by
  intro pins s σ H x y v u Q I rx ry q
  rcases q with q | q
  . exact h pins s σ H x y v u Q I rx ry q
  . exact h' pins s σ H x y v u Q I rx ry q
theorem aTq (b : Expr) {op : CmpOp} (h : op ≠ .In := by decide) (h2 : op ≠ .NotIn := by decide) : behindInMarks op b = false := by
  have e1 : (op == CmpOp.In) = false := by cases op <;> first | rfl | exact absurd rfl h
  have e2 : (op == CmpOp.NotIn) = false := by cases op <;> first | rfl | exact absurd rfl h2
  cases b <;> simp [behindInMarks, e1, e2]
theorem kRq {op : CmpOp} {r : R2} (ho : OpR X (compareOp op) r) (ha : PE X a ta) (hb : PE X b tb) (hm : behindInMarks op b = false) : PE X (.Compare a [op] [b] pos) (tOp r ta tb) := by
  intro pins s σ H Q I h
  exact wpAny_Compare1 (q1q ha hb I h fun v u s2 x y H2 I2 rx ry q => ho pins s2 σ H2 x y v u Q I2 rx ry q) hm
def kTq (t : TE) : TT := fun σ H Q => t σ H fun x H' => ∃ k, x = .bl k /\ Q k H'
theorem lDq {op : CmpOp} {r : R2} (ho : OpR X (compareOp op) r) (ha : PE X a ta) (hb : PE X b tb) (hm : behindInMarks op b = false) : PT X (.Compare a [op] [b] pos) (kTq (tOp r ta tb)) := by
  intro pins s σ H Q I h
  refine wpAny_isTrue_Compare1 (thn (ha pins s σ H _ I h) fun v s1 ⟨x, H1, I1, r1, q1⟩ => thn (hb pins s1 σ H1 _ I1 q1) fun u s2 ⟨y, H2, I2, r2, q2⟩ =>
    thn (ho pins s2 σ H2 x y v u _ I2 r1 r2 q2) fun c s3 ⟨z, H3, I3, r3, k, e, q3⟩ => ?_) hm
  subst e
  cases r3
  exact wpAny_truthy_bool ⟨H3, I3, q3⟩
def jBq (r r' : R2) (ta tb tc : TE) : TE := fun σ H Q => ta σ H fun x H1 => tb σ H1 fun y H2 => r x y H2 fun z H3 => ∃ k, z = .bl k ∧
  (if k = true then tc σ H3 fun w' H4 => r' y w' H4 Q else Q (.bl false) H3)
theorem iDq {op op' : CmpOp} {r r' : R2} (ho : OpR X (compareOp op) r) (ho' : OpR X (compareOp op') r') (ha : PE X a ta) (hb : PE X b tb) (hc : PE X c tc)
    (hm : lastMarks [op, op'] [b, c] = false := by with_unfolding_all rfl) : PE X (.Compare a [op, op'] [b, c] pos) (jBq r r' ta tb tc) := by
  intro pins s σ H Q I h
  refine Compare_chain (thn (ha pins s σ H _ I h) fun v s1 ⟨x, H1, I1, r1, q1⟩ => chain_link (thn (hb pins s1 σ H1 _ I1 q1) fun u s2 ⟨y, H2, I2, r2, q2⟩ =>
    thn (ho pins s2 σ H2 x y v u _ I2 r1 r2 q2) fun d s3 ⟨z, H3, I3, r3, k, e, q3⟩ => ?_)) hm
  subst e
  cases r3
  refine wpAny_truthy_bool ?_
  cases k with
  | false => exact ite_ff ⟨.bl false, H3, I3, rfl, q3⟩
  | true => exact ite_tt (chain_last (thn (hc pins s3 σ H3 _ I3 q3) fun w' s4 ⟨z', H4, I4, r4, q4⟩ => ho' pins s4 σ H4 y z' u w' Q I4 r2 r4 q4))
theorem i9q {op op' : CmpOp} {r r' : R2} (ho : OpR X (compareOp op) r) (ho' : OpR X (compareOp op') r') (ha : PE X a ta) (hb : PE X b tb) (hc : PE X c tc)
    (hm : lastMarks [op, op'] [b, c] = false := by with_unfolding_all rfl) : PT X (.Compare a [op, op'] [b, c] pos) (kTq (jBq r r' ta tb tc)) := by
  intro pins s σ H Q I h
  refine isTrue_chain (thn (ha pins s σ H _ I h) fun v s1 ⟨x, H1, I1, r1, q1⟩ => test_link (thn (hb pins s1 σ H1 _ I1 q1) fun u s2 ⟨y, H2, I2, r2, q2⟩ =>
    thn (ho pins s2 σ H2 x y v u _ I2 r1 r2 q2) fun d s3 ⟨z, H3, I3, r3, k, e, q3⟩ => ?_)) hm
  subst e
  cases r3
  refine wpAny_truthy_bool ?_
  cases k with
  | false =>
    obtain ⟨k', e', q'⟩ := q3
    cases e'
    exact ite_ff ⟨H3, I3, q'⟩
  | true =>
    refine ite_tt (test_last (thn (hc pins s3 σ H3 _ I3 q3) fun w' s4 ⟨z', H4, I4, r4, q4⟩ => thn (ho' pins s4 σ H4 y z' u w' _ I4 r2 r4 q4) fun d' s5 ⟨z2, H5, I5, r5, k2, e2, q5⟩ => ?_))
    subst e2
    cases r5
    exact wpAny_truthy_bool ⟨H5, I5, q5⟩
def p0q (K : PySem.W.Frag) (x : V) (H : Hp) (k : Bool) : Prop :=
  match x with
  | .non => k = false
  | .bl b => k = b
  | .int i => k = (i != 0)
  | .str y => y.length <= sizeLine /\ k = ((y.length : Int) != 0)
  | .byt y => y.size <= sizeLine /\ k = ((y.size : Int) != 0)
  | .ref p => (∃ xs, SqL K H p xs /\ k = !xs.isEmpty) \/ (∃ xs, SqT K H p xs /\ k = !xs.isEmpty) \/ ∃ kvs, H p = some (.dK kvs) /\ k = !kvs.isEmpty
  | _ => False
theorem g6q {κ : Type} {kvs : List (κ × V)} {vs : List (κ × Value)} (r : KV kvs vs) : (!vs.isEmpty) = !kvs.isEmpty := by
  cases r <;> rfl
theorem dKq {xs : List V} {its : List Value} (r : Vals xs its) : (!its.toArray.isEmpty) = !xs.isEmpty := by
  cases r <;> simp
theorem cBq : (sizeLine : Nat) < 2 ^ 63 := by rw [sizeLine_eq]; decide
theorem mFq : r5q X (fun x H Q => ∃ k, p0q X.K x H k /\ Q k H) := by
  intro pins s σ H x v Q I rx h
  obtain ⟨k, e, q⟩ := h
  have hl := cBq
  have hs : sizeLine = 16777216 := sizeLine_eq
  cases x with
  | non =>
    cases rx
    have e' : k = false := e
    subst e'
    exact truthy_none ⟨H, I, q⟩
  | bl b =>
    cases rx
    have e' : k = b := e
    subst e'
    exact wpAny_truthy_bool ⟨H, I, q⟩
  | int i =>
    obtain ⟨t, rfl⟩ := rx
    have e' : k = (i != 0) := e
    subst e'
    exact PySem.P.truthy_int ⟨H, I, q⟩
  | str y =>
    obtain ⟨t, rfl⟩ := rx
    obtain ⟨hy, e'⟩ : y.length <= sizeLine /\ k = ((y.length : Int) != 0) := e
    subst e'
    exact PySem.P.truthy_str (by omega) ⟨H, I.tok _, q⟩
  | byt y =>
    obtain ⟨t, rfl⟩ := rx
    obtain ⟨hy, e'⟩ : y.size <= sizeLine /\ k = ((y.size : Int) != 0) := e
    subst e'
    exact PySem.W.truthy_bytes (by omega) ⟨H, I.tok _, q⟩
  | ref p =>
    cases rx
    have e' : (∃ xs, SqL X.K H p xs /\ k = !xs.isEmpty) \/ (∃ xs, SqT X.K H p xs /\ k = !xs.isEmpty) \/ ∃ kvs, H p = some (.dK kvs) /\ k = !kvs.isEmpty := e
    rcases e' with ⟨xs, hx, e'⟩ | ⟨xs, hx, e'⟩ | ⟨kvs, hx, e'⟩
    . subst e'
      obtain ⟨its, r, pl, hz⟩ := I.list hx
      have hlen := r.length
      exact wpAny_truthy_list pl.isList (by simp only [List.size_toArray]; omega) ⟨H, I.tok _, by rw [dKq r]; exact q⟩
    . subst e'
      obtain ⟨its, r, pl, hz⟩ := I.tuple hx
      have hlen := r.length
      exact truthy_tuple pl (by simp only [List.size_toArray]; omega) ⟨H, I.tok _, by rw [dKq r]; exact q⟩
    . subst e'
      obtain ⟨hz, hS, vs, r, m⟩ : kvs.length <= sizeLine /\ (p == sysModules) = false /\ ∃ vs, KV kvs vs /\ s.heap.DictOf (f7q X.prog X.w) p vs := I.hok p _ hx
      have hlen : kvs.length = vs.length := Paired.length r
      exact wpAny_truthy_dict hS m (by omega) ⟨H, I.tok _, by rw [g6q r]; exact q⟩
  | _ => exact (show False from e).elim
theorem iLq (ha : PE X a ta) (he : ∀ whole, isTrue a X.env whole = (do let v ← whole; standAt a.pos; holding [v] (truthy v))) :
    PT X a (fun σ H Q => ta σ H fun x H' => ∃ k, p0q X.K x H' k /\ Q k H') := by
  intro pins s σ H Q I h
  exact isTrue_plain (thn (ha pins s σ H _ I h) fun v s1 ⟨x, H1, I1, r1, q1⟩ => mFq pins s1 σ H1 x v Q I1 r1 q1) (he _)
theorem op_add_str : OpR X (binaryOp .Add) (fun x y H Q => ∃ i j, x = .str i /\ y = .str j /\ i.length + j.length <= sizeLine /\ Q (.str (i ++ j)) H) := by
  intro pins s σ H x y v u Q I rx ry h
  obtain ⟨i, j, rfl, rfl, hz, q⟩ := h
  obtain ⟨t, rfl⟩ := rx
  obtain ⟨t', rfl⟩ := ry
  exact add_str (fun t' tk => ⟨.str (i ++ j), H, I.tok _, ⟨_, rfl⟩, q⟩) hz
theorem iXq {x : V} {us : List Value} (r : Vals [x] us) : ∃ u, us = [u] /\ RelV x u := by
  cases r with
  | cons r1 r2 => cases r2; exact ⟨_, rfl, r1⟩
theorem eLq : CallR X (.type "str") (fun xs H Q => ∃ i, xs = [.int i] /\ i.natAbs.log2 < 1920 /\ Q (.str (toString i)) H) := by
  intro pins s σ H xs us Q I r h
  obtain ⟨i, rfl, hz, q⟩ := h
  obtain ⟨u, rfl, t, rfl⟩ := iXq r
  exact PySem.P.str_of_int hz ⟨.str _, H, I.tok _, ⟨_, rfl⟩, q⟩
end
structure ObjM (h : Heap) (x dx C : Addr) (mA : Str -> Option Value) : Prop where
  obj : h.get? x = some (PySem.W.instObj C dx)
  ns : h.Ns1 dx mA
  ne : dx ≠ x
theorem gNq {h : Heap} {dx : Addr} {mA : Str -> Option Value} (n : h.Ns1 dx mA) : ∃ od, h.get? dx = some od /\ ∀ name, PySem.W.lookIn name od = some (mA name) := by
  obtain ⟨o, es, ep, ho, hd, hk, _, hm⟩ := n
  refine ⟨o, ho, fun name => ?_⟩
  have e := hm name
  unfold nsFind findBy at e
  rw [<- Array.find?_toList] at e
  unfold PySem.W.lookIn
  rw [hd]
  dsimp only
  split
  . rename_i y q
    rw [q] at e
    exact congrArg some e
  . rename_i q
    rw [q] at e
    have a : es.toList.any (·.refKey) = false := by
      rw [List.any_eq_false]
      intro y hy
      obtain ⟨z, t, hkey⟩ := hk y (Array.mem_toList_iff.mp hy)
      simp [DictEntry.refKey, hkey]
    have a' : ¬ es.toList.any (·.refKey) = true := by rw [a]; exact Bool.false_ne_true
    rw [if_neg a']
    exact congrArg some e
theorem ObjM.look {h : Heap} {x dx C : Addr} {mA : Str -> Option Value} (I : ObjM h x dx C mA) : ∃ od, PySem.W.InstAt h x (PySem.W.instObj C dx) C (some od) /\ ∀ name, PySem.W.lookIn name od = some (mA name) :=
  let ⟨od, ho, hl⟩ := gNq I.ns
  ⟨od, ⟨I.obj, rfl, rfl, ho⟩, hl⟩
section
variable {prog : Program} {w : World} {A : Around} {E : Value -> Shared -> Prop} {s : Shared} {K : PySem.W.Frag} {x dx C f : Addr} {mA : Str -> Option Value} {name : Str} {v : Value}
end
section
variable {P : Program} {w : World} {H H' : Hp} {h h' : Heap} {a C dx : Addr} {fs fs' : List (Str × V)}
theorem k5q (hok : HOk P w H h) (e : H a = some (.ins C dx fs)) : ∃ mA, ObjM h a dx C mA /\ (∀ f, RelO (fs.lookup f) (mA f)) /\ PySem.Within mA (fs.map (·.1)) /\ fs.length <= 1000 /\ H dx = some (.own a) := by
  obtain ⟨d, z, ne, ob, mA, n, r, q⟩ := (show ObjOk P w H h a (.ins C dx fs) from hok a _ e)
  exact ⟨mA, ⟨ob, n, ne⟩, r, q, z, d⟩
end
structure Cls (K : PySem.W.Frag) (C : Addr) : Prop where
  pg : PySem.W.plainGet K C Str.empty = true
  hd : PySem.W.hasDictIn K C = true
  po : PySem.W.plainOver K C = true
  sa : PySem.W.findIn K (.ref C) "__setattr__" = some (some (.builtin "object.__setattr__"))
theorem Cls.get {K : PySem.W.Frag} {C : Addr} (c : Cls K C) (f : Str) : PySem.W.plainGet K C f = true := c.pg
section
variable {X : Cx} {pins : List (Addr × Obj)} {σ : St} {H : Hp} {s : Shared} {a C dx : Addr} {fs : List (Str × V)} {f : Str} {v : V} {A : Around} {E : Value -> Shared -> Prop}
end
section
variable {X : Cx} {o e value : Expr} {f : Str} {pos pos' tpos : Pos} {ta tv : TE}
end
section
variable {X : Cx} {pins : List (Addr × Obj)} {σ : St} {H : Hp} {s : Shared} {A : Around} {E : Value -> Shared -> Prop} {Q : Value -> Shared -> Prop} {c : Value} {b : Bool}
inductive TyOf (K : PySem.W.Frag) (H : Hp) : V -> Value -> Prop where
  | non : TyOf K H .non (.type "NoneType")
  | bl (x : Bool) : TyOf K H (.bl x) (.type "bool")
  | int (i : Int) : TyOf K H (.int i) (.type "int")
  | str (x : Str) : TyOf K H (.str x) (.type "str")
  | flt (x : UInt64) : TyOf K H (.flt x) (.type "float")
  | lst {a : Addr} {xs : List V} (e : H a = some (.lst xs)) : TyOf K H (.ref a) (.type "list")
  | frz {a : Addr} {o : Obj} {xs : List V} (e : H a = some (.frz o (.lst xs))) : TyOf K H (.ref a) (.type "list")
  | tup {a : Addr} {xs : List V} (e : H a = some (.tup xs)) : TyOf K H (.ref a) (.type "tuple")
  | dK {a : Addr} {kvs : List (Key × V)} (e : H a = some (.dK kvs)) : TyOf K H (.ref a) (.type "dict")
  | dT {a : Addr} {kvs : List (List Key × V)} (e : H a = some (.dT kvs)) : TyOf K H (.ref a) (.type "dict")
  | ins {a C dx : Addr} {fs : List (Str × V)} (e : H a = some (.ins C dx fs)) (cl : Cls K C) (ha : PySem.W.findIn K (.ref C) "__class__" = some (some (.builtin "object.__class__")))
      (hn : PySem.W.specialIn K (.builtin "object.__class__") "__get__" = some (some (.builtin "getset_descriptor.__get__"))) (htk : PySem.W.takesIn K (.builtin "object.__class__") = some true)
      (hm : PySem.W.mroIn K C (.type "object") = some true) : TyOf K H (.ref a) (.ref C)
theorem gYq {x : V} {u t : Value} (I : Inv X pins σ H s) (rx : RelV x u) (ty : TyOf X.K H x t) (e : PySem.W.kitOne X.K t c = some b) (h : ∀ tk, Q (.bool b) { s with toks := tk }) :
    wpAny (model X.prog X.w) A (call (.builtin "isinstance") [u, c]) Q E s := by
  cases ty with
  | non => cases (show u = Value.none from rx); exact PySem.W.kia_one PySem.W.kitx_none I.kIn True.intro e (fun z => nomatch z) h
  | bl y => cases (show u = Value.bool y from rx); exact PySem.W.kia_one PySem.W.kitx_bool I.kIn True.intro e (fun z => nomatch z) h
  | int i => obtain ⟨t, q⟩ := (show ∃ t, u = Value.int i t from rx); cases q; exact PySem.W.kia_one PySem.W.kitx_int I.kIn True.intro e (fun z => nomatch z) h
  | str y => obtain ⟨t, q⟩ := (show ∃ t, u = Value.str y t from rx); cases q; exact PySem.W.kia_one PySem.W.kitx_str I.kIn True.intro e (fun z => nomatch z) h
  | flt y => obtain ⟨t, q⟩ := (show ∃ t, u = Value.float y t from rx); cases q; exact PySem.W.kia_one PySem.W.kitx_float I.kIn True.intro e (fun z => nomatch z) h
  | @lst a xs ea =>
    cases (show u = Value.ref a from rx)
    obtain ⟨_, _, n, _, h1⟩ := (show ObjOk X.prog X.w H s.heap a (.lst xs) from I.hok a _ ea)
    exact PySem.W.kia_one PySem.W.kitx_list I.kIn ⟨_, h1, rfl⟩ e (fun z => nomatch z) h
  | @frz a ob xs ea =>
    cases (show u = Value.ref a from rx)
    obtain ⟨_, _, _, n, _, h1⟩ := (show ObjOk X.prog X.w H s.heap a (.frz ob (.lst xs)) from I.hok a _ ea)
    exact PySem.W.kia_one PySem.W.kitx_list I.kIn ⟨_, h1, rfl⟩ e (fun z => nomatch z) h
  | @tup a xs ea =>
    cases (show u = Value.ref a from rx)
    obtain ⟨_, _, _, p⟩ := (show ObjOk X.prog X.w H s.heap a (.tup xs) from I.hok a _ ea)
    obtain ⟨o, h1, h2, _⟩ := p
    exact PySem.W.kia_one PySem.W.kitx_tuple I.kIn ⟨o, h1, h2⟩ e (fun z => nomatch z) h
  | @dK a kvs ea =>
    cases (show u = Value.ref a from rx)
    obtain ⟨_, _, vs, _, p⟩ := (show ObjOk X.prog X.w H s.heap a (.dK kvs) from I.hok a _ ea)
    obtain ⟨o, es, ep, h1, h2, _⟩ := p
    exact PySem.W.kia_one PySem.W.kitx_dict I.kIn ⟨o, h1, h2.1⟩ e (fun z => nomatch z) h
  | @dT a kvs ea =>
    cases (show u = Value.ref a from rx)
    obtain ⟨_, _, xs, _, o, es, ep, h1, h2, _⟩ := (show ObjOk X.prog X.w H s.heap a (.dT kvs) from I.hok a _ ea)
    exact PySem.W.kia_one PySem.W.kitx_dict I.kIn ⟨o, h1, h2.1⟩ e (fun z => nomatch z) h
  | @ins a C dx fs ea cl ha hn htk hm =>
    cases (show u = Value.ref a from rx)
    obtain ⟨mA, O, _⟩ := k5q I.hok ea
    obtain ⟨od, J, _⟩ := O.look
    exact PySem.W.kia_one (PySem.W.kitx_own (cl.get _) cl.hd ha hn htk hm) I.kIn J e (fun z => nomatch z) h
end
structure Room (k : Nat) (A : Around) : Prop where
  hd : A.handled = none
  dp : A.depth + 3 * k + 5 < recursionLimit
  un : A.units + 16 * k + 200 < cLine
theorem Room.mono {j k : Nat} {A : Around} (r : Room k A) (h : j <= k) : Room j A := ⟨r.hd, by have := r.dp; omega, by have := r.un; omega⟩
theorem Room.deeper {k : Nat} {A : Around} (r : Room (k + 1) A) (env : Env) : Room k (A.deeper env) :=
  ⟨r.hd, by have := r.dp; show A.depth + 1 + 3 * k + 5 < _; omega, by have := r.un; show A.units + 3 + 16 * k + 200 < _; omega⟩
theorem Room.depth {k : Nat} {A : Around} (r : Room k A) : A.depth < recursionLimit := by have := r.dp; omega
def qPq : TA := fun _ H Q => Q [] H
def nSq (ta : TE) (tr : TA) : TA := fun σ H Q => ta σ H fun x H1 => tr σ H1 fun xs H2 => Q (x :: xs) H2
section
variable {X : Cx} {e : Expr} {es : List Expr} {te : TE} {t : TA} {pos : Pos}
theorem mOq : PA X [] qPq := fun _ _ _ _ H Q I h => Calls.spliced_nil ⟨[], H, I, .nil, h⟩
theorem lGq (ha : PE X e te) (hr : PA X es t) (hs : starEach (e :: es) X.env = (false, eval e X.env) :: starEach es X.env := by rfl) : PA X (e :: es) (nSq te t) := by
  intro pos pins s σ H Q I h
  rw [hs]
  show wpAny _ _ (spliced ((false, eval e X.env) :: backTo pos (starEach es X.env))) _ _ s
  refine Calls.spliced_cons (thn (ha pins s σ H _ I h) fun u s1 ⟨x, H1, I1, r1, q1⟩ => ?_)
  exact thn (hr pos pins s1 σ H1 _ I1 q1) fun us s2 ⟨xs, H2, I2, r2, q2⟩ => ⟨x :: xs, H2, I2, .cons r1 r2, q2⟩
def qEq (t : TA) : TE := fun σ H Q => t σ H fun xs H1 => xs.length <= sizeLine /\ ∀ p, H1 p = none -> Q (.ref p) (upd H1 p (.tup xs))
def qSq (t : TA) : TE := fun σ H Q => t σ H fun xs H1 => xs.length <= sizeLine /\ ∀ p, H1 p = none -> Q (.ref p) (upd H1 p (.lst xs))
theorem mTq {x1} (h : PA X es t) : PE X (.Tuple es x1 pos) (qEq t) := by
  intro pins s σ H Q I hq
  refine wpAny_Tuple_spliced (thn (h pos pins s σ H _ I hq) fun us s1 ⟨xs, H1, I1, r, z, q⟩ => ⟨by rw [<- r.length]; exact z, ?_⟩)
  have hf : H1 s1.heap.objs.size = none := I1.hok.fresh (Nat.le_refl _)
  refine ⟨.ref s1.heap.objs.size, upd H1 s1.heap.objs.size (.tup xs), I1.laid (t' := s1.toks) (fun b u e => Heap.get?_push_of_some _ e) (Nat.le_refl _) ?_, rfl, q _ hf⟩
  exact ⟨z, us, r, ⟨_, Heap.get?_push_size _ rfl, rfl, _, rfl⟩⟩
theorem o4q (h : PA X es t) : PE X (.List es pos) (qSq t) := by
  intro pins s σ H Q I hq
  refine wpAny_List_spliced (thn (h pos pins s σ H _ I hq) fun us s1 ⟨xs, H1, I1, r, z, q⟩ => ⟨by rw [<- r.length]; exact z, ?_⟩)
  have hf : H1 s1.heap.objs.size = none := I1.hok.fresh (Nat.le_refl _)
  refine ⟨.ref s1.heap.objs.size, upd H1 s1.heap.objs.size (.lst xs), I1.laid (t' := s1.toks) (fun b u e => Heap.get?_push_of_some _ e) (Nat.le_refl _) ?_, rfl, q _ hf⟩
  exact ⟨z, us, 0, r, Heap.get?_push_size _ rfl⟩
end
abbrev Sp := List V -> Hp -> VK -> XK -> Prop
abbrev CXT := List Env -> Hp -> Shared -> XK -> Value -> Shared -> Prop
structure Env0 (P : Program) (w : World) (K : PySem.W.Frag) (mg : Str -> Option Value) (base : Heap) (A : Around) (outer : List Env) (s : Shared) (H : Hp) : Prop where
  frames : A.frames = some outer
  mod : Mod K mg base
  bs : ∀ b o, base.get? b = some o -> s.heap.get? b = some o /\ H b = none
  bsz : base.objs.size <= s.heap.objs.size
  funs : s.heap.FunFrames base outer
  frf : ∀ b ∈ frs outer, H b = none
  hok : HOk P w H s.heap
  bare : AllBare s.gens
def CE (outer : List Env) (P : Program) (w : World) (H : Hp) (s : Shared) (Q : VK) (u : Value) (s' : Shared) : Prop :=
  ∃ v H', s'.os = s.os /\ AllBare s'.gens /\ Un (frs outer) [] H H' s.heap s'.heap /\ HOk P w H' s'.heap /\ RelV v u /\ Q v H'
def CR (CX : CXT) (outer : List Env) (P : Program) (w : World) (H : Hp) (s : Shared) (Q : VK) (E : XK) (r : Result) (s' : Shared) : Prop :=
  match r with
  | .ok (.ret u) => CE outer P w H s Q u s'
  | .ok _ => False
  | .error e => CX outer H s E e s'
structure FnOk (P : Program) (w : World) (K : PySem.W.Frag) (mg : Str -> Option Value) (base : Heap) (CX : CXT) (k : Nat) (f : Addr) (fd : FuncData) (ps : List Str) (sp : Sp) : Prop where
  len : ∀ vs H Q E, sp vs H Q E -> vs.length = ps.length
  run : ∀ (A : Around) (outer : List Env) (s : Shared) (H : Hp) (args : Args) (us : List Value) (vs : List V) (Q : VK) (E : XK), Room k A -> Env0 P w K mg base A outer s H -> BindsTo s fd args (ps.zip us) -> Vals vs us -> sp vs H Q E →
    codeAny (model P w) A (.call (.ref f) args) (CR CX outer P w H s Q E) s
section
variable {X : Cx} {pins : List (Addr × Obj)} {σ : St} {H : Hp} {s s' : Shared}
theorem Inv.env0 (I : Inv X pins σ H s) : Env0 X.prog X.w X.K X.mg X.base X.A X.stack s H :=
  ⟨I.ok.frames, I.ok.mod, I.bs, Nat.le_trans I.ok.bsz I.sz, I.stack, I.stkFree, I.hok, I.bare⟩
theorem Inv.after {Q : VK} {u : Value} (I : Inv X pins σ H s) (h : CE X.stack X.prog X.w H s Q u s') : EP X pins σ Q u s' := by
  obtain ⟨v, H', os, bare, un, hok, r, q⟩ := h
  obtain ⟨hh, g, d, t, os'⟩ := s'
  obtain rfl : os' = s.os := os
  exact ⟨v, H', I.call (h' := hh) (g' := g) (d' := d) (t' := t) (ch := []) un hok bare (fun b z => absurd z (by simp)), r, q⟩
end
def jQq (sp : Sp) (dvs : List V) (E : XK) (t : TA) : TE := fun σ H Q => t σ H fun vs H1 => sp (vs ++ dvs) H1 Q E
def Binds (K : PySem.W.Frag) (fd : FuncData) (ps : List Str) (ds : List Value) : Prop :=
  ∀ (s : Shared) (us : List Value), K.In s.heap -> (us ++ ds).length = ps.length -> BindsTo s fd ⟨us, []⟩ (ps.zip (us ++ ds))
theorem Binds.all {K : PySem.W.Frag} {fd : FuncData} {ps : List Str} (h : ∀ us : List Value, us.length = ps.length -> bindArgs fd ⟨us, []⟩ = pure (ps.zip us)) : Binds K fd ps [] := fun s us _ hl => by
  rw [List.append_nil] at hl ⊢
  exact .of_eq (h us hl)
def hPq (CX : CXT) (X : Cx) (E : XK) : Prop := ∀ (pins : List (Addr × Obj)) (σ : St) (H : Hp) (s : Shared) (e : Value) (s' : Shared), Inv X pins σ H s -> CX X.stack H s E e s' -> X.xe e s'
section
variable {X : Cx} {CX : CXT} {k : Nat} {f C : Addr} {fd : FuncData} {ps : List Str} {sp : Sp} {dvs : List V} {ds : List Value} {E : XK} {x m : Str} {p pos apos : Pos} {e o : Expr} {es : List Expr} {ta : TE} {t : TA}
theorem n4q {pins : List (Addr × Obj)} {σ : St} {H : Hp} {s : Shared} {Q : VK} {us : List Value} {vs : List V} (F : FnOk X.prog X.w X.K X.mg X.base CX k f fd ps sp) (hr : Room k X.A) (hb : Binds X.K fd ps ds) (hd : Vals dvs ds) (hx : hPq CX X E)
    (I : Inv X pins σ H s) (r : Vals vs us) (h : sp (vs ++ dvs) H Q E) : wpAny (model X.prog X.w) X.A (call (.ref f) us) (EP X pins σ Q) X.xe s := by
  have r2 : Vals (vs ++ dvs) (us ++ ds) := r.append hd
  have hl : (us ++ ds).length = ps.length := by rw [<- r2.length]; exact F.len _ _ _ _ h
  refine wpAny_call (codeAny_mono (F.run X.A X.stack s H ⟨us, []⟩ (us ++ ds) (vs ++ dvs) Q E hr I.env0 (hb s us I.kIn hl) r2 h) fun r s' hq => ?_)
  cases r with
  | error e => exact hx pins σ H s e s' I hq
  | ok fl =>
    cases fl with
    | ret u => exact I.after hq
    | next => exact False.elim hq
    | brk => exact False.elim hq
    | cont => exact False.elim hq
theorem kBq (F : FnOk X.prog X.w X.K X.mg X.base CX k f fd ps sp) (hr : Room k X.A) (hg : Gl X x) (hm : X.mg x = some (.ref f)) (hk : PySem.W.keepIn X.K (.ref f) = true) (hb : Binds X.K fd ps ds) (hd : Vals dvs ds) (hx : hPq CX X E)
    (ha : PA X (e :: es) t) (hdb : (x == ("__debug__" : Str)) = false := by decide) (he : starEach (e :: es) X.env = (false, eval e X.env) :: starEach es X.env := by rfl) (hpl : (backTo pos (starEach es X.env)).any (·.1) = false := by rfl) :
    PE X (.Call (.Name x p) (e :: es) [] pos) (jQq sp dvs E t) := by
  intro pins s σ H Q I h
  refine wpAny_Call_Name_kw (hAq I hg hm ?_ hdb)
  refine PySem.W.callWith_K (h₀ := X.base) I.ok.mod.kin hk (thn (ha pos pins s σ H _ I h) fun us s1 ⟨vs, H1, I1, r, q⟩ => ⟨I1.kIn, ?_⟩) he hpl
  exact n4q F hr hb hd hx I1 r q
end
section
variable {X : Cx} {CX : CXT} {k : Nat} {f C : Addr} {fd : FuncData} {ps ks : List Str} {sp : Sp} {E : XK} {x m : Str} {p pos apos kpos : Pos} {e o : Expr} {es : List Expr} {kws : List Keyword} {te ta : TE} {t tk : TA} {nm : Option Str}
variable {g : List Value -> List Value -> List Value} {gV : List V -> List V -> List V}
end
structure FnScope (N P : List Str) (sc : Scope) : Prop where
  kind : sc.kind = .function
  co : sc.isCoroutine = false
  gen : sc.isGenerator = false
  nd : N.Nodup
  pre : N.take P.length = P
  par : ∀ x ∈ P, sc.names.lookup x = some .local \/ sc.names.lookup x = some .cell
  nofree : ∀ y ∈ sc.names, y.2 ≠ .free
theorem eUq {kindOf : Str -> Option NameKind} {x : Str} : ∀ {binds : List (Str × Value)} {m : Str -> Option Value}, (∀ v, (x, v) ∉ binds) -> bindL kindOf binds m x = m x
  | [], _, _ => rfl
  | (n, v) :: r, m, h => by
    unfold bindL
    rw [eUq fun w hw => h w (List.mem_cons_of_mem _ hw)]
    split
    . have : x ≠ n := by rintro rfl; exact h v List.mem_cons_self
      simp [this]
    . rfl
theorem eKq {kindOf : Str -> Option NameKind} {x : Str} : ∀ {binds : List (Str × Value)} {m : Str -> Option Value}, (∀ v, (x, v) ∉ binds) -> bindC kindOf binds m x = m x
  | [], _, _ => rfl
  | (n, v) :: r, m, h => by
    unfold bindC
    rw [eKq fun w hw => h w (List.mem_cons_of_mem _ hw)]
    split
    . rfl
    . have : x ≠ n := by rintro rfl; exact h v List.mem_cons_self
      simp [this]
theorem eMq {kindOf : Str -> Option NameKind} {x : Str} {v : Value} : ∀ {P : List Str} {vs : List Value} {i : Nat} {m : Str -> Option Value}, P.Nodup -> P[i]? = some x -> vs[i]? = some v -> kindOf x = some .local →
    bindL kindOf (P.zip vs) m x = some v
  | [], _, _, _, _, h, _, _ => by simp at h
  | _ :: _, [], _, _, _, _, h, _ => by simp at h
  | p :: P, w :: vs, 0, m, nd, h1, h2, hk => by
    simp at h1 h2; subst h1; subst h2
    show bindL kindOf ((p, w) :: P.zip vs) m p = _
    unfold bindL
    rw [eUq fun v hv => (List.nodup_cons.mp nd).1 (List.of_mem_zip hv).1, if_pos hk]
    simp
  | p :: P, w :: vs, i + 1, m, nd, h1, h2, hk => by
    show bindL kindOf ((p, w) :: P.zip vs) m x = _
    unfold bindL
    exact eMq (i := i) (List.nodup_cons.mp nd).2 (by simpa using h1) (by simpa using h2) hk
theorem eRq {kindOf : Str -> Option NameKind} {x : Str} {v : Value} : ∀ {P : List Str} {vs : List Value} {i : Nat} {m : Str -> Option Value}, P.Nodup -> P[i]? = some x -> vs[i]? = some v -> kindOf x ≠ some .local →
    bindC kindOf (P.zip vs) m x = some v
  | [], _, _, _, _, h, _, _ => by simp at h
  | _ :: _, [], _, _, _, _, h, _ => by simp at h
  | p :: P, w :: vs, 0, m, nd, h1, h2, hk => by
    simp at h1 h2; subst h1; subst h2
    show bindC kindOf ((p, w) :: P.zip vs) m p = _
    unfold bindC
    rw [eKq fun v hv => (List.nodup_cons.mp nd).1 (List.of_mem_zip hv).1, if_neg hk]
    simp
  | p :: P, w :: vs, i + 1, m, nd, h1, h2, hk => by
    show bindC kindOf ((p, w) :: P.zip vs) m x = _
    unfold bindC
    exact eRq (i := i) (List.nodup_cons.mp nd).2 (by simpa using h1) (by simpa using h2) hk
def c9q (N : List Str) (vs : List V) : St := vs.map some ++ List.replicate (N.length - vs.length) none
def jNq (CX : CXT) (P : Program) (w : World) (K : PySem.W.Frag) (mg : Str -> Option Value) (base : Heap) (N : List Str) (qual : Str) (scope : Scope) (f : Addr) (cd : Value) (A : Around) (outer : List Env) (s : Shared) (H : Hp) (E : XK) : Cx where
  prog := P
  w := w
  K := K
  mg := mg
  base := base
  A := A.deeper (envOfC qual scope s.heap.objs.size f cd)
  N := N
  s₀ := s
  H₀ := H
  env := envOfC qual scope s.heap.objs.size f cd
  outer := outer
  stack := envOfC qual scope s.heap.objs.size f cd :: outer
  ex := []
  calm := true
  fn := fun _ => true
  pn := []
  xe := fun e s' => wpAny (model P w) (A.deeper (envOfC qual scope s.heap.objs.size f cd)) (leaving (envOfC qual scope s.heap.objs.size f cd) e) (fun _ s'' => CX outer H s E e s'') (fun e' s'' => CX outer H s E e' s'') s'
theorem fQq {sc : Scope} {n : Nat} {x : Str} (h : sc.names.lookup x = some .cell) : ∃ c, (cellsFrom n sc.names []).lookup x = some c := by
  have q := PySem.W.cellsFrom_some sc.names n [] (.inl h)
  exact Option.isSome_iff_exists.mp q
theorem gQq {CX : CXT} {P : Program} {w : World} {K : PySem.W.Frag} {mg : Str -> Option Value} {base : Heap} {N ps : List Str} {qual : Str} {scope : Scope} {f : Addr} {cd : Value} {A : Around} {outer : List Env} {s s1 : Shared} {H : Hp} {E : XK} {us : List Value} {vs : List V}
    (S : FnScope N ps scope) (hd : A.handled = none) (e0 : Env0 P w K mg base A outer s H) (hl : vs.length = ps.length) (r : Vals vs us)
    (x : InCallC s s.heap.objs.size (bindL (envOfC qual scope s.heap.objs.size f cd).kindOf (ps.zip us) fun _ => none) (cellsFrom (s.heap.objs.size + 1) scope.names []) (bindC (envOfC qual scope s.heap.objs.size f cd).kindOf (ps.zip us) fun _ => none) s1) :
    Inv (jNq CX P w K mg base N qual scope f cd A outer s H E) [] (c9q N vs) H s1 := by
  have hpl : ps.length <= N.length := by have := congrArg List.length S.pre; rw [List.length_take] at this; omega
  obtain ⟨h1, tk, rfl, hk⟩ := x.done
  have noA : ∀ b : Addr, b ∉ (jNq CX P w K mg base N qual scope f cd A outer s H E).ex := fun b z => absurd (show b ∈ ([] : List Addr) from z) (by simp)
  refine ⟨⟨e0.mod, S.kind, rfl, rfl, Nat.le_refl _, fun y z c h1 h2 => ?_, fun y hy => ?_, fun y c _ h => ?_, fun _ => hd, Around.frames_deeper e0.frames, .inr ⟨rfl, rfl⟩, fun b z => absurd z (noA b), e0.bs, e0.bsz, fun b _ _ => noA b, fun b z => absurd z (noA b), e0.funs, e0.frf⟩,
    rfl, e0.bare, Un.kept hk, ⟨_, x.toInCall.ns, fun i y v h1 h2 h3 => ?_⟩, fun y c h => ⟨_, x.cell y c h⟩, e0.hok.fresh (Nat.le_refl _), fun y c h => ?_, fun p hp => absurd (show p ∈ ([] : List (Addr × Obj)) from hp) (by simp), e0.hok.kept hk, ?_⟩
  . exact name_of_addr x.apart (PySem.mem_of_lookup h1) (PySem.mem_of_lookup h2)
  . have hy : scope.names.lookup y = some .cell \/ scope.names.lookup y = some .free := hy
    rcases hy with hy | hy
    . exact fQq hy
    . exact absurd rfl (S.nofree _ (PySem.mem_of_lookup hy))
  . exact Nat.le_of_lt (x.above y c (PySem.mem_of_lookup h))
  . have hi : i < vs.length := by
      unfold c9q at h2
      by_cases hi : i < vs.length
      . exact hi
      . rw [List.getElem?_append_right (by simpa using hi)] at h2
        rw [List.getElem?_replicate] at h2
        split at h2 <;> cases h2
    have ha : vs[i]? = some v := by
      unfold c9q at h2
      rw [List.getElem?_append_left (by simpa using hi), List.getElem?_map] at h2
      cases e : vs[i]? with
      | none => rw [e] at h2; cases h2
      | some a => rw [e] at h2; cases h2; rfl
    obtain ⟨u, hu, rv⟩ := r.get ha
    have hp : ps[i]? = some y := by
      rw [<- S.pre, List.getElem?_take_of_lt (by omega)]; exact h1
    have ndP : ps.Nodup := by rw [<- S.pre]; exact S.nd.sublist (List.take_sublist _ _)
    refine ⟨u, rv, ?_⟩
    rcases S.par y (List.mem_of_getElem? hp) with k | k
    . exact .inl ⟨k, eMq ndP hp hu k⟩
    . obtain ⟨c, e⟩ := fQq (n := s.heap.objs.size + 1) k
      refine .inr ⟨.inl k, c, e, ?_⟩
      have q := x.cell y c e
      rw [eRq ndP hp hu (by show scope.names.lookup y ≠ _; rw [k]; decide)] at q
      exact q
  . exact e0.hok.fresh (Nat.le_of_lt (x.above y c (PySem.mem_of_lookup h)))
  . unfold c9q
    show _ = N.length
    rw [List.length_append, List.length_map, List.length_replicate]
    omega
theorem q0q {CX : CXT} {P : Program} {w : World} {K : PySem.W.Frag} {mg : Str -> Option Value} {base : Heap} {k : Nat} {f : Addr} {name qual : Str} {params : Arguments} {body : List Stmt} {scope : Scope} {dV kV doc pm cdv ct oc : Value} {an od : Option Addr}
    {osl : Array (Option Value)} {N ps : List Str} {sp : Sp} (lk : K.lookup f = some ⟨oc, od, .func (PySem.W.fnOf name qual params body scope dV kV doc pm an cdv ct), osl⟩) (hcd : PySem.W.codeIn K cdv qual = true) (S : FnScope N ps scope)
    (len : ∀ vs H Q E, sp vs H Q E -> vs.length = ps.length)
    (hbody : ∀ (A : Around) (outer : List Env) (s : Shared) (H : Hp) (vs : List V) (Q : VK) (E : XK), Room k (A.deeper (envOfC qual scope s.heap.objs.size f cdv)) -> sp vs H Q E →
      ∃ t, PSs (jNq CX P w K mg base N qual scope f cdv A outer s H E) body t /\ t { nx := fun _ H' => Q .non H', rt := Q } (c9q N vs) H) :
    FnOk P w K mg base CX (k + 1) f (PySem.W.fnOf name qual params body scope dV kV doc pm an cdv ct) ps sp := by
  refine ⟨len, fun A outer s H args us vs Q E hr e0 hb r hsp => ?_⟩
  have hl := len _ _ _ _ hsp
  have KX : K.In s.heap := e0.mod.kin.keeps fun b o e => (e0.bs b o e).1
  have lim : s.heap.NoLimit := e0.mod.nolimit.keeps fun b o e => (e0.bs b o e).1
  have hkind : ∀ y ∈ ps.zip us, scope.names.lookup y.1 = some .local \/ (scope.names.lookup y.1 = some .cell /\ ((cellsFrom (s.heap.objs.size + 1) scope.names []).lookup y.1).isSome = true) := fun ⟨n, v⟩ hy => by
    rcases S.par n (List.of_mem_zip hy).1 with q | q
    . exact .inl q
    . exact .inr ⟨q, PySem.W.cellsFrom_some _ _ _ (.inl q)⟩
  refine codeAny_call_function hr.depth (KX _ _ lk) rfl S.co S.gen rfl (PySem.W.codeRec_of KX hcd) (hb _ _ _ _ ?_)
  refine wpAny_newFunctionEnv_cells S.kind hkind fun env he s1 x => ?_
  subst he
  refine ⟨lim.keeps x.toInCall.keep, codeAny_func ?_⟩
  obtain ⟨t, ht, hq⟩ := hbody A outer s H vs Q E (hr.deeper _) hsp
  have I : Inv (jNq CX P w K mg base N qual scope f cdv A outer s H E) [] (c9q N vs) H s1 := gQq S hr.hd e0 hl r x
  refine wpAny_mono (ht [] s1 (c9q N vs) H _ I hq) (fun fl s' hs => ?_) fun e s' hs => hs
  have fin : ∀ {σ' : St} {H' : Hp} {v : V} {u : Value}, Inv (jNq CX P w K mg base N qual scope f cdv A outer s H E) [] σ' H' s' -> RelV v u -> Q v H' -> CE outer P w H s Q u s' :=
    fun {σ' H' v u} J rv q => ⟨v, H', J.os, J.bare, J.base, J.hok, rv, q⟩
  cases fl with
  | ret u =>
    obtain ⟨v, σ', H', J, rv, q⟩ := hs
    exact fin J rv q
  | next =>
    obtain ⟨σ', H', J, q⟩ := hs
    exact fin (v := V.non) (u := Value.none) J rfl q
  | brk =>
    obtain ⟨_, _, _, q⟩ := hs
    exact False.elim q
  | cont =>
    obtain ⟨_, _, _, q⟩ := hs
    exact False.elim q
section
variable {X : Cx} {x : Str} {p pos : Pos} {e : Expr} {es : List Expr} {t : TA} {id T : String} {r : List V -> Hp -> VK -> Prop}
def tCB (r : List V -> Hp -> VK -> Prop) (t : TA) : TE := fun σ H Q => t σ H fun vs H1 => r vs H1 Q
theorem iSq (hc : CallR X (.builtin id) r) (hg : Gl X x) (hm : X.mg x = none) (hv : bootBuiltins x = some (.builtin id)) (ha : PA X (e :: es) t) (hn : x ≠ "__name__" := by decide) (hdb : (x == ("__debug__" : Str)) = false := by decide)
    (he : starEach (e :: es) X.env = (false, eval e X.env) :: starEach es X.env := by rfl) (hpl : (backTo pos (starEach es X.env)).any (·.1) = false := by rfl) : PE X (.Call (.Name x p) (e :: es) [] pos) (tCB r t) := by
  intro pins s σ H Q I h
  refine wpAny_Call_Name_kw (dJq I hg hm hv ?_ hn hdb)
  exact PyProof.Rows.callWith_builtin1 (thn (ha pos pins s σ H _ I h) fun us s1 ⟨vs, H1, I1, r1, q1⟩ => hc pins s1 σ H1 vs us Q I1 r1 q1) he hpl
theorem h4q (hc : CallR X (.type T) r) (hg : Gl X x) (hm : X.mg x = none) (hv : bootBuiltins x = some (.type T)) (ha : PA X (e :: es) t) (hn : x ≠ "__name__" := by decide) (hdb : (x == ("__debug__" : Str)) = false := by decide)
    (he : starEach (e :: es) X.env = (false, eval e X.env) :: starEach es X.env := by rfl) (hpl : (backTo pos (starEach es X.env)).any (·.1) = false := by rfl) : PE X (.Call (.Name x p) (e :: es) [] pos) (tCB r t) := by
  intro pins s σ H Q I h
  refine wpAny_Call_Name_kw (dJq I hg hm hv ?_ hn hdb)
  exact PyProof.Rows.callWith_type1 (thn (ha pos pins s σ H _ I h) fun us s1 ⟨vs, H1, I1, r1, q1⟩ => hc pins s1 σ H1 vs us Q I1 r1 q1) he hpl
end
end L2
namespace HT
open PySem PyProof.Rows
section
open PySem.SeqAt
open PySem.AutoSeq1 (wpAny_loadPart')
open PySem.MeetsSeq PySem.MeetsSeq2 PySem.MeetsSeq3
end
section
variable {prog : Program} {w : World} {A : Around} {E : Value -> Shared -> Prop} {s : Shared}
theorem cat_tup {t b : Addr} {vs ws : List Value} {Q : Value -> Shared -> Prop} (ht : IsTup s.heap t vs.toArray) (hb : IsTup s.heap b ws.toArray) (hv : vs ≠ [])
    (h1 : ws = [] -> Q (.ref t) s) (h2 : ws ≠ [] -> Q (.ref s.heap.objs.size) { s with heap := s.heap.push { cls := .type "tuple", data := .seq (vs ++ ws).toArray } })
    (hsz : vs.length + ws.length <= sizeLine) : wpAny (model prog w) A (binaryOp .Add (.ref t) (.ref b)) Q E s := by
  obtain ⟨⟨cls, dd, data, sl⟩, ho, hc, n, hd⟩ := id ht
  obtain ⟨⟨cls2, dd2, data2, sl2⟩, ho2, hc2, n2, hd2⟩ := id hb
  simp only at hc hd hc2 hd2
  subst hc hd hc2 hd2
  have e : vs.toArray ++ ws.toArray = (vs ++ ws).toArray := by simp
  by_cases hw : ws = []
  . exact concat_meets ⟨_, ho, rfl⟩ ⟨_, ho2, rfl⟩ noFill_tuple_add seq_tuple_add PySem.F.slot_tuple_add PySem.F.entry_tuple_add (PySem.F.args_tuple_add_2 _ _)
      (tuple_addW1 t b vs.toArray ws.toArray n n2 dd dd2 sl sl2 (by simpa using hv) (by simp [hw])) ⟨ho, ho2, h1 hw⟩
  . refine concat_meets ⟨_, ho, rfl⟩ ⟨_, ho2, rfl⟩ noFill_tuple_add seq_tuple_add PySem.F.slot_tuple_add PySem.F.entry_tuple_add (PySem.F.args_tuple_add_2 _ _)
      (tuple_addW2 t b vs.toArray ws.toArray n n2 dd dd2 sl sl2 (by simpa using hv) (by simpa using hw) (by rw [List.size_toArray, List.size_toArray]; exact hsz)) ⟨ho, ho2, ?_⟩
    rw [e]
    exact h2 hw
end
end HT
namespace L2
open PySem PySem.Spec PyProof.Rows
abbrev TO := St -> Hp -> (Option Int -> Hp -> Prop) -> Prop
def PO (X : Cx) (e : Option Expr) (t : TO) : Prop :=
  ∀ (pins : List (Addr × Obj)) (s : Shared) (σ : St) (H : Hp) (Q : Option Int -> Hp -> Prop), Inv X pins σ H s -> t σ H Q →
    wpAny (model X.prog X.w) X.A (evalPart e X.env) (fun u s' => ∃ o H', Inv X pins σ H' s' /\ IsPart u o /\ Q o H') X.xe s
def hBq : TO := fun _ H Q => Q none H
def lZq (t : TE) : TO := fun σ H Q => t σ H fun x H1 => ∃ i, x = .int i /\ Q (some i) H1
section
variable {X : Cx} {e : Expr} {te : TE} {lo hi : Option Expr} {tl th : TO} {pos p2 : Pos}
theorem kMq : PO X none hBq := by
  intro pins s σ H Q I h
  rw [evalPart_none]
  exact wpAny_pure ⟨none, H, I, .none, h⟩
theorem kUq (h : PE X e te) : PO X (some e) (lZq te) := by
  intro pins s σ H Q I hw
  rw [evalPart_some]
  refine thn (h pins s σ H _ I hw) fun u s1 ⟨x, H1, I1, r1, q1⟩ => ?_
  obtain ⟨i, rfl, q⟩ := q1
  obtain ⟨t, rfl⟩ := r1
  exact ⟨some i, H1, I1, .int i t, q⟩
def SlR (X : Cx) (r : V -> Option Int -> Option Int -> Hp -> VK -> Prop) : Prop :=
  ∀ (pins : List (Addr × Obj)) (s : Shared) (σ : St) (H : Hp) (x : V) (v vl vu : Value) (lo hi : Option Int) (sl : Addr) (Q : VK), Inv X pins σ H s -> RelV x v -> s.heap.IsSliceOf sl vl vu .none -> IsPart vl lo -> IsPart vu hi -> r x lo hi H Q →
    ∃ T id, typeLookup (.type T) "__getitem__" = pure (some (.builtin id)) /\ s.TypeIs v T /\ wpAny (model X.prog X.w) X.A (getItem v (.ref sl)) (EP X pins σ Q) X.xe s
def tSl (r : V -> Option Int -> Option Int -> Hp -> VK -> Prop) (te : TE) (tl th : TO) : TE := fun σ H Q => te σ H fun x H1 => tl σ H1 fun l H2 => th σ H2 fun u H3 => r x l u H3 Q
theorem iKq {r : V -> Option Int -> Option Int -> Hp -> VK -> Prop} (hr : SlR X r) (he : PE X e te) (hl : PO X lo tl) (hu : PO X hi th) : PE X (.Subscript e (.Slice lo hi none p2) pos) (tSl r te tl th) := by
  intro pins s σ H Q I h
  refine Subscript_ (thn (he pins s σ H _ I h) fun v s1 ⟨x, H1, I1, r1, q1⟩ => ?_)
  refine wpAny_Slice (thn (hl pins s1 σ H1 _ I1 q1) fun vl s2 ⟨l, H2, I2, pl, q2⟩ => thn (hu pins s2 σ H2 _ I2 q2) fun vu s3 ⟨u, H3, I3, pu, q3⟩ => ?_)
  rw [evalPart_none]
  refine wpAny_pure ?_
  have I4 : Inv X pins σ H3 { s3 with heap := s3.heap.push { cls := .type "slice", data := .fields #[vl, vu, .none] } } := I3.kept (t' := s3.toks) fun b ob q => Heap.get?_push_of_some _ q
  obtain ⟨T, id, hT, ht, hg⟩ := hr pins { s3 with heap := s3.heap.push { cls := .type "slice", data := .fields #[vl, vu, .none] } } σ H3 x v vl vu l u s3.heap.objs.size Q I4 r1 (Heap.IsSliceOf.new ..) pl pu q3
  show wpAny (model X.prog X.w) X.A (subscriptTail e (.Slice lo hi none p2) v (.ref s3.heap.objs.size)) (EP X pins σ Q) X.xe { s3 with heap := s3.heap.push { cls := .type "slice", data := .fields #[vl, vu, .none] } }
  exact tail_any (ops := [.ref s3.heap.objs.size, v]) ht hT hg (by with_unfolding_all rfl)
def pXq (K : PySem.W.Frag) : R2 := fun x y H Q => ∃ a b xs ys, x = .ref a /\ y = .ref b /\ SqT K H a xs /\ SqT K H b ys /\ xs ≠ [] /\ xs.length + ys.length <= sizeLine ∧
  (ys = [] -> Q (.ref a) H) /\ (ys ≠ [] -> ∀ p, H p = none -> Q (.ref p) (upd H p (.tup (xs ++ ys))))
theorem Vals.nil_iff {xs : List V} {us : List Value} (r : Vals xs us) : us = [] ↔ xs = [] := by
  cases r with
  | nil => simp
  | cons _ _ => simp
theorem jRq : OpR X (binaryOp .Add) (pXq X.K) := by
  intro pins s σ H x y v u Q I rx ry h
  obtain ⟨a, b, xs, ys, rfl, rfl, ha, hb, hx, hz, q1, q2⟩ := h
  cases rx
  cases ry
  obtain ⟨its, r1, p1, _⟩ := I.tuple ha
  obtain ⟨its2, r2, p2, _⟩ := I.tuple hb
  refine HT.cat_tup p1 p2 (fun z => hx (r1.nil_iff.mp z)) (fun z => ⟨.ref a, H, I, rfl, q1 (r2.nil_iff.mp z)⟩) (fun z => ?_) (by rw [<- r1.length, <- r2.length]; exact hz)
  refine ⟨.ref s.heap.objs.size, _, I.laid (t' := s.toks) (o := .tup (xs ++ ys)) (fun b ob q => Heap.get?_push_of_some _ q) (Nat.le_refl _) ?_, rfl, q2 (fun w => z (r2.nil_iff.mpr w)) _ (I.hok.fresh (Nat.le_refl _))⟩
  exact ⟨by rw [List.length_append]; exact hz, _, r1.append r2, IsTup.new _ _⟩
end
def ixN (n : Nat) (i : Int) : Option Nat := if 0 <= i then (if i < n then some i.toNat else none) else if -(n : Int) <= i then some (i + n).toNat else none
def atI {α : Type} (xs : List α) (i : Int) : Option α := (ixN xs.length i).bind fun j => xs[j]?
theorem hIq {n : Nat} {i : Int} {j : Nat} (h : ixN n i = some j) : seqIndex? i n = some j /\ j < n /\ -(n : Int) <= i /\ i < n := by
  unfold ixN at h
  by_cases h0 : 0 <= i
  . rw [if_pos h0] at h
    by_cases h1 : i < n
    . rw [if_pos h1] at h
      have e : i.toNat = j := Option.some.inj h
      exact ⟨by rw [seqIndex_of h0 h1, e], by omega, by omega, h1⟩
    . rw [if_neg h1] at h; cases h
  . rw [if_neg h0] at h
    by_cases h1 : -(n : Int) <= i
    . rw [if_pos h1] at h
      have e : (i + n).toNat = j := Option.some.inj h
      exact ⟨by rw [seqIndex_neg (by omega) h1, e], by omega, h1, by omega⟩
    . rw [if_neg h1] at h; cases h
theorem fHq {α : Type} {xs : List α} {i : Int} {v : α} (h : atI xs i = some v) : ∃ j, seqIndex? i xs.length = some j /\ xs[j]? = some v /\ j < xs.length /\ -(xs.length : Int) <= i /\ i < xs.length := by
  unfold atI at h
  cases e : ixN xs.length i with
  | none => rw [e] at h; cases h
  | some j =>
    rw [e] at h
    obtain ⟨h1, h2, h3, h4⟩ := hIq e
    exact ⟨j, h1, h, h2, h3, h4⟩
theorem bEq {α : Type} {xs : List α} {j : Nat} {v : α} (h : xs[j]? = some v) : atI xs (j : Int) = some v := by
  have hj : j < xs.length := (List.getElem?_eq_some_iff.mp h).1
  have e : ixN xs.length (j : Int) = some j := by
    unfold ixN
    rw [if_pos (by omega), if_pos (by omega)]; simp
  unfold atI; rw [e]; exact h
def e0q (b : Expr) : Prop := ∀ o i, subscripted b false o i = operate [o, i] (getItem o i)
def IxR (X : Cx) (r : R2) : Prop :=
  ∀ (value slice : Expr) (pins : List (Addr × Obj)) (s : Shared) (σ : St) (H : Hp) (x y : V) (v u : Value) (Q : VK), Inv X pins σ H s -> RelV x v -> RelV y u -> r x y H Q →
    subscripted slice false v u = operate [v, u] (getItem v u) -> wpAny (model X.prog X.w) X.A (subscriptTail value slice v u) (EP X pins σ Q) X.xe s
def MtR (X : Cx) (id : String) (r : V -> List V -> Hp -> VK -> Prop) : Prop :=
  ∀ (pins : List (Addr × Obj)) (s : Shared) (σ : St) (H : Hp) (x : V) (xs : List V) (v : Value) (us : List Value) (Q : VK), Inv X pins σ H s -> RelV x v -> Vals xs us -> r x xs H Q →
    wpAny (model X.prog X.w) X.A (call (.builtin id) (v :: us)) (EP X pins σ Q) X.xe s
section
variable {X : Cx} {a b : Expr} {ta tb : TE} {pos : Pos}
theorem IxR.or {r r' : R2} (h : IxR X r) (h' : IxR X r') : IxR X (fun x y H Q => r x y H Q \/ r' x y H Q) := by
  intro value slice pins s σ H x y v u Q I rx ry q hs
  rcases q with q | q
  . exact h value slice pins s σ H x y v u Q I rx ry q hs
  . exact h' value slice pins s σ H x y v u Q I rx ry q hs
theorem p9q {r : R2} (hr : IxR X r) (ha : PE X a ta) (hb : PE X b tb) (hs : e0q b) : PE X (.Subscript a b pos) (tOp r ta tb) := by
  intro pins s σ H Q I h
  exact Subscript_ (q1q ha hb I h fun v u s2 x y H2 I2 rx ry q => hr a b pins s2 σ H2 x y v u Q I2 rx ry q (hs _ _))
def r0q (K : PySem.W.Frag) : R2 := fun x y H Q => ∃ p xs i v, x = .ref p /\ y = .int i /\ SqL K H p xs /\ atI xs i = some v /\ Q v H
def qXq (K : PySem.W.Frag) : R2 := fun x y H Q => ∃ p xs i v, x = .ref p /\ y = .int i /\ SqT K H p xs /\ atI xs i = some v /\ Q v H
def qFq : R2 := fun x y H Q => ∃ z i c, x = .str z /\ y = .int i /\ z.length <= sizeLine /\ atI z.cps.toList i = some c /\ Q (.str ⟨#[c]⟩) H
theorem ix_list : IxR X (r0q X.K) := by
  intro value slice pins s σ H x y v u Q I rx ry h hs
  obtain ⟨p, xs, i, z, rfl, rfl, hq, he, q⟩ := h
  cases rx
  obtain ⟨t, rfl⟩ := ry
  obtain ⟨its, r, pl, hz⟩ := I.list hq
  obtain ⟨j, h1, h2, h3, h4, h5⟩ := fHq he
  obtain ⟨w, ew, rw'⟩ := r.get h2
  have hl := r.length
  have hn := cBq
  have fin : EP X pins σ Q w s := ⟨z, H, I, rw', q⟩
  by_cases h0 : 0 <= i
  . have hj : i.toNat = j := by
      rw [seqIndex_of h0 h5] at h1
      exact Option.some.inj h1
    exact item_listR pl.isList h0 (by omega) (by rw [hj]; simpa using ew) fin hs
  . have hj : (i + (its.toArray.size : Int)).toNat = j := by
      rw [seqIndex_neg (by omega) h4] at h1
      rw [List.size_toArray, <- hl]
      exact Option.some.inj h1
    exact subscriptTail_builtinR (x := w) pl.isList.typeIs slot_list_getitem.lookup
      (wpAny_getItem_list_neg (Q := fun r s' => r = w /\ EP X pins σ Q r s') pl.isList (by omega) (by rw [List.size_toArray] <;> omega) (by omega) (by rw [hj]; simpa using ew) ⟨rfl, fin⟩) hs
theorem ix_tup : IxR X (qXq X.K) := by
  intro value slice pins s σ H x y v u Q I rx ry h hs
  obtain ⟨p, xs, i, z, rfl, rfl, hq, he, q⟩ := h
  cases rx
  obtain ⟨t, rfl⟩ := ry
  obtain ⟨its, r, pl, hz⟩ := I.tuple hq
  obtain ⟨j, h1, h2, h3, h4, h5⟩ := fHq he
  obtain ⟨w, ew, rw'⟩ := r.get h2
  have hl := r.length
  have hn := cBq
  have fin : EP X pins σ Q w s := ⟨z, H, I, rw', q⟩
  exact subscriptTail_builtinR (x := w) pl.typeIs slot_tuple_getitem.lookup
    (getItem_tuple (j := j) (Q := fun r s' => r = w /\ EP X pins σ Q r s') pl (by omega) (by omega) (by rw [List.size_toArray, <- hl]; exact h1) (by simpa using ew) ⟨rfl, fin⟩) hs
theorem n6q : IxR X qFq := by
  intro value slice pins s σ H x y v u Q I rx ry h hs
  obtain ⟨z, i, c, rfl, rfl, hz, he, q⟩ := h
  obtain ⟨t, rfl⟩ := rx
  obtain ⟨t', rfl⟩ := ry
  obtain ⟨j, h1, h2, h3, h4, h5⟩ := fHq he
  have hl : z.cps.toList.length = z.length := by simp [Str.length]
  rw [hl] at h1 h4 h5
  have hn := cBq
  exact tail_any (typeIs_str s z t) slot_str_getitem.lookup (getItem_str (c := c) (by
    have e1 : decide (i < -(2 ^ 63 : Int)) = false := decide_eq_false (by omega)
    have e2 : decide (i ≥ 2 ^ 63) = false := decide_eq_false (by omega)
    rw [e1, e2, Bool.or_false]) (by rw [h1]; simpa using h2) ⟨.str ⟨#[c]⟩, H, I.tok _, ⟨_, rfl⟩, q⟩) hs
def rIx (K : PySem.W.Frag) : R2 := fun x y H Q => r0q K x y H Q \/ qXq K x y H Q \/ qFq x y H Q
theorem jKq : IxR X (rIx X.K) := ix_list.or (ix_tup.or n6q)
theorem gEq (its : List Value) (n j : Nat) (u : Value) : Obj.mapSeq (·.setIfInBounds j u) { cls := .type "list", data := .seq its.toArray n } = { cls := .type "list", data := .seq (its.set j u).toArray n } := by
  simp [Obj.mapSeq]
theorem Inv.lst {pins : List (Addr × Obj)} {σ : St} {H : Hp} {s : Shared} {p : Addr} {xs : List V} (I : Inv X pins σ H s) (h : H p = some (.lst xs)) :
    ∃ (its : List Value) (n : Nat), Vals xs its /\ s.heap.get? p = some { cls := .type "list", data := .seq its.toArray n } /\ xs.length <= sizeLine := by
  obtain ⟨z, its, n, r, e⟩ := I.hok p _ h
  exact ⟨its, n, r, e, z⟩
theorem Inv.lstUpd {pins : List (Addr × Obj)} {σ : St} {H : Hp} {s : Shared} {p : Addr} {xs ys : List V} {its its' : List Value} {n n' : Nat} {f : Obj -> Obj} (I : Inv X pins σ H s) (h : H p = some (.lst xs))
    (ho : s.heap.get? p = some { cls := .type "list", data := .seq its.toArray n }) (hf : f { cls := .type "list", data := .seq its.toArray n } = { cls := .type "list", data := .seq its'.toArray n' }) (r : Vals ys its') (hz : ys.length <= sizeLine) (t : Nat) :
    Inv X pins σ (upd H p (.lst ys)) { s with heap := s.heap.update p f, toks := t } := by
  have e : (s.heap.update p f).get? p = some { cls := .type "list", data := .seq its'.toArray n' } := by
    rw [Heap.get?_update_self f ho (by rw [hf] <;> rfl), hf]
  refine I.write (x := p) (e := p) (by rw [h]; trivial) (.inl rfl) (fun b u hb q => (Heap.get?_update_other _ _ (Ne.symm hb)).trans q) ⟨_, e⟩ ?_
  exact ⟨hz, its', n', r, e⟩
def pBq : V -> V -> V -> Hp -> (Hp -> Prop) -> Prop := fun o i v H Q => ∃ p xs k j, o = .ref p /\ i = .int k /\ H p = some (.lst xs) /\ ixN xs.length k = some j /\ Q (upd H p (.lst (xs.set j v)))
theorem iEq : pZq X pBq := by
  intro pins s σ H o i v ov iv u Q I ro ri rv h
  obtain ⟨p, xs, k, j, rfl, rfl, hp, hj, q⟩ := h
  cases ro
  obtain ⟨t, rfl⟩ := ri
  obtain ⟨its, n, r, ho, hz⟩ := I.lst hp
  obtain ⟨h1, h2, h3, h4⟩ := hIq hj
  have hl := r.length
  have hn := cBq
  have I' : Inv X pins σ (upd H p (.lst (xs.set j v))) { s with heap := s.heap.update p (Obj.mapSeq (·.setIfInBounds j u)) } :=
    I.lstUpd hp ho (gEq its n j u) (r.set rv j) (by rw [List.length_set]; exact hz) s.toks
  by_cases h0 : 0 <= k
  . have hk : k.toNat = j := by
      rw [seqIndex_of h0 h4] at h1
      exact Option.some.inj h1
    exact PySem.W.ki_setAt ho h0 (by omega) (by rw [List.size_toArray, <- hl]; exact h4) (by rw [hk]; exact ⟨_, I', q⟩)
  . have hk : (k + (its.toArray.size : Int)).toNat = j := by
      rw [seqIndex_neg (by omega) h3] at h1
      rw [List.size_toArray, <- hl]
      exact Option.some.inj h1
    exact PySem.W.ki_setBack ho (by omega) (by rw [List.size_toArray, <- hl]; exact h3) (by omega) (by rw [hk]; exact ⟨_, I', q⟩)
def dHq : V -> Bool
  | .non => true
  | .bl _ => true
  | .int _ => true
  | .str _ => true
  | _ => false
def eqV : V -> V -> Bool
  | .non, .non => true
  | .bl a, .bl b => a == b
  | .bl a, .int b => (if a then 1 else 0) == b
  | .int a, .bl b => a == (if b then 1 else 0)
  | .int a, .int b => a == b
  | .str a, .str b => a == b
  | _, _ => false
theorem mWq {A : Around} {s : Shared} {y x : V} {u v : Value} (ry : RelV y u) (rx : RelV x v) (fy : dHq y = true) (fx : dHq x = true) : SeqAt.EqAt A s u v (eqV y x) := by
  cases y with
  | non =>
    cases ry
    cases x with
    | non => cases rx; exact SeqAt.EqAt.same _
    | bl b => cases rx; exact SeqAt.EqAt.none_bool b
    | int b => obtain ⟨t, rfl⟩ := rx; exact SeqAt.EqAt.none_int b t
    | str b => obtain ⟨t, rfl⟩ := rx; exact SeqAt.EqAt.none_str b t
    | _ => exact absurd (show false = true from fx) Bool.false_ne_true
  | bl a =>
    cases ry
    cases x with
    | non => cases rx; exact SeqAt.EqAt.bool_none a
    | bl b => cases rx; exact SeqAt.EqAt.bool_bool a b
    | int b => obtain ⟨t, rfl⟩ := rx; exact SeqAt.EqAt.bool_int a b t
    | str b => obtain ⟨t, rfl⟩ := rx; exact SeqAt.EqAt.bool_str a b t
    | _ => exact absurd (show false = true from fx) Bool.false_ne_true
  | int a =>
    obtain ⟨t', rfl⟩ := ry
    cases x with
    | non => cases rx; exact SeqAt.EqAt.int_none a t'
    | bl b => cases rx; exact SeqAt.EqAt.int_bool a t' b
    | int b => obtain ⟨t, rfl⟩ := rx; exact SeqAt.EqAt.int_int a t' b t
    | str b => obtain ⟨t, rfl⟩ := rx; exact SeqAt.EqAt.int_str a t' b t
    | _ => exact absurd (show false = true from fx) Bool.false_ne_true
  | str a =>
    obtain ⟨t', rfl⟩ := ry
    cases x with
    | non => cases rx; exact SeqAt.EqAt.str_none a t'
    | bl b => cases rx; exact SeqAt.EqAt.str_bool a t' b
    | int b => obtain ⟨t, rfl⟩ := rx; exact SeqAt.EqAt.str_int a t' b t
    | str b => obtain ⟨t, rfl⟩ := rx; exact SeqAt.EqAt.str_str a t' b t
    | _ => exact absurd (show false = true from fx) Bool.false_ne_true
  | _ => exact absurd (show false = true from fy) Bool.false_ne_true
def eqU (x : V) (u : Value) : Bool := match u with
  | .none => eqV .non x
  | .bool b => eqV (.bl b) x
  | .int i _ => eqV (.int i) x
  | .str z _ => eqV (.str z) x
  | _ => false
theorem jIq {x y : V} {u : Value} (r : RelV y u) (f : dHq y = true) : eqU x u = eqV y x := by
  cases y with
  | non => cases r; rfl
  | bl b => cases r; rfl
  | int i => obtain ⟨t, rfl⟩ := r; rfl
  | str z => obtain ⟨t, rfl⟩ := r; rfl
  | _ => exact absurd (show false = true from f) Bool.false_ne_true
theorem cTq {x : V} : ∀ {xs : List V} {us : List Value}, Vals xs us -> xs.all dHq = true -> us.any (eqU x) = xs.any fun y => eqV y x
  | _, _, .nil, _ => rfl
  | y :: xs, u :: us, .cons r t, f => by
    rw [List.all_cons, Bool.and_eq_true] at f
    rw [List.any_cons, List.any_cons, jIq r f.1, cTq t f.2]
theorem c6q {A : Around} {s : Shared} {x : V} {v : Value} (rx : RelV x v) (fx : dHq x = true) : ∀ {xs : List V} {us : List Value}, Vals xs us -> xs.all dHq = true -> ∀ u ∈ us, SeqAt.EqAt A s u v (eqU x u)
  | _, _, .nil, _ => fun u hu => by cases hu
  | y :: xs, u :: us, .cons r t, f => fun u' hu => by
    rw [List.all_cons, Bool.and_eq_true] at f
    rcases List.mem_cons.mp hu with rfl | hu
    . rw [jIq r f.1]; exact mWq r rx f.1 fx
    . exact c6q rx fx t f.2 u' hu
def inV (x : V) (xs : List V) : Bool := xs.any fun y => eqV y x
def rIn (K : PySem.W.Frag) (neg : Bool) : R2 := fun x y H Q => ∃ p xs, y = .ref p /\ (SqL K H p xs \/ SqT K H p xs) /\ dHq x = true /\ xs.all dHq = true /\ Q (.bl (if neg then !inV x xs else inV x xs)) H
theorem op_in_seq : OpR X (compareOp .In) (rIn X.K false) := by
  intro pins s σ H x y v u Q I rx ry h
  obtain ⟨p, xs, rfl, hq, fx, fs, q⟩ := h
  cases ry
  rcases hq with hq | hq
  . obtain ⟨its, r, pl, hz⟩ := I.list hq
    refine SeqAt.in_listAt (eqU x) pl.isList (fun w hw => c6q rx fx r fs w (by simpa using hw)) ⟨.bl _, H, I, rfl, ?_⟩
    rw [show its.toArray.any (eqU x) = its.any (eqU x) by simp, cTq r fs]
    exact q
  . obtain ⟨its, r, pl, hz⟩ := I.tuple hq
    refine SeqAt.in_tupleAt (eqU x) pl (fun w hw => c6q rx fx r fs w (by simpa using hw)) ⟨.bl _, H, I, rfl, ?_⟩
    rw [show its.toArray.any (eqU x) = its.any (eqU x) by simp, cTq r fs]
    exact q
theorem op_notIn_seq : OpR X (compareOp .NotIn) (rIn X.K true) := by
  intro pins s σ H x y v u Q I rx ry h
  obtain ⟨p, xs, rfl, hq, fx, fs, q⟩ := h
  cases ry
  rcases hq with hq | hq
  . obtain ⟨its, r, pl, hz⟩ := I.list hq
    refine SeqAt.notIn_listAt (eqU x) pl.isList (fun w hw => c6q rx fx r fs w (by simpa using hw)) ⟨.bl _, H, I, rfl, ?_⟩
    rw [show its.toArray.any (eqU x) = its.any (eqU x) by simp, cTq r fs]
    exact q
  . obtain ⟨its, r, pl, hz⟩ := I.tuple hq
    refine SeqAt.notIn_tupleAt (eqU x) pl (fun w hw => c6q rx fx r fs w (by simpa using hw)) ⟨.bl _, H, I, rfl, ?_⟩
    rw [show its.toArray.any (eqU x) = its.any (eqU x) by simp, cTq r fs]
    exact q
theorem f4q : OpR X (compareOp .NotIn) (fun x y H Q => ∃ i j, x = .str i /\ y = .str j /\ Q (.bl (!(!(Builtin.Str.occurrences j i 0 j.length 1).isEmpty))) H) := by
  intro pins s σ H x y v u Q I rx ry h
  obtain ⟨i, j, rfl, rfl, q⟩ := h
  obtain ⟨t, rfl⟩ := rx
  obtain ⟨t', rfl⟩ := ry
  exact notIn_str ⟨.bl _, H, I, rfl, q⟩
theorem call_len_seq : CallR X (.builtin "len") (fun xs H Q => ∃ p ys, xs = [.ref p] /\ (SqL X.K H p ys \/ SqT X.K H p ys) /\ Q (.int ys.length) H) := by
  intro pins s σ H xs us Q I r h
  obtain ⟨p, ys, rfl, hq, q⟩ := h
  obtain ⟨u, rfl, rx⟩ := iXq r
  cases rx
  have hn := cBq
  rcases hq with hq | hq
  . obtain ⟨its, r', pl, hz⟩ := I.list hq
    have hlen := r'.length
    exact Calls.call_len_list pl.isList (by simp only [List.size_toArray] <;> omega) ⟨.int ys.length, H, I.tok _, ⟨s.toks + 1, by rw [List.size_toArray, hlen]⟩, q⟩
  . obtain ⟨its, r', pl, hz⟩ := I.tuple hq
    have hlen := r'.length
    exact len_tuple pl (by simp only [List.size_toArray] <;> omega) ⟨.int ys.length, H, I.tok _, ⟨s.toks + 1, by rw [List.size_toArray, hlen]⟩, q⟩
theorem eVq : CallR X (.builtin "len") (fun xs H Q => ∃ z, xs = [.str z] /\ z.length <= sizeLine /\ Q (.int z.length) H) := by
  intro pins s σ H xs us Q I r h
  obtain ⟨z, rfl, hz, q⟩ := h
  obtain ⟨u, rfl, t, rfl⟩ := iXq r
  have hn := cBq
  exact len_str (by omega) ⟨.int z.length, H, I.tok _, ⟨_, rfl⟩, q⟩
theorem CallR.or {f : Value} {r r' : List V -> Hp -> VK -> Prop} (h : CallR X f r) (h' : CallR X f r') : CallR X f (fun xs H Q => r xs H Q \/ r' xs H Q) := by
  intro pins s σ H xs us Q I rs q
  rcases q with q | q
  . exact h pins s σ H xs us Q I rs q
  . exact h' pins s σ H xs us Q I rs q
def tyV (K : PySem.W.Frag) (T : String) (x : V) (H : Hp) : Prop := match x with
  | .str _ => T = "str"
  | .int _ => T = "int"
  | .ref p => (T = "list" /\ ∃ xs, SqL K H p xs) \/ (T = "tuple" /\ ∃ o, K.lookup p = some o /\ o.cls = .type "tuple" /\ o.dict = none) ∨
      (T = "dict" /\ ((∃ kvs, H p = some (.dK kvs)) \/ ∃ kvs, H p = some (.dT kvs))) \/ (T = "set" /\ ∃ S n, H p = some (.set S n))
  | _ => False
theorem jDq {pins : List (Addr × Obj)} {σ : St} {H : Hp} {s : Shared} {T : String} {x : V} {v : Value} (I : Inv X pins σ H s) (r : RelV x v) (ty : tyV X.K T x H) :
    s.TypeIs v T /\ ∀ a, v = .ref a -> ∃ ob, s.heap.get? a = some ob /\ ob.dict = none := by
  cases x with
  | str z =>
    obtain ⟨t, rfl⟩ := r
    cases (show T = "str" from ty)
    exact ⟨typeIs_str s z t, fun _ e => nomatch e⟩
  | int i =>
    obtain ⟨t, rfl⟩ := r
    cases (show T = "int" from ty)
    exact ⟨typeIs_int s i t, fun _ e => nomatch e⟩
  | ref p =>
    cases r
    rcases ty with ⟨rfl, xs, hq⟩ | ⟨rfl, o, hk, hc, hd⟩ | ⟨rfl, hk⟩ | ⟨rfl, S, n, hk⟩
    . obtain ⟨its, _, pl, _⟩ := I.list hq
      refine ⟨pl.isList.typeIs, fun a e => ?_⟩
      cases e
      obtain ⟨o, n, e, c, hd, _⟩ := pl
      exact ⟨o, e, hd⟩
    . refine ⟨⟨o, I.kIn p o hk, hc⟩, fun a e => ?_⟩
      cases e
      exact ⟨o, I.kIn _ o hk, hd⟩
    . have z : ∃ o, s.heap.get? p = some o /\ o.ExactDict := by
        rcases hk with ⟨kvs, hk⟩ | ⟨kvs, hk⟩
        . obtain ⟨_, _, _, _, o, _, _, e, ex, _⟩ := I.hok p _ hk
          exact ⟨o, e, ex⟩
        . obtain ⟨_, _, _, _, o, _, _, e, ex, _⟩ := I.hok p _ hk
          exact ⟨o, e, ex⟩
      obtain ⟨o, e, ex⟩ := z
      refine ⟨⟨o, e, ex.1⟩, fun a e2 => ?_⟩
      cases e2
      exact ⟨o, e, ex.2.1⟩
    . obtain ⟨o, _, _, _, e, ex, _⟩ := I.hok p _ hk
      refine ⟨⟨o, e, ex.1⟩, fun a e2 => ?_⟩
      cases e2
      exact ⟨o, e, ex.2.1⟩
  | _ => exact False.elim ty
def r1q (K : PySem.W.Frag) (T : String) (r : V -> List V -> Hp -> VK -> Prop) (to : TE) : TE := fun σ H Q => to σ H fun x H1 => tyV K T x H1 /\ r x [] H1 Q
def tBM (K : PySem.W.Frag) (T : String) (r : V -> List V -> Hp -> VK -> Prop) (to : TE) (t : TA) : TE := fun σ H Q => to σ H fun x H1 => tyV K T x H1 /\ t σ H1 fun xs H2 => r x xs H2 Q
variable {o e : Expr} {es : List Expr} {to : TE} {t : TA} {name : Str} {apos cpos : Pos} {T id : String} {r : V -> List V -> Hp -> VK -> Prop}
theorem nOq (pa : PlainAttrs T) (slot : Slot T name id) (hty : typeOf (.builtin id) = pure (.type "method_descriptor")) (hm : MtR X id r) (ho : PE X o to)
    (hbase : attributeBase o name X.env (eval o X.env) = eval o X.env := by rfl) (hline : (apos.endLine == cpos.line) = true := by rfl) : PE X (.Call (.Attribute o name apos) [] [] cpos) (r1q X.K T r to) := by
  intro pins s σ H Q I h
  refine wpAny_Call_method0_late hbase hline (thn (ho pins s σ H _ I h) fun v s1 ⟨x, H1, I1, r1, ty, q1⟩ => ?_)
  obtain ⟨h1, h2⟩ := jDq I1 r1 ty
  exact ⟨T, id, pa, slot, hty, h1, h2, Calls.callWith_builtin rfl (PySem.evalArgs_none (hm pins s1 σ H1 x [] v [] Q I1 r1 .nil q1))⟩
theorem pAq (pa : PlainAttrs T) (slot : Slot T name id) (hty : typeOf (.builtin id) = pure (.type "method_descriptor")) (hm : MtR X id r) (ho : PE X o to) (ha : PA X (e :: es) t)
    (hbase : attributeBase o name X.env (eval o X.env) = eval o X.env := by rfl)
    (hfew : ((backTo cpos (starEach (e :: es) X.env)).all (fun x => !x.1) && (backToKw cpos (keywordEach [] X.env)).all (fun x => x.1.isSome)
      && decide ((e :: es).length + ([] : List Keyword).length + (if ([] : List Keyword).isEmpty then 0 else 1) < 30)) = true := by rfl)
    (hline : (apos.endLine == cpos.line) = true := by rfl) (hs : starEach (e :: es) X.env = (false, eval e X.env) :: starEach es X.env := by rfl) (hplain : (backTo cpos (starEach es X.env)).any (·.1) = false := by rfl) :
    PE X (.Call (.Attribute o name apos) (e :: es) [] cpos) (tBM X.K T r to t) := by
  intro pins s σ H Q I h
  refine wpAny_Call_method_late hbase hfew hline rfl (thn (ho pins s σ H _ I h) fun v s1 ⟨x, H1, I1, r1, ty, q1⟩ => ?_)
  obtain ⟨h1, h2⟩ := jDq I1 r1 ty
  refine ⟨T, id, pa, slot, hty, h1, h2, ?_⟩
  have hA := ha cpos pins s1 σ H1 _ I1 q1
  rw [hs] at hA ⊢
  refine Calls.callWith_builtin (by show (false || (backTo cpos (starEach es X.env)).any (·.1)) = false; rw [hplain] <;> rfl) (Calls.evalArgs_plain ?_)
  exact thn hA fun us s2 ⟨vs, H2, I2, r2, q2⟩ => hm pins s2 σ H2 x vs v us Q I2 r1 r2 q2
end
def MtM (X : Cx) (id : String) (r : V -> List V -> Hp -> VK -> Prop) : Prop :=
  ∀ (pins : List (Addr × Obj)) (s : Shared) (σ : St) (H : Hp) (x : V) (xs : List V) (v : Value) (us : List Value) (Q : VK), Inv X pins σ H s -> RelV x v -> Vals xs us -> r x xs H Q →
    wpAny (model X.prog X.w) X.A (call (.builtin id) (v :: us)) (EP X pins σ Q) X.xe s
theorem Vals.one : ∀ {x : V} {us : List Value}, Vals [x] us -> ∃ u, us = [u] /\ RelV x u
  | _, _, .cons r .nil => ⟨_, rfl, r⟩
theorem Vals.two : ∀ {x y : V} {us : List Value}, Vals [x, y] us -> ∃ u v, us = [u, v] /\ RelV x u /\ RelV y v
  | _, _, _, .cons r (.cons q .nil) => ⟨_, _, rfl, r, q⟩
section
variable {X : Cx} {pins : List (Addr × Obj)} {σ : St} {H : Hp} {s : Shared} {l b : Addr} {xs ys zs : List V}
theorem Inv.lset {its its' : List Value} {n : Nat} {f : Array Value -> Array Value} {t' : Nat} (I : Inv X pins σ H s) (hH : H l = some (.lst xs))
    (e : s.heap.get? l = some { cls := .type "list", data := .seq its.toArray n }) (hf : f its.toArray = its'.toArray) (hv : Vals ys its') (hz : ys.length <= sizeLine) :
    Inv X pins σ (upd H l (.lst ys)) { s with heap := s.heap.update l (Obj.mapSeq f), toks := t' } := by
  have q := PySem.IsL.update e f
  rw [hf] at q
  refine I.write (x := l) (e := l) (by rw [hH]; exact trivial) (.inl rfl) (fun b' u hb hu => (Heap.get?_update_other s.heap (Obj.mapSeq f) (Ne.symm hb)).trans hu) ⟨_, q⟩ ?_
  exact ⟨hz, its', _, hv, q⟩
theorem Inv.lnew {its : List Value} {t' : Nat} (I : Inv X pins σ H s) (hv : Vals ys its) (hz : ys.length <= sizeLine) :
    Inv X pins σ (upd H s.heap.objs.size (.lst ys)) { s with heap := s.heap.push { cls := .type "list", data := .seq its.toArray }, toks := t' } :=
  I.laid (fun _ _ q => Heap.get?_push_of_some _ q) (Nat.le_refl _) ⟨hz, its, 0, hv, Heap.get?_push_size _ rfl⟩
theorem Inv.fresh (I : Inv X pins σ H s) : H s.heap.objs.size = none := I.hok.fresh (Nat.le_refl _)
theorem Inv.lstM (I : Inv X pins σ H s) (hH : H l = some (.lst xs)) : xs.length <= sizeLine /\ ∃ (its : List Value) (n : Nat), Vals xs its /\ xs.length = its.length /\ s.heap.get? l = some { cls := .type "list", data := .seq its.toArray n } := by
  obtain ⟨z, its, n, r, e⟩ := I.hok l _ hH
  exact ⟨z, its, n, r, r.length, e⟩
theorem i7q {n : Nat} (h : n <= sizeLine) : Builtin.List.listTooLong n = false := by
  unfold Builtin.List.listTooLong
  exact decide_eq_false (by omega)
end
section
variable {X : Cx}
def jTq : V -> List V -> Hp -> VK -> Prop := fun x vs H Q => ∃ l xs y, x = .ref l /\ vs = [y] /\ H l = some (.lst xs) /\ xs.length < sizeLine /\ Q .non (upd H l (.lst (xs ++ [y])))
theorem gMq : MtM X "list.append" jTq := by
  intro pins s σ H x vs v us Q I rx rv h
  obtain ⟨l, xs, y, rfl, rfl, hH, hz, q⟩ := h
  cases rx
  obtain ⟨u, rfl, ru⟩ := rv.one
  obtain ⟨z, its, n, r, hl, e⟩ := I.lstM hH
  refine call_meets F.slot_list_append ⟨_, e, rfl⟩ F.entry_list_append (F.args_list_append_2 _ _) (PySem.list_append l its.toArray n u (by rw [List.size_toArray]; omega)) ⟨e, ?_⟩
  refine ⟨.non, _, I.lset (its' := its ++ [u]) hH e (by simp) (r.append (.cons ru .nil)) ?_, rfl, q⟩
  rw [List.length_append, List.length_singleton]
  omega
def l5q : V -> List V -> Hp -> VK -> Prop := fun x vs H Q => ∃ l b xs zs, x = .ref l /\ vs = [.ref b] /\ H l = some (.lst xs) /\ H b = some (.lst zs) /\ xs.length + zs.length <= sizeLine /\ Q .non (upd H l (.lst (xs ++ zs)))
theorem oGq : MtM X "list.extend" l5q := by
  intro pins s σ H x vs v us Q I rx rv h
  obtain ⟨l, b, xs, zs, rfl, rfl, hH, hB, hz, q⟩ := h
  cases rx
  obtain ⟨u, rfl, ru⟩ := rv.one
  cases ru
  obtain ⟨z, its, n, r, hl, e⟩ := I.lstM hH
  obtain ⟨z2, its2, n2, r2, hl2, e2⟩ := I.lstM hB
  have hsz : its.toArray.size + its2.toArray.size <= sizeLine := by rw [List.size_toArray, List.size_toArray]; omega
  have hlong : ¬ (!its.toArray.isEmpty && Builtin.List.listTooLong (its.toArray.size + its2.toArray.size)) = true := by
    rw [i7q hsz, Bool.and_false]
    exact Bool.false_ne_true
  refine call_meets F.slot_list_extend ⟨_, e, rfl⟩ F.entry_list_extend (F.args_list_extend_2 _ _)
    (AutoSeq1.list_extend_list_list_0 l its.toArray n b its2.toArray n2 hlong (by rw [List.size_toArray]; omega) (by omega)) ⟨e, e2, ?_⟩
  refine ⟨.non, _, I.lset (its' := its ++ its2) hH e (by simp) (r.append r2) ?_, rfl, q⟩
  rw [List.length_append]
  omega
def s5q : R2 := fun x y H Q => ∃ l b xs zs, x = .ref l /\ y = .ref b /\ H l = some (.lst xs) /\ H b = some (.lst zs) /\ xs.length + zs.length <= sizeLine /\ ∀ p, H p = none -> Q (.ref p) (upd H p (.lst (xs ++ zs)))
theorem nVq : OpR X (binaryOp .Add) s5q := by
  intro pins s σ H x y v u Q I rx ry h
  obtain ⟨l, b, xs, zs, rfl, rfl, hH, hB, hz, q⟩ := h
  cases rx
  cases ry
  obtain ⟨z, its, n, r, hl, e⟩ := I.lstM hH
  obtain ⟨z2, its2, n2, r2, hl2, e2⟩ := I.lstM hB
  refine PySem.P.add_list e e2 ?_ (by rw [List.size_toArray, List.size_toArray]; omega)
  have ea : its.toArray ++ its2.toArray = (its ++ its2).toArray := by simp
  rw [ea]
  exact ⟨.ref _, _, I.lnew (t' := s.toks) (r.append r2) (by rw [List.length_append]; omega), rfl, q _ I.fresh⟩
end
section
variable {prog : Program} {w : World} {A : Around} {E : Value -> Shared -> Prop} {s : Shared}
end
section
variable {X : Cx}
end
end L2
namespace Att
open PySem PySem.W PySem.Calls PyProof.Rows
theorem cUq {P : Params} {h : Heap} : ∀ (ns : List Int) (vs : List Value), WellAll P h vs (ns.map WData.int) -> IntsAre vs ns := by
  intro ns
  induction ns with
  | nil =>
    intro vs w
    rw [List.map_nil] at w
    cases w
    exact .nil
  | cons n ns ih =>
    intro vs w
    rw [List.map_cons] at w
    cases w with
    | cons a b =>
      cases a
      exact .cons _ _ (ih _ b)
theorem gSq {l : OpenLaw} {n : Nat} (hn : l.most = some n) {P : Params} {h : Heap} {args : List WData} {vals : List Value}
    (hpre : l.row.toRowW.claim.pre args = true) (hwl : WellAll P h vals args) :
    ∃ a vs ns, vals = [Value.ref a] /\ args = [WData.list (ns.map WData.int)] /\ h.get? a = some { cls := .type "list", data := .seq vs.toArray } /\ IntsAre vs ns /\ ns.length <= n := by
  have hsh : WShape.hasAll [] args [.list .int] = true := (pre_splitW hpre).1
  have hc : l.pre.holds [] { args := args } = true := (pre_splitW hpre).2
  obtain ⟨d, r, rfl, h1, h2⟩ := hasAllW_cons hsh
  obtain rfl := hasAllW_nil h2
  obtain ⟨xs, rfl, h3⟩ := hasW_list h1
  obtain ⟨ns, rfl⟩ := items_int h3
  have hlen : ns.length <= n := by
    unfold OpenLaw.pre at hc
    have h4 : (WTm.not (.lt (.lit (.int (n : Int))) (.len (.arg 0)))).holds [] { args := [.list (ns.map .int)] } = true := by
      have h4 := (holds_andW hc).1
      rw [hn] at h4
      exact h4
    have h5 := condW_of h4 (w_not (w_lt w_lit (w_len_list (w_arg rfl))))
    rw [List.length_map] at h5
    refine Nat.le_of_not_lt fun q => ?_
    have q' : (n : Int) < ((ns.length : Nat) : Int) := by omega
    first
      | (rw [decide_eq_true q'] at h5; exact absurd h5 (by decide))
      | (simp at h5; omega)
  cases hwl with
  | cons w1 w2 =>
    cases w2
    cases w1 with
    | list ho hall => exact ⟨_, _, ns, rfl, rfl, ho, cUq ns _ hall, hlen⟩
theorem hMq (l : OpenLaw) (args : List WData) : l.row.toRowW.claim.post args (.bool true) args = true :=
  postW_of (r := l.row.toRowW) (X := (true == true))
    (show WShape.has [] (.bool true) .bool = true by first | rfl | decide | simp [WShape.has, WShape.arms, WShape.armsAll])
    (show (WTm.eq .res (.lit (.bool true))).value [] { args := args, res := some (.bool true), after := args } = some (.bool (true == true)) from w_eq_bool (w_res rfl) w_lit) rfl
theorem attach_call {l : OpenLaw} {n : Nat} {q : Program} {loose : List Str} {XP : (Str -> Option Value) -> Heap -> Prop} {YP : World -> Heap -> Prop} {d : DefRec}
    (hn : l.most = some n) (hdf : d.params.defaults = [])
    (call : ∀ (w : World) (s₀ s₁ : Shared) (mg mb : Str -> Option Value) (fa : Addr) (o : Obj) (pm cd doc : Value) (a : Addr) (vs : List Value) (ns : List Int),
      Ground q loose [] XP w s₀ mg mb s₁.heap -> YP w s₁.heap →
      s₁.heap.get? fa = some o -> o.data = .func (docDef d.name d.params d.body d.scope pm cd doc) -> s₁.heap.CodeRec cd d.name -> mg d.name = some (.ref fa) →
      s₁.heap.get? a = some { cls := .type "list", data := .seq vs.toArray } -> IntsAre vs ns -> ns.length <= n -> s₁.gens = #[] →
      codeAny (model l.prog w) callerA (.call (.ref fa) ⟨[.ref a], []⟩) (fun r s' => r = .ok (.ret (.bool true)) /\ OldK s₁.heap s'.heap /\ s'.os = s₁.os /\ AllBare s'.gens) s₁) :
    WalkO q loose XP YP l.row.toRowW d [] (fun f vs => PySem.call f vs) := by
  intro w s₀ s₁ mg mb G Y fa o pm cd doc dV kV ho hd hcd hD hmg hg args vals as hpre hlay hrd hwl hlo
  obtain rfl : dV = .none := Dflts.none hD hdf
  obtain rfl : kV = .none := Dflts.noKw hD
  obtain ⟨a, vs, ns, rfl, rfl, hobj, hints, hlen⟩ := gSq hn hpre hwl
  refine enter_call (codeAny_mono (call w s₀ s₁ mg mb fa o pm cd doc a vs ns G Y ho (fd_plain hd) hcd hmg hobj hints hlen hg) fun r s' hq => ?_)
  obtain ⟨rfl, h2, h3, h4⟩ := hq
  exact ⟨.inl ⟨.bool true, .bool true, [], rfl, fun _ => rfl, .bool true, hMq l _, fun _ => ⟨List.Pairwise.nil, fun _ hm => (nomatch hm)⟩⟩, h2, h3, h4⟩
section
variable {prog : Program} {w : World} {A : Around} {E : Value -> Shared -> Prop} {s : Shared} {K : Frag}
end
end Att
namespace L2
open PySem PySem.Spec PyProof.Rows
theorem d8q : ∀ {vs : List Value} {ns : List Int}, IntsAre vs ns -> Vals (ns.map V.int) vs
  | _, _, .nil => .nil
  | _, _, .cons n t h => .cons ⟨t, rfl⟩ (d8q h)
def oTq (H : Hp) : Prop := ∀ b, H b = none \/ ∃ o xs, H b = some (.frz o (.lst xs))
theorem j2q {P : Program} {w : World} {K : PySem.W.Frag} {mg mb : Str -> Option Value} {CX : CXT} {k : Nat} {fa a : Addr} {fd : FuncData} {x : Str} {sp : Sp} {s₁ : Shared} {vs : List Value} {ns : List Int}
    (KX : K.In s₁.heap) (hns : s₁.heap.Ns mainGlobals mg) (hb : s₁.heap.Ns builtinsNs mb) (hbb : ∀ x : Str, x ≠ "__name__" -> mb x = bootBuiltins x) (hlim : s₁.heap.NoLimit) (hg : s₁.gens = #[])
    (ha : s₁.heap.get? a = some { cls := .type "list", data := .seq vs.toArray }) (hi : IntsAre vs ns) (hl : ns.length <= sizeLine) (hr : Room k callerA)
    (F : ∀ base : Heap, K.In base -> base.Ns mainGlobals mg -> FnOk P w K mg base CX k fa fd [x] sp) (hbind : ∀ (s : Shared) (u : Value), BindsTo s fd ⟨[u], []⟩ [(x, u)])
    (hsp : ∀ H : Hp, oTq H -> SqL K H a (ns.map V.int) -> sp [.ref a] H (fun v _ => v = .bl true) fun _ _ _ => False)
    (hCX : ∀ H e s', CX [] H s₁ (fun _ _ _ => False) e s' -> False) :
    codeAny (model P w) callerA (.call (.ref fa) ⟨[.ref a], []⟩) (fun r s' => r = .ok (.ret (.bool true)) /\ OldK s₁.heap s'.heap /\ s'.os = s₁.os /\ AllBare s'.gens) s₁ := by
  have rv := d8q hi
  have lenV := hi.length
  have core : ∀ H : Hp, oTq H -> SqL K H a (ns.map V.int) -> HOk P w H s₁.heap -> (∀ b, H b ≠ none -> b = a) -> (H a ≠ none -> K.lookup a = none) →
      codeAny (model P w) callerA (.call (.ref fa) ⟨[.ref a], []⟩) (fun r s' => r = .ok (.ret (.bool true)) /\ OldK s₁.heap s'.heap /\ s'.os = s₁.os /\ AllBare s'.gens) s₁ := by
    intro H hO hS hok hA hK
    have base_of : ∀ {b : Addr} {o : Obj}, s₁.heap.get? b = some o -> H b = none -> (iUq s₁.heap H).get? b = some o := fun e n => j5q e n
    have noA : ∀ {b : Addr} {o : Obj} {es : Array DictEntry} {ep : Nat}, s₁.heap.get? b = some o -> o.data = .dict es ep -> H b = none := fun {b o es ep} e d => by
      cases q : H b with
      | none => rfl
      | some u =>
        have e' : b = a := hA b (by rw [q]; simp)
        subst e'
        rw [ha] at e; cases e
        have d' : Data.seq vs.toArray _ = Data.dict es ep := d
        cases d'
    have nsK : ∀ {b : Addr} {m : Str -> Option Value}, s₁.heap.Ns b m -> (iUq s₁.heap H).Ns b m := fun {b m} ⟨o, es, ep, e, d, r⟩ => ⟨o, es, ep, base_of e (noA e d), d, r⟩
    have hKb : K.In (iUq s₁.heap H) := fun b o e => base_of (KX b o e) (by
      cases q : H b with
      | none => rfl
      | some u =>
        have e' : b = a := hA b (by rw [q]; simp)
        subst e'
        rw [hK (by rw [q]; simp)] at e; cases e)
    have hM : Mod K mg (iUq s₁.heap H) := ⟨hKb, nsK hns, ⟨mb, nsK hb, hbb⟩, let ⟨mc, h1, h2⟩ := hlim; ⟨mc, nsK h1, h2⟩⟩
    have e0 : Env0 P w K mg (iUq s₁.heap H) callerA [] s₁ H := ⟨rfl, hM, fun b o e => kLq e, Nat.le_of_eq (gTq _ _), trivial, fun b hb => absurd (show b ∈ ([] : List Addr) from hb) (by simp), hok, .of_eq hg⟩
    refine codeAny_mono ((F _ hKb (nsK hns)).run callerA [] s₁ H ⟨[.ref a], []⟩ [.ref a] [.ref a] _ _ hr e0 (hbind s₁ (.ref a)) (.cons rfl .nil) (hsp H hO hS)) fun r s' h => ?_
    cases r with
    | error e => exact (hCX H e s' h).elim
    | ok fl =>
      cases fl with
      | next => exact False.elim h
      | brk => exact False.elim h
      | cont => exact False.elim h
      | ret u =>
        obtain ⟨v, H', os, bare, un, hok', r', q⟩ := h
        have q' : v = .bl true := q
        subst q'
        obtain rfl : u = Value.bool true := r'
        refine ⟨rfl, OldK.of_keep fun b o e => ?_, os, bare⟩
        cases q : H b with
        | none => exact un.keep b o e q (by intro z; exact absurd (show b ∈ ([] : List Addr) from z) (by simp)) (by simp)
        | some u =>
          rcases hO b with z | ⟨ob, xs, z⟩
          . rw [q] at z; cases z
          . have z2 := un.frzs b ob _ z
            obtain ⟨e1, _⟩ := hok b _ z
            obtain ⟨e2, _⟩ := hok' b _ z2
            rw [e] at e1; cases e1
            exact e2
  cases hk : K.lookup a with
  | some o =>
    have e := KX a o hk
    rw [ha] at e
    cases e
    refine core (fun _ => none) (fun _ => .inl rfl) (.inr ⟨_, vs.toArray, _, hk, rfl, rfl, rfl, by rw [List.size_toArray, lenV]; exact hl, by simpa using rv⟩) (fun b u z => by have z' : (none : Option HO) = some u := z; cases z') (fun b z => absurd rfl z) fun z => absurd rfl z
  | none =>
    refine core (fun b => if b = a then some (.frz { cls := .type "list", data := .seq vs.toArray } (.lst (ns.map V.int))) else none) (fun b => ?_) (.inl (.inr ⟨{ cls := .type "list", data := .seq vs.toArray }, if_pos rfl⟩)) (fun b u z => ?_) (fun b z => ?_) fun _ => hk
    . by_cases hb : b = a
      . exact .inr ⟨_, _, if_pos hb⟩
      . exact .inl (if_neg hb)
    . by_cases hb : b = a
      . have z' := (if_pos hb).symm.trans z
        cases z'
        subst hb
        exact ⟨ha, by rw [List.length_map]; exact hl, vs, _, rv, ha⟩
      . have z' := (if_neg hb).symm.trans z
        cases z'
    . by_cases hb : b = a
      . exact hb
      . exact absurd (if_neg hb) z
theorem kXq {l : PySem.W.OpenLaw} {n k : Nat} {q : Program} {loose : List Str} {XP : (Str -> Option Value) -> Heap -> Prop} {YP : World -> Heap -> Prop} {d : DefRec} {K : Params -> PySem.W.Frag} {CX : World -> CXT} {sp : World -> Sp} {x : Str}
    (hn : l.most = some n) (hn2 : n <= sizeLine) (hdf : d.params.defaults = []) (hr : Room k callerA)
    (hY : ∀ (w : World) (h : Heap), YP w h -> (K w.params).In h)
    (F : ∀ (w : World) (mg : Str -> Option Value) (fa : Addr) (h : Heap), (K w.params).In h -> h.Ns mainGlobals mg -> mg d.name = some (.ref fa) →
      ∃ fd : FuncData, (∀ (s : Shared) (u : Value), BindsTo s fd ⟨[u], []⟩ [(x, u)]) ∧
        ∀ base : Heap, (K w.params).In base -> base.Ns mainGlobals mg -> FnOk l.prog w (K w.params) mg base (CX w) k fa fd [x] (sp w))
    (hsp : ∀ (w : World) (H : Hp) (a : Addr) (ns : List Int), ns.length <= n -> oTq H -> SqL (K w.params) H a (ns.map V.int) -> sp w [.ref a] H (fun v _ => v = .bl true) fun _ _ _ => False)
    (hCX : ∀ (w : World) (H : Hp) (s : Shared) (e : Value) (s' : Shared), CX w [] H s (fun _ _ _ => False) e s' -> False) :
    PySem.W.WalkO q loose XP YP l.row.toRowW d [] (fun f vs => PySem.call f vs) := by
  refine Att.attach_call hn hdf fun w s₀ s₁ mg mb fa o pm cd doc a vs ns G Y ho hd hcd hmg hobj hints hlen hg => ?_
  have KX := hY w _ Y
  obtain ⟨fd, hb, hF⟩ := F w mg fa _ KX G.T.g hmg
  exact j2q KX G.T.g G.T.b G.T.builtins G.T.nolimit hg hobj hints (Nat.le_trans hlen hn2) hr hF hb (fun H hO hS => hsp w H a ns hlen hO hS) fun H e s' => hCX w H s₁ e s'
def aEq (s : Stmt) : Arguments := match s with
  | .FunctionDef _ a _ _ _ _ _ _ _ _ => a
  | _ => { posonlyargs := [], args := [], vararg := none, kwonlyargs := [], kw_defaults := [], kwarg := none, defaults := [] }
def aBq (s : Stmt) : List Stmt := match s with
  | .FunctionDef _ _ b _ _ _ _ _ _ _ => b
  | _ => []
def a2q (s : Stmt) : Scope := match s with
  | .FunctionDef _ _ _ _ _ _ sc _ _ _ => sc
  | _ => { kind := .function, names := [], isGenerator := false, isCoroutine := false }
abbrev CX0 : CXT := fun _ _ _ _ _ _ => False
abbrev E0 : XK := fun _ _ _ => False
theorem pCq {X : Cx} : hPq CX0 X E0 := fun _ _ _ _ _ _ _ h => h.elim
structure Fun (K : PySem.W.Frag) (x qual : Str) (st : Stmt) (f : Addr) (fd : FuncData) : Prop where
  ex : ∃ (oc : Value) (od : Option Addr) (kV doc pm : Value) (an : Option Addr) (cdv ct : Value) (osl : Array (Option Value)),
    fd = PySem.W.fnOf x qual (aEq st) (aBq st) (a2q st) .none kV doc pm an cdv ct /\ K.lookup f = some ⟨oc, od, .func fd, osl⟩ /\ PySem.W.codeIn K cdv qual = true
  kp : PySem.W.keepIn K (.ref f) = true
section
variable {P : Program} {w : World} {K : PySem.W.Frag} {mg : Str -> Option Value} {base : Heap}
theorem Fun.ok {x qual : Str} {st : Stmt} {f : Addr} {fd : FuncData} {N ps : List Str} {k : Nat} {sp : Sp} (F : Fun K x qual st f fd) (S : FnScope N ps (a2q st)) (len : ∀ vs H Q E, sp vs H Q E -> vs.length = ps.length)
    (hbody : ∀ (cdv : Value) (A : Around) (outer : List Env) (s : Shared) (H : Hp) (vs : List V) (Q : VK) (E : XK), Room k (A.deeper (envOfC qual (a2q st) s.heap.objs.size f cdv)) -> sp vs H Q E →
      ∃ t, PSs (jNq CX0 P w K mg base N qual (a2q st) f cdv A outer s H E).nox (aBq st) t /\ t { nx := fun _ H' => Q .non H', rt := Q } (c9q N vs) H) : FnOk P w K mg base CX0 (k + 1) f fd ps sp := by
  obtain ⟨oc, od, kV, doc, pm, an, cdv, ct, osl, rfl, lk, hcd⟩ := F.ex
  refine q0q lk hcd S len fun A outer s H vs Q E hr hsp => ?_
  obtain ⟨t, h, q⟩ := hbody cdv A outer s H vs Q E hr hsp
  exact ⟨t, h.nox, q⟩
theorem Fun.binds {x qual : Str} {st : Stmt} {f : Addr} {fd : FuncData} {ps : List Str} (F : Fun K x qual st f fd)
    (h : ∀ (kV doc pm : Value) (an : Option Addr) (cdv ct : Value) (us : List Value), us.length = ps.length -> bindArgs (PySem.W.fnOf x qual (aEq st) (aBq st) (a2q st) .none kV doc pm an cdv ct) ⟨us, []⟩ = pure (ps.zip us)) : Binds K fd ps [] := by
  obtain ⟨oc, od, kV, doc, pm, an, cdv, ct, osl, rfl, lk, hcd⟩ := F.ex
  exact .all (h kV doc pm an cdv ct)
theorem aDq {x qual : Str} {st : Stmt} {f : Addr} {oc : Value} {od an : Option Addr} {osl : Array (Option Value)} {kV doc pm cdv ct : Value} (l : K.lookup f = some ⟨oc, od, .func (PySem.W.fnOf x qual (aEq st) (aBq st) (a2q st) .none kV doc pm an cdv ct), osl⟩)
 (c : PySem.W.codeIn K cdv qual = true) (k : PySem.W.keepIn K (.ref f) = true) : Fun K x qual st f (PySem.W.fnOf x qual (aEq st) (aBq st) (a2q st) .none kV doc pm an cdv ct) := ⟨⟨oc, od, kV, doc, pm, an, cdv, ct, osl, rfl, l, c⟩, k⟩
end
section
variable {X : Cx}
end
def bOq (cells : List (Str × Addr)) : List (Str × NameKind) -> List (Str × Addr) -> List (Str × Addr)
  | [], acc => acc
  | (n, k) :: r, acc => bOq cells r (if k = .free then (n, (cells.lookup n).getD 0) :: acc else acc)
theorem dRq {α β : Type} {f : α -> β -> Sem (ForInStep β)} (g : β -> α -> β) : ∀ (l : List α) (c : β), (∀ x ∈ l, ∀ c, f x c = pure (.yield (g c x))) -> forIn l c f = pure (l.foldl g c)
  | [], _, _ => rfl
  | x :: l, c, h => by
    rw [List.forIn_cons, h x List.mem_cons_self, pure_bind]
    exact dRq g l _ fun y hy => h y (List.mem_cons_of_mem _ hy)
theorem dUq (cells : List (Str × Addr)) : ∀ (names : List (Str × NameKind)) (acc : List (Str × Addr)),
    names.foldl (fun c y => if y.2 = .free then (y.1, (cells.lookup y.1).getD 0) :: c else c) acc = bOq cells names acc
  | [], _ => rfl
  | (n, k) :: r, acc => by
    rw [List.foldl_cons, bOq]
    exact dUq cells r _
theorem kDq {scope : Scope} {env : Env} (h : ∀ y ∈ scope.names, y.2 = .free -> ∃ c, env.cells.lookup y.1 = some c) : closureFor scope env = pure (bOq env.cells scope.names []) := by
  rw [<- dUq]
  simp only [closureFor]
  rw [dRq (fun c y => if y.2 = .free then (y.1, (env.cells.lookup y.1).getD 0) :: c else c) scope.names [] fun x hx c => ?_]
  . rfl
  . obtain ⟨n, k⟩ := x
    by_cases hk : k = .free
    . subst hk
      obtain ⟨a, e⟩ := h _ hx rfl
      have e' : env.cells.lookup n = some a := e
      simp [cellOf, e']
    . have hb : (k == NameKind.free) = false := by simpa using hk
      simp [hb, hk]
theorem fWq {cells : List (Str × Addr)} : ∀ (names : List (Str × NameKind)) (acc : List (Str × Addr)), (∀ y ∈ names, y.2 = .free -> ∃ c, cells.lookup y.1 = some c) -> (∀ x c, acc.lookup x = some c -> cells.lookup x = some c) →
    ∀ x c, (bOq cells names acc).lookup x = some c -> cells.lookup x = some c
  | [], _, _, ha => ha
  | (n, k) :: r, acc, h, ha => by
    rw [bOq]
    refine fWq r _ (fun y hy => h y (List.mem_cons_of_mem _ hy)) fun x c e => ?_
    by_cases hk : k = .free
    . rw [if_pos hk] at e
      obtain ⟨a, ea⟩ := h (n, k) List.mem_cons_self hk
      have ea' : cells.lookup n = some a := ea
      rw [List.lookup_cons] at e
      cases hx : x == n with
      | true =>
        rw [hx] at e
        have e2 : some ((cells.lookup n).getD 0) = some c := e
        rw [ea'] at e2
        have e3 : a = c := Option.some.inj e2
        rw [eq_of_beq hx, ea', e3]
      | false =>
        rw [hx] at e
        exact ha x c e
    . rw [if_neg hk] at e
      exact ha x c e
theorem eIq {cells : List (Str × Addr)} {x : Str} : ∀ (names : List (Str × NameKind)) (acc : List (Str × Addr)), (acc.lookup x).isSome = true -> ((bOq cells names acc).lookup x).isSome = true
  | [], _, h => h
  | (n, k) :: r, acc, h => by
    rw [bOq]
    refine eIq r _ ?_
    by_cases hk : k = .free
    . rw [if_pos hk, List.lookup_cons]
      cases hx : x == n with
      | true => rfl
      | false => exact h
    . rw [if_neg hk]; exact h
theorem cPq {cells : List (Str × Addr)} {x : Str} : ∀ (names : List (Str × NameKind)) (acc : List (Str × Addr)), (x, NameKind.free) ∈ names -> ((bOq cells names acc).lookup x).isSome = true
  | [], _, h => nomatch h
  | (n, k) :: r, acc, h => by
    rw [bOq]
    rcases List.mem_cons.mp h with e | h
    . cases e
      refine eIq r _ ?_
      rw [if_pos rfl, List.lookup_cons, beq_self_eq_true]; rfl
    . exact cPq r _ h
theorem dPq {g : Str -> NameKind -> NameKind} {x : Str} : ∀ names : List (Str × NameKind), (names.map fun y => (y.1, g y.1 y.2)).lookup x = (names.lookup x).map (g x)
  | [] => rfl
  | (n, k) :: r => by
    rw [List.map_cons, List.lookup_cons, List.lookup_cons]
    cases hx : x == n with
    | true =>
      have e := eq_of_beq hx
      subst e; rfl
    | false => exact dPq r
theorem eEq (scope : Scope) (env : Env) : (relabel scope env).names = scope.names.map fun y => (y.1, if (y.2 == .free && env.scope.kind == .function && env.kindOf y.1 == some .cell) = true then NameKind.cell else y.2) := by
  unfold relabel
  refine List.map_congr_left fun y _ => ?_
  obtain ⟨n, k⟩ := y
  show (if (k == .free && env.scope.kind == .function && env.kindOf n == some .cell) = true then (n, NameKind.cell) else (n, k)) = _
  split <;> simp_all
theorem cDq (scope : Scope) (env : Env) (x : Str) : (relabel scope env).names.lookup x = (scope.names.lookup x).map fun k => if (k == .free && env.scope.kind == .function && env.kindOf x == some .cell) = true then NameKind.cell else k := by
  rw [eEq]
  exact dPq (g := fun n k => if (k == .free && env.scope.kind == .function && env.kindOf n == some .cell) = true then NameKind.cell else k) scope.names
def aUq (X : Cx) (scope : Scope) (N' : List Str) (C : Addr) (ex : List Addr) (s : Shared) (H : Hp) : Cx :=
  { X with N := N', s₀ := s, H₀ := H, env := compEnvC scope (bOq X.env.cells scope.names []) C X.env, outer := X.stack, stack := X.stack, ex := ex, fn := fun _ => false, pn := [], xe := fun _ _ => False }
def c0q (nt : Nat) (cap : List Nat) (σ : St) : St := List.replicate nt none ++ cap.map fun i => (σ[i]?).join
structure CompOk (X : Cx) (scope : Scope) (N' : List Str) (nt : Nat) (cap : List Nat) : Prop where
  kind : scope.kind = .function
  nocell : ∀ y ∈ scope.names, y.2 ≠ .cell
  locs : ∀ y ∈ scope.names, y.2 = .local -> scope.names.lookup y.1 = some .local
  frees : ∀ y ∈ scope.names, y.2 = .free -> X.env.scope.names.lookup y.1 = some .cell \/ X.env.scope.names.lookup y.1 = some .free
  len : N'.length = nt + cap.length
  caps : ∀ (j i : Nat) (x : Str), cap[j]? = some i -> N'[nt + j]? = some x -> X.N[i]? = some x /\ scope.names.lookup x = some .free
section
variable {X : Cx} {scope : Scope} {N' : List Str} {nt : Nat} {cap : List Nat} {pins : List (Addr × Obj)} {σ : St} {H : Hp} {s : Shared}
theorem CompOk.has (c : CompOk X scope N' nt cap) (ok : X.Ok) : ∀ y ∈ scope.names, y.2 = .free -> ∃ a, X.env.cells.lookup y.1 = some a := fun y hy hk => ok.has y.1 (c.frees y hy hk)
theorem CompOk.cells (c : CompOk X scope N' nt cap) (ok : X.Ok) {x : Str} {a : Addr} (e : (bOq X.env.cells scope.names []).lookup x = some a) : X.env.cells.lookup x = some a :=
  fWq scope.names [] (c.has ok) (fun _ _ z => by simp at z) x a e
theorem CompOk.free_of (c : CompOk X scope N' nt cap) {x : Str} (h : (relabel scope X.env).names.lookup x = some .cell \/ (relabel scope X.env).names.lookup x = some .free) : (x, NameKind.free) ∈ scope.names := by
  rw [cDq] at h
  cases q : scope.names.lookup x with
  | none => rw [q] at h; simp at h
  | some k =>
    have hm := PySem.mem_of_lookup q
    have nc : k ≠ .cell := c.nocell _ hm
    rw [q] at h
    by_cases hk : k = .free
    . subst hk; exact hm
    . have hb : (k == NameKind.free) = false := by simpa using hk
      simp only [Option.map_some, hb, Bool.false_and, Bool.false_eq_true, if_false, Option.some.injEq] at h
      rcases h with h | h
      . exact absurd h nc
      . exact absurd h hk
theorem Inv.comp (I : Inv X pins σ H s) (c : CompOk X scope N' nt cap) {fp : List Addr} (hf : ∀ b ∈ fp, gDq X pins H b) (hfs : ∀ b ∈ fp, b < s.heap.objs.size) {h' : Heap} {m : Str -> Option Value} {t' : Nat}
    (hk : ∀ b o, s.heap.get? b = some o -> h'.get? b = some o) (hn : h'.Ns s.heap.objs.size m) :
    Inv (aUq X scope N' s.heap.objs.size fp s H) [] (c0q nt cap σ) H { s with heap := h', toks := t' } := by
  have cl := fun {x : Str} {a : Addr} (e : (bOq X.env.cells scope.names []).lookup x = some a) => c.cells I.ok e
  have cellLt : ∀ x a, X.env.cells.lookup x = some a -> a < s.heap.objs.size := fun x a e => by
    obtain ⟨v, q⟩ := I.cell x a e
    exact q.lt
  refine ⟨⟨I.ok.mod, c.kind, I.ok.glob, I.ok.blt, Nat.le_refl _, fun x y a e1 e2 => I.ok.inj x y a (cl e1) (cl e2), fun x hx => ?_, fun x a hx => absurd hx Bool.false_ne_true, I.ok.hd, I.ok.frames, .inl rfl, fun b hb => ⟨?_, fun x a e => ?_⟩,
      fun b o e => I.bs b o e, Nat.le_trans I.ok.bsz I.sz, fun b o e hb => ?_, fun b hb hbf => ?_, I.stack, fun b hb => I.stkFree b hb⟩,
    rfl, I.bare, Un.kept hk, ⟨m, hn, fun i x v e1 e2 e3 => ?_⟩, fun x a e => ?_, I.hok.fresh (Nat.le_refl _), fun x a e => I.freeC x a (cl e), fun p hp => absurd (show p ∈ ([] : List (Addr × Obj)) from hp) (by simp), I.hok.kept hk, ?_⟩
  . exact Option.isSome_iff_exists.mp (cPq scope.names [] (c.free_of hx))
  . exact Nat.ne_of_lt (hfs b hb)
  . exact (hf b hb).2.2.2.2.1 x a (cl e)
  . obtain ⟨f0, f1, f2, f3, _⟩ := hf b hb
    rcases f3 with z | z
    . exact I.ok.noex b o e z
    . exact absurd (Nat.lt_of_lt_of_le (Heap.lt_size e) (Nat.le_trans I.ok.bsz z)) (Nat.lt_irrefl _)
  . obtain ⟨f0, f1, f2, _⟩ := hf b hb
    rcases List.mem_cons.mp (I.stkSub b hbf) with z | z
    . exact f1 z
    . exact f2 z
  .
    have e1' : N'[i]? = some x := e1
    have hi : nt <= i := by
      refine Nat.le_of_not_lt fun q => ?_
      unfold c0q at e2
      rw [List.getElem?_append_left (by simpa using q), List.getElem?_replicate, if_pos q] at e2
      cases e2
    obtain ⟨j, rfl⟩ := Nat.exists_eq_add_of_le hi
    unfold c0q at e2
    rw [List.getElem?_append_right (by simp), List.length_replicate, Nat.add_sub_cancel_left, List.getElem?_map] at e2
    cases q : cap[j]? with
    | none => rw [q] at e2; cases e2
    | some k =>
      rw [q] at e2
      have e2' : (σ[k]?).join = some v := Option.some.inj e2
      have e4 : σ[k]? = some (some v) := by
        cases z : σ[k]? with
        | none => rw [z] at e2'; cases e2'
        | some w' => rw [z] at e2'; exact congrArg some e2'
      obtain ⟨n1, n2⟩ := c.caps j k x q e1'
      have hmem := PySem.mem_of_lookup n2
      have hkind := c.frees _ hmem rfl
      obtain ⟨m0, _, hl⟩ := I.loc
      obtain ⟨u, r, lk⟩ := hl k x v n1 e4 (.inr hkind)
      refine ⟨u, r, .inr ⟨?_, ?_⟩⟩
      . show (relabel scope X.env).names.lookup x = some .cell \/ (relabel scope X.env).names.lookup x = some .free
        rw [cDq, n2]
        by_cases z : ((NameKind.free == .free && X.env.scope.kind == .function && X.env.kindOf x == some .cell) = true)
        . exact .inl (by rw [Option.map_some, if_pos z])
        . exact .inr (by rw [Option.map_some, if_neg z])
      . rcases lk with ⟨k1, _⟩ | ⟨_, a, e, z⟩
        . have k1' : X.env.scope.names.lookup x = some .local := k1
          rcases hkind with y | y <;> (rw [k1'] at y; cases y)
        . obtain ⟨a', ea⟩ := Option.isSome_iff_exists.mp (cPq (cells := X.env.cells) scope.names [] hmem)
          have e' := cl ea
          rw [e] at e'; cases e'
          obtain ⟨o, ho, hd⟩ := z
          exact ⟨a, ea, o, hk _ _ ho, hd⟩
  . obtain ⟨v, o, ho, hd⟩ := I.cell x a (cl e)
    exact ⟨v, o, hk _ _ ho, hd⟩
  . show (c0q nt cap σ).length = N'.length
    unfold c0q
    rw [List.length_append, List.length_replicate, List.length_map, c.len]
theorem Inv.uncomp {C : Addr} {fp : List Addr} {σ' : St} {H' : Hp} {s' : Shared} (I : Inv X pins σ H s) (hC : C = s.heap.objs.size) (hf : ∀ b ∈ fp, gDq X pins H b) {N' : List Str} (J : Inv (aUq X scope N' C fp s H) [] σ' H' s') :
    ∃ m, s'.heap.Ns C m /\ ∀ h', Heap.SameBut C s'.heap h' -> Inv X pins σ H' { s' with heap := h' } := by
  subst hC
  obtain ⟨m, hn, _⟩ := J.loc
  refine ⟨m, hn, fun h' hs => ?_⟩
  have ne : ∀ b o, s.heap.get? b = some o -> b ≠ s.heap.objs.size := fun b o e => Nat.ne_of_lt (Heap.lt_size e)
  have B := J.base
  refine I.call' (ch := fp) J.os ⟨fun b o e n hb hx => ?_, fun b o e n hb hx => ?_, B.free, fun b o e hx => ?_, B.tups, B.frzs, B.tbls⟩ (fun b u e => ?_) J.bare fun b hb => ?_
  . exact (hs.2 b (ne b o e)).trans (B.keep b o e n hb hx)
  . obtain ⟨sl, q⟩ := B.slot b o e n hb hx
    exact ⟨sl, (hs.2 b (ne b o e)).trans q⟩
  . obtain ⟨o', q⟩ := B.there b o e hx
    exact ⟨o', (hs.2 b (ne b o e)).trans q⟩
  . have hCn : H' s.heap.objs.size = none := J.free
    refine (J.hok b u e).stay (fun d w' hd q => (hs.2 d ?_).trans q) (fun _ q => q) fun _ _ q => q
    intro z
    subst z
    rcases hd with z | z
    . rw [<- z, hCn] at e; cases e
    . rw [hCn] at z; cases z
  . obtain ⟨f0, f1, f2, f3, f4, f5⟩ := hf b hb
    exact ⟨f3, f1, f4, f5⟩
end
def kKq (wi : TI) (g : TG) (te : TE) (nt : Nat) (cap : List Nat) : TE := fun σ H Q => wi σ H fun J H1 => ∀ acc, H1 acc = none →
  ∃ W : Nat -> Nat -> List V -> St -> Hp -> Prop, (∃ m, W 0 m [] (c0q nt cap σ) (upd H1 acc (.lst []))) /\ ∀ i m ys σ' H', W i m ys σ' H' →
    (J.stop i H' /\ Q (.ref acc) H') \/ (J.go i H' /\ ∀ x H2, J.yld i H' x H2 -> g x σ' H2 fun σ3 H3 => te σ3 H3 fun y H4 =>
      H4 acc = some (.lst ys) /\ ys.length < sizeLine /\ ∃ m', m' < m /\ W (i + 1) m' (ys ++ [y]) σ3 (upd H4 acc (.lst (ys ++ [y]))))
section
variable {X : Cx} {scope : Scope} {N' : List Str} {nt : Nat} {cap : List Nat} {elt iter tg : Expr} {pos : Pos} {wi : TI} {g : TG} {te : TE}
theorem kHq (hc : X.calm = true) (c : CompOk X scope N' nt cap) (hi : PI X tg iter wi) (hg : ∀ C ex s H, PG (aUq X scope N' C ex s H) tg g) (he : ∀ C ex s H, PE (aUq X scope N' C ex s H) elt te)
    (hs : ∀ x, foldedSetIterable iter X.env x = pure x := by intro _; rfl) : PE X (.ListComp elt [⟨tg, iter, [], 0⟩] scope pos) (kKq wi g te nt cap) := by
  intro pins s σ H Q I h
  rw [eval_ListComp]
  refine wpAny_comprehension_free (use := none) rfl hs (kDq (c.has I.ok)) c.kind c.locs (thn (hi pins s σ H _ I h) fun v s1 h1 => thn h1 fun itv s2 h2 => ?_)
  obtain ⟨it, fp, tn, J, H2, rfl, I2, T, st2, f2, R⟩ := h2
  have hD : H2 s2.heap.objs.size = none := I2.hok.fresh (Nat.le_refl _)
  obtain ⟨W, ⟨m0, w0⟩, turn⟩ := R _ hD
  have I3 : Inv X pins σ (upd H2 s2.heap.objs.size (.lst [])) { s2 with heap := s2.heap.push { cls := .type "list", dict := none, data := .seq ([] : List Value).toArray } } :=
    I2.laid (t' := s2.toks) (fun b u e => Heap.get?_push_of_some _ e) (Nat.le_refl _) ⟨Nat.zero_le _, [], 0, .nil, Heap.get?_push_size _ rfl⟩
  have fpLt : ∀ b ∈ fp, b < s2.heap.objs.size := fun b hb => by
    obtain ⟨o, e, _⟩ := T.obj _ _ st2 b hb
    exact Heap.lt_size e
  have f3 : ∀ b ∈ fp, gDq X pins (upd H2 s2.heap.objs.size (.lst [])) b := fun b hb => ⟨by rw [aGq (Nat.ne_of_lt (fpLt b hb))]; exact (f2 b hb).1, (f2 b hb).2⟩
  have st3 : tn 0 (s2.heap.push { cls := .type "list", dict := none, data := .seq ([] : List Value).toArray }) := T.keep _ _ _ st2 fun b _ o e => Heap.get?_push_of_some _ e
  generalize hh3 : s2.heap.push { cls := .type "list", dict := none, data := .seq ([] : List Value).toArray } = h3 at I3 st3
  have sz3 : s2.heap.objs.size < h3.objs.size := by rw [<- hh3, Heap.size_push]; exact Nat.lt_succ_self _
  generalize hDD : s2.heap.objs.size = D at I3 f3 hD w0 turn sz3 fpLt
  refine wpAny_newObj_type ?_
  rw [hDD, hh3]
  refine wpAny_newFunctionEnv c.nocell (by intro y hy; simp at hy) (fun h4 hns4 hsb4 => ?_) c.kind
  dsimp only at hns4 hsb4 ⊢
  have keep4 : ∀ b o, h3.get? b = some o -> h4.get? b = some o := fun b o e => (hsb4.2 b (Nat.ne_of_lt (Heap.lt_size e))).trans (Heap.get?_push_of_some _ e)
  have I4 := I3.comp (t' := s2.toks + ([] : List (Str × Value)).length) c f3 (fun b hb => Nat.lt_trans (fpLt b hb) sz3) keep4 hns4
  have st4 : tn 0 h4 := T.keep _ _ _ st3 fun b _ o e => keep4 b o e
  dsimp only at I4
  have fin : ∀ {σ' : St} {H' : Hp} {s' : Shared}, Inv (aUq X scope N' h3.objs.size fp { s2 with heap := h3 } (upd H2 D (.lst []))) [] σ' H' s' -> Q (.ref D) H' →
      compPost (model X.prog X.w) X.A X.xe none (EP X pins σ Q) (.ref D) h3.objs.size (.ok .next) s' := fun {σ' H' s'} J' q => by
    obtain ⟨m, hn, hh⟩ := I3.uncomp rfl f3 J'
    exact ⟨m, hn, fun h' hs' => ⟨.ref D, H', hh h' hs', rfl, q⟩⟩
  have stat : ∀ {H' : Hp}, (∀ b ∈ fp, H' b = none) -> ∀ b ∈ fp, gDq (aUq X scope N' h3.objs.size fp { s2 with heap := h3 } (upd H2 D (.lst []))) [] H' b := fun {H'} hn b hb => by
    refine ⟨hn b hb, Nat.ne_of_lt (Nat.lt_trans (fpLt b hb) sz3), fun z => ?_, .inl hb, fun x a e => (f3 b hb).2.2.2.2.1 x a (c.cells I.ok e), fun p hp => absurd (show p ∈ ([] : List (Addr × Obj)) from hp) (by simp)⟩
    rcases List.mem_cons.mp (I.stkSub b z) with y | y
    . exact (f3 b hb).2.1 y
    . exact (f3 b hb).2.2.1 y
  have loop : codeAny (model X.prog X.w) X.A (.compLoop (.ListComp elt [⟨tg, iter, [], 0⟩] scope pos) 0 (.ref it) (.ref D) (compEnvC scope (bOq X.env.cells scope.names []) h3.objs.size X.env))
      (compPost (model X.prog X.w) X.A X.xe none (EP X pins σ Q) (.ref D) h3.objs.size) { s2 with heap := h4, toks := s2.toks + ([] : List (Str × Value)).length } := by
    refine codeAny_loop rfl (fun n s' => ∃ i ys σ' H', Inv (aUq X scope N' h3.objs.size fp { s2 with heap := h3 } (upd H2 D (.lst []))) [] σ' H' s' /\ tn i s'.heap /\ (∀ b ∈ fp, H' b = none) /\ W i n ys σ' H') (fun n s5 hI => ?_) m0 ⟨0, [], _, _, I4, st4, fun b hb => (f3 b hb).1, w0⟩
    obtain ⟨i, ys, σ5, H5, I5, st5, fr5, w5⟩ := hI
    show wpAny _ X.A ((compTurn (.ListComp elt [⟨tg, iter, [], 0⟩] scope pos) 0 (.ref it) (.ref D) (compEnvC scope (bOq X.env.cells scope.names []) h3.objs.size X.env)).onRaise (fun x => do noteFrame x (compEnvC scope (bOq X.env.cells scope.names []) h3.objs.size X.env); theTreesLotGoes x)) _ _ s5
    refine wpAny_noted ?_
    rw [compTurn_list1]
    rcases turn i n ys σ5 H5 w5 with ⟨stop, qn⟩ | ⟨go, step⟩
    . refine wpAny_bind (wpAny_standAt (wpAny_bind (wpAny_mono (T.done (aUq X scope N' h3.objs.size fp { s2 with heap := h3 } (upd H2 D (.lst []))) rfl rfl rfl hc i [] s5 σ5 H5 (fun _ _ => False) I5 (stat fr5) st5 stop) (fun r s6 ⟨hr, I6⟩ => ?_) fun _ _ z => z.elim)))
      subst hr
      exact wpAny_pure (fin I6 qn)
    . refine wpAny_bind (wpAny_standAt (wpAny_bind (wpAny_mono (T.item (aUq X scope N' h3.objs.size fp { s2 with heap := h3 } (upd H2 D (.lst []))) rfl rfl rfl hc i [] s5 σ5 H5 (fun _ _ => False) I5 (stat fr5) st5 go) (fun r s6 ⟨u, hr, h6⟩ => ?_) fun _ _ z => z.elim)))
      subst hr
      refine wpAny_bind (wpAny_mono h6 (fun _ s7 ⟨x, H7, I7, r7, y7, st7, fr7⟩ => ?_) fun _ _ z => z.elim)
      have I7' := I7.pinned (stat fr7) (T.obj _ _ st7)
      refine wpAny_bind (wpAny_mono (hg _ _ _ _ _ s7 σ5 H7 x u _ I7' r7 (step x H7 y7)) (fun _ s8 ⟨σ8, H8, I8, q8⟩ => ?_) fun _ _ z => z.elim)
      refine wpAny_bind (wpAny_bind (wpAny_mono (he _ _ _ _ _ s8 σ8 H8 _ I8 q8) (fun yv s9 ⟨y, H9, I9, r9, e9, z9, m', hm', w9⟩ => ?_) fun _ _ z => z.elim))
      refine wpAny_bind (wpAny_mono (gMq (X := aUq X scope N' h3.objs.size fp { s2 with heap := h3 } (upd H2 D (.lst []))) _ s9 σ8 H9 (.ref D) [y] (.ref D) [yv] (fun v H10 => v = .non /\ H10 = upd H9 D (.lst (ys ++ [y]))) I9 rfl (.cons r9 .nil) ⟨D, ys, y, rfl, rfl, e9, z9, rfl, rfl⟩)
        (fun _ s10 ⟨v10, H10, I10, _, _, e10⟩ => ?_) fun _ _ z => z.elim)
      subst e10
      refine wpAny_pure (wpAny_pure ⟨rfl, m', hm', i + 1, ys ++ [y], σ8, _, I10.unpinned, ?_, fun b hb => ?_, w9⟩)
      . exact T.keep _ _ _ st7 fun b hb o e => (I10.pin (b, o) (List.mem_append_right _ (List.mem_append_right _ (bMq hb e)))).1
      . obtain ⟨o, e, d⟩ := T.obj _ _ st7 b hb
        exact (I10.pin (b, o) (List.mem_append_right _ (List.mem_append_right _ (bMq hb e)))).2.1
  exact codeAny_compStart_list loop (T.self _ 0 _ _ _ st4 loop)
end
structure Got (P : Program) (w : World) (K : PySem.W.Frag) (mg : Str -> Option Value) (base : Heap) (k : Nat) (x : Str) (ps : List Str) (sp : Sp) : Prop where
  ex : ∃ (f : Addr) (fd : FuncData), FnOk P w K mg base CX0 k f fd ps sp /\ mg x = some (.ref f) /\ PySem.W.keepIn K (.ref f) = true /\ Binds K fd ps []
section
variable {X : Cx} {k j : Nat} {x : Str} {ps : List Str} {sp : Sp} {p pos : Pos} {e : Expr} {es : List Expr} {t : TA}
theorem oZq (G : Got X.prog X.w X.K X.mg X.base k x ps sp) (hr : Room j X.A) (hk : k <= j) (hg : Gl X x) (ha : PA X (e :: es) t) (hdb : (x == ("__debug__" : Str)) = false := by decide)
    (he : starEach (e :: es) X.env = (false, eval e X.env) :: starEach es X.env := by rfl) (hpl : (backTo pos (starEach es X.env)).any (·.1) = false := by rfl) :
    PE X (.Call (.Name x p) (e :: es) [] pos) (jQq sp [] E0 t) := by
  obtain ⟨f, fd, F, hm, kp, b⟩ := G.ex
  exact kBq F (hr.mono hk) hg hm kp b .nil pCq ha hdb he hpl
end
section
variable {X : Cx}
theorem iHq : OpR X (binaryOp .FloorDiv) (rI (fun _ j => 0 < j /\ j < 2 ^ 64) fun i j => .int (i / j)) := opI fun i j t u s E Q hc q => by
  have h0 : j ≠ 0 := by omega
  have h1 : j.natAbs.log2 < 9000 := by
    have e1 : j.natAbs < 2 ^ 64 := by omega
    exact Nat.lt_trans ((Nat.log2_lt (by omega)).mpr e1) (by decide)
  have e : i.fdiv j = i / j := Int.fdiv_eq_ediv_of_nonneg i (by omega)
  exact floordiv_int h0 (by rw [e]; exact q) (.inl (PyProof.noPylong_of_log2 h1))
end
section
variable {X : Cx} {scope : Scope} {N' : List Str} {nt : Nat} {cap : List Nat} {elt iter tg : Expr} {pos : Pos} {wi : TI} {g : TG} {te : TE}
end
def aVq : Expr -> Bool
  | .Starred .. => false
  | _ => true
theorem aAq {e : Expr} {es : List Expr} {env : Env} (h : aVq e = true) : starEach (e :: es) env = (false, eval e env) :: starEach es env := by
  cases e <;> first | rfl | cases h
section
variable {κ : Type} [DecidableEq κ]
theorem RelO.isSome_eq {o : Option V} {u : Option Value} (r : RelO o u) : o.isSome = u.isSome := by
  cases o with
  | none => cases u with
    | none => rfl
    | some _ => exact (show False from r).elim
  | some _ => cases u with
    | none => exact (show False from r).elim
    | some _ => rfl
end
section
variable {P : Program} {w : World} {H : Hp} {h : Heap} {a : Addr}
end
section
variable {X : Cx} {pins : List (Addr × Obj)} {σ : St} {H : Hp} {s : Shared} {a : Addr} {y v : V} {u r : Value} {o : Option V} {A : Around} {E : Value -> Shared -> Prop}
end
section
variable {X : Cx} {pins : List (Addr × Obj)} {σ : St} {H : Hp} {s : Shared} {a : Addr} {kvs : List (Key × V)} {k : Key} {u : Value} {A : Around} {E : Value -> Shared -> Prop}
end
section
variable {X : Cx} {o i e value : Expr} {pos pos' tpos : Pos} {td ty tv : TE}
end
section
variable {X : Cx} {pos : Pos}
end
section
variable {X : Cx} {pins : List (Addr × Obj)} {σ : St} {H : Hp} {s : Shared} {a : Addr} {y d : V} {u r : Value} {o : Option V} {A : Around} {E : Value -> Shared -> Prop}
end
section
variable {X : Cx} {o e f : Expr} {apos cpos : Pos} {td ty tx : TE}
end
section
variable {X : Cx} {pins : List (Addr × Obj)} {σ : St} {H : Hp} {s : Shared} {a : Addr} {kvs : List (Key × V)} {A : Around} {E : Value -> Shared -> Prop}
end
section
variable {X : Cx} {pins : List (Addr × Obj)} {σ : St} {H : Hp} {s : Shared} {a : Addr} {y : V} {u : Value} {A : Around} {E : Value -> Shared -> Prop}
end
section
variable {κ : Type} [DecidableEq κ]
end
section
variable {prog : Program} {w : World} {A : Around} {E : Value -> Shared -> Prop} {s : Shared}
end
section
variable {X : Cx}
def pLq (K : PySem.W.Frag) : R2 := fun x y H Q => ∃ a b xs ys, x = .ref a /\ y = .ref b /\ SqT K H a xs /\ SqT K H b ys /\ xs.length + ys.length <= sizeLine ∧
  (xs = [] -> Q (.ref b) H) /\ (xs ≠ [] -> ys = [] -> Q (.ref a) H) /\ (xs ≠ [] -> ys ≠ [] -> ∀ p, H p = none -> Q (.ref p) (upd H p (.tup (xs ++ ys))))
theorem op_catW : OpR X (binaryOp .Add) (pLq X.K) := by
  intro pins s σ H x y v u Q I rx ry h
  obtain ⟨a, b, xs, ys, rfl, rfl, ha, hb, hz, q0, q1, q2⟩ := h
  by_cases hx : xs = []
  . cases rx; cases ry
    obtain ⟨its, r, ht, _⟩ := I.tuple ha
    obtain ⟨its2, r2, ht2, _⟩ := I.tuple hb
    subst hx
    cases r
    obtain ⟨⟨cls, dd, data, sl⟩, ho, hc, n, hd⟩ := id ht
    obtain ⟨⟨cls2, dd2, data2, sl2⟩, ho2, hc2, n2, hd2⟩ := id ht2
    simp only at hc hd hc2 hd2
    subst hc hd hc2 hd2
    refine concat_meets ⟨_, ho, rfl⟩ ⟨_, ho2, rfl⟩ noFill_tuple_add seq_tuple_add PySem.F.slot_tuple_add PySem.F.entry_tuple_add (PySem.F.args_tuple_add_2 _ _) (tuple_addW0 a b _ its2.toArray n n2 dd dd2 sl sl2 (by simp)) ⟨ho, ho2, ?_⟩
    exact ⟨.ref b, H, I, rfl, q0 rfl⟩
  . exact jRq pins s σ H _ _ v u Q I rx ry ⟨a, b, xs, ys, rfl, rfl, ha, hb, hx, hz, q1 hx, q2 hx⟩
structure KTab (K : PySem.W.Frag) (w : World) (ad : Addr) (tab : Str -> Option V) : Prop where
  ex : ∃ (es : Array DictEntry) (n : Nat), K.lookup ad = some ⟨.type "dict", none, .dict es n, #[]⟩ /\ PySem.W.KeysLit w.params es.toList /\ ∀ x, RelO (tab x) (findBy Value.isStrOf es x)
  low : (ad == sysModules) = false
end
section
variable {X : Cx}
end
structure JE (X : Cx) (e : Expr) (t : TE) : Prop where
  run : PE X e t
structure JT (X : Cx) (e : Expr) (t : TT) : Prop where
  run : PT X e t
structure JW (X : Cx) (e : Expr) (t : TT) : Prop where
  run : PW X e t
structure JA (X : Cx) (es : List Expr) (t : TA) : Prop where
  run : PA X es t
structure JS (X : Cx) (st : Stmt) (t : TS) : Prop where
  run : PS X st t
structure JB (X : Cx) (st : List Stmt) (t : TS) : Prop where
  run : PSs X st t
structure JG (X : Cx) (e : Expr) (t : TG) : Prop where
  run : PG X e t
structure JI (X : Cx) (tg iter : Expr) (wi : TI) : Prop where
  run : PI X tg iter wi
structure JO (X : Cx) (e : Option Expr) (t : TO) : Prop where
  run : PO X e t
structure JOp (X : Cx) (f : Value -> Value -> Sem Value) (r : R2) : Prop where
  run : OpR X f r
structure JUn (X : Cx) (f : Value -> Sem Value) (r : V -> Hp -> VK -> Prop) : Prop where
  run : UnR X f r
structure JCall (X : Cx) (f : Value) (r : List V -> Hp -> VK -> Prop) : Prop where
  run : CallR X f r
structure JIx (X : Cx) (r : R2) : Prop where
  run : IxR X r
structure JSl (X : Cx) (r : V -> Option Int -> Option Int -> Hp -> VK -> Prop) : Prop where
  run : SlR X r
structure JMt (X : Cx) (id : String) (r : V -> List V -> Hp -> VK -> Prop) : Prop where
  run : MtR X id r
structure JIp (X : Cx) (op : Operator) (t : TIp) : Prop where
  run : PIp X op t
structure JSet (X : Cx) (t : mYq) : Prop where
  run : pZq X t
section
variable {X : Cx} {a b c e o i : Expr} {es : List Expr} {ta tb te to ti : TE} {t tr : TA} {pos p apos cpos : Pos}
theorem nZq {n : Int} {j} : JE X (.Constant (.int n) j pos) (tC (.int n)) := ⟨nNq⟩
theorem pDq {n : Bool} {j} : JE X (.Constant (.bool n) j pos) (tC (.bl n)) := ⟨pPq⟩
theorem oJq {x : Str} {j} : JE X (.Constant (.str x) j pos) (tC (.str x)) := ⟨n5q⟩
theorem jv (k : Nat) {x : Str} (hN : X.N[k]? = some x := by rfl) (hv : Vis X.env.scope x := by first | exact Or.inl rfl | exact Or.inr (Or.inl rfl) | exact Or.inr (Or.inr rfl)) (hd : (x == ("__debug__" : Str)) = false := by decide)
    (hcd : (x == ("__classdict__" : Str)) = false := by decide) : JE X (.Name x pos) (qKq k) := ⟨m9q hN hv hd hcd⟩
theorem l9q {x : Str} {v : V} {u : Value} (hg : Gl X x) (hm : X.mg x = none) (hv : bootBuiltins x = some u) (r : RelV v u) (hn : x ≠ "__name__" := by decide) (hd : (x == ("__debug__" : Str)) = false := by decide) : JE X (.Name x pos) (tC v) := ⟨l6q hg hm hv r hn hd⟩
theorem jXq {x : Str} {v : V} {u : Value} (hg : Gl X x) (hm : X.mg x = some u) (r : RelV v u) (hd : (x == ("__debug__" : Str)) = false := by decide) : JE X (.Name x pos) (tC v) := ⟨gOq hg hm r hd⟩
theorem m6q : JA X [] qPq := ⟨mOq⟩
theorem kWq (ha : JE X e te) (hr : JA X es t) (hs : aVq e = true := by rfl) : JA X (e :: es) (nSq te t) := ⟨lGq ha.run hr.run (aAq hs)⟩
theorem mSq {x1} (h : JA X es t) : JE X (.Tuple es x1 pos) (qEq t) := ⟨mTq h.run⟩
theorem jHq (h : JA X es t) : JE X (.List es pos) (qSq t) := ⟨o4q h.run⟩
theorem p8q {op : Operator} {r : R2} (ho : JOp X (binaryOp op) r) (ha : JE X a ta) (hb : JE X b tb) : JE X (.BinOp a op b pos) (tOp r ta tb) := ⟨pEq ho.run ha.run hb.run⟩
theorem q6q {op : UnaryOp} {r : V -> Hp -> VK -> Prop} (ho : JUn X (unaryOp op) r) (ha : JE X a ta) : JE X (.UnaryOp op a pos) (tUn r ta) := ⟨q3q ho.run ha.run⟩
theorem mNq (ha : JE X a ta) : JE X (.UnaryOp .Not a pos) (mPq ta) := ⟨nWq ha.run⟩
theorem kFq {op : CmpOp} {r : R2} (ho : JOp X (compareOp op) r) (ha : JE X a ta) (hb : JE X b tb) (hm : behindInMarks op b = false) : JE X (.Compare a [op] [b] pos) (tOp r ta tb) := ⟨kRq ho.run ha.run hb.run hm⟩
theorem lQq {op} (h : JE X a ta) : JE X (.BoolOp op [a] pos) ta := ⟨nPq h.run⟩
theorem mMq {rest : List Expr} (ha : JE X a ta) (hb : JE X (.BoolOp .And (b :: rest) pos) tb) : JE X (.BoolOp .And (a :: b :: rest) pos) (mCq ta tb) := ⟨mBq ha.run hb.run⟩
theorem pKq {rest : List Expr} (ha : JE X a ta) (hb : JE X (.BoolOp .Or (b :: rest) pos) tb) : JE X (.BoolOp .Or (a :: b :: rest) pos) (qNq ta tb) := ⟨qBq ha.run hb.run⟩
theorem iCq {tc : TT} (hc : JT X c tc) (ha : JE X a ta) (hb : JE X b tb) : JE X (.IfExp c a b pos) (tIf tc ta tb) := ⟨iVq hc.run ha.run hb.run⟩
theorem l3q : JO X none hBq := ⟨kMq⟩
theorem k6q (h : JE X e te) : JO X (some e) (lZq te) := ⟨kUq h.run⟩
theorem iNq {r : V -> Option Int -> Option Int -> Hp -> VK -> Prop} {lo hi : Option Expr} {tl th : TO} {p2 : Pos} (hr : JSl X r) (he : JE X e te) (hl : JO X lo tl) (hu : JO X hi th) : JE X (.Subscript e (.Slice lo hi none p2) pos) (tSl r te tl th) := ⟨iKq hr.run he.run hl.run hu.run⟩
theorem nDq {r : R2} (hr : JIx X r) (ha : JE X a ta) (hb : JE X b tb) (hs : e0q b) : JE X (.Subscript a b pos) (tOp r ta tb) := ⟨p9q hr.run ha.run hb.run hs⟩
theorem bIq {es : List Expr} {env : Env} (h : es.all aVq = true) : (backTo pos (starEach es env)).any (·.1) = false := by
  induction es with
  | nil => rfl
  | cons x r ih =>
    rw [List.all_cons, Bool.and_eq_true] at h
    rw [aAq h.1]
    exact ih h.2
theorem q4q {k j : Nat} {x : Str} {ps : List Str} {sp : Sp} (G : Got X.prog X.w X.K X.mg X.base k x ps sp) (hr : Room j X.A) (hk : k <= j) (hg : Gl X x) (ha : JA X (e :: es) t) (hdb : (x == ("__debug__" : Str)) = false := by decide)
    (hs : (e :: es).all aVq = true := by rfl) : JE X (.Call (.Name x p) (e :: es) [] pos) (jQq sp [] E0 t) := by
  have h := hs
  rw [List.all_cons, Bool.and_eq_true] at h
  exact ⟨oZq G hr hk hg ha.run hdb (aAq h.1) (bIq h.2)⟩
theorem i4q {x : Str} {id : String} {r : List V -> Hp -> VK -> Prop} (hc : JCall X (.builtin id) r) (hg : Gl X x) (hm : X.mg x = none) (hv : bootBuiltins x = some (.builtin id)) (ha : JA X (e :: es) t) (hn : x ≠ "__name__" := by decide) (hdb : (x == ("__debug__" : Str)) = false := by decide)
    (hs : (e :: es).all aVq = true := by rfl) : JE X (.Call (.Name x p) (e :: es) [] pos) (tCB r t) := by
  have h := hs
  rw [List.all_cons, Bool.and_eq_true] at h
  exact ⟨iSq hc.run hg hm hv ha.run hn hdb (aAq h.1) (bIq h.2)⟩
theorem h0q {x : Str} {T : String} {r : List V -> Hp -> VK -> Prop} (hc : JCall X (.type T) r) (hg : Gl X x) (hm : X.mg x = none) (hv : bootBuiltins x = some (.type T)) (ha : JA X (e :: es) t) (hn : x ≠ "__name__" := by decide) (hdb : (x == ("__debug__" : Str)) = false := by decide)
    (hs : (e :: es).all aVq = true := by rfl) : JE X (.Call (.Name x p) (e :: es) [] pos) (tCB r t) := by
  have h := hs
  rw [List.all_cons, Bool.and_eq_true] at h
  exact ⟨h4q hc.run hg hm hv ha.run hn hdb (aAq h.1) (bIq h.2)⟩
theorem p2q {name : Str} {T id : String} {r : V -> List V -> Hp -> VK -> Prop} (pa : PlainAttrs T) (slot : Slot T name id) (hty : typeOf (.builtin id) = pure (.type "method_descriptor")) (hm : JMt X id r) (ho : JE X o to) (ha : JA X [e] t)
    (hbase : attributeBase o name X.env (eval o X.env) = eval o X.env := by rfl) (hline : (apos.endLine == cpos.line) = true := by rfl) (hs : aVq e = true := by rfl) : JE X (.Call (.Attribute o name apos) [e] [] cpos) (tBM X.K T r to t) :=
  ⟨pAq pa slot hty hm.run ho.run ha.run hbase (by rw [aAq hs]; rfl) hline (aAq hs) rfl⟩
theorem n8q {name : Str} {T id : String} {r : V -> List V -> Hp -> VK -> Prop} (pa : PlainAttrs T) (slot : Slot T name id) (hty : typeOf (.builtin id) = pure (.type "method_descriptor")) (hm : JMt X id r) (ho : JE X o to)
    (hbase : attributeBase o name X.env (eval o X.env) = eval o X.env := by rfl) (hline : (apos.endLine == cpos.line) = true := by rfl) : JE X (.Call (.Attribute o name apos) [] [] cpos) (r1q X.K T r to) := ⟨nOq pa slot hty hm.run ho.run hbase hline⟩
theorem jUq {op : CmpOp} {r : R2} (ho : JOp X (compareOp op) r) (ha : JE X a ta) (hb : JE X b tb) (hm : behindInMarks op b = false) : JT X (.Compare a [op] [b] pos) (kTq (tOp r ta tb)) := ⟨lDq ho.run ha.run hb.run hm⟩
theorem lUq {tc : TT} (ha : JT X a tc) : JT X (.UnaryOp .Not a pos) (qWq tc) := ⟨nXq ha.run⟩
theorem j4q (ha : JE X a ta) (he : ∀ whole, isTrue a X.env whole = (do let v ← whole; standAt a.pos; holding [v] (truthy v))) : JT X a (fun σ H Q => ta σ H fun x H' => ∃ k, p0q X.K x H' k /\ Q k H') := ⟨iLq ha.run he⟩
theorem lIq {tA : TT} (ha : JT X a tA) : JW X (.BoolOp .And [a] pos) tA := ⟨kEq ha.run⟩
theorem lVq {tA : TT} (ha : JT X a tA) : JW X (.BoolOp .Or [a] pos) tA := ⟨oDq ha.run⟩
theorem nCq {tA tB' : TT} {rest : List Expr} (ha : JT X a tA) (hb : JW X (.BoolOp .And (b :: rest) pos) tB') : JW X (.BoolOp .And (a :: b :: rest) pos) (qHq tA tB') := ⟨o7q ha.run hb.run⟩
theorem pWq {tA tB' : TT} {rest : List Expr} (ha : JT X a tA) (hb : JW X (.BoolOp .Or (b :: rest) pos) tB') : JW X (.BoolOp .Or (a :: b :: rest) pos) (tOr tA tB') := ⟨oVq ha.run hb.run⟩
theorem JW.pt {tA : TT} (h : JW X e tA) : JT X e tA := ⟨PW.pt h.run⟩
theorem l4q {k : Nat} {x : Str} (hN : X.N.Nodup) (hi : X.N[k]? = some x) (hx : Loc X.env.scope x) (hf : X.fn x = true \/ X.env.scope.names.lookup x = some .local := by first | exact .inl rfl | exact .inr rfl | assumption) : JG X (.Name x pos) (i5q k) := ⟨kSq hN hi hx hf⟩
theorem nLq {tset : mYq} (ho : JE X o to) (hi : JE X i ti) (hs : JSet X tset) (ha : ∀ v, assign (.Subscript o i pos) X.env v = (do
      let ov ← holding [v] (eval o X.env)
      let iv ← holding [v, ov] (eval i X.env)
      standAt pos
      holding [v, ov, iv] (setItem ov iv v)
      release [v, ov, iv] []) := by intro _; rfl) : JG X (.Subscript o i pos) (r3q to ti tset) := ⟨m7q ho.run hi.run hs.run ha⟩
theorem gHq {tg : Expr} (hg : Gl X "range") (hm : X.mg "range" = none) (ha : JA X [a] t) (hs : aVq a = true := by rfl) : JI X tg (.Call (.Name "range" p) [a] [] pos) (m3q t) := ⟨gLq hg hm ha.run (aAq hs)⟩
theorem nRq : JB X [] m0q := ⟨lKq⟩
theorem kVq {st : Stmt} {rest : List Stmt} {ts us : TS} (h1 : JS X st ts) (h2 : JB X rest us) : JB X (st :: rest) (qQq ts us) := ⟨iPq h1.run h2.run⟩
theorem mAq {st : Stmt} {ts : TS} (h1 : JS X st ts) : JB X [st] ts := ⟨k4q h1.run⟩
theorem lYq (he : JE X e te) : JS X (.Return (some e) pos) (r2q te) := ⟨o8q he.run⟩
theorem oYq {ss us : List Stmt} {tc : TT} {ts tu : TS} (hc : JT X c tc) (ha : JB X ss ts) (hb : JB X us tu) : JS X (.If c ss us pos) (qGq tc ts tu) := ⟨q5q hc.run ha.run hb.run⟩
theorem n7q {k : Nat} {x : Str} {pos' : Pos} (hN : X.N.Nodup) (hi : X.N[k]? = some x) (hx : Loc X.env.scope x) (he : JE X e te) (hs : swapsWith e (some (.Name x pos')) pos.line X.env = pure false := by rfl) (hf : X.fn x = true \/ X.env.scope.names.lookup x = some .local := by first | exact .inl rfl | exact .inr rfl | assumption) :
    JS X (.Assign [.Name x pos'] e pos) (oSq te (i5q k)) := ⟨m5q hN hi hx he.run hs hf⟩
theorem lTq {tg : Expr} {g : TG} (he : JE X e te) (hg : JG X tg g) (hs : swapsWithSole [tg] e pos.line X.env = pure false := by rfl) (hw : swappedStores [tg] e X.env = pure none := by rfl) (h1 : (assignEach [tg] X.env).map (·.2) = [assign tg X.env] := by rfl) : JS X (.Assign [tg] e pos) (oSq te g) := ⟨mKq he.run hg.run hs hw h1⟩
theorem oLq {k : Nat} {x : Str} {op : Operator} {tip : TIp} {pos' : Pos} (hN : X.N.Nodup) (hi : X.N[k]? = some x) (hx : Loc X.env.scope x) (he : JE X e te) (ho : JIp X op tip) (hf : X.fn x = true \/ X.env.scope.names.lookup x = some .local := by first | exact .inl rfl | exact .inr rfl | assumption) :
    JS X (.AugAssign (.Name x pos') op e pos) (qVq k te tip) := ⟨oKq hN hi hx he.run ho.run hf⟩
theorem i8q {body : List Stmt} {tc : TT} {tb' : TS} (hp : PassesOwn (model X.prog X.w) X.A X.env X.xe) (hc : JT X c tc) (hb : JB X body tb') : JS X (.While c body [] pos) (jAq tc tb') := ⟨iQq hp hc.run hb.run⟩
theorem lWq {tg iter : Expr} {body : List Stmt} {wi : TI} {g : TG} {tb' : TS} (hp : PassesOwn (model X.prog X.w) X.A X.env X.xe) (hc : X.calm = true) (hi : JI X tg iter wi) (hg : JG X tg g) (hb : JB X body tb') (hs : ∀ x, foldedSetIterable iter X.env x = pure x := by intro _; rfl) :
    JS X (.For tg iter body [] pos) (qLq wi g tb') := ⟨oFq hp hc hi.run hg.run hb.run hs⟩
theorem lJq {scope : Scope} {N' : List Str} {nt : Nat} {cap : List Nat} {elt iter tg : Expr} {wi : TI} {g : TG} (hc : X.calm = true) (ok : CompOk X scope N' nt cap) (hi : JI X tg iter wi) (hg : ∀ C ex s H, JG (aUq X scope N' C ex s H) tg g) (he : ∀ C ex s H, JE (aUq X scope N' C ex s H) elt te)
    (hs : ∀ x, foldedSetIterable iter X.env x = pure x := by intro _; rfl) : JE X (.ListComp elt [⟨tg, iter, [], 0⟩] scope pos) (kKq wi g te nt cap) := ⟨kHq hc ok hi.run (fun C ex s H => (hg C ex s H).run) (fun C ex s H => (he C ex s H).run) hs⟩
end
theorem Fun.okJ {P : Program} {w : World} {K : PySem.W.Frag} {mg : Str -> Option Value} {base : Heap} {x qual : Str} {st : Stmt} {f : Addr} {fd : FuncData} {N ps : List Str} {k : Nat} {sp : Sp} (F : Fun K x qual st f fd) (S : FnScope N ps (a2q st)) (len : ∀ vs H Q E, sp vs H Q E -> vs.length = ps.length)
    (hbody : ∀ (cdv : Value) (A : Around) (outer : List Env) (s : Shared) (H : Hp) (vs : List V) (Q : VK) (E : XK), Room k (A.deeper (envOfC qual (a2q st) s.heap.objs.size f cdv)) -> sp vs H Q E →
      ∃ t, JB (jNq CX0 P w K mg base N qual (a2q st) f cdv A outer s H E).nox (aBq st) t /\ t { nx := fun _ H' => Q .non H', rt := Q } (c9q N vs) H) : FnOk P w K mg base CX0 (k + 1) f fd ps sp :=
  F.ok S len fun cdv A outer s H vs Q E hr h => let ⟨t, j, q⟩ := hbody cdv A outer s H vs Q E hr h; ⟨t, j.run, q⟩
section
variable {X : Cx} {scope : Scope} {N' : List Str} {nt : Nat} {cap : List Nat} {elt iter tg : Expr} {pos : Pos} {wi : TI} {g : TG} {te : TE}
end
section
variable {X : Cx} {tg : Expr}
end
end L2
namespace L2
open PySem PySem.Spec PyProof.Rows Builtin
section
variable {X : Cx}
end
section
variable {X : Cx} {a b c e : Expr} {t : TA} {te : TE} {pos p : Pos}
variable {scope : Scope} {N' : List Str} {nt : Nat} {cap : List Nat} {elt iter tg : Expr} {wi : TI} {g : TG}
end
section
variable {X : Cx} {k j : Nat} {f : Addr} {x : Str} {sp : Sp} {p pos : Pos} {e : Expr} {es : List Expr} {t : TA}
end
end L2
namespace KRv
open PySem PyProof.Rows
theorem pMq : Slot "reversed" "__init__" "object.__init__" := .of (owner := "object") (n := "__init__") (by rw [typeLookup_type, builtinLookup_eq_fast]; kernel_rfl) (by decide +kernel) (by decide +kernel) (by decide +kernel) (by first | exact .inl (by decide +kernel) | exact .inr (by decide +kernel)) (by rw [isSubtype_type]; kernel_rfl)
theorem o2q : TypeCalled "reversed" "reversed.__new__" "object.__init__" := ⟨by decide +kernel, by decide +kernel, ⟨_, _, F.mro_reversed⟩, F.made_reversed, by decide +kernel, by rw [isSubtype_type]; kernel_rfl, pMq⟩
theorem pRq : typeLookup (.type "tuple") "__reversed__" = pure none := by rw [typeLookup_type, builtinLookup_eq_fast]; kernel_rfl
theorem nBq : isSubtype (.type "tuple") (.type "dict") = pure false := by rw [isSubtype_type]; kernel_rfl
abbrev IsRev (h : Heap) (it t : Addr) (k : Int) : Prop := h.get? it = some { cls := .type "reversed", dict := none, data := .fields #[.ref t, rawInt k], slots := #[] }
section
variable {prog : Program} {w : World} {A : Around} {E : Value -> Shared -> Prop} {s : Shared} {it t : Addr}
end
theorem newT (t : Addr) (items : Array Value) (hz : (items.size : Int) < 2 ^ 63) :
    Meets (Builtin.«reversed.__new__» ⟨[.type "reversed", .ref t], []⟩) (fun _ R s => IsTup s.heap t items ∧
      ∀ tk, R (.ok (.ret (.ref s.heap.objs.size))) { s with heap := s.heap.push { cls := .type "reversed", data := .fields #[.ref t, rawInt ((items.size : Int) - 1)] }, toks := tk }) :=
  .of_wp fun prog w A R s ⟨ht, h⟩ => by
    unfold Builtin.«reversed.__new__»
    refine wpAny_bind (wpAny_of_eq (newClass_reversed _) (wpAny_bind (m := Builtin.SmallTypes.refuseKeywords _ _ _) (wpAny_pure ?_)))
    refine wpAny_bind (wpAny_of_eq (a := ()) (by rfl) (wpAny_bind (wpAny_specialOf ht.typeIs pRq (wpAny_bind ?_))))
    refine (show wpAny (model prog w) A.in1 (isInstance (Value.ref t) (.type "dict") >>= _) _ _ s from wpAny_bind (wpAny_isInstance (T := "tuple") (b := false) ht.typeIs nBq ?_))
    rw [if_neg (by decide)]
    refine wpAny_bind (wpAny_specialOf ht.typeIs slot_tuple_getitem.lookup ?_)
    refine (show wpAny (model prog w) A.in1 (if (["tuple.__getitem__", "str.__getitem__", "bytes.__getitem__", "bytearray.__getitem__", "memoryview.__getitem__", "numpy.ndarray.__getitem__", "sqlite3.Row.__getitem__"].contains "tuple.__getitem__") = true then _ else _) _ _ s from ?_)
    rw [if_pos (by decide)]
    refine wpAny_pure ?_
    rw [if_neg (by decide)]
    refine (show wpAny (model prog w) A.in1 (call (.builtin "len") [.ref t] >>= _) _ _ s from wpAny_bind (len_tuple ht hz ?_))
    refine wpAny_bind (m := asInt? (.int (items.size : Int) _)) (wpAny_pure ?_)
    refine (show wpAny (model prog w) A.in1 (newObj (.type "reversed") (.fields #[.ref t, rawInt ((items.size : Int) - 1)]) >>= _) _ _ _ from wpAny_bind (wpAny_newObj_type ?_ (by size_fits)))
    exact wpAny_pure ⟨_, rfl, h _⟩
theorem callT {prog : Program} {w : World} {A : Around} {E : Value -> Shared -> Prop} {s : Shared} {t : Addr} {items : Array Value} {Q : Value -> Shared -> Prop} (ht : IsTup s.heap t items) (hz : (items.size : Int) < 2 ^ 63)
    (h : ∀ tk, Q (.ref s.heap.objs.size) { s with heap := s.heap.push { cls := .type "reversed", data := .fields #[.ref t, rawInt ((items.size : Int) - 1)] }, toks := tk }) : wpAny (model prog w) A (call (.type "reversed") [.ref t]) Q E s :=
  callType_new o2q (by decide) (F.typeCall_reversed_1 _) (F.newCall_reversed_1 _) (fun obj => F.args_object_init_2 obj _) F.entry_reversed_new (newT t items hz) ⟨ht, fun tk => ⟨⟨_, Heap.get?_push_size _ rfl, rfl⟩, h tk⟩⟩
section
variable {prog : Program} {w : World} {A : Around} {E : Value -> Shared -> Prop} {s : Shared} {R : Result -> Shared -> Prop} {I S : Addr} {fp wr : List Addr} {n : Nat} {P : Nat -> Value -> Prop} {St : Nat -> Shared -> Prop}
abbrev listAt (acc : Array Value) (c : Nat) : Obj := { cls := .type "list", dict := none, data := .seq acc c, slots := #[] }
end
theorem moved_eq {wr : List Addr} {s s' : Shared} (hm : Moved wr (fun a b => b = a) s s') : s' = { s with heap := s'.heap, toks := s'.toks } := by
  obtain ⟨h', g', d', tk', os'⟩ := s'
  cases (show g' = s.gens from hm.gens)
  cases (show d' = s.drawn from hm.drawn)
  cases (show os' = s.os from hm.os)
  rfl
end KRv
namespace L2
open PySem PySem.Spec PyProof.Rows
section
variable {X : Cx} {e : Expr} {te : TE} {p p2 pos pos2 : Pos}
def s6q (X : Cx) (pins : List (Addr × Obj)) (σ : St) (R : Addr -> List V -> Hp -> Prop) (v : Value) (s : Shared) : Prop :=
  ∃ (a it : Addr) (xs : List V) (its : List Value) (H : Hp), v = .ref it /\ Inv X pins σ H s /\ KRv.IsRev s.heap it a ((its.toArray.size : Int) - 1) /\ IsTup s.heap a its.toArray /\ a ≠ it /\ Vals xs its /\ its.toArray.size <= sizeLine /\ SqT X.K H a xs /\ gDq X pins H it /\ R a xs H
def rTq (X : Cx) (pins : List (Addr × Obj)) (σ : St) (R : Addr -> List V -> Hp -> Prop) (v : Value) (s : Shared) : Prop :=
  ∃ (a it : Addr) (xs : List V) (its : List Value) (H : Hp), v = .ref it /\ Inv X pins σ H s /\ s.heap.IsRevIter it a ((its.toArray.size : Int) - 1) /\ s.heap.IsList a its.toArray /\ a ≠ it /\ Vals xs its /\ its.toArray.size <= sizeLine /\ SqL X.K H a xs /\ gDq X pins H it /\ R a xs H
theorem pUq {pins : List (Addr × Obj)} {s : Shared} {σ : St} {H : Hp} {R : Addr -> List V -> Hp -> Prop} (hg : Gl X "reversed") (hm : X.mg "reversed" = none) (he : PE X e te) (hs : aVq e = true) (I : Inv X pins σ H s)
    (h : te σ H fun x H1 => ∃ a xs, x = .ref a /\ SqT X.K H1 a xs /\ R a xs H1) : wpAny (model X.prog X.w) X.A (eval (.Call (.Name "reversed" p2) [e] [] pos2) X.env) (s6q X pins σ R) X.xe s := by
  refine wpAny_Call_Name_kw (dJq I hg hm PyProof.Rows.boot_reversed ?_)
  refine PyProof.Rows.callWith_type1 ?_ (aAq hs) rfl
  rw [aAq hs]
  show wpAny _ _ (spliced ((false, eval e X.env) :: backTo pos2 (starEach [] X.env))) _ _ s
  refine Calls.spliced_cons (thn (he pins s σ H _ I h) fun u s1 ⟨x, H1, I1, r1, a, xs, ex, hq, q⟩ => Calls.spliced_nil ?_)
  subst ex
  cases r1
  obtain ⟨its, rv, pl, hz⟩ := I1.tuple hq
  have hl := rv.length
  have h63 := cBq
  refine KRv.callT pl (by rw [List.size_toArray]; omega) fun tk => ?_
  exact ⟨a, s1.heap.objs.size, xs, its, H1, rfl, I1.kept fun b o e => Heap.get?_push_of_some _ e, Heap.get?_push_size _ rfl, pl.push _, Nat.ne_of_lt pl.lt, rv, by rw [List.size_toArray]; omega, hq, I1.fpOk (Nat.le_refl _) (I1.hok.fresh (Nat.le_refl _)), q⟩
theorem p6q {pins : List (Addr × Obj)} {s : Shared} {σ : St} {H : Hp} {R : Addr -> List V -> Hp -> Prop} (hg : Gl X "reversed") (hm : X.mg "reversed" = none) (he : PE X e te) (hs : aVq e = true) (I : Inv X pins σ H s)
    (h : te σ H fun x H1 => ∃ a xs, x = .ref a /\ SqL X.K H1 a xs /\ R a xs H1) : wpAny (model X.prog X.w) X.A (eval (.Call (.Name "reversed" p2) [e] [] pos2) X.env) (rTq X pins σ R) X.xe s := by
  refine wpAny_Call_Name_kw (dJq I hg hm PyProof.Rows.boot_reversed ?_)
  refine PyProof.Rows.callWith_type1 ?_ (aAq hs) rfl
  rw [aAq hs]
  show wpAny _ _ (spliced ((false, eval e X.env) :: backTo pos2 (starEach [] X.env))) _ _ s
  refine Calls.spliced_cons (thn (he pins s σ H _ I h) fun u s1 ⟨x, H1, I1, r1, a, xs, ex, hq, q⟩ => Calls.spliced_nil ?_)
  subst ex
  cases r1
  obtain ⟨its, rv, pl, hz⟩ := I1.list hq
  have hl := rv.length
  have hlt : a < s1.heap.objs.size := by obtain ⟨o, ho, _⟩ := pl.isList; exact Heap.lt_size ho
  refine call_reversed_list pl.isList ?_
  exact ⟨a, s1.heap.objs.size, xs, its, H1, rfl, I1.kept (t' := s1.toks) fun b o e => Heap.get?_push_of_some _ e, ⟨_, Heap.get?_push_size _ rfl, rfl, rfl⟩, let ⟨o, ho, r⟩ := pl.isList; ⟨o, Heap.get?_push_of_some _ ho, r⟩, Nat.ne_of_lt hlt, rv, by rw [List.size_toArray]; omega, hq, I1.fpOk (Nat.le_refl _) (I1.hok.fresh (Nat.le_refl _)), q⟩
theorem pFq {pins : List (Addr × Obj)} {σ : St} {H : Hp} {s s' : Shared} {it : Addr} {acc : Array Value} {c : Nat} {ys : List V} {Q : VK} (I : Inv X pins σ H s) (fp : gDq X pins H it) (hit : it < s.heap.objs.size)
    (hm : Moved (s.heap.objs.size :: [it]) (fun a b => b = a) { s with heap := s.heap.push (KRv.listAt #[] 0) } s') (hS : s'.heap.get? s.heap.objs.size = some (KRv.listAt acc c))
    (rv : Vals ys acc.toList) (hz : ys.length <= sizeLine) (q : ∀ l, H l = none -> Q (.ref l) (upd H l (.lst ys))) : EP X pins σ Q (.ref s.heap.objs.size) s' := by
  have I2 : Inv X pins σ (upd H s.heap.objs.size (.lst ys)) { s with heap := s.heap.push { cls := .type "list", dict := none, data := .seq acc c, slots := #[] } } :=
    I.laid (t' := s.toks) (fun b o e => Heap.get?_push_of_some _ e) (Nat.le_refl _) (show ObjOk X.prog X.w _ _ _ (.lst ys) from ⟨hz, acc.toList, c, rv, by simpa using Heap.get?_push_size s.heap (o := { cls := .type "list", dict := none, data := .seq acc c, slots := #[] }) rfl⟩)
  obtain ⟨f0, f1, f2, f3, f4, f5⟩ := fp
  have I3 := I2.turned (h' := s'.heap) (t' := s'.toks) (it := it) (fun b o hb e => ?_) (by rw [aGq (Nat.ne_of_lt hit)]; exact f0) f1 f3 f4 f5
  . rw [KRv.moved_eq hm]
    exact ⟨.ref s.heap.objs.size, _, I3, rfl, q _ (I.hok.fresh (Nat.le_refl _))⟩
  . rcases Heap.get?_push_cases e with ⟨z1, z2⟩ | e
    . rw [z1, z2]; exact hS
    . refine hm.heap b o (fun z => ?_) (Heap.get?_push_of_some _ e)
      simp only [List.mem_cons, List.not_mem_nil, or_false] at z
      rcases z with z | z
      . rw [z] at e; exact absurd (Heap.lt_size e) (Nat.lt_irrefl _)
      . exact hb z
theorem i0q : ∀ (bs : List Bool), (List.range bs.length).all (fun i => bs.getD i true) = bs.all id := by
  intro bs
  rw [Bool.eq_iff_iff, List.all_eq_true, List.all_eq_true]
  constructor
  . intro h x hx
    obtain ⟨i, hi, e⟩ := List.getElem_of_mem hx
    have := h i (List.mem_range.mpr hi)
    rw [List.getD_eq_getElem?_getD, List.getElem?_eq_getElem hi, Option.getD_some, e] at this
    exact this
  . intro h i hi
    have hi' := List.mem_range.mp hi
    rw [List.getD_eq_getElem?_getD, List.getElem?_eq_getElem hi', Option.getD_some]
    exact h _ (List.getElem_mem hi')
def pGq (K : PySem.W.Frag) : List V -> Hp -> VK -> Prop := fun xs H Q => ∃ (p : Addr) (bs : List Bool), xs = [.ref p] /\ SqL K H p (bs.map V.bl) /\ Q (.bl (bs.all id)) H
theorem hOq (hc : X.calm = true) : CallR X (.builtin "all") (pGq X.K) := by
  intro pins s σ H xs us Q I r h
  obtain ⟨p, bs, rfl, hp, hQ⟩ := h
  obtain ⟨u, rfl, ru⟩ := r.one
  cases ru
  obtain ⟨its, rv, pl, hz⟩ := I.list hp
  have hlen := rv.length
  rw [List.length_map] at hlen
  have hlt : p < s.heap.objs.size := by obtain ⟨o, ho, _⟩ := pl.isList; exact Heap.lt_size ho
  refine call_all_walk (wpAny_pyIter_list pl.isList ?_)
  refine ⟨s.heap.objs.size, [s.heap.objs.size, p], [s.heap.objs.size], its.toArray.size, _, _, fun i => bs.getD i true, rfl, Walks.list (A := X.A.in1) (I.ok.hd hc) _ p (Nat.ne_of_lt hlt) its.toArray, ⟨⟨_, Heap.get?_push_size _ rfl, rfl, rfl⟩, let ⟨o, ho, r⟩ := pl.isList; ⟨o, Heap.get?_push_of_some _ ho, r⟩⟩, ?_, fun h' tk kk => ?_⟩
  . intro i v s' Q' E' hv hq
    have hi : i < its.length := by
      have := (Array.getElem?_eq_some_iff.mp hv).1
      simpa using this
    obtain ⟨v1, e1, e2⟩ := rv.get (i := i) (x := V.bl bs[i]) (by rw [List.getElem?_map, List.getElem?_eq_getElem (by omega)]; rfl)
    have e3 : its[i]? = some v := by simpa using hv
    rw [e1] at e3
    cases e3
    have e4 : v = Value.bool bs[i] := e2
    subst e4
    refine wpAny_truthy_bool ?_
    have e5 : bs.getD i true = bs[i] := by rw [List.getD_eq_getElem?_getD, List.getElem?_eq_getElem (by omega)]; rfl
    rw [<- e5]
    exact hq
  . refine ⟨.bl (bs.all id), H, I.kept fun b o e => kk b o ?_ (Heap.get?_push_of_some _ e), ?_, hQ⟩
    . simp only [List.mem_cons, List.not_mem_nil, or_false]
      exact Nat.ne_of_lt (Heap.lt_size e)
    . show Value.bool _ = Value.bool _
      rw [List.size_toArray, <- hlen, i0q]
end
section
variable {X : Cx} {e : Expr} {te : TE} {p p2 pos pos2 : Pos}
end
end L2
namespace KZp
open PySem PyProof.Rows
section
variable {prog : Program} {w : World} {A : Around} {E : Value -> Shared -> Prop} {s : Shared}
variable {z TI TO i1 i2 l1 l2 : Addr} {i : Nat} {xs ys : Array Value}
end
end KZp
namespace L2
open PySem PySem.Spec PyProof.Rows
section
variable {X : Cx}
end
def fzn (o : Obj) : HO := .frz o (.ext fun _ => True)
section
variable {P : Program} {w : World} {H H' : Hp} {h h' : Heap} {as : List Addr}
end
structure CloAt (H : Hp) (f : Addr) (name qual : Str) (st : Stmt) (cl : List (Str × Addr)) (fvs : List V) : Prop where
  fn : ∃ (oc : Value) (od : Option Addr) (doc pm cdv ct : Value) (sl : Array (Option Value)), H f = some (fzn ⟨oc, od, .func (PySem.W.fnX name qual (aEq st) (aBq st) (a2q st) cl .none .none doc pm none cdv ct), sl⟩) ∧
    ∃ c o vs t, cdv = .ref c /\ H c = some (fzn o) /\ o.data = .fields vs /\ vs[1]? = some (.str qual t)
  cells : ∀ (i : Nat) (x : Str) (c : Addr), cl[i]? = some (x, c) -> ∃ v u o, fvs[i]? = some v /\ RelV v u /\ H c = some (fzn o) /\ o.data = .cell (some u)
  len : cl.length = fvs.length
  nda : (cl.map (·.2)).Nodup
section
variable {P : Program} {w : World} {K : PySem.W.Frag} {mg : Str -> Option Value} {base : Heap} {k : Nat} {name qual : Str} {st : Stmt} {fr : List Str} {fvs : List V} {N ps : List Str} {sp : Sp}
end
section
variable {X : Cx} {k j : Nat} {name qual : Str} {st : Stmt} {fr : List Str} {fvs : List V} {ps : List Str} {x : Str} {sp : Sp} {p pos : Pos} {e : Expr} {es : List Expr} {t : TA}
end
def s1q (env : Env) (fr : List Str) : List (Str × Addr) := fr.map fun x => (x, (env.cells.lookup x).getD 0)
structure MadeAt (env : Env) (H : Hp) (f : Addr) (name qual : Str) (st : Stmt) (fr : List Str) : Prop where
  fn : ∃ (oc : Value) (od : Option Addr) (doc pm cdv ct : Value) (sl : Array (Option Value)), H f = some (fzn ⟨oc, od, .func (PySem.W.fnX name qual (aEq st) (aBq st) (a2q st) (s1q env fr) .none .none doc pm none cdv ct), sl⟩) ∧
    ∃ c o vs t, cdv = .ref c /\ H c = some (fzn o) /\ o.data = .fields vs /\ vs[1]? = some (.str qual t)
section
variable {X : Cx} {pins : List (Addr × Obj)} {σ : St} {H H2 : Hp} {s s' : Shared} {as : List Addr}
end
section
variable {X : Cx} {k j : Nat} {g : Addr} {fd : FuncData} {name qual : Str} {st : Stmt} {fr : List Str} {ix : List Nat} {ps : List Str} {x : Str} {sp : Sp} {p pos : Pos} {e : Expr} {es : List Expr} {t : TA}
end
def Tab (H : Hp) (T : Addr) (pos : Pos) (qual : Str) : Prop := ∃ ps, H T = some (.tbl ps) /\ TriplesOk ps.toList /\ (codeAmong pos ps.toList = none \/ ∃ c o vs t, codeAmong pos ps.toList = some (.ref c) /\ H c = some (fzn o) /\ o.data = .fields vs /\ vs[1]? = some (.str qual t))
section
variable {P : Program} {w : World} {H : Hp} {h h' : Heap} {T c : Addr} {ps mo : Array Value} {oc : Obj} {fs ex : List Addr}
end
section
variable {X : Cx} {i : Nat} {T c : Addr} {name : Str} {params : Arguments} {body : List Stmt} {scope : Scope} {pos : Pos} {fr : List Str}
end
section
variable {P : Program} {w : World} {K : PySem.W.Frag} {mg mb : Str -> Option Value} {k : Nat} {fa a : Addr} {fd : FuncData} {x : Str} {sp : Sp} {s₁ : Shared} {vs : List Value} {ns : List Int} {tabs : List (Addr × Addr)}
end
end L2
namespace L3
open PySem PySem.Spec L2
inductive D where
  | non | bl (b : Bool) | int (i : Int) | str (x : Str) | ref (a : Addr) | ty (n : String) | tup (ds : List D) | frl (ds : List D)
def FrL (K : PySem.W.Frag) (H : Hp) (a : Addr) (xs : List V) : Prop :=
  (∃ o, H a = some (.frz o (.lst xs))) \/ ∃ (o : Obj) (its : Array Value) (n : Nat), K.lookup a = some o /\ o.cls = .type "list" /\ o.dict = none /\ o.data = .seq its n /\ its.size <= sizeLine /\ Vals xs its.toList
theorem FrL.sq {K : PySem.W.Frag} {H : Hp} {a : Addr} {xs : List V} (h : FrL K H a xs) : SqL K H a xs := by
  rcases h with h | h
  . exact .inl (.inr h)
  . exact .inr h
mutual
def Abs (K : PySem.W.Frag) (H : Hp) : D -> V -> Prop
  | .non, v => v = .non
  | .bl b, v => v = .bl b
  | .int i, v => v = .int i
  | .str x, v => v = .str x
  | .ref a, v => v = .ref a
  | .ty n, v => v = .ty n
  | .tup ds, v => ∃ a vs, v = .ref a /\ SqT K H a vs /\ AbsL K H ds vs
  | .frl ds, v => ∃ a vs, v = .ref a /\ FrL K H a vs /\ AbsL K H ds vs
def AbsL (K : PySem.W.Frag) (H : Hp) : List D -> List V -> Prop
  | [], vs => vs = []
  | d :: ds, vs => ∃ v r, vs = v :: r /\ Abs K H d v /\ AbsL K H ds r
end
structure Mono (K : PySem.W.Frag) (H H' : Hp) : Prop where
  tp : ∀ a xs, SqT K H a xs -> SqT K H' a xs
  fr : ∀ a xs, FrL K H a xs -> FrL K H' a xs
  fz : ∀ a o, H a = some (fzn o) -> H' a = some (fzn o)
section
variable {K : PySem.W.Frag} {H H' : Hp}
mutual
theorem Abs.mono (h : Mono K H H') : ∀ {d : D} {v : V}, Abs K H d v -> Abs K H' d v
  | .non, _, r => r
  | .bl _, _, r => r
  | .int _, _, r => r
  | .str _, _, r => r
  | .ref _, _, r => r
  | .ty _, _, r => r
  | .tup _, _, ⟨a, vs, e, q, l⟩ => ⟨a, vs, e, h.tp a vs q, AbsL.mono h l⟩
  | .frl _, _, ⟨a, vs, e, q, l⟩ => ⟨a, vs, e, h.fr a vs q, AbsL.mono h l⟩
theorem AbsL.mono (h : Mono K H H') : ∀ {ds : List D} {vs : List V}, AbsL K H ds vs -> AbsL K H' ds vs
  | [], _, r => r
  | _ :: _, _, ⟨v, r, e, q, l⟩ => ⟨v, r, e, Abs.mono h q, AbsL.mono h l⟩
end
theorem AbsL.len : ∀ {ds : List D} {vs : List V}, AbsL K H ds vs -> vs.length = ds.length
  | [], _, r => by cases r; rfl
  | _ :: _, _, ⟨v, r, e, _, l⟩ => by subst e; simp [l.len]
theorem AbsL.append : ∀ {ds es : List D} {vs us : List V}, AbsL K H ds vs -> AbsL K H es us -> AbsL K H (ds ++ es) (vs ++ us)
  | [], _, _, _, r, s => by cases r; exact s
  | _ :: _, _, _, _, ⟨v, r, e, q, l⟩, s => by subst e; exact ⟨v, _, rfl, q, l.append s⟩
theorem AbsL.one {d : D} {v : V} (h : Abs K H d v) : AbsL K H [d] [v] := ⟨v, [], rfl, h, rfl⟩
theorem AbsL.get : ∀ {ds : List D} {vs : List V} {i : Nat} {d : D}, AbsL K H ds vs -> ds[i]? = some d -> ∃ v, vs[i]? = some v /\ Abs K H d v
  | [], _, _, _, _, e => by simp at e
  | _ :: _, _, 0, _, ⟨v, r, e', q, l⟩, e => by simp at e; subst e e'; exact ⟨v, rfl, q⟩
  | _ :: _, _, i + 1, d, ⟨v, r, e', q, l⟩, e => by
    subst e'
    obtain ⟨u, h1, h2⟩ := AbsL.get (i := i) (d := d) l (by simpa using e)
    exact ⟨u, by simpa using h1, h2⟩
theorem AbsL.set {d : D} {v : V} (h : Abs K H d v) : ∀ {ds : List D} {vs : List V} (i : Nat), AbsL K H ds vs -> AbsL K H (ds.set i d) (vs.set i v)
  | [], _, _, r => by cases r; simp [AbsL]
  | _ :: _, _, 0, ⟨u, r, e, q, l⟩ => by subst e; exact ⟨v, r, rfl, h, l⟩
  | _ :: _, _, i + 1, ⟨u, r, e, q, l⟩ => by subst e; exact ⟨u, _, rfl, q, l.set h i⟩
theorem AbsL.ints {ns : List Int} : ∀ {vs : List V}, AbsL K H (ns.map D.int) vs -> vs = ns.map V.int := by
  induction ns with
  | nil => intro vs h; exact h
  | cons n ns ih => rintro vs ⟨v, r, e, q, l⟩; subst e; rw [ih l, show v = V.int n from q]; rfl
theorem AbsL.of_ints : ∀ (ns : List Int), AbsL K H (ns.map D.int) (ns.map V.int)
  | [] => rfl
  | n :: ns => ⟨_, _, rfl, rfl, AbsL.of_ints ns⟩
end
inductive DO where
  | lst (ds : List D)
  | ins (C : Addr) (fs : List (Str × D))
  | dK (kvs : List (Key × D))
  | dT (kvs : List (List Key × D))
  | tab (pos : Pos) (qual : Str) | made (env : Env) (name qual : Str) (st : Stmt) (fr : List Str) | clo (name qual : Str) (st : Stmt) (fr : List Str) (vals : List D)
abbrev DV := Addr -> Option DO
abbrev DSt := List (Option D)
def up (G : DV) (a : Addr) (o : DO) : DV := fun b => if b = a then some o else G b
theorem aJq {G : DV} {a : Addr} {o : DO} : up G a o a = some o := by unfold up; rw [if_pos rfl]
theorem c1q {G : DV} {a b : Addr} {o : DO} (h : b ≠ a) : up G a o b = G b := by unfold up; rw [if_neg h]
theorem p1q {G : DV} {a : Addr} {o u : DO} : up (up G a o) a u = up G a u := by funext b; unfold up; split <;> rfl
theorem l2q {G : DV} {a b : Addr} {o u : DO} (h : a ≠ b) : up (up G a o) b u = up (up G b u) a o := by
  funext c; unfold up; split <;> split <;> simp_all
def oWq {κ : Type} (K : PySem.W.Frag) (H : Hp) (fs : List (κ × D)) (gs : List (κ × V)) : Prop := fs.map (·.1) = gs.map (·.1) /\ AbsL K H (fs.map (·.2)) (gs.map (·.2))
def BearO (K : PySem.W.Frag) (H : Hp) (a : Addr) : DO -> Prop
  | .lst ds => ∃ vs, H a = some (.lst vs) /\ AbsL K H ds vs
  | .ins C fs => ∃ dx gs, H a = some (.ins C dx gs) /\ oWq K H fs gs
  | .dK kvs => ∃ gs, H a = some (.dK gs) /\ oWq K H kvs gs
  | .dT kvs => ∃ gs, H a = some (.dT gs) /\ oWq K H kvs gs
  | .tab pos qual => Tab H a pos qual
  | .made env name qual st fr => MadeAt env H a name qual st fr
  | .clo name qual st fr vals => ∃ cl fvs, CloAt H a name qual st cl fvs /\ cl.map (·.1) = fr /\ AbsL K H vals fvs
def Vw (K : PySem.W.Frag) (G : DV) (H : Hp) : Prop := ∀ a o, G a = some o -> BearO K H a o
theorem BearO.some {K : PySem.W.Frag} {H : Hp} {a : Addr} {o : DO} (h : BearO K H a o) : ∃ u, H a = .some u := by
  cases o with
  | lst ds => obtain ⟨_, e, _⟩ := h; exact ⟨_, e⟩
  | ins C fs => obtain ⟨_, _, e, _⟩ := h; exact ⟨_, e⟩
  | dK kvs => obtain ⟨_, e, _⟩ := h; exact ⟨_, e⟩
  | dT kvs => obtain ⟨_, e, _⟩ := h; exact ⟨_, e⟩
  | tab pos qual => obtain ⟨_, e, _⟩ := h; exact ⟨_, e⟩
  | made env name qual st fr => obtain ⟨_, _, _, _, _, _, _, e, _⟩ := h.fn; exact ⟨_, e⟩
  | clo name qual st fr vals => obtain ⟨_, _, h, _⟩ := h; obtain ⟨_, _, _, _, _, _, _, e, _⟩ := h.fn; exact ⟨_, e⟩
theorem Vw.none {K : PySem.W.Frag} {G : DV} {H : Hp} (h : Vw K G H) {a : Addr} (e : H a = .none) : G a = .none := by
  cases q : G a with
  | none => rfl
  | some o => obtain ⟨u, z⟩ := (h a o q).some; rw [e] at z; cases z
theorem BearO.mono {K : PySem.W.Frag} {H H' : Hp} {a : Addr} {o : DO} (ht : Mono K H H') (e : H' a = H a) (h : BearO K H a o) : BearO K H' a o := by
  cases o with
  | lst ds => obtain ⟨vs, q, l⟩ := h; exact ⟨vs, by rw [e]; exact q, l.mono ht⟩
  | ins C fs => obtain ⟨dx, gs, q, l⟩ := h; exact ⟨dx, gs, by rw [e]; exact q, l.1, l.2.mono ht⟩
  | dK kvs => obtain ⟨gs, q, l⟩ := h; exact ⟨gs, by rw [e]; exact q, l.1, l.2.mono ht⟩
  | dT kvs => obtain ⟨gs, q, l⟩ := h; exact ⟨gs, by rw [e]; exact q, l.1, l.2.mono ht⟩
  | tab pos qual =>
    obtain ⟨ps, h1, h2, h3⟩ := h
    refine ⟨ps, by rw [e]; exact h1, h2, ?_⟩
    rcases h3 with h3 | ⟨c, o, vs, t, h3, h4, h5⟩
    . exact .inl h3
    . exact .inr ⟨c, o, vs, t, h3, ht.fz _ _ h4, h5⟩
  | made env name qual st fr =>
    obtain ⟨oc, od, doc, pm, cdv, ct, sl, h1, c, o, vs, t, h2, h3, h4⟩ := h.fn
    exact ⟨oc, od, doc, pm, cdv, ct, sl, ht.fz _ _ h1, c, o, vs, t, h2, ht.fz _ _ h3, h4⟩
  | clo name qual st fr vals =>
    obtain ⟨cl, fvs, C, h1, h2⟩ := h
    obtain ⟨oc, od, doc, pm, cdv, ct, sl, h3, c, o, vs, t, h4, h5, h6⟩ := C.fn
    exact ⟨cl, fvs, ⟨⟨oc, od, doc, pm, cdv, ct, sl, ht.fz _ _ h3, c, o, vs, t, h4, ht.fz _ _ h5, h6⟩, fun i x c hi => let ⟨v, u, o, z1, z2, z3, z4⟩ := C.cells i x c hi; ⟨v, u, o, z1, z2, ht.fz _ _ z3, z4⟩, C.len, C.nda⟩, h1, h2.mono ht⟩
structure Go (K : PySem.W.Frag) (G : DV) (H : Hp) (G' : DV) (H' : Hp) : Prop where
  tup : Mono K H H'
  dom : ∀ a o, H a = some o -> ∃ o', H' a = some o'
  same : ∀ a o, H a = some o -> G a = none -> H' a = some o
  new : ∀ a o, H a = some o -> G a = none -> G' a = none
  vw : Vw K G' H'
section
variable {K : PySem.W.Frag} {G G1 G2 G' : DV} {H H1 H2 H' : Hp}
theorem Go.refl (v : Vw K G H) : Go K G H G H := ⟨⟨fun _ _ h => h, fun _ _ h => h, fun _ _ h => h⟩, fun _ o e => ⟨o, e⟩, fun _ _ e _ => e, fun _ _ _ e => e, v⟩
theorem Go.trans (a : Go K G H G1 H1) (b : Go K G1 H1 G2 H2) : Go K G H G2 H2 :=
  ⟨⟨fun x xs h => b.tup.tp x xs (a.tup.tp x xs h), fun x xs h => b.tup.fr x xs (a.tup.fr x xs h), fun x o h => b.tup.fz x o (a.tup.fz x o h)⟩, fun x o e => let ⟨o', e'⟩ := a.dom x o e; b.dom x o' e', fun x o e n => b.same x o (a.same x o e n) (a.new x o e n),
   fun x o e n => b.new x o (a.same x o e n) (a.new x o e n), b.vw⟩
def Sub (G G' : DV) : Prop := ∀ a o, G a = some o -> G' a = some o
theorem Sub.refl (G : DV) : Sub G G := fun _ _ e => e
theorem Sub.none {G G' : DV} (h : Sub G G') {a : Addr} (e : G' a = .none) : G a = .none := by
  cases q : G a with
  | none => rfl
  | some o => rw [h a o q] at e; cases e
theorem Vw.sub (v : Vw K G' H) (h : Sub G G') : Vw K G H := fun a o e => v a o (h a o e)
theorem Go.sub (g : Go K G H G1 H1) (h : Sub G2 G1) : Go K G H G2 H1 := ⟨g.tup, g.dom, g.same, fun x o e n => h.none (g.new x o e n), g.vw.sub h⟩
theorem l1q {a p : Addr} {o : HO} {xs : List V} (hp : ∀ ys, ¬ Rd H p (.tup ys)) (h : SqT K H a xs) : SqT K (upd H p o) a xs := by
  rcases h with h | h
  . have ne : a ≠ p := by rintro rfl; exact hp _ h
    refine .inl ?_
    unfold Rd at h ⊢
    rw [aGq ne]; exact h
  . exact .inr h
theorem jYq {p : Addr} {ys : List V} (h : H p = none) : ¬ Rd H p (.tup ys) := by
  rintro (e | ⟨o, e⟩) <;> rw [h] at e <;> cases e
theorem oOq {p : Addr} {xs ys : List V} (h : H p = some (.lst xs)) : ¬ Rd H p (.tup ys) := by
  rintro (e | ⟨o, e⟩) <;> rw [h] at e <;> cases e
theorem fNq {p : Addr} {o : HO} (hp : ∀ ys, ¬ Rd H p (.tup ys)) (hl : ∀ o ys, H p ≠ some (.frz o ys)) : Mono K H (upd H p o) where
  tp := fun _ _ q => l1q hp q
  fr := fun a xs q => by
    rcases q with ⟨z, q⟩ | q
    . exact .inl ⟨z, by rw [aGq (by rintro rfl; exact hl _ _ q)]; exact q⟩
    . exact .inr q
  fz := fun a u q => by rw [aGq (by rintro rfl; exact hl _ _ q)]; exact q
theorem c7q {p : Addr} {o : HO} (h : H p = none) : Mono K H (upd H p o) := fNq (fun _ => jYq h) fun _ _ e => by rw [h] at e; cases e
theorem aXq {p : Addr} {o : HO} {xs : List V} (h : H p = some (.lst xs)) : Mono K H (upd H p o) := fNq (fun _ => oOq h) fun _ _ e => by rw [h] at e; cases e
theorem Go.newT (v : Vw K G H) {p : Addr} {o : HO} (h : H p = none) : Go K G H G (upd H p o) where
  tup := c7q h
  dom := fun a u e => ⟨u, by rw [aGq (aFq e h)]; exact e⟩
  same := fun a u e _ => by rw [aGq (aFq e h)]; exact e
  new := fun _ _ _ e => e
  vw := fun a u e => (v a u e).mono (c7q h) (aGq (by rintro rfl; obtain ⟨z, q⟩ := (v _ _ e).some; rw [h] at q; cases q))
theorem Go.newL (v : Vw K G H) {p : Addr} {ds : List D} {vs : List V} (h : H p = none) (r : AbsL K H ds vs) : Go K G H (up G p (.lst ds)) (upd H p (.lst vs)) where
  tup := c7q h
  dom := fun a u e => ⟨u, by rw [aGq (aFq e h)]; exact e⟩
  same := fun a u e _ => by rw [aGq (aFq e h)]; exact e
  new := fun a u e n => by rw [c1q (aFq e h)]; exact n
  vw := fun a u e => by
    by_cases c : a = p
    . subst c; rw [aJq] at e; cases e
      exact ⟨vs, aSq, r.mono (c7q h)⟩
    . rw [c1q c] at e
      exact (v a u e).mono (c7q h) (aGq c)
theorem Go.setL (v : Vw K G H) {p : Addr} {ds0 ds : List D} {vs : List V} (h : G p = some (.lst ds0)) (r : AbsL K H ds vs) : Go K G H (up G p (.lst ds)) (upd H p (.lst vs)) := by
  obtain ⟨us, hp, _⟩ := v p _ h
  exact {
    tup := aXq hp
    dom := fun a u e => by
      by_cases c : a = p
      . subst c; exact ⟨_, aSq⟩
      . exact ⟨u, by rw [aGq c]; exact e⟩
    same := fun a u e n => by
      have c : a ≠ p := by rintro rfl; rw [h] at n; cases n
      rw [aGq c]; exact e
    new := fun a u e n => by
      have c : a ≠ p := by rintro rfl; rw [h] at n; cases n
      rw [c1q c]; exact n
    vw := fun a u e => by
      by_cases c : a = p
      . subst c; rw [aJq] at e; cases e
        exact ⟨vs, aSq, r.mono (aXq hp)⟩
      . rw [c1q c] at e
        exact (v a u e).mono (aXq hp) (aGq c) }
end
structure Bears (K : PySem.W.Frag) (ρ : DSt) (G : DV) (σ : St) (H : Hp) : Prop where
  len : ρ.length = σ.length
  st : ∀ (i : Nat) (d : D), ρ[i]? = some (some d) -> ∃ v, σ[i]? = some (some v) /\ Abs K H d v
  vw : Vw K G H
theorem Bears.go {K : PySem.W.Frag} {ρ : DSt} {G G' : DV} {σ : St} {H H' : Hp} (b : Bears K ρ G σ H) (g : Go K G H G' H') : Bears K ρ G' σ H' :=
  ⟨b.len, fun i d e => let ⟨v, h1, h2⟩ := b.st i d e; ⟨v, h1, h2.mono g.tup⟩, g.vw⟩
theorem Bears.set {K : PySem.W.Frag} {ρ : DSt} {G : DV} {σ : St} {H : Hp} {d : D} {v : V} (b : Bears K ρ G σ H) (h : Abs K H d v) (i : Nat) : Bears K (ρ.set i (some d)) G (σ.set i (some v)) H where
  len := by simp [b.len]
  vw := b.vw
  st := fun j e he => by
    by_cases c : j = i
    . subst c
      rw [List.getElem?_set] at he ⊢
      have l := b.len
      simp only [if_true] at he ⊢
      split at he
      . next q => rw [if_pos (by omega)]; simp at he; subst he; exact ⟨v, rfl, h⟩
      . cases he
    . rw [List.getElem?_set_ne (by omega)] at he ⊢
      exact b.st j e he
def StSub (ρ ρ' : DSt) : Prop := ρ.length = ρ'.length /\ ∀ (i : Nat) (d : D), ρ[i]? = some (some d) -> ρ'[i]? = some (some d)
theorem StSub.refl (ρ : DSt) : StSub ρ ρ := ⟨rfl, fun _ _ e => e⟩
theorem Bears.weak {K : PySem.W.Frag} {ρ ρ' : DSt} {G G' : DV} {σ : St} {H : Hp} (b : Bears K ρ' G' σ H) (s : StSub ρ ρ') (g : Sub G G') : Bears K ρ G σ H :=
  ⟨s.1.trans b.len, fun i d e => b.st i d (s.2 i d e), b.vw.sub g⟩
abbrev DK := D -> DV -> Prop
abbrev DTE := DSt -> DV -> DK -> Prop
abbrev DTT := DSt -> DV -> (Bool -> DV -> Prop) -> Prop
abbrev DTA := DSt -> DV -> (List D -> DV -> Prop) -> Prop
abbrev DTO := DSt -> DV -> (Option Int -> DV -> Prop) -> Prop
structure DEnds where
  nx : DSt -> DV -> Prop
  rt : DK
  bk : DSt -> DV -> Prop := fun _ _ => False
  ct : DSt -> DV -> Prop := fun _ _ => False
abbrev DTS := DEnds -> DSt -> DV -> Prop
abbrev Fin (K : PySem.W.Frag) (G : DV) (H : Hp) (DQ : DK) (Q : VK) : Prop := ∀ d G' v H', Go K G H G' H' -> Abs K H' d v -> DQ d G' -> Q v H'
abbrev qMq (K : PySem.W.Frag) (G : DV) (H : Hp) (DQ : Bool -> DV -> Prop) (Q : Bool -> Hp -> Prop) : Prop := ∀ b G' H', Go K G H G' H' -> DQ b G' -> Q b H'
abbrev rPq (K : PySem.W.Frag) (G : DV) (H : Hp) (DQ : Option Int -> DV -> Prop) (Q : Option Int -> Hp -> Prop) : Prop := ∀ b G' H', Go K G H G' H' -> DQ b G' -> Q b H'
abbrev rMq (K : PySem.W.Frag) (n : Nat) (G : DV) (H : Hp) (DQ : List D -> DV -> Prop) (Q : List V -> Hp -> Prop) : Prop := ∀ ds G' vs H', Go K G H G' H' -> AbsL K H' ds vs -> ds.length = n -> DQ ds G' -> Q vs H'
structure AE (X : Cx) (e : Expr) (t : DTE) : Prop where
  run : ∃ tc : TE, JE X e tc /\ ∀ ρ G DQ σ H Q, Bears X.K ρ G σ H -> t ρ G DQ -> Fin X.K G H DQ Q -> tc σ H Q
structure AT (X : Cx) (e : Expr) (t : DTT) : Prop where
  run : ∃ tc : TT, JT X e tc /\ ∀ ρ G DQ σ H Q, Bears X.K ρ G σ H -> t ρ G DQ -> qMq X.K G H DQ Q -> tc σ H Q
structure AW (X : Cx) (e : Expr) (t : DTT) : Prop where
  run : ∃ tc : TT, JW X e tc /\ ∀ ρ G DQ σ H Q, Bears X.K ρ G σ H -> t ρ G DQ -> qMq X.K G H DQ Q -> tc σ H Q
structure AA (X : Cx) (es : List Expr) (t : DTA) : Prop where
  run : ∃ tc : TA, JA X es tc /\ ∀ ρ G DQ σ H Q, Bears X.K ρ G σ H -> t ρ G DQ -> rMq X.K es.length G H DQ Q -> tc σ H Q
structure AO (X : Cx) (e : Option Expr) (t : DTO) : Prop where
  run : ∃ tc : TO, JO X e tc /\ ∀ ρ G DQ σ H Q, Bears X.K ρ G σ H -> t ρ G DQ -> rPq X.K G H DQ Q -> tc σ H Q
structure EndsOk (K : PySem.W.Frag) (G : DV) (H : Hp) (DD : DEnds) (Dc : Ends) : Prop where
  nx : ∀ ρ G' σ H', Go K G H G' H' -> Bears K ρ G' σ H' -> DD.nx ρ G' -> Dc.nx σ H'
  rt : Fin K G H DD.rt Dc.rt
  bk : ∀ ρ G' σ H', Go K G H G' H' -> Bears K ρ G' σ H' -> DD.bk ρ G' -> Dc.bk σ H'
  ct : ∀ ρ G' σ H', Go K G H G' H' -> Bears K ρ G' σ H' -> DD.ct ρ G' -> Dc.ct σ H'
structure AS (X : Cx) (st : Stmt) (t : DTS) : Prop where
  run : ∃ tc : TS, JS X st tc /\ ∀ DD Dc ρ G σ H, Bears X.K ρ G σ H -> t DD ρ G -> EndsOk X.K G H DD Dc -> tc Dc σ H
structure AB (X : Cx) (st : List Stmt) (t : DTS) : Prop where
  run : ∃ tc : TS, JB X st tc /\ ∀ DD Dc ρ G σ H, Bears X.K ρ G σ H -> t DD ρ G -> EndsOk X.K G H DD Dc -> tc Dc σ H
abbrev DTG := D -> DSt -> DV -> (DSt -> DV -> Prop) -> Prop
abbrev qTq (K : PySem.W.Frag) (G : DV) (H : Hp) (DQ : DSt -> DV -> Prop) (Q : St -> Hp -> Prop) : Prop := ∀ ρ G' σ H', Go K G H G' H' -> Bears K ρ G' σ H' -> DQ ρ G' -> Q σ H'
structure AG (X : Cx) (tg : Expr) (t : DTG) : Prop where
  run : ∃ tc : TG, JG X tg tc /\ ∀ d v ρ G DQ σ H Q, Bears X.K ρ G σ H -> Abs X.K H d v -> t d ρ G DQ -> qTq X.K G H DQ Q -> tc v σ H Q
abbrev DR1 := D -> DV -> DK -> Prop
abbrev DR2 := D -> D -> DV -> DK -> Prop
abbrev DRL := List D -> DV -> DK -> Prop
structure AOp (X : Cx) (f : Value -> Value -> Sem Value) (r : DR2) : Prop where
  run : ∃ rc : R2, JOp X f rc /\ ∀ x y vx vy G H DQ Q, Vw X.K G H -> Abs X.K H x vx -> Abs X.K H y vy -> r x y G DQ -> Fin X.K G H DQ Q -> rc vx vy H Q
structure AUn (X : Cx) (f : Value -> Sem Value) (r : DR1) : Prop where
  run : ∃ rc : V -> Hp -> VK -> Prop, JUn X f rc /\ ∀ x vx G H DQ Q, Vw X.K G H -> Abs X.K H x vx -> r x G DQ -> Fin X.K G H DQ Q -> rc vx H Q
structure ACall (X : Cx) (f : Value) (r : DRL) : Prop where
  run : ∃ rc : List V -> Hp -> VK -> Prop, JCall X f rc /\ ∀ xs vs G H DQ Q, Vw X.K G H -> AbsL X.K H xs vs -> r xs G DQ -> Fin X.K G H DQ Q -> rc vs H Q
structure AIx (X : Cx) (r : DR2) : Prop where
  run : ∃ rc : R2, JIx X rc /\ ∀ x y vx vy G H DQ Q, Vw X.K G H -> Abs X.K H x vx -> Abs X.K H y vy -> r x y G DQ -> Fin X.K G H DQ Q -> rc vx vy H Q
structure ASl (X : Cx) (r : D -> Option Int -> Option Int -> DV -> DK -> Prop) : Prop where
  run : ∃ rc, JSl X rc /\ ∀ x vx lo hi G H DQ Q, Vw X.K G H -> Abs X.K H x vx -> r x lo hi G DQ -> Fin X.K G H DQ Q -> rc vx lo hi H Q
theorem Fin.after {K : PySem.W.Frag} {G G1 : DV} {H H1 : Hp} {DQ : DK} {Q : VK} (F : Fin K G H DQ Q) (g : Go K G H G1 H1) : Fin K G1 H1 DQ Q := fun d G' v H' g' a q => F d G' v H' (g.trans g') a q
theorem EndsOk.after {K : PySem.W.Frag} {G G1 : DV} {H H1 : Hp} {DD : DEnds} {Dc : Ends} (F : EndsOk K G H DD Dc) (g : Go K G H G1 H1) : EndsOk K G1 H1 DD Dc :=
  ⟨fun ρ G' σ H' g' b q => F.nx ρ G' σ H' (g.trans g') b q, fun d G' v H' g' a q => F.rt d G' v H' (g.trans g') a q, fun ρ G' σ H' g' b q => F.bk ρ G' σ H' (g.trans g') b q, fun ρ G' σ H' g' b q => F.ct ρ G' σ H' (g.trans g') b q⟩
end L3
namespace L3
open PySem PySem.Spec L2
section
variable {X : Cx} {a b c e o i : Expr} {es : List Expr} {ta tb te to ti : DTE} {t : DTA} {pos p apos cpos : Pos}
abbrev dC (d : D) : DTE := fun _ G Q => Q d G
abbrev qZq (k : Nat) : DTE := fun ρ G Q => match ρ[k]? with
  | some (some d) => Q d G
  | _ => False
theorem mXq {v : V} {d : D} (h : JE X e (tC v)) (r : ∀ H, Abs X.K H d v) : AE X e (dC d) := ⟨_, h, fun ρ G DQ σ H Q B q F => F d G v H (.refl B.vw) (r H) q⟩
theorem a4q {n : Int} {j} : AE X (.Constant (.int n) j pos) (dC (.int n)) := mXq nZq fun _ => rfl
theorem cZq {n : Bool} {j} : AE X (.Constant (.bool n) j pos) (dC (.bl n)) := mXq pDq fun _ => rfl
theorem a3q {x : Str} {j} : AE X (.Constant (.str x) j pos) (dC (.str x)) := mXq oJq fun _ => rfl
theorem a1q (k : Nat) {x : Str} (hN : X.N[k]? = some x := by rfl) (hv : Vis X.env.scope x := by first | exact Or.inl rfl | exact Or.inr (Or.inl rfl) | exact Or.inr (Or.inr rfl)) (hd : (x == ("__debug__" : Str)) = false := by decide)
    (hcd : (x == ("__classdict__" : Str)) = false := by decide) : AE X (.Name x pos) (qZq k) := ⟨_, jv k hN hv hd hcd, fun ρ G DQ σ H Q B q F => by
  unfold qZq at q
  split at q
  . next d h =>
    obtain ⟨v, h1, h2⟩ := B.st k d h
    exact ⟨v, h1, F d G v H (.refl B.vw) h2 q⟩
  . exact q.elim⟩
theorem h8q {x : Str} {n : String} (hg : Gl X x) (hm : X.mg x = none) (hv : bootBuiltins x = some (.type n)) (hn : x ≠ "__name__" := by decide) (hd : (x == ("__debug__" : Str)) = false := by decide) : AE X (.Name x pos) (dC (.ty n)) :=
  mXq (l9q (v := .ty n) hg hm hv rfl hn hd) fun _ => rfl
theorem cRq {x : Str} {v : V} {u : Value} {d : D} (hg : Gl X x) (hm : X.mg x = some u) (r : RelV v u) (ha : ∀ H, Abs X.K H d v) (hd : (x == ("__debug__" : Str)) = false := by decide) : AE X (.Name x pos) (dC d) := mXq (jXq hg hm r hd) ha
abbrev s4q : DTA := fun _ G Q => Q [] G
abbrev q7q (ta : DTE) (tr : DTA) : DTA := fun ρ G Q => ta ρ G fun x G1 => tr ρ G1 fun xs G2 => Q (x :: xs) G2
theorem a5q : AA X [] s4q := ⟨_, m6q, fun ρ G DQ σ H Q B q F => F [] G [] H (.refl B.vw) rfl rfl q⟩
theorem a0q (ha : AE X e te) (hr : AA X es t) (hs : aVq e = true := by rfl) : AA X (e :: es) (q7q te t) := by
  obtain ⟨ca, ja, ra⟩ := ha.run
  obtain ⟨cr, jr, rr⟩ := hr.run
  refine ⟨_, kWq ja jr hs, fun ρ G DQ σ H Q B q F => ?_⟩
  refine ra ρ G _ σ H _ B q fun x G1 v H1 g1 ax q1 => rr ρ G1 _ σ H1 _ (B.go g1) q1 fun xs G2 vs H2 g2 axs hl q2 => ?_
  exact F (x :: xs) G2 (v :: vs) H2 (g1.trans g2) ⟨v, vs, rfl, ax.mono g2.tup, axs⟩ (by simp [hl]) q2
abbrev s2q (t : DTA) : DTE := fun ρ G Q => t ρ G fun ds G1 => Q (.tup ds) G1
abbrev s3q (t : DTA) : DTE := fun ρ G Q => t ρ G fun ds G1 => ∀ p, G1 p = none -> Q (.ref p) (up G1 p (.lst ds))
theorem fAq {n : Nat} (h : Nat.ble n 1000 = true) : n <= sizeLine := by
  have := Nat.le_of_ble_eq_true h
  rw [sizeLine_eq]; omega
theorem lSq {x1} (h : AA X es t) (hl : Nat.ble es.length 1000 = true := by rfl) : AE X (.Tuple es x1 pos) (s2q t) := by
  obtain ⟨ca, ja, ra⟩ := h.run
  refine ⟨_, mSq ja, fun ρ G DQ σ H Q B q F => ra ρ G _ σ H _ B q fun ds G1 vs H1 g1 al hn q1 => ⟨by rw [al.len, hn]; exact fAq hl, fun p hp => ?_⟩⟩
  have g2 := Go.newT (o := .tup vs) g1.vw hp
  exact F (.tup ds) G1 _ _ (g1.trans g2) ⟨p, vs, rfl, .of aSq, al.mono g2.tup⟩ q1
theorem fMq (h : AA X es t) (hl : Nat.ble es.length 1000 = true := by rfl) : AE X (.List es pos) (s3q t) := by
  obtain ⟨ca, ja, ra⟩ := h.run
  refine ⟨_, jHq ja, fun ρ G DQ σ H Q B q F => ra ρ G _ σ H _ B q fun ds G1 vs H1 g1 al hn q1 => ⟨by rw [al.len, hn]; exact fAq hl, fun p hp => ?_⟩⟩
  exact F (.ref p) _ _ _ (g1.trans (Go.newL g1.vw hp al)) rfl (q1 p (g1.vw.none hp))
def atN (ds : List D) : Int -> Option D
  | .ofNat k => ds[k]?
  | .negSucc k => atI ds (.negSucc k)
theorem jCq (ds : List D) (i : Int) : atN ds i = atI ds i := by
  cases i with
  | negSucc k => rfl
  | ofNat k =>
    show ds[k]? = atI ds (k : Int)
    by_cases h : k < ds.length
    . rw [List.getElem?_eq_getElem h]
      exact (bEq (List.getElem?_eq_getElem h)).symm
    . rw [List.getElem?_eq_none (by omega)]
      unfold atI ixN
      rw [if_pos (by omega), if_neg (by omega)]; rfl
def atD (ds : List D) (i : Int) (G : DV) (Q : DK) : Prop := match atN ds i with
  | some d => Q d G
  | none => False
theorem jJq {ds : List D} {i : Int} {G : DV} {Q : DK} {d : D} (h : atI ds i = some d) (q : Q d G) : atD ds i G Q := by unfold atD; rw [jCq, h]; exact q
@[irreducible] def onL (G : DV) (l : Addr) (k : List D -> Prop) : Prop := match G l with
  | some (.lst ds) => k ds
  | _ => False
@[irreducible] def onM (G : DV) (l : Addr) (k : List D -> Prop) : Prop := match G l with
  | some (.lst ds) => k ds
  | _ => False
theorem bFq {G : DV} {l : Addr} {k : List D -> Prop} {ds : List D} (h : G l = some (.lst ds)) (q : k ds) : onL G l k := by unfold onL; rw [h]; exact q
theorem dWq {G : DV} {l : Addr} {k : List D -> Prop} {ds : List D} (h : G l = some (.lst ds)) (q : k ds) : onM G l k := by unfold onM; rw [h]; exact q
theorem b2q {K : PySem.W.Frag} {G : DV} {H : Hp} {l : Addr} {k : List D -> Prop} (v : Vw K G H) (h : onL G l k) : ∃ ds vs, k ds /\ SqL K H l vs /\ AbsL K H ds vs := by
  unfold onL at h
  split at h
  . next ds e => obtain ⟨vs, z, r⟩ := v _ _ e; exact ⟨ds, vs, h, .of z, r⟩
  . exact h.elim
theorem fDq {K : PySem.W.Frag} {G : DV} {H : Hp} {l : Addr} {k : List D -> Prop} (v : Vw K G H) (h : onM G l k) : ∃ ds vs, k ds /\ G l = some (.lst ds) /\ H l = some (.lst vs) /\ AbsL K H ds vs := by
  unfold onM at h
  split at h
  . next ds e => obtain ⟨vs, z, r⟩ := v _ _ e; exact ⟨ds, vs, h, e, z, r⟩
  . exact h.elim
abbrev dOp (r : DR2) (ta tb : DTE) : DTE := fun ρ G Q => ta ρ G fun x G1 => tb ρ G1 fun y G2 => r x y G2 Q
abbrev dUn (r : DR1) (ta : DTE) : DTE := fun ρ G Q => ta ρ G fun x G1 => r x G1 Q
theorem aHq {op : Operator} {r : DR2} (ho : AOp X (binaryOp op) r) (ha : AE X a ta) (hb : AE X b tb) : AE X (.BinOp a op b pos) (dOp r ta tb) := by
  obtain ⟨ca, ja, ra⟩ := ha.run
  obtain ⟨cb, jb, rb⟩ := hb.run
  obtain ⟨co, jo, ro⟩ := ho.run
  refine ⟨_, p8q jo ja jb, fun ρ G DQ σ H Q B q F => ?_⟩
  exact ra ρ G _ σ H _ B q fun x G1 v H1 g1 ax q1 => rb ρ G1 _ σ H1 _ (B.go g1) q1 fun y G2 u H2 g2 ay q2 => ro x y v u G2 H2 DQ Q g2.vw (ax.mono g2.tup) ay q2 (F.after (g1.trans g2))
theorem eXq {op : CmpOp} {r : DR2} (ho : AOp X (compareOp op) r) (ha : AE X a ta) (hb : AE X b tb) (hm : behindInMarks op b = false) : AE X (.Compare a [op] [b] pos) (dOp r ta tb) := by
  obtain ⟨ca, ja, ra⟩ := ha.run
  obtain ⟨cb, jb, rb⟩ := hb.run
  obtain ⟨co, jo, ro⟩ := ho.run
  refine ⟨_, kFq jo ja jb hm, fun ρ G DQ σ H Q B q F => ?_⟩
  exact ra ρ G _ σ H _ B q fun x G1 v H1 g1 ax q1 => rb ρ G1 _ σ H1 _ (B.go g1) q1 fun y G2 u H2 g2 ay q2 => ro x y v u G2 H2 DQ Q g2.vw (ax.mono g2.tup) ay q2 (F.after (g1.trans g2))
theorem q9q {op : UnaryOp} {r : DR1} (ho : AUn X (unaryOp op) r) (ha : AE X a ta) : AE X (.UnaryOp op a pos) (dUn r ta) := by
  obtain ⟨ca, ja, ra⟩ := ha.run
  obtain ⟨co, jo, ro⟩ := ho.run
  refine ⟨_, q6q jo ja, fun ρ G DQ σ H Q B q F => ?_⟩
  exact ra ρ G _ σ H _ B q fun x G1 v H1 g1 ax q1 => ro x v G1 H1 DQ Q g1.vw ax q1 (F.after g1)
theorem bKq {r : DR2} (hr : AIx X r) (ha : AE X a ta) (hb : AE X b tb) (hs : e0q b) : AE X (.Subscript a b pos) (dOp r ta tb) := by
  obtain ⟨ca, ja, ra⟩ := ha.run
  obtain ⟨cb, jb, rb⟩ := hb.run
  obtain ⟨co, jo, ro⟩ := hr.run
  refine ⟨_, nDq jo ja jb hs, fun ρ G DQ σ H Q B q F => ?_⟩
  exact ra ρ G _ σ H _ B q fun x G1 v H1 g1 ax q1 => rb ρ G1 _ σ H1 _ (B.go g1) q1 fun y G2 u H2 g2 ay q2 => ro x y v u G2 H2 DQ Q g2.vw (ax.mono g2.tup) ay q2 (F.after (g1.trans g2))
def Br (c : Bool) (A B : Prop) : Prop := (c = true -> A) /\ (c = false -> B)
theorem Br.no {c : Bool} {A B : Prop} (h : c = false) (q : B) : Br c A B := ⟨fun z => absurd (h.symm.trans z) (by decide), fun _ => q⟩
abbrev blD (x : D) (k : Bool -> Prop) : Prop := match x with
  | .bl c => k c
  | _ => False
theorem e6q {K : PySem.W.Frag} {H : Hp} {x : D} {v : V} {k : Bool -> Prop} (h : blD x k) (r : Abs K H x v) : ∃ c, v = .bl c /\ x = .bl c /\ k c := by
  unfold blD at h
  split at h
  . exact ⟨_, r, rfl, h⟩
  . exact h.elim
abbrev p5q (ta tb : DTE) : DTE := fun ρ G Q => ta ρ G fun x G1 => blD x fun c => Br c (tb ρ G1 Q) (Q (.bl false) G1)
abbrev rYq (ta tb : DTE) : DTE := fun ρ G Q => ta ρ G fun x G1 => blD x fun c => Br c (Q (.bl true) G1) (tb ρ G1 Q)
abbrev p7q (ta : DTE) : DTE := fun ρ G Q => ta ρ G fun x G1 => blD x fun c => Q (.bl (!c)) G1
theorem fOq {op} (h : AE X a ta) : AE X (.BoolOp op [a] pos) ta := by
  obtain ⟨ca, ja, ra⟩ := h.run
  exact ⟨_, lQq ja, ra⟩
theorem fKq {rest : List Expr} (ha : AE X a ta) (hb : AE X (.BoolOp .And (b :: rest) pos) tb) : AE X (.BoolOp .And (a :: b :: rest) pos) (p5q ta tb) := by
  obtain ⟨ca, ja, ra⟩ := ha.run
  obtain ⟨cb, jb, rb⟩ := hb.run
  refine ⟨_, mMq ja jb, fun ρ G DQ σ H Q B q F => ra ρ G _ σ H _ B q fun x G1 v H1 g1 ax q1 => ?_⟩
  obtain ⟨c, e1, e2, q2⟩ := e6q q1 ax
  refine ⟨c, e1, ?_⟩
  cases c with
  | true => exact rb ρ G1 _ σ H1 _ (B.go g1) (q2.1 rfl) (F.after g1)
  | false => exact F (.bl false) _ _ _ g1 rfl (q2.2 rfl)
theorem pJq {rest : List Expr} (ha : AE X a ta) (hb : AE X (.BoolOp .Or (b :: rest) pos) tb) : AE X (.BoolOp .Or (a :: b :: rest) pos) (rYq ta tb) := by
  obtain ⟨ca, ja, ra⟩ := ha.run
  obtain ⟨cb, jb, rb⟩ := hb.run
  refine ⟨_, pKq ja jb, fun ρ G DQ σ H Q B q F => ra ρ G _ σ H _ B q fun x G1 v H1 g1 ax q1 => ?_⟩
  obtain ⟨c, e1, e2, q2⟩ := e6q q1 ax
  refine ⟨c, e1, ?_⟩
  cases c with
  | false => exact rb ρ G1 _ σ H1 _ (B.go g1) (q2.2 rfl) (F.after g1)
  | true => exact F (.bl true) _ _ _ g1 rfl (q2.1 rfl)
theorem nTq (ha : AE X a ta) : AE X (.UnaryOp .Not a pos) (p7q ta) := by
  obtain ⟨ca, ja, ra⟩ := ha.run
  refine ⟨_, mNq ja, fun ρ G DQ σ H Q B q F => ra ρ G _ σ H _ B q fun x G1 v H1 g1 ax q1 => ?_⟩
  obtain ⟨c, e1, e2, q2⟩ := e6q q1 ax
  exact ⟨c, e1, F (.bl (!c)) _ _ _ g1 rfl q2⟩
abbrev dIf (tc : DTT) (ta tb : DTE) : DTE := fun ρ G Q => tc ρ G fun c G1 => Br c (ta ρ G1 Q) (tb ρ G1 Q)
theorem i6q {tc : DTT} (hc : AT X c tc) (ha : AE X a ta) (hb : AE X b tb) : AE X (.IfExp c a b pos) (dIf tc ta tb) := by
  obtain ⟨cc, jc, rc⟩ := hc.run
  obtain ⟨ca, ja, ra⟩ := ha.run
  obtain ⟨cb, jb, rb⟩ := hb.run
  refine ⟨_, iCq jc ja jb, fun ρ G DQ σ H Q B q F => rc ρ G _ σ H _ B q fun c G1 H1 g1 q1 => ?_⟩
  cases c with
  | true => exact ra ρ G1 _ σ H1 _ (B.go g1) (q1.1 rfl) (F.after g1)
  | false => exact rb ρ G1 _ σ H1 _ (B.go g1) (q1.2 rfl) (F.after g1)
abbrev n9q (t : DTE) : DTT := fun ρ G Q => t ρ G fun x G1 => blD x fun c => Q c G1
theorem aWq {op : CmpOp} {r : DR2} (ho : AOp X (compareOp op) r) (ha : AE X a ta) (hb : AE X b tb) (hm : behindInMarks op b = false) : AT X (.Compare a [op] [b] pos) (n9q (dOp r ta tb)) := by
  obtain ⟨ca, ja, ra⟩ := ha.run
  obtain ⟨cb, jb, rb⟩ := hb.run
  obtain ⟨co, jo, ro⟩ := ho.run
  refine ⟨_, jUq jo ja jb hm, fun ρ G DQ σ H Q B q F => ?_⟩
  refine ra ρ G _ σ H _ B q fun x G1 v H1 g1 ax q1 => rb ρ G1 _ σ H1 _ (B.go g1) q1 fun y G2 u H2 g2 ay q2 => ro x y v u G2 H2 _ _ g2.vw (ax.mono g2.tup) ay q2 fun z G3 w H3 g3 az q3 => ?_
  obtain ⟨c, e1, e2, q4⟩ := e6q q3 az
  exact ⟨c, e1, F c G3 H3 ((g1.trans g2).trans g3) q4⟩
abbrev rBq (tc : DTT) : DTT := fun ρ G Q => tc ρ G fun c G1 => Q (!c) G1
abbrev s0q (tc td : DTT) : DTT := fun ρ G Q => tc ρ G fun c G1 => Br c (td ρ G1 Q) (Q false G1)
abbrev dOr (tc td : DTT) : DTT := fun ρ G Q => tc ρ G fun c G1 => Br c (Q true G1) (td ρ G1 Q)
theorem cXq {tc : DTT} (ha : AT X a tc) : AT X (.UnaryOp .Not a pos) (rBq tc) := by
  obtain ⟨ca, ja, ra⟩ := ha.run
  exact ⟨_, lUq ja, fun ρ G DQ σ H Q B q F => ra ρ G _ σ H _ B q fun c G1 H1 g1 q1 => F _ _ _ g1 q1⟩
theorem jZq {tc : DTT} (ha : AT X a tc) : AW X (.BoolOp .And [a] pos) tc := by
  obtain ⟨ca, ja, ra⟩ := ha.run
  exact ⟨_, lIq ja, ra⟩
theorem jPq {tc : DTT} (ha : AT X a tc) : AW X (.BoolOp .Or [a] pos) tc := by
  obtain ⟨ca, ja, ra⟩ := ha.run
  exact ⟨_, lVq ja, ra⟩
theorem nYq {tc td : DTT} {rest : List Expr} (ha : AT X a tc) (hb : AW X (.BoolOp .And (b :: rest) pos) td) : AW X (.BoolOp .And (a :: b :: rest) pos) (s0q tc td) := by
  obtain ⟨ca, ja, ra⟩ := ha.run
  obtain ⟨cb, jb, rb⟩ := hb.run
  refine ⟨_, nCq ja jb, fun ρ G DQ σ H Q B q F => ra ρ G _ σ H _ B q fun c G1 H1 g1 q1 => ?_⟩
  cases c with
  | true => exact rb ρ G1 _ σ H1 _ (B.go g1) (q1.1 rfl) fun c G' H' g' => F c G' H' (g1.trans g')
  | false => exact F _ _ _ g1 (q1.2 rfl)
theorem kZq {tc td : DTT} {rest : List Expr} (ha : AT X a tc) (hb : AW X (.BoolOp .Or (b :: rest) pos) td) : AW X (.BoolOp .Or (a :: b :: rest) pos) (dOr tc td) := by
  obtain ⟨ca, ja, ra⟩ := ha.run
  obtain ⟨cb, jb, rb⟩ := hb.run
  refine ⟨_, pWq ja jb, fun ρ G DQ σ H Q B q F => ra ρ G _ σ H _ B q fun c G1 H1 g1 q1 => ?_⟩
  cases c with
  | false => exact rb ρ G1 _ σ H1 _ (B.go g1) (q1.2 rfl) fun c G' H' g' => F c G' H' (g1.trans g')
  | true => exact F _ _ _ g1 (q1.1 rfl)
theorem AW.at {tc : DTT} (h : AW X e tc) : AT X e tc := by
  obtain ⟨ca, ja, ra⟩ := h.run
  exact ⟨_, ja.pt, ra⟩
def rDq (x : D) (G : DV) (k : Bool -> Prop) : Prop := match x with
  | .non => k false
  | .bl b => k b
  | .int i => k (i != 0)
  | .str y => y.length <= sizeLine /\ k ((y.length : Int) != 0)
  | .tup ds => k (!ds.isEmpty)
  | .ref p => onL G p fun ds => k (!ds.isEmpty)
  | _ => False
theorem AbsL.isEmpty {K : PySem.W.Frag} {H : Hp} {ds : List D} {vs : List V} (h : AbsL K H ds vs) : vs.isEmpty = ds.isEmpty := by
  have := h.len
  cases ds <;> cases vs <;> simp_all
abbrev m4q (t : DTE) : DTT := fun ρ G Q => t ρ G fun x G1 => rDq x G1 fun c => Q c G1
theorem b8q (ha : AE X a ta) (he : ∀ whole, isTrue a X.env whole = (do let v ← whole; standAt a.pos; holding [v] (truthy v)) := by intro _; rfl) : AT X a (m4q ta) := by
  obtain ⟨ca, ja, ra⟩ := ha.run
  refine ⟨_, j4q ja he, fun ρ G DQ σ H Q B q F => ra ρ G _ σ H _ B q fun x G1 v H1 g1 ax q1 => ?_⟩
  cases x with
  | non => cases ax; exact ⟨_, rfl, F _ _ _ g1 q1⟩
  | bl b => cases ax; exact ⟨_, rfl, F _ _ _ g1 q1⟩
  | int i => cases ax; exact ⟨_, rfl, F _ _ _ g1 q1⟩
  | str y => cases ax; exact ⟨_, ⟨q1.1, rfl⟩, F _ _ _ g1 q1.2⟩
  | ref l =>
    cases ax
    obtain ⟨ds, vs, k, s, r⟩ := b2q g1.vw q1
    exact ⟨_, .inl ⟨vs, s, rfl⟩, by rw [r.isEmpty]; exact F _ _ _ g1 k⟩
  | tup ds =>
    obtain ⟨l, vs, rfl, s, r⟩ := ax
    exact ⟨_, .inr (.inl ⟨vs, s, rfl⟩), by rw [r.isEmpty]; exact F _ _ _ g1 q1⟩
  | ty n => exact (show False from q1).elim
  | frl ds => exact (show False from q1).elim
abbrev kCq : DTO := fun _ G Q => Q none G
abbrev pIq (t : DTE) : DTO := fun ρ G Q => t ρ G fun x G1 => match x with
  | .int i => Q (some i) G1
  | _ => False
theorem dBq : AO X none kCq := ⟨_, l3q, fun ρ G DQ σ H Q B q F => F none G H (.refl B.vw) q⟩
theorem d4q (h : AE X e te) : AO X (some e) (pIq te) := by
  obtain ⟨ca, ja, ra⟩ := h.run
  refine ⟨_, k6q ja, fun ρ G DQ σ H Q B q F => ra ρ G _ σ H _ B q fun x G1 v H1 g1 ax q1 => ?_⟩
  split at q1
  . next i => exact ⟨i, ax, F _ _ _ g1 q1⟩
  . exact q1.elim
abbrev dSl (r : D -> Option Int -> Option Int -> DV -> DK -> Prop) (te : DTE) (tl th : DTO) : DTE := fun ρ G Q => te ρ G fun x G1 => tl ρ G1 fun l G2 => th ρ G2 fun u G3 => r x l u G3 Q
theorem c4q {r : D -> Option Int -> Option Int -> DV -> DK -> Prop} {lo hi : Option Expr} {tl th : DTO} {p2 : Pos} (hr : ASl X r) (he : AE X e te) (hl : AO X lo tl) (hu : AO X hi th) : AE X (.Subscript e (.Slice lo hi none p2) pos) (dSl r te tl th) := by
  obtain ⟨ce, je, re⟩ := he.run
  obtain ⟨cl, jl, rl⟩ := hl.run
  obtain ⟨cu, ju, ru⟩ := hu.run
  obtain ⟨cr, jr, rr⟩ := hr.run
  refine ⟨_, iNq jr je jl ju, fun ρ G DQ σ H Q B q F => re ρ G _ σ H _ B q fun x G1 v H1 g1 ax q1 => rl ρ G1 _ σ H1 _ (B.go g1) q1 fun l G2 H2 g2 q2 => ru ρ G2 _ σ H2 _ ((B.go g1).go g2) q2 fun u G3 H3 g3 q3 => ?_⟩
  exact rr x v l u G3 H3 DQ Q g3.vw ((ax.mono g2.tup).mono g3.tup) q3 (F.after ((g1.trans g2).trans g3))
abbrev pHq : DTS := fun D ρ G => D.nx ρ G
abbrev rWq (t u : DTS) : DTS := fun D ρ G => t { D with nx := u D } ρ G
abbrev r9q (te : DTE) : DTS := fun D ρ G => te ρ G D.rt
abbrev rNq (c : DTT) (t u : DTS) : DTS := fun D ρ G => c ρ G fun b G1 => Br b (t D ρ G1) (u D ρ G1)
theorem aQq : AB X [] pHq := ⟨_, nRq, fun DD Dc ρ G σ H B q F => F.nx ρ G σ H (.refl B.vw) B q⟩
theorem a6q {st : Stmt} {rest : List Stmt} {ts us : DTS} (h1 : AS X st ts) (h2 : AB X rest us) : AB X (st :: rest) (rWq ts us) := by
  obtain ⟨c1, j1, r1⟩ := h1.run
  obtain ⟨c2, j2, r2⟩ := h2.run
  refine ⟨_, kVq j1 j2, fun DD Dc ρ G σ H B q F => r1 _ _ ρ G σ H B q ⟨fun ρ' G' σ' H' g b q => r2 DD Dc ρ' G' σ' H' b q (F.after g), F.rt, F.bk, F.ct⟩⟩
theorem a8q {st : Stmt} {ts : DTS} (h1 : AS X st ts) : AB X [st] ts := by
  obtain ⟨c1, j1, r1⟩ := h1.run
  exact ⟨_, mAq j1, r1⟩
theorem aIq (he : AE X e te) : AS X (.Return (some e) pos) (r9q te) := by
  obtain ⟨c1, j1, r1⟩ := he.run
  exact ⟨_, lYq j1, fun DD Dc ρ G σ H B q F => r1 ρ G _ σ H _ B q F.rt⟩
theorem b9q {ss us : List Stmt} {tc : DTT} {ts tu : DTS} (hc : AT X c tc) (ha : AB X ss ts) (hb : AB X us tu) : AS X (.If c ss us pos) (rNq tc ts tu) := by
  obtain ⟨cc, jc, rc⟩ := hc.run
  obtain ⟨ca, ja, ra⟩ := ha.run
  obtain ⟨cb, jb, rb⟩ := hb.run
  refine ⟨_, oYq jc ja jb, fun DD Dc ρ G σ H B q F => rc ρ G _ σ H _ B q fun c G1 H1 g1 q1 => ?_⟩
  cases c with
  | true => exact ra DD Dc ρ G1 σ H1 (B.go g1) (q1.1 rfl) (F.after g1)
  | false => exact rb DD Dc ρ G1 σ H1 (B.go g1) (q1.2 rfl) (F.after g1)
abbrev gGq (k : Nat) : DTG := fun d ρ G Q => Q (ρ.set k (some d)) G
theorem bBq {k : Nat} {x : Str} (hN : X.N.Nodup) (hi : X.N[k]? = some x) (hx : Loc X.env.scope x) (hf : X.fn x = true \/ X.env.scope.names.lookup x = some .local := by first | exact .inl rfl | exact .inr rfl | assumption) : AG X (.Name x pos) (gGq k) :=
  ⟨_, l4q hN hi hx hf, fun d v ρ G DQ σ H Q B a q F => F _ G _ H (.refl B.vw) (B.set a k) q⟩
abbrev qIq (te : DTE) (g : DTG) : DTS := fun D ρ G => te ρ G fun x G1 => g x ρ G1 D.nx
theorem jOq {tg : Expr} {g : DTG} (he : AE X e te) (hg : AG X tg g) (hs : swapsWithSole [tg] e pos.line X.env = pure false := by rfl) (hw : swappedStores [tg] e X.env = pure none := by rfl) (h1 : (assignEach [tg] X.env).map (·.2) = [assign tg X.env] := by rfl) : AS X (.Assign [tg] e pos) (qIq te g) := by
  obtain ⟨c1, j1, r1⟩ := he.run
  obtain ⟨c2, j2, r2⟩ := hg.run
  exact ⟨_, lTq j1 j2 hs hw h1, fun DD Dc ρ G σ H B q F => r1 ρ G _ σ H _ B q fun d G1 v H1 g1 a q1 => r2 d v ρ G1 _ σ H1 _ (B.go g1) a q1 fun ρ' G' σ' H' g' b q' => F.nx ρ' G' σ' H' (g1.trans g') b q'⟩
theorem aCq {k : Nat} {x : Str} {pos' : Pos} (hN : X.N.Nodup) (hi : X.N[k]? = some x) (hx : Loc X.env.scope x) (he : AE X e te) (hs : swapsWith e (some (.Name x pos')) pos.line X.env = pure false := by rfl) (hf : X.fn x = true \/ X.env.scope.names.lookup x = some .local := by first | exact .inl rfl | exact .inr rfl | assumption) :
    AS X (.Assign [.Name x pos'] e pos) (qIq te (gGq k)) := by
  obtain ⟨c1, j1, r1⟩ := he.run
  exact ⟨_, n7q hN hi hx j1 hs hf, fun DD Dc ρ G σ H B q F => r1 ρ G _ σ H _ B q fun d G1 v H1 g1 a q1 => F.nx _ G1 _ H1 g1 ((B.go g1).set a k) q1⟩
end
end L3
namespace L3
open PySem PySem.Spec L2
section
variable {X : Cx}
def rJq : DR2 := fun x y G Q => match x, y with
  | .int i, .int j => Q (.int (i + j)) G
  | .str i, .str j => i.length + j.length <= sizeLine /\ Q (.str (i ++ j)) G
  | .tup xs, .tup ys => xs.length + ys.length <= sizeLine /\ Q (.tup (xs ++ ys)) G
  | .ref l, .ref m => onM G l fun xs => onM G m fun ys => xs.length + ys.length <= sizeLine /\ ∀ p, G p = none -> Q (.ref p) (up G p (.lst (xs ++ ys)))
  | _, _ => False
theorem aLq : AOp X (binaryOp .Add) rJq := by
  refine ⟨_, ⟨op_add.or (op_add_str.or (op_catW.or nVq))⟩, fun x y vx vy G H DQ Q v ax ay r F => ?_⟩
  cases x with
  | int i =>
    cases y with
    | int j => cases ax; cases ay; exact .inl ⟨i, j, rfl, rfl, F (.int (i + j)) G _ H (.refl v) rfl r⟩
    | _ => exact (show False from r).elim
  | str i =>
    cases y with
    | str j => cases ax; cases ay; exact .inr (.inl ⟨i, j, rfl, rfl, r.1, F (.str (i ++ j)) G _ H (.refl v) rfl r.2⟩)
    | _ => exact (show False from r).elim
  | tup xs =>
    cases y with
    | tup ys =>
      obtain ⟨l, vs, rfl, s1, r1⟩ := ax
      obtain ⟨m, us, rfl, s2, r2⟩ := ay
      have l1 := r1.len
      have l2 := r2.len
      refine .inr (.inr (.inl ⟨l, m, vs, us, rfl, rfl, s1, s2, by rw [l1, l2]; exact r.1, fun e => ?_, fun e e2 => ?_, fun e e2 p hp => ?_⟩))
      . subst e
        have e' : xs = [] := by cases xs <;> simp_all
        subst e'
        exact F (.tup ys) G _ H (.refl v) ⟨m, us, rfl, s2, r2⟩ (by simpa using r.2)
      . subst e2
        have e' : ys = [] := by cases ys <;> simp_all
        subst e'
        exact F (.tup xs) G _ H (.refl v) ⟨l, vs, rfl, s1, r1⟩ (by simpa using r.2)
      . have g := Go.newT (o := .tup (vs ++ us)) v hp
        exact F (.tup (xs ++ ys)) G _ _ g ⟨p, _, rfl, .of aSq, (r1.append r2).mono g.tup⟩ r.2
    | _ => exact (show False from r).elim
  | ref l =>
    cases y with
    | ref m =>
      cases ax; cases ay
      obtain ⟨xs, vs, k1, e1, h1, r1⟩ := fDq v r
      obtain ⟨ys, us, k2, e2, h2, r2⟩ := fDq v k1
      have l1 := r1.len
      have l2 := r2.len
      exact .inr (.inr (.inr ⟨l, m, vs, us, rfl, rfl, h1, h2, by rw [l1, l2]; exact k2.1, fun p hp => F (.ref p) _ _ _ (Go.newL v hp (r1.append r2)) rfl (k2.2 p (v.none hp))⟩))
    | _ => exact (show False from r).elim
  | _ => exact (show False from r).elim
def nJq (C : Int -> Int -> Prop) (g : Int -> Int -> D) : DR2 := fun x y G Q => match x, y with
  | .int i, .int j => C i j /\ Q (g i j) G
  | _, _ => False
def fBq (g : Int -> Int -> D) : DR2 := fun x y G Q => match x, y with
  | .int i, .int j => Q (g i j) G
  | _, _ => False
theorem iJq {f : Value -> Value -> Sem Value} {C : Int -> Int -> Prop} {g : Int -> Int -> Int} (h : OpR X f (rI C fun i j => .int (g i j))) : AOp X f (nJq C fun i j => .int (g i j)) := by
  refine ⟨_, ⟨h⟩, fun x y vx vy G H DQ Q v ax ay r F => ?_⟩
  cases x with
  | int i =>
    cases y with
    | int j => cases ax; cases ay; exact ⟨i, j, rfl, rfl, r.1, F (.int (g i j)) G _ H (.refl v) rfl r.2⟩
    | _ => exact (show False from r).elim
  | _ => exact (show False from r).elim
theorem oHq {f : Value -> Value -> Sem Value} {g : Int -> Int -> Int} (h : OpR X f (rI0 fun i j => .int (g i j))) : AOp X f (fBq fun i j => .int (g i j)) := by
  refine ⟨_, ⟨h⟩, fun x y vx vy G H DQ Q v ax ay r F => ?_⟩
  cases x with
  | int i =>
    cases y with
    | int j => cases ax; cases ay; exact ⟨i, j, rfl, rfl, F (.int (g i j)) G _ H (.refl v) rfl r⟩
    | _ => exact (show False from r).elim
  | _ => exact (show False from r).elim
theorem fPq {f : Value -> Value -> Sem Value} {g : Int -> Int -> Bool} (h : OpR X f (rI0 fun i j => .bl (g i j))) : AOp X f (fBq fun i j => .bl (g i j)) := by
  refine ⟨_, ⟨h⟩, fun x y vx vy G H DQ Q v ax ay r F => ?_⟩
  cases x with
  | int i =>
    cases y with
    | int j => cases ax; cases ay; exact ⟨i, j, rfl, rfl, F (.bl (g i j)) G _ H (.refl v) rfl r⟩
    | _ => exact (show False from r).elim
  | _ => exact (show False from r).elim
theorem e8q : AOp X (binaryOp .Sub) (fBq fun i j => .int (i - j)) := oHq mZq
theorem bAq : AOp X (binaryOp .Mult) (nJq CMul fun i j => .int (i * j)) := iJq n2q
theorem cMq : AOp X (binaryOp .FloorDiv) (nJq (fun _ j => 0 < j /\ j < 2 ^ 64) fun i j => .int (i / j)) := iJq iHq
theorem b5q : AOp X (binaryOp .Mod) (nJq (fun _ j => 0 < j) fun i j => .int (i % j)) := iJq nIq
theorem k1q : AOp X (binaryOp .Pow) (nJq qYq fun i j => .int (i ^ j.toNat)) := iJq lPq
theorem mQq : AOp X (compareOp .Lt) (fBq fun i j => .bl (decide (i < j))) := fPq q8q
theorem c3q : AOp X (compareOp .LtE) (fBq fun i j => .bl (decide (i <= j))) := fPq qAq
theorem fVq : AOp X (compareOp .Gt) (fBq fun i j => .bl (decide (j < i))) := fPq q2q
theorem mJq : AOp X (compareOp .GtE) (fBq fun i j => .bl (decide (j <= i))) := fPq pNq
def rAq : DR1 := fun x G Q => match x with
  | .int i => Q (.int (-i)) G
  | _ => False
theorem k0q : AUn X (unaryOp .USub) rAq := by
  refine ⟨_, ⟨oPq⟩, fun x vx G H DQ Q v ax r F => ?_⟩
  cases x with
  | int i => cases ax; exact ⟨i, rfl, F (.int (-i)) G _ H (.refl v) rfl r⟩
  | _ => exact (show False from r).elim
def rSq : D -> Bool
  | .non => true
  | _ => false
theorem eCq {K : PySem.W.Frag} {H : Hp} {ds : List D} {vs : List V} {i : Int} {d : D} (r : AbsL K H ds vs) (h : atI ds i = some d) : ∃ v, atI vs i = some v /\ Abs K H d v := by
  unfold atI at h ⊢
  rw [r.len]
  cases e : ixN ds.length i with
  | none => rw [e] at h; cases h
  | some j =>
    rw [e] at h
    exact r.get h
theorem e1q {ds : List D} {i : Int} {G : DV} {Q : DK} (h : atD ds i G Q) : ∃ d, atI ds i = some d /\ Q d G := by
  unfold atD at h
  rw [jCq] at h
  split at h
  . next d e => exact ⟨d, e, h⟩
  . exact h.elim
def ixD : DR2 := fun x y G Q => match x, y with
  | .tup ds, .int i => atD ds i G Q
  | .ref l, .int i => onL G l fun ds => atD ds i G Q
  | .frl ds, .int i => atD ds i G Q
  | .str z, .int i => z.length <= sizeLine /\ ∃ c, atI z.cps.toList i = some c /\ Q (.str ⟨#[c]⟩) G
  | _, _ => False
theorem jEq {ds : List D} {i : Int} {G : DV} {Q : DK} {d : D} (h : atI ds i = some d) (q : Q d G) : ixD (.frl ds) (.int i) G Q := jJq h q
theorem aix : AIx X ixD := by
  refine ⟨_, ⟨jKq⟩, fun x y vx vy G H DQ Q v ax ay r F => ?_⟩
  cases x with
  | tup ds =>
    cases y with
    | int i =>
      cases ay
      obtain ⟨l, vs, rfl, s, rl⟩ := ax
      obtain ⟨d, hd, q⟩ := e1q r
      obtain ⟨u, hu, ad⟩ := eCq rl hd
      exact .inr (.inl ⟨l, vs, i, u, rfl, rfl, s, hu, F d G u H (.refl v) ad q⟩)
    | _ => exact (show False from r).elim
  | ref l =>
    cases y with
    | int i =>
      cases ax; cases ay
      obtain ⟨ds, vs, k, s, rl⟩ := b2q v r
      obtain ⟨d, hd, q⟩ := e1q k
      obtain ⟨u, hu, ad⟩ := eCq rl hd
      exact .inl ⟨l, vs, i, u, rfl, rfl, s, hu, F d G u H (.refl v) ad q⟩
    | _ => exact (show False from r).elim
  | frl ds =>
    cases y with
    | int i =>
      cases ay
      obtain ⟨l, vs, rfl, s, rl⟩ := ax
      obtain ⟨d, hd, q⟩ := e1q r
      obtain ⟨u, hu, ad⟩ := eCq rl hd
      exact .inl ⟨l, vs, i, u, rfl, rfl, s.sq, hu, F d G u H (.refl v) ad q⟩
    | _ => exact (show False from r).elim
  | str z =>
    cases y with
    | int i =>
      cases ax; cases ay
      obtain ⟨hz, c, hc, q⟩ := r
      exact .inr (.inr ⟨z, i, c, rfl, rfl, hz, hc, F (.str ⟨#[c]⟩) G _ H (.refl v) rfl q⟩)
    | _ => exact (show False from r).elim
  | _ => exact (show False from r).elim
def cAq : D -> Bool
  | .non => true
  | .bl _ => true
  | .int _ => true
  | .str _ => true
  | _ => false
def toV : D -> V
  | .non => .non
  | .bl b => .bl b
  | .int i => .int i
  | .str x => .str x
  | _ => .non
theorem eOq {K : PySem.W.Frag} {H : Hp} {d : D} {v : V} (a : Abs K H d v) (h : cAq d = true) : v = toV d /\ dHq v = true := by
  cases d with
  | non => cases a; exact ⟨rfl, rfl⟩
  | bl b => cases a; exact ⟨rfl, rfl⟩
  | int b => cases a; exact ⟨rfl, rfl⟩
  | str b => cases a; exact ⟨rfl, rfl⟩
  | _ => exact absurd h (by simp [cAq])
theorem n3q {K : PySem.W.Frag} {H : Hp} : ∀ {ds : List D} {vs : List V}, AbsL K H ds vs -> ds.all cAq = true -> vs = ds.map toV /\ vs.all dHq = true
  | [], _, r, _ => by cases r; exact ⟨rfl, rfl⟩
  | _ :: _, _, ⟨v, r, e, q, l⟩, h => by
    subst e
    rw [List.all_cons, Bool.and_eq_true] at h
    obtain ⟨h1, h2⟩ := eOq q h.1
    obtain ⟨h3, h4⟩ := n3q l h.2
    exact ⟨by rw [List.map_cons, <- h1, <- h3], by rw [List.all_cons, h2, h4]; rfl⟩
def eqF : D -> D -> Bool
  | .non, .non => true
  | .bl a, .bl b => a == b
  | .bl a, .int b => (if a then 1 else 0) == b
  | .int a, .bl b => a == (if b then 1 else 0)
  | .int a, .int b => a == b
  | .str a, .str b => a == b
  | _, _ => false
theorem qDq {x y : D} (hx : cAq x = true) (hy : cAq y = true) : eqV (toV x) (toV y) = eqF x y := by
  cases x <;> cases y <;> first | rfl | (simp [cAq] at hx; done) | (simp [cAq] at hy; done)
def inL (x : D) (ds : List D) : Bool := ds.any fun y => eqF y x
theorem hDq {x : D} (hx : cAq x = true) : ∀ {ds : List D}, ds.all cAq = true -> inV (toV x) (ds.map toV) = inL x ds
  | [], _ => rfl
  | d :: ds, h => by
    rw [List.all_cons, Bool.and_eq_true] at h
    have ih := hDq hx h.2
    unfold inV inL at *
    rw [List.map_cons, List.any_cons, List.any_cons, ih, qDq h.1 hx]
def inD (neg : Bool) : DR2 := fun x y G Q => match y with
  | .tup ds => cAq x = true /\ ds.all cAq = true /\ Q (.bl (neg ^^ inL x ds)) G
  | .ref l => onL G l fun ds => cAq x = true /\ ds.all cAq = true /\ Q (.bl (neg ^^ inL x ds)) G
  | .str j => (match x with
      | .str i => Q (.bl (neg ^^ !(Builtin.Str.occurrences j i 0 j.length 1).isEmpty)) G
      | _ => False)
  | _ => False
theorem jFq : AOp X (compareOp .In) (inD false) := by
  refine ⟨_, ⟨op_in_seq.or i3q⟩, fun x y vx vy G H DQ Q v ax ay r F => ?_⟩
  cases y with
  | tup ds =>
    obtain ⟨h1, h2, q⟩ := r
    obtain ⟨l, vs, rfl, s, rl⟩ := ay
    obtain ⟨e1, f1⟩ := eOq ax h1
    obtain ⟨e2, f2⟩ := n3q rl h2
    refine .inl ⟨l, vs, rfl, .inr s, f1, f2, ?_⟩
    rw [e1, e2, hDq h1 h2]
    exact F (.bl _) G _ H (.refl v) rfl (by simpa using q)
  | ref l =>
    cases ay
    obtain ⟨ds, vs, ⟨h1, h2, q⟩, s, rl⟩ := b2q v r
    obtain ⟨e1, f1⟩ := eOq ax h1
    obtain ⟨e2, f2⟩ := n3q rl h2
    refine .inl ⟨l, vs, rfl, .inl s, f1, f2, ?_⟩
    rw [e1, e2, hDq h1 h2]
    exact F (.bl _) G _ H (.refl v) rfl (by simpa using q)
  | str j =>
    cases x with
    | str i => cases ax; cases ay; exact .inr ⟨i, j, rfl, rfl, F (.bl _) G _ H (.refl v) rfl (by simpa [inD] using r)⟩
    | _ => exact (show False from r).elim
  | _ => exact (show False from r).elim
theorem i2q : AOp X (compareOp .NotIn) (inD true) := by
  refine ⟨_, ⟨op_notIn_seq.or f4q⟩, fun x y vx vy G H DQ Q v ax ay r F => ?_⟩
  cases y with
  | tup ds =>
    obtain ⟨h1, h2, q⟩ := r
    obtain ⟨l, vs, rfl, s, rl⟩ := ay
    obtain ⟨e1, f1⟩ := eOq ax h1
    obtain ⟨e2, f2⟩ := n3q rl h2
    refine .inl ⟨l, vs, rfl, .inr s, f1, f2, ?_⟩
    rw [e1, e2, hDq h1 h2]
    exact F (.bl _) G _ H (.refl v) rfl (by simpa using q)
  | ref l =>
    cases ay
    obtain ⟨ds, vs, ⟨h1, h2, q⟩, s, rl⟩ := b2q v r
    obtain ⟨e1, f1⟩ := eOq ax h1
    obtain ⟨e2, f2⟩ := n3q rl h2
    refine .inl ⟨l, vs, rfl, .inl s, f1, f2, ?_⟩
    rw [e1, e2, hDq h1 h2]
    exact F (.bl _) G _ H (.refl v) rfl (by simpa using q)
  | str j =>
    cases x with
    | str i => cases ax; cases ay; exact .inr ⟨i, j, rfl, rfl, F (.bl _) G _ H (.refl v) rfl (by simpa [inD] using r)⟩
    | _ => exact (show False from r).elim
  | _ => exact (show False from r).elim
variable {e o : Expr} {es : List Expr} {te to : DTE} {t : DTA} {pos p apos cpos : Pos}
abbrev dCB (r : DRL) (t : DTA) : DTE := fun ρ G Q => t ρ G fun ds G1 => r ds G1 Q
theorem aNq {x : Str} {id : String} {r : DRL} (hc : ACall X (.builtin id) r) (hg : Gl X x) (hm : X.mg x = none) (hv : bootBuiltins x = some (.builtin id)) (ha : AA X (e :: es) t) (hn : x ≠ "__name__" := by decide) (hdb : (x == ("__debug__" : Str)) = false := by decide)
    (hs : (e :: es).all aVq = true := by rfl) : AE X (.Call (.Name x p) (e :: es) [] pos) (dCB r t) := by
  obtain ⟨ca, ja, ra⟩ := ha.run
  obtain ⟨cc, jc, rc⟩ := hc.run
  exact ⟨_, i4q jc hg hm hv ja hn hdb hs, fun ρ G DQ σ H Q B q F => ra ρ G _ σ H _ B q fun ds G1 vs H1 g1 al _ q1 => rc ds vs G1 H1 DQ Q g1.vw al q1 (F.after g1)⟩
theorem gZq {x : Str} {T : String} {r : DRL} (hc : ACall X (.type T) r) (hg : Gl X x) (hm : X.mg x = none) (hv : bootBuiltins x = some (.type T)) (ha : AA X (e :: es) t) (hn : x ≠ "__name__" := by decide) (hdb : (x == ("__debug__" : Str)) = false := by decide)
    (hs : (e :: es).all aVq = true := by rfl) : AE X (.Call (.Name x p) (e :: es) [] pos) (dCB r t) := by
  obtain ⟨ca, ja, ra⟩ := ha.run
  obtain ⟨cc, jc, rc⟩ := hc.run
  exact ⟨_, h0q jc hg hm hv ja hn hdb hs, fun ρ G DQ σ H Q B q F => ra ρ G _ σ H _ B q fun ds G1 vs H1 g1 al _ q1 => rc ds vs G1 H1 DQ Q g1.vw al q1 (F.after g1)⟩
abbrev lLq (r : D -> DV -> DK -> Prop) : DRL := fun xs G Q => match xs with
  | [x] => r x G Q
  | _ => False
abbrev pVq (r : D -> D -> DV -> DK -> Prop) : DRL := fun xs G Q => match xs with
  | [x, y] => r x y G Q
  | _ => False
theorem cKq {K : PySem.W.Frag} {H : Hp} {r : D -> DV -> DK -> Prop} {xs : List D} {vs : List V} {G : DV} {Q : DK} (h : lLq r xs G Q) (a : AbsL K H xs vs) : ∃ x v, xs = [x] /\ vs = [v] /\ Abs K H x v /\ r x G Q := by
  unfold lLq at h
  split at h
  . obtain ⟨v, r, rfl, q, l⟩ := a; cases l; exact ⟨_, v, rfl, rfl, q, h⟩
  . exact h.elim
theorem iWq {K : PySem.W.Frag} {H : Hp} {r : D -> D -> DV -> DK -> Prop} {xs : List D} {vs : List V} {G : DV} {Q : DK} (h : pVq r xs G Q) (a : AbsL K H xs vs) : ∃ x y v u, xs = [x, y] /\ vs = [v, u] /\ Abs K H x v /\ Abs K H y u /\ r x y G Q := by
  unfold pVq at h
  split at h
  . obtain ⟨v, r, rfl, q, u, r2, rfl, q2, l⟩ := a; cases l; exact ⟨_, _, v, u, rfl, rfl, q, q2, h⟩
  . exact h.elim
def rHq : D -> DV -> DK -> Prop := fun x G Q => match x with
  | .tup ds => Q (.int ds.length) G
  | .ref l => onL G l fun ds => Q (.int ds.length) G
  | .frl ds => Q (.int ds.length) G
  | .str z => z.length <= sizeLine /\ Q (.int z.length) G
  | _ => False
theorem aOq : ACall X (.builtin "len") (lLq rHq) := by
  refine ⟨_, ⟨call_len_seq.or eVq⟩, fun xs vs G H DQ Q v a r F => ?_⟩
  obtain ⟨x, u, rfl, rfl, ax, r⟩ := cKq r a
  cases x with
  | tup ds =>
    obtain ⟨l, ws, rfl, s, rl⟩ := ax
    exact .inl ⟨l, ws, rfl, .inr s, by rw [rl.len]; exact F (.int ds.length) G _ H (.refl v) rfl r⟩
  | ref l =>
    cases ax
    obtain ⟨ds, ws, k, s, rl⟩ := b2q v r
    exact .inl ⟨l, ws, rfl, .inl s, by rw [rl.len]; exact F (.int ds.length) G _ H (.refl v) rfl k⟩
  | frl ds =>
    obtain ⟨l, ws, rfl, s, rl⟩ := ax
    exact .inl ⟨l, ws, rfl, .inl s.sq, by rw [rl.len]; exact F (.int ds.length) G _ H (.refl v) rfl r⟩
  | str z => cases ax; exact .inr ⟨z, rfl, r.1, F (.int z.length) G _ H (.refl v) rfl r.2⟩
  | _ => exact (show False from r).elim
def cYq : List D -> Option (List Int)
  | [] => some []
  | .int i :: r => (cYq r).map (i :: ·)
  | _ :: _ => none
theorem f2q : ∀ {ds : List D} {ns : List Int}, cYq ds = some ns -> ds = ns.map D.int
  | [], ns, h => by cases h; rfl
  | d :: r, ns, h => by
    cases d with
    | int i =>
      simp only [cYq, Option.map_eq_some_iff] at h
      obtain ⟨ms, h1, rfl⟩ := h
      rw [f2q h1]; rfl
    | _ => simp [cYq] at h
theorem dXq : ∀ ns : List Int, cYq (ns.map D.int) = some ns
  | [] => rfl
  | n :: ns => by simp [cYq, dXq ns]
end
end L3
namespace L2
open PySem PySem.Spec PyProof.Rows
def qRq (K : PySem.W.Frag) (tl : TE) : TI := fun σ H R => tl σ H fun x H1 => ∃ a, x = .ref a /\ (((∃ xs, SqL K H1 a xs) /\ R (Itl K a) H1) \/ ((∃ xs, SqT K H1 a xs) /\ R (Itt K a) H1))
theorem nUq {X : Cx} {tg l : Expr} {tl : TE} (hl : PE X l tl) : PI X tg l (qRq X.K tl) := by
  intro pins s σ H R I h
  refine thn (hl pins s σ H _ I h) fun v s1 ⟨x, H1, I1, r1, q1⟩ => ?_
  obtain ⟨a, e, q1⟩ := q1
  subst e
  cases r1
  rcases q1 with ⟨⟨xs, hq⟩, q⟩ | ⟨⟨xs, hq⟩, q⟩
  . obtain ⟨its, rv, p, hz⟩ := I1.list hq
    refine wpAny_pyIter_list p.isList ?_
    refine ⟨s1.heap.objs.size, [s1.heap.objs.size], _, _, H1, rfl, I1.kept (t' := s1.toks) fun b o e => Heap.get?_push_of_some _ e, hNq a _, ⟨_, Heap.get?_push_size _ rfl, rfl, rfl⟩, fun b hb => ?_, q⟩
    have e : b = s1.heap.objs.size := by simpa using hb
    subst e
    exact I1.fpOk (Nat.le_refl _) (I1.hok.fresh (Nat.le_refl _))
  . obtain ⟨its, rv, p, hz⟩ := I1.tuple hq
    refine wpAny_pyIter_tuple (show s1.heap.IsTuple a its.toArray from p) ?_
    refine ⟨s1.heap.objs.size, [s1.heap.objs.size], _, _, H1, rfl, I1.kept (t' := s1.toks) fun b o e => Heap.get?_push_of_some _ e, g9q a _, ⟨_, Heap.get?_push_size _ rfl, rfl, rfl⟩, fun b hb => ?_, q⟩
    have e : b = s1.heap.objs.size := by simpa using hb
    subst e
    exact I1.fpOk (Nat.le_refl _) (I1.hok.fresh (Nat.le_refl _))
end L2
namespace L3
open PySem PySem.Spec L2
section
variable {X : Cx} {a b c e o i tg iter : Expr} {es : List Expr} {ta tb te to ti : DTE} {t : DTA} {pos p apos cpos : Pos}
structure DIt where
  items : List D
  held : DV -> Prop
abbrev DTI := DSt -> DV -> (DIt -> DV -> Prop) -> Prop
def qUq (K : PySem.W.Frag) (J : DIt) (Jc : It) (G : DV) (H : Hp) : Prop := ∀ G1 H1, Go K G H G1 H1 -> J.held G1 →
  (∀ (i : Nat) (d : D), J.items[i]? = some d -> Jc.go i H1 /\ ∀ x H', Jc.yld i H1 x H' -> Go K G1 H1 G1 H' /\ Abs K H' d x) /\ ∀ i, J.items.length <= i -> Jc.stop i H1
structure AI (X : Cx) (tg iter : Expr) (wi : DTI) : Prop where
  run : ∃ wc : TI, JI X tg iter wc /\ ∀ ρ G DR σ H R, Bears X.K ρ G σ H -> wi ρ G DR -> (∀ J Jc G' H', Go X.K G H G' H' -> qUq X.K J Jc G' H' -> DR J G' -> R Jc H') -> wc σ H R
@[irreducible] def mLq (G : DV) (l : Addr) (k : DIt -> Prop) : Prop := match G l with
  | some (.lst ds) => k ⟨ds, fun G => G l = some (.lst ds)⟩
  | _ => False
abbrev p3q (ta : DTE) : DTI := fun ρ G R => ta ρ G fun x G1 => match x with
  | .tup ds => R ⟨ds, fun _ => True⟩ G1
  | .ref l => mLq G1 l fun J => R J G1
  | .frl ds => R ⟨ds, fun _ => True⟩ G1
  | _ => False
theorem kGq {G : DV} {l : Addr} {k : DIt -> Prop} {ds : List D} (h : G l = some (.lst ds)) (q : k ⟨ds, fun G => G l = some (.lst ds)⟩) : mLq G l k := by unfold mLq; rw [h]; exact q
theorem mDq {K : PySem.W.Frag} {ds : List D} {vs : List V} {l : Addr} {G1 : DV} {H1 : Hp} (v : Vw K G1 H1) (s : SqT K H1 l vs) (r : AbsL K H1 ds vs) :
    (∀ (i : Nat) (d : D), ds[i]? = some d -> (Itt K l).go i H1 /\ ∀ x H', (Itt K l).yld i H1 x H' -> Go K G1 H1 G1 H' /\ Abs K H' d x) /\ ∀ i, ds.length <= i -> (Itt K l).stop i H1 := by
  refine ⟨fun i d hd => ?_, fun i hi => ⟨vs, s, by rw [r.len]; exact hi⟩⟩
  obtain ⟨w, hw, aw⟩ := r.get hd
  refine ⟨⟨vs, w, s, hw⟩, fun x H' y => ?_⟩
  obtain ⟨rfl, y⟩ := y
  have z := y vs s
  rw [hw] at z
  cases z
  exact ⟨.refl v, aw⟩
theorem h6q {K : PySem.W.Frag} {ds : List D} {vs : List V} {l : Addr} {G1 : DV} {H1 : Hp} (v : Vw K G1 H1) (s : SqL K H1 l vs) (r : AbsL K H1 ds vs) :
    (∀ (i : Nat) (d : D), ds[i]? = some d -> (Itl K l).go i H1 /\ ∀ x H', (Itl K l).yld i H1 x H' -> Go K G1 H1 G1 H' /\ Abs K H' d x) /\ ∀ i, ds.length <= i -> (Itl K l).stop i H1 := by
  refine ⟨fun i d hd => ?_, fun i hi => ⟨vs, s, by rw [r.len]; exact hi⟩⟩
  obtain ⟨w, hw, aw⟩ := r.get hd
  refine ⟨⟨vs, w, s, hw⟩, fun x H' y => ?_⟩
  obtain ⟨rfl, y⟩ := y
  have z := y vs s
  rw [hw] at z
  cases z
  exact ⟨.refl v, aw⟩
theorem oAq {tc : TE} (hl : JE X a tc) : JI X tg a (qRq X.K tc) := ⟨nUq hl.run⟩
theorem nAq (ha : AE X a ta) : AI X tg a (p3q ta) := by
  obtain ⟨ca, ja, ra⟩ := ha.run
  refine ⟨_, oAq ja, fun ρ G DR σ H R B q F => ra ρ G _ σ H _ B q fun x G1 v H1 g1 ax q1 => ?_⟩
  cases x with
  | tup ds =>
    obtain ⟨l, vs, rfl, s, r⟩ := ax
    exact ⟨l, rfl, .inr ⟨⟨vs, s⟩, F ⟨ds, fun _ => True⟩ _ G1 H1 g1 (fun G2 H2 g2 _ => mDq g2.vw (g2.tup.tp _ _ s) (r.mono g2.tup)) q1⟩⟩
  | ref l =>
    cases ax
    refine ⟨l, rfl, .inl ?_⟩
    replace q1 : mLq G1 l fun J => DR J G1 := q1
    unfold mLq at q1
    split at q1
    . next ds hd =>
      obtain ⟨vs, z, r⟩ := g1.vw _ _ hd
      refine ⟨⟨vs, .of z⟩, F ⟨ds, fun G => G l = some (.lst ds)⟩ _ G1 H1 g1 (fun G2 H2 g2 h2 => ?_) q1⟩
      obtain ⟨us, z2, r2⟩ := g2.vw _ _ h2
      exact h6q g2.vw (.of z2) r2
    . exact q1.elim
  | frl ds =>
    obtain ⟨l, vs, rfl, s, r⟩ := ax
    exact ⟨l, rfl, .inl ⟨⟨vs, s.sq⟩, F ⟨ds, fun _ => True⟩ _ G1 H1 g1 (fun G2 H2 g2 _ => h6q g2.vw (g2.tup.fr _ _ s).sq (r.mono g2.tup)) q1⟩⟩
  | _ => exact (show False from q1).elim
def bHq (lo : Int) (n : Nat) : List D := (List.range n).map fun (i : Nat) => D.int (lo + (i : Int))
theorem g8q {lo : Int} {n i : Nat} {d : D} (h : (bHq lo n)[i]? = some d) : i < n /\ d = .int (lo + i) := by
  unfold bHq at h
  rw [List.getElem?_map] at h
  by_cases c : i < n
  . rw [List.getElem?_range c] at h
    simp at h
    exact ⟨c, h.symm⟩
  . rw [List.getElem?_eq_none (by simpa using c)] at h
    cases h
theorem aRq {lo : Int} {n : Nat} : (bHq lo n).length = n := by simp [bHq]
@[irreducible] def onR (r : List D -> Option (Int × Nat)) (ds : List D) (k : Int -> Nat -> Prop) : Prop := match r ds with
  | some (lo, n) => k lo n
  | none => False
abbrev k3q (r : List D -> Option (Int × Nat)) (t : DTA) : DTI := fun ρ G R => t ρ G fun ds G1 => onR r ds fun lo n => R ⟨bHq lo n, fun _ => True⟩ G1
def fCq (i : Int) : Bool := decide (-(2 ^ 62) <= i) && decide (i < 2 ^ 62)
def mHq : List D -> Option (Int × Nat)
  | [.int j] => if fCq j = true then some (0, j.toNat) else none
  | _ => none
theorem small62_iff {i : Int} : fCq i = true ↔ -(2 ^ 62) <= i /\ i < 2 ^ 62 := by unfold fCq; simp
theorem nKq {K : PySem.W.Frag} {lo : Int} {n : Nat} {G1 : DV} {H1 : Hp} (v : Vw K G1 H1) :
    (∀ (i : Nat) (d : D), (bHq lo n)[i]? = some d -> (Itr lo n).go i H1 /\ ∀ x H', (Itr lo n).yld i H1 x H' -> Go K G1 H1 G1 H' /\ Abs K H' d x) /\ ∀ i, (bHq lo n).length <= i -> (Itr lo n).stop i H1 := by
  refine ⟨fun i d hd => ?_, fun i hi => by rw [aRq] at hi; exact hi⟩
  obtain ⟨h1, rfl⟩ := g8q hd
  refine ⟨h1, fun x H' y => ?_⟩
  obtain ⟨rfl, rfl⟩ := y
  exact ⟨.refl v, rfl⟩
theorem iIq {ds : List D} {lo : Int} {n : Nat} (h : mHq ds = some (lo, n)) : ∃ j, ds = [.int j] /\ (-(2 ^ 62) <= j /\ j < 2 ^ 62) /\ lo = 0 /\ n = j.toNat := by
  unfold mHq at h
  split at h
  . next j =>
    split at h
    . next c => cases h; exact ⟨j, rfl, small62_iff.mp c, rfl, rfl⟩
    . cases h
  . cases h
theorem cOq {j : Int} {k : Int -> Nat -> Prop} (h : -(2 ^ 62) <= j /\ j < 2 ^ 62) (q : k 0 j.toNat) : onR mHq [.int j] k := by
  have e : mHq [.int j] = some (0, j.toNat) := if_pos (small62_iff.mpr h)
  unfold onR; rw [e]; exact q
theorem f8q {r : List D -> Option (Int × Nat)} {ds : List D} {R : DIt -> DV -> Prop} {G : DV} (h : onR r ds fun lo n => R ⟨bHq lo n, fun _ => True⟩ G) : ∃ lo n, r ds = some (lo, n) /\ R ⟨bHq lo n, fun _ => True⟩ G := by
  unfold onR at h
  split at h
  . next lo n e => exact ⟨lo, n, e, h⟩
  . exact h.elim
theorem bYq (hg : Gl X "range") (hm : X.mg "range" = none) (ha : AA X [a] t) (hs : aVq a = true := by rfl) : AI X tg (.Call (.Name "range" p) [a] [] pos) (k3q mHq t) := by
  obtain ⟨ca, ja, ra⟩ := ha.run
  refine ⟨_, gHq hg hm ja hs, fun ρ G DR σ H R B q F => ra ρ G _ σ H _ B q fun ds G1 vs H1 g1 al hl q1 => ?_⟩
  obtain ⟨lo, n, e, q2⟩ := f8q q1
  obtain ⟨j, rfl, c, rfl, rfl⟩ := iIq e
  obtain ⟨v, r, rfl, av, l⟩ := al
  cases l; cases av
  exact ⟨j, rfl, c.1, c.2, F _ _ G1 H1 g1 (fun G2 H2 g2 _ => nKq g2.vw) q2⟩
def Wk (P : DSt -> DV -> Prop) : DSt -> DV -> Prop := fun ρ G => ∃ ρ' G', StSub ρ' ρ /\ Sub G' G /\ P ρ' G'
theorem Wk.of {P : DSt -> DV -> Prop} {ρ : DSt} {G : DV} (h : P ρ G) : Wk P ρ G := ⟨ρ, G, .refl _, .refl _, h⟩
abbrev rQq (wi : DTI) (g : DTG) (tb : DTS) : DTS := fun DD ρ G => wi ρ G fun J G1 => ∃ P : Nat -> DSt -> DV -> Prop, P 0 ρ G1 /\ (∀ i ρ G, i <= J.items.length -> P i ρ G -> J.held G) ∧
  (∀ (i : Nat) (d : D) (ρ : DSt) (G : DV), J.items[i]? = some d -> P i ρ G -> g d ρ G fun ρ' G' => tb { DD with nx := Wk (P (i + 1)), ct := Wk (P (i + 1)), bk := DD.nx } ρ' G') /\ ∀ ρ G, P J.items.length ρ G -> DD.nx ρ G
theorem fYq {body : List Stmt} {wi : DTI} {g : DTG} {tb : DTS} (hp : PassesOwn (model X.prog X.w) X.A X.env X.xe) (hc : X.calm = true) (hi : AI X tg iter wi) (hg : AG X tg g) (hb : AB X body tb) (hs : ∀ x, foldedSetIterable iter X.env x = pure x := by intro _; rfl) :
    AS X (.For tg iter body [] pos) (rQq wi g tb) := by
  obtain ⟨ci, ji, ri⟩ := hi.run
  obtain ⟨cg, jg, rg⟩ := hg.run
  obtain ⟨cb, jb, rb⟩ := hb.run
  refine ⟨_, lWq hp hc ji jg jb hs, fun DD Dc ρ G σ H B q F => ri ρ G _ σ H _ B q fun J Jc G1 H1 g1 ok q1 => ?_⟩
  obtain ⟨P, p0, held, turn, done⟩ := q1
  refine ⟨fun i m σ' H' => m = J.items.length - i /\ i <= J.items.length /\ ∃ ρ' G', P i ρ' G' /\ Bears X.K ρ' G' σ' H' /\ Go X.K G1 H1 G' H', ⟨_, rfl, Nat.zero_le _, ρ, G1, p0, B.go g1, .refl g1.vw⟩, ?_⟩
  rintro i m σ2 H2 ⟨rfl, hi, ρ2, G2, p2, b2, g2⟩
  have k2 := ok G2 H2 g2 (held i ρ2 G2 hi p2)
  by_cases hlt : i < J.items.length
  . have hd : J.items[i]? = some J.items[i] := by simp [hlt]
    obtain ⟨go, yl⟩ := k2.1 i _ hd
    refine .inr ⟨go, fun σ' H' => ∃ ρ' G', P (i + 1) ρ' G' /\ Bears X.K ρ' G' σ' H' /\ Go X.K G1 H1 G' H', fun σ' H' ⟨ρ', G', z1, z2, z3⟩ => ⟨J.items.length - (i + 1), by omega, rfl, hlt, ρ', G', z1, z2, z3⟩, fun x H' y => ?_⟩
    obtain ⟨g3, ax⟩ := yl x H' y
    refine rg _ x ρ2 G2 _ σ2 H' _ (b2.go g3) ax (turn i _ ρ2 G2 hd p2) fun ρ4 G4 σ4 H4 g4 b4 q4 => ?_
    have gg := (g2.trans g3).trans g4
    have again : ∀ ρ' G' σ' H', Go X.K G4 H4 G' H' -> Bears X.K ρ' G' σ' H' -> Wk (P (i + 1)) ρ' G' -> ∃ ρ' G', P (i + 1) ρ' G' /\ Bears X.K ρ' G' σ' H' /\ Go X.K G1 H1 G' H' := fun ρ' G' σ' H' g' b' ⟨ρ5, G5, s1, s2, w⟩ =>
      ⟨ρ5, G5, w, b'.weak s1 s2, (gg.trans g').sub s2⟩
    exact rb _ _ ρ4 G4 σ4 H4 b4 q4 ⟨fun ρ' G' σ' H' g' b' w => again ρ' G' σ' H' g' b' w, (F.after ((g1.trans gg))).rt, fun ρ' G' σ' H' g' b' w => F.nx ρ' G' σ' H' ((g1.trans gg).trans g') b' w, fun ρ' G' σ' H' g' b' w => again ρ' G' σ' H' g' b' w⟩
  . have e : i = J.items.length := by omega
    subst e
    exact .inl ⟨k2.2 _ (Nat.le_refl _), F.nx ρ2 G2 σ2 H2 (g1.trans g2) b2 (done ρ2 G2 p2)⟩
abbrev nQq (tc : DTT) (tb : DTS) : DTS := fun DD ρ G => ∃ W : Nat -> DSt -> DV -> Prop, (∃ m, W m ρ G) /\ ∀ m ρ G, W m ρ G →
  tc ρ G fun b G1 => Br b (tb { DD with nx := Wk fun ρ' G' => ∃ m', m' < m /\ W m' ρ' G', ct := Wk fun ρ' G' => ∃ m', m' < m /\ W m' ρ' G', bk := DD.nx } ρ G1) (DD.nx ρ G1)
theorem iOq {body : List Stmt} {tc : DTT} {tb : DTS} (hp : PassesOwn (model X.prog X.w) X.A X.env X.xe) (hc : AT X c tc) (hb : AB X body tb) : AS X (.While c body [] pos) (nQq tc tb) := by
  obtain ⟨cc, jc, rc⟩ := hc.run
  obtain ⟨cb, jb, rb⟩ := hb.run
  refine ⟨_, i8q hp jc jb, fun DD Dc ρ G σ H B q F => ?_⟩
  obtain ⟨W, ⟨m0, w0⟩, turn⟩ := q
  refine ⟨fun m σ' H' => ∃ ρ' G', W m ρ' G' /\ Bears X.K ρ' G' σ' H' /\ Go X.K G H G' H', ⟨m0, ρ, G, w0, B, .refl B.vw⟩, ?_⟩
  rintro m σ2 H2 ⟨ρ2, G2, w2, b2, g2⟩
  refine rc ρ2 G2 _ σ2 H2 _ b2 (turn m ρ2 G2 w2) fun k G3 H3 g3 q3 => ?_
  cases k with
  | true =>
    refine ⟨fun σ' H' => ∃ m', m' < m /\ ∃ ρ' G', W m' ρ' G' /\ Bears X.K ρ' G' σ' H' /\ Go X.K G H G' H', fun σ' H' ⟨m', z, ρ', G', z1, z2, z3⟩ => ⟨m', z, ρ', G', z1, z2, z3⟩, ?_⟩
    have gg := g2.trans g3
    have again : ∀ ρ' G' σ' H', Go X.K G3 H3 G' H' -> Bears X.K ρ' G' σ' H' -> Wk (fun ρ' G' => ∃ m', m' < m /\ W m' ρ' G') ρ' G' -> ∃ m', m' < m /\ ∃ ρ' G', W m' ρ' G' /\ Bears X.K ρ' G' σ' H' /\ Go X.K G H G' H' := fun ρ' G' σ' H' g' b' ⟨ρ5, G5, s1, s2, m', hm, w⟩ =>
      ⟨m', hm, ρ5, G5, w, b'.weak s1 s2, (gg.trans g').sub s2⟩
    exact rb _ _ ρ2 G3 σ2 H3 (b2.go g3) (q3.1 rfl) ⟨fun ρ' G' σ' H' g' b' w => again ρ' G' σ' H' g' b' w, (F.after gg).rt, fun ρ' G' σ' H' g' b' w => F.nx ρ' G' σ' H' (gg.trans g') b' w, fun ρ' G' σ' H' g' b' w => again ρ' G' σ' H' g' b' w⟩
  | false => exact F.nx ρ2 G3 σ2 H3 (g2.trans g3) (b2.go g3) (q3.2 rfl)
end
end L3
namespace L2
open PySem PySem.Spec PyProof.Rows
theorem JE.imp {X : Cx} {e : Expr} {t t' : TE} (h : JE X e t) (i : ∀ σ H Q, t' σ H Q -> t σ H Q) : JE X e t' := ⟨fun pins s σ H Q I q => h.run pins s σ H Q I (i σ H Q q)⟩
theorem JG.imp {X : Cx} {e : Expr} {t t' : TG} (h : JG X e t) (i : ∀ v σ H Q, t' v σ H Q -> t v σ H Q) : JG X e t' := ⟨fun pins s σ H x v Q I r q => h.run pins s σ H x v Q I r (i _ _ _ _ q)⟩
end L2
namespace L3
open PySem PySem.Spec L2
section
variable {X : Cx} {a b c e o i tg iter elt ct : Expr} {es : List Expr} {ta tb te to ti : DTE} {t : DTA} {pos p apos cpos : Pos}
abbrev oQq (K : PySem.W.Frag) (tc : TE) (t : DTE) : Prop := ∀ ρ G DQ σ H Q, Bears K ρ G σ H -> t ρ G DQ -> Fin K G H DQ Q -> tc σ H Q
abbrev pTq (K : PySem.W.Frag) (tc : TG) (t : DTG) : Prop := ∀ d v ρ G DQ σ H Q, Bears K ρ G σ H -> Abs K H d v -> t d ρ G DQ -> qTq K G H DQ Q -> tc v σ H Q
theorem AE.uni {ι : Type} {cx : ι -> Cx} {K : PySem.W.Frag} (hK : ∀ z, (cx z).K = K) (h : ∀ z, AE (cx z) e te) : ∃ tc : TE, (∀ z, JE (cx z) e tc) /\ oQq K tc te := by
  have h' : ∀ z, ∃ tc, JE (cx z) e tc /\ oQq K tc te := fun z => by
    have q := (h z).run
    rw [hK z] at q
    exact q
  exact ⟨fun σ H Q => ∀ z, Classical.choose (h' z) σ H Q, fun z => (Classical.choose_spec (h' z)).1.imp fun σ H Q q => q z, fun ρ G DQ σ H Q B q F z => (Classical.choose_spec (h' z)).2 ρ G DQ σ H Q B q F⟩
theorem AG.uni {ι : Type} {cx : ι -> Cx} {K : PySem.W.Frag} {te : DTG} (hK : ∀ z, (cx z).K = K) (h : ∀ z, AG (cx z) e te) : ∃ tc : TG, (∀ z, JG (cx z) e tc) /\ pTq K tc te := by
  have h' : ∀ z, ∃ tc, JG (cx z) e tc /\ pTq K tc te := fun z => by
    have q := (h z).run
    rw [hK z] at q
    exact q
  exact ⟨fun v σ H Q => ∀ z, Classical.choose (h' z) v σ H Q, fun z => (Classical.choose_spec (h' z)).1.imp fun v σ H Q q => q z, fun d v ρ G DQ σ H Q B ad q F z => (Classical.choose_spec (h' z)).2 d v ρ G DQ σ H Q B ad q F⟩
def dEq (nt : Nat) (cap : List Nat) (ρ : DSt) : DSt := List.replicate nt none ++ cap.map fun i => (ρ[i]?).join
theorem eNq {nt : Nat} {cap : List Nat} {ρ : DSt} {i : Nat} {d : D} (h : (dEq nt cap ρ)[i]? = some (some d)) : nt <= i := by
  by_cases c : nt <= i
  . exact c
  . unfold dEq at h
    rw [List.getElem?_append_left (by simpa using c), List.getElem?_replicate] at h
    rw [if_pos (by omega)] at h
    cases h
theorem Bears.comp {K : PySem.W.Frag} {ρ : DSt} {G : DV} {σ : St} {H : Hp} (B : Bears K ρ G σ H) (nt : Nat) (cap : List Nat) : Bears K (dEq nt cap ρ) G (c0q nt cap σ) H := by
  refine ⟨by simp [dEq, c0q], fun i d h => ?_, B.vw⟩
  have hi := eNq h
  unfold dEq at h
  unfold c0q
  rw [List.getElem?_append_right (by simpa using hi)] at h ⊢
  rw [List.length_replicate, List.getElem?_map] at h ⊢
  cases e : cap[i - nt]? with
  | none => rw [e] at h; cases h
  | some k =>
    rw [e] at h
    have h' : (ρ[k]?).join = some d := by simpa using h
    have h2 : ρ[k]? = some (some d) := by
      cases q : ρ[k]? with
      | none => rw [q] at h'; cases h'
      | some z => rw [q] at h'; cases z with
        | none => cases h'
        | some y => simp at h'; rw [h']
    obtain ⟨v, h3, h4⟩ := B.st k d h2
    exact ⟨v, by simp [h3], h4⟩
def kPq (nt : Nat) (g : DTG) : Prop := ∀ d ρ G Q, g d ρ G Q -> g d ρ G fun ρ' G' => Q ρ' G' /\ ρ'.length = ρ.length /\ ∀ i, nt <= i -> ρ'[i]? = ρ[i]?
theorem b7q {nt k : Nat} (h : k < nt) : kPq nt (gGq k) := fun d ρ G Q q => ⟨q, by simp, fun i hi => List.getElem?_set_ne (by omega)⟩
def WkV (P : DV -> Prop) : DV -> Prop := fun G => ∃ G', Sub G' G /\ P G'
theorem WkV.of {P : DV -> Prop} {G : DV} (h : P G) : WkV P G := ⟨G, .refl _, h⟩
@[irreducible] def g7q (g : DTG) (te : DTE) (nt : Nat) (cap : List Nat) (ρ : DSt) (Q : DK) (J : DIt) (G1 : DV) : Prop := J.items.length < sizeLine /\ ∃ P : Nat -> List D -> DV -> Prop, P 0 [] G1 /\ (∀ i ds G, i <= J.items.length -> P i ds G -> J.held G) ∧
  (∀ (i : Nat) (d : D) (ds : List D) (G : DV), J.items[i]? = some d -> P i ds G -> g d (dEq nt cap ρ) G fun ρ3 G3 => te ρ3 G3 fun y G4 => WkV (P (i + 1) (ds ++ [y])) G4) /\ ∀ ds G, P J.items.length ds G -> ∀ p, G p = none -> Q (.ref p) (up G p (.lst ds))
abbrev n1q (wi : DTI) (g : DTG) (te : DTE) (nt : Nat) (cap : List Nat) : DTE := fun ρ G Q => wi ρ G (g7q g te nt cap ρ Q)
theorem e3q {g : DTG} {te : DTE} {nt : Nat} {cap : List Nat} {ρ : DSt} {Q : DK} {J : DIt} {G1 : DV} (P : Nat -> List D -> DV -> Prop) (hz : J.items.length < sizeLine) (h0 : P 0 [] G1) (held : ∀ i ds G, i <= J.items.length -> P i ds G -> J.held G)
    (turn : ∀ (i : Nat) (d : D) (ds : List D) (G : DV), J.items[i]? = some d -> P i ds G -> g d (dEq nt cap ρ) G fun ρ3 G3 => te ρ3 G3 fun y G4 => WkV (P (i + 1) (ds ++ [y])) G4) (done : ∀ ds G, P J.items.length ds G -> ∀ p, G p = none -> Q (.ref p) (up G p (.lst ds))) : g7q g te nt cap ρ Q J G1 := by
  unfold g7q; exact ⟨hz, P, h0, held, turn, done⟩
theorem fLq {α : Type} {J : DIt} {G1 : DV} {g : DTG} {te : DTE} {nt : Nat} {cap : List Nat} {ρ : DSt} {Q : DK} (xs : List α) (en fn : α -> D) (he : J.items = xs.map en) (hz : xs.length < sizeLine) (held : J.held G1)
    (turn : ∀ x ∈ xs, ∀ R : DK, R (fn x) G1 -> g (en x) (dEq nt cap ρ) G1 fun ρ3 G3 => te ρ3 G3 R) (q : ∀ p, G1 p = none -> Q (.ref p) (up G1 p (.lst (xs.map fn)))) :
    g7q g te nt cap ρ Q J G1 := by
  unfold g7q
  refine ⟨by rw [he, List.length_map]; exact hz, fun i ds G => G = G1 /\ ds = (xs.take i).map fn, ⟨rfl, rfl⟩, fun i ds G _ h => h.1 ▸ held, ?_, ?_⟩
  . rintro i d ds G hd ⟨rfl, rfl⟩
    rw [he, List.getElem?_map] at hd
    cases e : xs[i]? with
    | none => rw [e] at hd; cases hd
    | some x =>
      rw [e] at hd
      cases hd
      refine turn x (List.mem_of_getElem? e) _ (WkV.of ⟨rfl, ?_⟩)
      rw [List.take_add_one, e, List.map_append]; rfl
  . rintro ds G ⟨rfl, rfl⟩ p hp
    rw [he, List.length_map, List.take_length]
    exact q p hp
theorem Vw.priv {K : PySem.W.Frag} {G : DV} {H : Hp} {acc : Addr} {ys zs : List V} (v : Vw K G H) (h : H acc = some (.lst ys)) (n : G acc = Option.none) : Vw K G (upd H acc (.lst zs)) := fun a o e =>
  (v a o e).mono (aXq h) (aGq (by rintro rfl; rw [n] at e; cases e))
theorem Go.priv {K : PySem.W.Frag} {G G' : DV} {H H' : Hp} {acc : Addr} {ys zs : List V} (g : Go K G H G' H') (h0 : H acc = none) (h : H' acc = some (.lst ys)) (n : G' acc = none) : Go K G H G' (upd H' acc (.lst zs)) where
  tup := ⟨fun a xs q => (aXq h).tp a xs (g.tup.tp a xs q), fun a xs q => (aXq h).fr a xs (g.tup.fr a xs q), fun a o q => (aXq (K := K) h).fz a o (g.tup.fz a o q)⟩
  dom := fun a o e => by
    obtain ⟨o', e'⟩ := g.dom a o e
    exact ⟨o', by rw [aGq (aFq e h0)]; exact e'⟩
  same := fun a o e z => by rw [aGq (aFq e h0)]; exact g.same a o e z
  new := g.new
  vw := g.vw.priv h n
theorem Bears.priv {K : PySem.W.Frag} {ρ : DSt} {G : DV} {σ : St} {H : Hp} {acc : Addr} {ys zs : List V} (B : Bears K ρ G σ H) (h : H acc = some (.lst ys)) (n : G acc = none) : Bears K ρ G σ (upd H acc (.lst zs)) :=
  ⟨B.len, fun i d e => let ⟨v, h1, h2⟩ := B.st i d e; ⟨v, h1, h2.mono (aXq h)⟩, B.vw.priv h n⟩
theorem Go.held {K : PySem.W.Frag} {G G' : DV} {H H' : Hp} {acc : Addr} {ds : List D} {ys : List V} (g : Go K G H G' H') (h0 : H acc = none) (h : H' acc = some (.lst ys)) (r : AbsL K H' ds ys) : Go K G H (up G' acc (.lst ds)) H' where
  tup := g.tup
  dom := g.dom
  same := g.same
  new := fun a o e z => by rw [c1q (aFq e h0)]; exact g.new a o e z
  vw := fun a o e => by
    by_cases c : a = acc
    . subst c; rw [aJq] at e; cases e; exact ⟨ys, h, r⟩
    . rw [c1q c] at e; exact g.vw a o e
theorem hSq {K : PySem.W.Frag} {ci : TI} {cg : TG} {ce : TE} {wi : DTI} {g : DTG} {te : DTE} {nt : Nat} {cap : List Nat} (hk : kPq nt g)
    (ri : ∀ ρ G DR σ H R, Bears K ρ G σ H -> wi ρ G DR -> (∀ J Jc G' H', Go K G H G' H' -> qUq K J Jc G' H' -> DR J G' -> R Jc H') -> ci σ H R) (rg : pTq K cg g) (re : oQq K ce te) : oQq K (kKq ci cg ce nt cap) (n1q wi g te nt cap) := by
  intro ρ G DQ σ H Q B q F
  refine ri ρ G _ σ H _ B q fun J Jc G1 H1 g1 ok q1 => ?_
  unfold g7q at q1
  obtain ⟨hsz, P, p0, held, turn, done⟩ := q1
  intro acc hacc
  have n1 := g1.vw.none hacc
  have gN := Go.newT (o := .lst []) g1.vw hacc
  refine ⟨fun i m ys σ' H' => m = J.items.length - i /\ i <= J.items.length /\ ∃ ds G', P i ds G' /\ AbsL K H' ds ys /\ ds.length <= i /\ Bears K (dEq nt cap ρ) G' σ' H' /\ Go K G1 H1 G' H' /\ G' acc = none /\ H' acc = some (.lst ys),
    ⟨_, rfl, Nat.zero_le _, [], G1, p0, rfl, Nat.le_refl _, ((B.go g1).comp nt cap).go gN, gN, n1, aSq⟩, ?_⟩
  rintro i m ys σ2 H2 ⟨rfl, hi, ds, G2, p2, r2, l2, b2, g2, n2, h2⟩
  have k2 := ok G2 H2 g2 (held i ds G2 hi p2)
  by_cases hlt : i < J.items.length
  . have hd : J.items[i]? = some J.items[i] := by simp [hlt]
    obtain ⟨go, yl⟩ := k2.1 i _ hd
    refine .inr ⟨go, fun x H' y => ?_⟩
    obtain ⟨g3, ax⟩ := yl x H' y
    refine rg _ x _ G2 _ σ2 H' _ (b2.go g3) ax (hk _ _ _ _ (turn i _ ds G2 hd p2)) fun ρ4 G4 σ4 H4 g4 b4 ⟨q4, hl4, hs4⟩ => ?_
    refine re ρ4 G4 _ σ4 H4 _ b4 q4 fun z G5 u H5 g5 az q5 => ?_
    obtain ⟨G6, s6, p6⟩ := q5
    have gg := (g3.trans g4).trans g5
    have h5 := gg.same acc _ h2 n2
    have n5 := gg.new acc _ h2 n2
    have n6 := s6.none n5
    have b5 : Bears K (dEq nt cap ρ) G6 σ4 H5 := (b4.go g5).weak ⟨hl4.symm, fun j d e => by rw [hs4 j (eNq e)]; exact e⟩ s6
    refine ⟨h5, by rw [r2.len]; omega, J.items.length - (i + 1), by omega, rfl, hlt, ds ++ [z], G6, p6, ((r2.mono gg.tup).append (.one az)).mono (aXq h5), by simp; omega, b5.priv h5 n6, (((g2.trans gg).sub s6)).priv hacc h5 n6, n6, aSq⟩
  . have e : i = J.items.length := by omega
    subst e
    refine .inl ⟨k2.2 _ (Nat.le_refl _), F (.ref acc) (up G2 acc (.lst ds)) _ _ ((g1.trans g2).held ?_ h2 r2) rfl (done ds G2 p2 acc n2)⟩
    cases z : H acc with
    | none => rfl
    | some o => obtain ⟨o', e'⟩ := g1.dom acc o z; rw [hacc] at e'; cases e'
theorem cSq {scope : Scope} {N' : List Str} {nt : Nat} {cap : List Nat} {wi : DTI} {g : DTG} (hc : X.calm = true) (ok : CompOk X scope N' nt cap) (hk : kPq nt g) (hi : AI X tg iter wi) (hg : ∀ C ex s H, AG (aUq X scope N' C ex s H) tg g) (he : ∀ C ex s H, AE (aUq X scope N' C ex s H) elt te)
    (hs : ∀ x, foldedSetIterable iter X.env x = pure x := by intro _; rfl) : AE X (.ListComp elt [⟨tg, iter, [], 0⟩] scope pos) (n1q wi g te nt cap) := by
  obtain ⟨ci, ji, ri⟩ := hi.run
  obtain ⟨cg, jg, rg⟩ := AG.uni (ι := Addr × List Addr × Shared × Hp) (cx := fun z => aUq X scope N' z.1 z.2.1 z.2.2.1 z.2.2.2) (K := X.K) (fun _ => rfl) fun z => hg _ _ _ _
  obtain ⟨ce, je, re⟩ := AE.uni (ι := Addr × List Addr × Shared × Hp) (cx := fun z => aUq X scope N' z.1 z.2.1 z.2.2.1 z.2.2.2) (K := X.K) (fun _ => rfl) fun z => he _ _ _ _
  exact ⟨_, lJq hc ok ji (fun C ex s H => jg (C, ex, s, H)) (fun C ex s H => je (C, ex, s, H)) hs, hSq hk ri rg re⟩
structure AMt (X : Cx) (T id : String) (ty : D -> DV -> Prop) (r : D -> List D -> DV -> DK -> Prop) : Prop where
  run : ∃ rc : V -> List V -> Hp -> VK -> Prop, JMt X id rc /\ (∀ x v G H, Vw X.K G H -> Abs X.K H x v -> ty x G -> tyV X.K T v H) ∧
    ∀ x xs vx vs G H DQ Q, Vw X.K G H -> Abs X.K H x vx -> AbsL X.K H xs vs -> r x xs G DQ -> Fin X.K G H DQ Q -> rc vx vs H Q
abbrev dBM (ty : D -> DV -> Prop) (r : D -> List D -> DV -> DK -> Prop) (to : DTE) (t : DTA) : DTE := fun ρ G Q => to ρ G fun x G1 => ty x G1 /\ t ρ G1 fun xs G2 => r x xs G2 Q
abbrev rEq (ty : D -> DV -> Prop) (r : D -> List D -> DV -> DK -> Prop) (to : DTE) : DTE := fun ρ G Q => to ρ G fun x G1 => ty x G1 /\ r x [] G1 Q
theorem g2q {name : Str} {T id : String} {ty : D -> DV -> Prop} {r : D -> List D -> DV -> DK -> Prop} (pa : PlainAttrs T) (slot : Slot T name id) (hty : typeOf (.builtin id) = pure (.type "method_descriptor")) (hm : AMt X T id ty r) (ho : AE X o to) (ha : AA X [e] t)
    (hbase : attributeBase o name X.env (eval o X.env) = eval o X.env := by rfl) (hline : (apos.endLine == cpos.line) = true := by rfl) (hs : aVq e = true := by rfl) : AE X (.Call (.Attribute o name apos) [e] [] cpos) (dBM ty r to t) := by
  obtain ⟨co, jo, ro⟩ := ho.run
  obtain ⟨ca, ja, ra⟩ := ha.run
  obtain ⟨cm, jm, hy, rm⟩ := hm.run
  refine ⟨_, p2q pa slot hty jm jo ja hbase hline hs, fun ρ G DQ σ H Q B q F => ro ρ G _ σ H _ B q fun x G1 v H1 g1 ax ⟨h1, q1⟩ => ⟨hy x v G1 H1 g1.vw ax h1, ?_⟩⟩
  exact ra ρ G1 _ σ H1 _ (B.go g1) q1 fun xs G2 vs H2 g2 al _ q2 => rm x xs v vs G2 H2 DQ Q g2.vw (ax.mono g2.tup) al q2 (F.after (g1.trans g2))
theorem o3q {name : Str} {T id : String} {ty : D -> DV -> Prop} {r : D -> List D -> DV -> DK -> Prop} (pa : PlainAttrs T) (slot : Slot T name id) (hty : typeOf (.builtin id) = pure (.type "method_descriptor")) (hm : AMt X T id ty r) (ho : AE X o to)
    (hbase : attributeBase o name X.env (eval o X.env) = eval o X.env := by rfl) (hline : (apos.endLine == cpos.line) = true := by rfl) : AE X (.Call (.Attribute o name apos) [] [] cpos) (rEq ty r to) := by
  obtain ⟨co, jo, ro⟩ := ho.run
  obtain ⟨cm, jm, hy, rm⟩ := hm.run
  exact ⟨_, n8q pa slot hty jm jo hbase hline, fun ρ G DQ σ H Q B q F => ro ρ G _ σ H _ B q fun x G1 v H1 g1 ax ⟨h1, q1⟩ => ⟨hy x v G1 H1 g1.vw ax h1, rm x [] v [] G1 H1 DQ Q g1.vw ax rfl q1 (F.after g1)⟩⟩
abbrev DSp := List D -> DV -> DK -> Prop
def aPq (K : PySem.W.Frag) (dsp : DSp) : Sp := fun vs H Q _ => ∃ ds G DQ, AbsL K H ds vs /\ Vw K G H /\ dsp ds G DQ /\ Fin K G H DQ Q
abbrev oXq (dsp : DSp) (t : DTA) : DTE := fun ρ G Q => t ρ G fun ds G1 => dsp ds G1 Q
theorem a7q {k j : Nat} {x : Str} {ps : List Str} {dsp : DSp} (Gt : Got X.prog X.w X.K X.mg X.base k x ps (aPq X.K dsp)) (hr : Room j X.A) (hk : k <= j) (hg : Gl X x) (ha : AA X (e :: es) t) (hdb : (x == ("__debug__" : Str)) = false := by decide)
    (hs : (e :: es).all aVq = true := by rfl) : AE X (.Call (.Name x p) (e :: es) [] pos) (oXq dsp t) := by
  obtain ⟨ca, ja, ra⟩ := ha.run
  exact ⟨_, q4q Gt hr hk hg ja hdb hs, fun ρ G DQ σ H Q B q F => ra ρ G _ σ H _ B q fun ds G1 vs H1 g1 al _ q1 => ⟨ds, G1, DQ, by rw [List.append_nil]; exact al, g1.vw, q1, F.after g1⟩⟩
def Dr (DQ : DK) : DK := fun d G => ∃ G', Sub G' G /\ DQ d G'
theorem Dr.of {DQ : DK} {d : D} {G : DV} (h : DQ d G) : Dr DQ d G := ⟨G, .refl _, h⟩
def eYq (N : List Str) (ds : List D) : DSt := ds.map some ++ List.replicate (N.length - ds.length) none
theorem fFq {K : PySem.W.Frag} {N : List Str} {ds : List D} {vs : List V} {G : DV} {H : Hp} (r : AbsL K H ds vs) (v : Vw K G H) : Bears K (eYq N ds) G (L2.c9q N vs) H := by
  have hl := r.len
  refine ⟨by simp [eYq, L2.c9q, hl], fun i d h => ?_, v⟩
  unfold eYq at h
  unfold L2.c9q
  by_cases c : i < ds.length
  . rw [List.getElem?_append_left (by simpa using c), List.getElem?_map] at h
    rw [List.getElem?_append_left (by simpa [hl] using c), List.getElem?_map]
    cases e : ds[i]? with
    | none => rw [e] at h; cases h
    | some z =>
      rw [e] at h
      simp at h
      subst h
      obtain ⟨u, h1, h2⟩ := r.get e
      exact ⟨u, by rw [h1]; rfl, h2⟩
  . rw [List.getElem?_append_right (by simpa using c), List.getElem?_replicate] at h
    split at h <;> cases h
theorem okD {P : Program} {w : World} {K : PySem.W.Frag} {mg : Str -> Option Value} {base : Heap} {x qual : Str} {st : Stmt} {f : Addr} {fd : FuncData} {N ps : List Str} {k : Nat} {dsp : DSp} (F : Fun K x qual st f fd) (S : FnScope N ps (a2q st)) (len : ∀ ds G DQ, dsp ds G DQ -> ds.length = ps.length)
    (hbody : ∀ (cdv : Value) (A : Around) (outer : List Env) (s : Shared) (H : Hp) (E : XK), Room k (A.deeper (PyProof.Rows.envOfC qual (a2q st) s.heap.objs.size f cdv)) -> ∀ (ds : List D) (G : DV) (DQ : DK), dsp ds G DQ →
      ∃ t, AB (jNq CX0 P w K mg base N qual (a2q st) f cdv A outer s H E).nox (aBq st) t /\ t { nx := fun _ G' => Dr DQ .non G', rt := Dr DQ } (eYq N ds) G) : FnOk P w K mg base CX0 (k + 1) f fd ps (aPq K dsp) := by
  refine F.okJ S (fun vs H Q E h => ?_) (fun cdv A outer s H vs Q E hr h => ?_)
  . obtain ⟨ds, G, DQ, r, _, h, _⟩ := h
    rw [r.len]; exact len ds G DQ h
  . obtain ⟨ds, G, DQ, r, v, h, Fn⟩ := h
    obtain ⟨t, ⟨tc, j, imp⟩, q⟩ := hbody cdv A outer s H E hr ds G DQ h
    refine ⟨tc, j, imp _ _ (eYq N ds) G (L2.c9q N vs) H (fFq r v) q ⟨fun ρ' G' σ' H' g b ⟨G2, s2, q2⟩ => Fn .non G2 .non H' (g.sub s2) rfl q2, fun d G' v H' g a ⟨G2, s2, q2⟩ => Fn d G2 v H' (g.sub s2) a q2, fun _ _ _ _ _ _ z => z.elim, fun _ _ _ _ _ _ z => z.elim⟩⟩
end
end L3
namespace L3
open PySem PySem.Spec L2
mutual
def eqD : D -> D -> Bool
  | .non, .non => true
  | .bl a, .bl b => a == b
  | .bl a, .int b => (if a then 1 else 0) == b
  | .int a, .bl b => a == (if b then 1 else 0)
  | .int a, .int b => a == b
  | .str a, .str b => a == b
  | .tup xs, .tup ys => fIq xs ys
  | _, _ => false
def fIq : List D -> List D -> Bool
  | [], [] => true
  | x :: xs, y :: ys => eqD x y && fIq xs ys
  | _, _ => false
end
mutual
def D.data : D -> Bool
  | .ref _ => false
  | .ty _ => false
  | .frl _ => false
  | .tup ds => bZq ds
  | _ => true
def bZq : List D -> Bool
  | [] => true
  | d :: ds => d.data && bZq ds
end
mutual
def D.dp : D -> Nat
  | .tup ds => 1 + hCq ds
  | _ => 0
def hCq : List D -> Nat
  | [] => 0
  | d :: ds => max d.dp (hCq ds)
end
def eqJ (ds es : List D) (j : Nat) : Bool := match ds[j]?, es[j]? with
  | some d, some e => eqD d e
  | _, _ => false
theorem b6q : ∀ (ds es : List D), ((List.range (min ds.length es.length)).all (eqJ ds es) && ds.length == es.length) = fIq ds es
  | [], [] => by simp [fIq]
  | [], e :: es => by simp [fIq]
  | d :: ds, [] => by simp [fIq]
  | d :: ds, e :: es => by
    rw [fIq, <- b6q ds es, List.length_cons, List.length_cons, Nat.succ_min_succ, List.range_succ_eq_map, List.all_cons, List.all_map]
    have h1 : eqJ (d :: ds) (e :: es) 0 = eqD d e := rfl
    have h2 : (eqJ (d :: ds) (e :: es) ∘ Nat.succ) = eqJ ds es := by funext j; simp [eqJ]
    rw [h1, h2, Bool.and_assoc]
    congr 2
    rw [Bool.eq_iff_iff]; simp
section
variable {X : Cx} {pins : List (Addr × Obj)} {σ : L2.St} {H : Hp} {s : Shared}
mutual
theorem k2q (I : Inv X pins σ H s) : ∀ {d e : D} {v : V}, d.data = true -> e.data = true -> Abs X.K H d v -> Abs X.K H e v -> d = e
  | .non, e, v, _, h, a, b => by
    cases a
    cases e <;> first | rfl | (cases b; done) | (obtain ⟨_, _, z, _⟩ := b; cases z)
  | .bl _, e, v, _, h, a, b => by
    cases a
    cases e <;> first | (cases b; rfl) | (cases b; done) | (obtain ⟨_, _, z, _⟩ := b; cases z)
  | .int _, e, v, _, h, a, b => by
    cases a
    cases e <;> first | (cases b; rfl) | (cases b; done) | (obtain ⟨_, _, z, _⟩ := b; cases z)
  | .str _, e, v, _, h, a, b => by
    cases a
    cases e <;> first | (cases b; rfl) | (cases b; done) | (obtain ⟨_, _, z, _⟩ := b; cases z)
  | .ref _, _, _, h, _, _, _ => by simp [D.data] at h
  | .ty _, _, _, h, _, _, _ => by simp [D.data] at h
  | .frl _, _, _, h, _, _, _ => by simp [D.data] at h
  | .tup ds, e, v, h0, h, a, b => by
    obtain ⟨l, vs, rfl, s1, r1⟩ := a
    cases e with
    | tup es =>
      obtain ⟨m, us, z, s2, r2⟩ := b
      cases z
      have e := I.tuple_inj s1 s2
      subst e
      rw [e2q I (by simpa [D.data] using h0) (by simpa [D.data] using h) r1 r2]
    | ref m => simp [D.data] at h
    | frl m => simp [D.data] at h
    | _ => cases b
theorem e2q (I : Inv X pins σ H s) : ∀ {ds es : List D} {vs : List V}, bZq ds = true -> bZq es = true -> AbsL X.K H ds vs -> AbsL X.K H es vs -> ds = es
  | [], [], _, _, _, _, _ => rfl
  | [], e :: es, _, _, _, a, b => by cases a; obtain ⟨_, _, z, _⟩ := b; cases z
  | d :: ds, [], _, _, _, a, b => by cases b; obtain ⟨_, _, z, _⟩ := a; cases z
  | d :: ds, e :: es, vs, h1, h2, ⟨v, r, e1, a1, l1⟩, ⟨u, q, e2, a2, l2⟩ => by
    subst e1
    cases e2
    simp only [bZq, Bool.and_eq_true] at h1 h2
    rw [k2q I h1.1 h2.1 a1 a2, e2q I h1.2 h2.2 l1 l2]
end
mutual
theorem fZq : ∀ {d : D}, d.data = true -> eqD d d = true
  | .non, _ => rfl
  | .bl _, _ => by simp [eqD]
  | .int _, _ => by simp [eqD]
  | .str _, _ => by simp [eqD]
  | .ref _, h => by simp [D.data] at h
  | .ty _, h => by simp [D.data] at h
  | .frl _, h => by simp [D.data] at h
  | .tup ds, h => by rw [eqD]; exact f5q (by simpa [D.data] using h)
theorem f5q : ∀ {ds : List D}, bZq ds = true -> fIq ds ds = true
  | [], _ => rfl
  | d :: ds, h => by
    simp only [bZq, Bool.and_eq_true] at h
    rw [fIq, fZq h.1, f5q h.2]; rfl
end
mutual
theorem pSq (I : Inv X pins σ H s) : ∀ (d e : D) (A : Around) (x y : V) (u v : Value), d.data = true -> e.data = true -> Abs X.K H d x -> Abs X.K H e y -> RelV x u -> RelV y v -> A.units + d.dp < cLine -> SeqAt.EqAt A s u v (eqD d e)
  | .tup ds, e, A, x, y, u, v, hd, he, ax, ay, ru, rv, hu => by
    obtain ⟨a, vs, rfl, s1, r1⟩ := ax
    cases ru
    obtain ⟨its, rr, t1, _⟩ := I.tuple s1
    have hu0 : A.units < cLine := by omega
    cases e with
    | non => cases ay; cases rv; exact SeqAt.EqAt.tuple_none t1 hu0
    | bl b => cases ay; cases rv; exact SeqAt.EqAt.tuple_bool b t1 hu0
    | int b => cases ay; obtain ⟨t, rfl⟩ := rv; exact SeqAt.EqAt.tuple_int b t t1 hu0
    | str b => cases ay; obtain ⟨t, rfl⟩ := rv; exact SeqAt.EqAt.tuple_str b t t1 hu0
    | ref b => simp [D.data] at he
    | ty b => simp [D.data] at he
    | frl b => simp [D.data] at he
    | tup es =>
      obtain ⟨b, us, rfl, s2, r2⟩ := ay
      cases rv
      by_cases hab : a = b
      . subst hab
        have e1 := I.tuple_inj s1 s2
        subst e1
        have e2 := e2q I (by simpa [D.data] using hd) (by simpa [D.data] using he) r1 r2
        subst e2
        rw [fZq hd]
        exact SeqAt.EqAt.same _
      . obtain ⟨its2, rr2, t2, _⟩ := I.tuple s2
        have l1 := rr.length
        have l2 := rr2.length
        have l3 := r1.len
        have l4 := r2.len
        simp only [D.dp] at hu
        have z := SeqAt.RcAt.tuples (A := A) (e := eqJ ds es) t1 t2 hu0 (fun j h1 h2 => by
          have q := dNq I ds es A.in1 vs us its its2 (by simpa [D.data] using hd) (by simpa [D.data] using he) r1 r2 rr rr2 (by show A.units + 1 + hCq ds < cLine; omega) j (by simpa using h1) (by simpa using h2)
          simpa using q)
        have ez : ((List.range (min its.toArray.size its2.toArray.size)).all (eqJ ds es) && its.toArray.size == its2.toArray.size) = eqD (.tup ds) (.tup es) := by
          rw [List.size_toArray, List.size_toArray, <- l1, <- l2, l3, l4, b6q]; rfl
        rw [ez] at z
        exact SeqAt.EqAt.of_refs hab z
  | .ref _, _, _, _, _, _, _, hd, _, _, _, _, _, _ => by simp [D.data] at hd
  | .ty _, _, _, _, _, _, _, hd, _, _, _, _, _, _ => by simp [D.data] at hd
  | .frl _, _, _, _, _, _, _, hd, _, _, _, _, _, _ => by simp [D.data] at hd
  | .non, e, A, x, y, u, v, hd, he, ax, ay, ru, rv, hu => by
    cases ax; cases ru
    have hu0 : A.units < cLine := by omega
    cases e with
    | non => cases ay; cases rv; exact SeqAt.EqAt.same _
    | bl b => cases ay; cases rv; exact SeqAt.EqAt.none_bool b
    | int b => cases ay; obtain ⟨t, rfl⟩ := rv; exact SeqAt.EqAt.none_int b t
    | str b => cases ay; obtain ⟨t, rfl⟩ := rv; exact SeqAt.EqAt.none_str b t
    | ref b => simp [D.data] at he
    | ty b => simp [D.data] at he
    | frl b => simp [D.data] at he
    | tup es => obtain ⟨b, us, rfl, s2, r2⟩ := ay; cases rv; obtain ⟨its2, rr2, t2, _⟩ := I.tuple s2; exact SeqAt.EqAt.none_tuple t2 hu0
  | .bl a, e, A, x, y, u, v, hd, he, ax, ay, ru, rv, hu => by
    cases ax; cases ru
    have hu0 : A.units < cLine := by omega
    cases e with
    | non => cases ay; cases rv; exact SeqAt.EqAt.bool_none a
    | bl b => cases ay; cases rv; exact SeqAt.EqAt.bool_bool a b
    | int b => cases ay; obtain ⟨t, rfl⟩ := rv; exact SeqAt.EqAt.bool_int a b t
    | str b => cases ay; obtain ⟨t, rfl⟩ := rv; exact SeqAt.EqAt.bool_str a b t
    | ref b => simp [D.data] at he
    | ty b => simp [D.data] at he
    | frl b => simp [D.data] at he
    | tup es => obtain ⟨b, us, rfl, s2, r2⟩ := ay; cases rv; obtain ⟨its2, rr2, t2, _⟩ := I.tuple s2; exact SeqAt.EqAt.bool_tuple a t2 hu0
  | .int a, e, A, x, y, u, v, hd, he, ax, ay, ru, rv, hu => by
    cases ax; obtain ⟨t', rfl⟩ := ru
    have hu0 : A.units < cLine := by omega
    cases e with
    | non => cases ay; cases rv; exact SeqAt.EqAt.int_none a t'
    | bl b => cases ay; cases rv; exact SeqAt.EqAt.int_bool a t' b
    | int b => cases ay; obtain ⟨t, rfl⟩ := rv; exact SeqAt.EqAt.int_int a t' b t
    | str b => cases ay; obtain ⟨t, rfl⟩ := rv; exact SeqAt.EqAt.int_str a t' b t
    | ref b => simp [D.data] at he
    | ty b => simp [D.data] at he
    | frl b => simp [D.data] at he
    | tup es => obtain ⟨b, us, rfl, s2, r2⟩ := ay; cases rv; obtain ⟨its2, rr2, t2, _⟩ := I.tuple s2; exact SeqAt.EqAt.int_tuple a t' t2 hu0
  | .str a, e, A, x, y, u, v, hd, he, ax, ay, ru, rv, hu => by
    cases ax; obtain ⟨t', rfl⟩ := ru
    have hu0 : A.units < cLine := by omega
    cases e with
    | non => cases ay; cases rv; exact SeqAt.EqAt.str_none a t'
    | bl b => cases ay; cases rv; exact SeqAt.EqAt.str_bool a t' b
    | int b => cases ay; obtain ⟨t, rfl⟩ := rv; exact SeqAt.EqAt.str_int a t' b t
    | str b => cases ay; obtain ⟨t, rfl⟩ := rv; exact SeqAt.EqAt.str_str a t' b t
    | ref b => simp [D.data] at he
    | ty b => simp [D.data] at he
    | frl b => simp [D.data] at he
    | tup es => obtain ⟨b, us, rfl, s2, r2⟩ := ay; cases rv; obtain ⟨its2, rr2, t2, _⟩ := I.tuple s2; exact SeqAt.EqAt.str_tuple a t' t2 hu0
theorem dNq (I : Inv X pins σ H s) : ∀ (ds es : List D) (A : Around) (vs us : List V) (its its2 : List Value), bZq ds = true -> bZq es = true -> AbsL X.K H ds vs -> AbsL X.K H es us -> Vals vs its -> Vals us its2 -> A.units + hCq ds < cLine →
    ∀ j (h1 : j < its.length) (h2 : j < its2.length), SeqAt.EqAt A s its[j] its2[j] (eqJ ds es j)
  | [], es, A, vs, us, its, its2, _, _, e, e', rr, rr2, _, j, h1, h2 => by
    rw [show vs = [] from e] at rr
    cases rr
    exact absurd h1 (by simp)
  | d :: ds, [], A, vs, us, its, its2, _, _, e, e', rr, rr2, _, j, h1, h2 => by
    rw [show us = [] from e'] at rr2
    cases rr2
    exact absurd h2 (by simp)
  | d :: ds, e0 :: es, A, vs, us, its, its2, hd, he, ⟨v, r, e, q, t⟩, ⟨v', r', e', q', t'⟩, rr, rr2, hu, j, h1, h2 => by
    subst e e'
    cases rr with
    | cons r1 rt =>
      cases rr2 with
      | cons r2 rt2 =>
        simp only [hCq] at hu
        simp only [bZq, Bool.and_eq_true] at hd he
        cases j with
        | zero => exact pSq I d e0 A _ _ _ _ hd.1 he.1 q q' r1 r2 (by omega)
        | succ j =>
          have z := dNq I ds es A _ _ _ _ hd.2 he.2 t t' rt rt2 (by omega) j (by simpa using h1) (by simpa using h2)
          simpa [eqJ] using z
end
theorem p4q (I : Inv X pins σ H s) (d e : D) (A : Around) (x y : V) (u v : Value) (hd : d.data = true) (he : e.data = true) (ax : Abs X.K H d x) (ay : Abs X.K H e y) (ru : RelV x u) (rv : RelV y v) (hu : A.units + d.dp < cLine) : SeqAt.RcAt A s u v (eqD d e) := by
  have hu0 : A.units < cLine := by omega
  cases d with
  | tup ds =>
    obtain ⟨a, vs, rfl, s1, r1⟩ := ax
    cases ru
    obtain ⟨its, rr, t1, _⟩ := I.tuple s1
    cases e with
    | non => cases ay; cases rv; exact SeqAt.RcAt.tuple_none t1 hu0
    | bl b => cases ay; cases rv; exact SeqAt.RcAt.tuple_bool b t1 hu0
    | int b => cases ay; obtain ⟨t, rfl⟩ := rv; exact SeqAt.RcAt.tuple_int b t t1 hu0
    | str b => cases ay; obtain ⟨t, rfl⟩ := rv; exact SeqAt.RcAt.tuple_str b t t1 hu0
    | ref b => simp [D.data] at he
    | ty b => simp [D.data] at he
    | frl b => simp [D.data] at he
    | tup es =>
      obtain ⟨b, us, rfl, s2, r2⟩ := ay
      cases rv
      obtain ⟨its2, rr2, t2, _⟩ := I.tuple s2
      have l1 := rr.length
      have l2 := rr2.length
      have l3 := r1.len
      have l4 := r2.len
      simp only [D.dp] at hu
      have z := SeqAt.RcAt.tuples (A := A) (e := eqJ ds es) t1 t2 hu0 (fun j h1 h2 => by
        have q := dNq I ds es A.in1 vs us its its2 (by simpa [D.data] using hd) (by simpa [D.data] using he) r1 r2 rr rr2 (by show A.units + 1 + hCq ds < cLine; omega) j (by simpa using h1) (by simpa using h2)
        simpa using q)
      have ez : ((List.range (min its.toArray.size its2.toArray.size)).all (eqJ ds es) && its.toArray.size == its2.toArray.size) = eqD (.tup ds) (.tup es) := by
        rw [List.size_toArray, List.size_toArray, <- l1, <- l2, l3, l4, b6q]; rfl
      rw [ez] at z
      exact z
  | ref a => simp [D.data] at hd
  | ty a => simp [D.data] at hd
  | frl a => simp [D.data] at hd
  | non =>
    cases ax; cases ru
    cases e with
    | non => cases ay; cases rv; exact SeqAt.RcAt.none_none
    | bl b => cases ay; cases rv; exact SeqAt.RcAt.none_bool b
    | int b => cases ay; obtain ⟨t, rfl⟩ := rv; exact SeqAt.RcAt.none_int b t
    | str b => cases ay; obtain ⟨t, rfl⟩ := rv; exact SeqAt.RcAt.none_str b t
    | ref b => simp [D.data] at he
    | ty b => simp [D.data] at he
    | frl b => simp [D.data] at he
    | tup es => obtain ⟨b, us, rfl, s2, r2⟩ := ay; cases rv; obtain ⟨its2, rr2, t2, _⟩ := I.tuple s2; exact SeqAt.RcAt.none_tuple t2 hu0
  | bl a =>
    cases ax; cases ru
    cases e with
    | non => cases ay; cases rv; exact SeqAt.RcAt.bool_none a
    | bl b => cases ay; cases rv; exact SeqAt.RcAt.bool_bool a b
    | int b => cases ay; obtain ⟨t, rfl⟩ := rv; exact SeqAt.RcAt.bool_int a b t
    | str b => cases ay; obtain ⟨t, rfl⟩ := rv; exact SeqAt.RcAt.bool_str a b t
    | ref b => simp [D.data] at he
    | ty b => simp [D.data] at he
    | frl b => simp [D.data] at he
    | tup es => obtain ⟨b, us, rfl, s2, r2⟩ := ay; cases rv; obtain ⟨its2, rr2, t2, _⟩ := I.tuple s2; exact SeqAt.RcAt.bool_tuple a t2 hu0
  | int a =>
    cases ax; obtain ⟨t', rfl⟩ := ru
    cases e with
    | non => cases ay; cases rv; exact SeqAt.RcAt.int_none a t'
    | bl b => cases ay; cases rv; exact SeqAt.RcAt.int_bool a t' b
    | int b => cases ay; obtain ⟨t, rfl⟩ := rv; exact SeqAt.RcAt.int_int a t' b t
    | str b => cases ay; obtain ⟨t, rfl⟩ := rv; exact SeqAt.RcAt.int_str a t' b t
    | ref b => simp [D.data] at he
    | ty b => simp [D.data] at he
    | frl b => simp [D.data] at he
    | tup es => obtain ⟨b, us, rfl, s2, r2⟩ := ay; cases rv; obtain ⟨its2, rr2, t2, _⟩ := I.tuple s2; exact SeqAt.RcAt.int_tuple a t' t2 hu0
  | str a =>
    cases ax; obtain ⟨t', rfl⟩ := ru
    cases e with
    | non => cases ay; cases rv; exact SeqAt.RcAt.str_none a t'
    | bl b => cases ay; cases rv; exact SeqAt.RcAt.str_bool a t' b
    | int b => cases ay; obtain ⟨t, rfl⟩ := rv; exact SeqAt.RcAt.str_int a t' b t
    | str b => cases ay; obtain ⟨t, rfl⟩ := rv; exact SeqAt.RcAt.str_str a t' b t
    | ref b => simp [D.data] at he
    | ty b => simp [D.data] at he
    | frl b => simp [D.data] at he
    | tup es => obtain ⟨b, us, rfl, s2, r2⟩ := ay; cases rv; obtain ⟨its2, rr2, t2, _⟩ := I.tuple s2; exact SeqAt.RcAt.str_tuple a t' t2 hu0
end
end L3
namespace L3
open PySem PySem.Spec L2
section
variable {X : Cx} {pins : List (Addr × Obj)} {σ : L2.St} {H : Hp} {s : Shared}
theorem pQq (I : Inv X pins σ H s) (d e : D) (A : Around) (x y : V) (u v : Value) (hd : d.data = true) (he : e.data = true) (ax : Abs X.K H d x) (ay : Abs X.K H e y) (ru : RelV x u) (rv : RelV y v) (hu : A.units + d.dp < cLine) : SeqAt.RcNeAt A s u v (!eqD d e) := by
  have hu0 : A.units < cLine := by omega
  cases d with
  | tup ds =>
    obtain ⟨a, vs, rfl, s1, r1⟩ := ax
    cases ru
    obtain ⟨its, rr, t1, _⟩ := I.tuple s1
    cases e with
    | non => cases ay; cases rv; exact SeqAt.RcNeAt.tuple_none t1 hu0
    | bl b => cases ay; cases rv; exact SeqAt.RcNeAt.tuple_bool b t1 hu0
    | int b => cases ay; obtain ⟨t, rfl⟩ := rv; exact SeqAt.RcNeAt.tuple_int b t t1 hu0
    | str b => cases ay; obtain ⟨t, rfl⟩ := rv; exact SeqAt.RcNeAt.tuple_str b t t1 hu0
    | ref b => simp [D.data] at he
    | ty b => simp [D.data] at he
    | frl b => simp [D.data] at he
    | tup es =>
      obtain ⟨b, us, rfl, s2, r2⟩ := ay
      cases rv
      obtain ⟨its2, rr2, t2, _⟩ := I.tuple s2
      have l1 := rr.length
      have l2 := rr2.length
      have l3 := r1.len
      have l4 := r2.len
      simp only [D.dp] at hu
      have z := SeqAt.RcNeAt.tuples (A := A) (e := eqJ ds es) t1 t2 hu0 (fun j h1 h2 => by
        have q := dNq I ds es A.in1 vs us its its2 (by simpa [D.data] using hd) (by simpa [D.data] using he) r1 r2 rr rr2 (by show A.units + 1 + hCq ds < cLine; omega) j (by simpa using h1) (by simpa using h2)
        simpa using q)
      have ez : ((List.range (min its.toArray.size its2.toArray.size)).all (eqJ ds es) && its.toArray.size == its2.toArray.size) = eqD (.tup ds) (.tup es) := by
        rw [List.size_toArray, List.size_toArray, <- l1, <- l2, l3, l4, b6q]; rfl
      rw [ez] at z
      exact z
  | ref a => simp [D.data] at hd
  | ty a => simp [D.data] at hd
  | frl a => simp [D.data] at hd
  | non =>
    cases ax; cases ru
    cases e with
    | non => cases ay; cases rv; exact SeqAt.RcNeAt.none_none
    | bl b => cases ay; cases rv; exact SeqAt.RcNeAt.none_bool b
    | int b => cases ay; obtain ⟨t, rfl⟩ := rv; exact SeqAt.RcNeAt.none_int b t
    | str b => cases ay; obtain ⟨t, rfl⟩ := rv; exact SeqAt.RcNeAt.none_str b t
    | ref b => simp [D.data] at he
    | ty b => simp [D.data] at he
    | frl b => simp [D.data] at he
    | tup es => obtain ⟨b, us, rfl, s2, r2⟩ := ay; cases rv; obtain ⟨its2, rr2, t2, _⟩ := I.tuple s2; exact SeqAt.RcNeAt.none_tuple t2 hu0
  | bl a =>
    cases ax; cases ru
    cases e with
    | non => cases ay; cases rv; exact SeqAt.RcNeAt.bool_none a
    | bl b => cases ay; cases rv; exact SeqAt.RcNeAt.bool_bool a b
    | int b => cases ay; obtain ⟨t, rfl⟩ := rv; exact SeqAt.RcNeAt.bool_int a b t
    | str b => cases ay; obtain ⟨t, rfl⟩ := rv; exact SeqAt.RcNeAt.bool_str a b t
    | ref b => simp [D.data] at he
    | ty b => simp [D.data] at he
    | frl b => simp [D.data] at he
    | tup es => obtain ⟨b, us, rfl, s2, r2⟩ := ay; cases rv; obtain ⟨its2, rr2, t2, _⟩ := I.tuple s2; exact SeqAt.RcNeAt.bool_tuple a t2 hu0
  | int a =>
    cases ax; obtain ⟨t', rfl⟩ := ru
    cases e with
    | non => cases ay; cases rv; exact SeqAt.RcNeAt.int_none a t'
    | bl b => cases ay; cases rv; exact SeqAt.RcNeAt.int_bool a t' b
    | int b => cases ay; obtain ⟨t, rfl⟩ := rv; exact SeqAt.RcNeAt.int_int a t' b t
    | str b => cases ay; obtain ⟨t, rfl⟩ := rv; exact SeqAt.RcNeAt.int_str a t' b t
    | ref b => simp [D.data] at he
    | ty b => simp [D.data] at he
    | frl b => simp [D.data] at he
    | tup es => obtain ⟨b, us, rfl, s2, r2⟩ := ay; cases rv; obtain ⟨its2, rr2, t2, _⟩ := I.tuple s2; exact SeqAt.RcNeAt.int_tuple a t' t2 hu0
  | str a =>
    cases ax; obtain ⟨t', rfl⟩ := ru
    cases e with
    | non => cases ay; cases rv; exact SeqAt.RcNeAt.str_none a t'
    | bl b => cases ay; cases rv; exact SeqAt.RcNeAt.str_bool a t' b
    | int b => cases ay; obtain ⟨t, rfl⟩ := rv; exact SeqAt.RcNeAt.str_int a t' b t
    | str b => cases ay; obtain ⟨t, rfl⟩ := rv; exact SeqAt.RcNeAt.str_str a t' b t
    | ref b => simp [D.data] at he
    | ty b => simp [D.data] at he
    | frl b => simp [D.data] at he
    | tup es => obtain ⟨b, us, rfl, s2, r2⟩ := ay; cases rv; obtain ⟨its2, rr2, t2, _⟩ := I.tuple s2; exact SeqAt.RcNeAt.str_tuple a t' t2 hu0
end
end L3
namespace L3
open PySem PySem.Spec L2
section
variable {X : Cx} {a b c e o i tg iter : Expr} {es : List Expr} {ta tb te to ti tc : DTE} {t : DTA} {pos p apos cpos : Pos}
theorem dGq {A : Around} {k : Nat} (hr : Room k A) : A.units + 200 < cLine := by have := hr.un; omega
def oUq (K : PySem.W.Frag) (f : Bool -> Bool) : R2 := fun x y H Q => ∃ d e, Abs K H d x /\ Abs K H e y /\ d.data = true /\ e.data = true /\ d.dp <= 150 /\ Q (.bl (f (eqD d e))) H
def kOq (K : PySem.W.Frag) (f : Bool -> Bool) : R2 := fun x y H Q => ∃ l m vs us ds es, x = .ref l /\ y = .ref m /\ SqL K H l vs /\ SqL K H m us /\ AbsL K H ds vs /\ AbsL K H es us /\ bZq ds = true /\ bZq es = true /\ hCq ds <= 150 /\ Q (.bl (f (fIq ds es))) H
theorem m1q (hu : X.A.units + 200 < cLine) : OpR X (compareOp .Eq) (oUq X.K id) := by
  intro pins s σ H x y v u Q I rx ry h
  obtain ⟨d, e, ax, ay, hd, he, hz, q⟩ := h
  exact p4q I d e X.A x y v u hd he ax ay rx ry (by omega) X.prog X.w X.xe _ ⟨.bl _, H, I, rfl, q⟩
theorem mEq (hu : X.A.units + 200 < cLine) : OpR X (compareOp .NotEq) (oUq X.K (!·)) := by
  intro pins s σ H x y v u Q I rx ry h
  obtain ⟨d, e, ax, ay, hd, he, hz, q⟩ := h
  exact pQq I d e X.A x y v u hd he ax ay rx ry (by omega) X.prog X.w X.xe _ ⟨.bl _, H, I, rfl, q⟩
theorem e4q : ∀ {ds es : List D}, ds.length ≠ es.length -> fIq ds es = false
  | [], [], h => absurd rfl h
  | [], _ :: _, _ => rfl
  | _ :: _, [], _ => rfl
  | d :: ds, e :: es, h => by rw [fIq, e4q (by simpa using h), Bool.and_false]
theorem fXq {ds es : List D} (h : ds.length = es.length) : (List.range ds.length).all (eqJ ds es) = fIq ds es := by
  rw [<- b6q, <- h, Nat.min_self]; simp
theorem lEq (hu : X.A.units + 200 < cLine) : OpR X (compareOp .Eq) (kOq X.K id) := by
  intro pins s σ H x y v u Q I rx ry h
  obtain ⟨l, m, vs, us, ds, es, rfl, rfl, s1, s2, r1, r2, hd, he, hz, q⟩ := h
  cases rx; cases ry
  obtain ⟨its, rr, t1, _⟩ := I.list s1
  obtain ⟨its2, rr2, t2, _⟩ := I.list s2
  have l1 := rr.length
  have l2 := rr2.length
  have l3 := r1.len
  have l4 := r2.len
  by_cases hl : ds.length = es.length
  . refine SeqAt.RcAt.lists (e := eqJ ds es) t1.isList t2.isList (by rw [List.size_toArray, List.size_toArray]; omega) (by omega) (fun j h1 h2 => ?_) X.prog X.w X.xe _ ⟨.bl _, H, I, ?_, q⟩
    . have q := dNq I ds es X.A.in1 vs us its its2 hd he r1 r2 rr rr2 (by show X.A.units + 1 + hCq ds < cLine; omega) j (by simpa using h1) (by simpa using h2)
      simpa using q
    . show Value.bool _ = Value.bool _
      rw [List.size_toArray, <- l1, l3, fXq hl]; rfl
  . refine SeqAt.RcAt.lists_lengths t1.isList t2.isList (by rw [List.size_toArray, List.size_toArray]; simp; omega) (by omega) X.prog X.w X.xe _ ⟨.bl _, H, I, ?_, q⟩
    rw [e4q hl]; rfl
theorem lFq (hu : X.A.units + 200 < cLine) : OpR X (compareOp .NotEq) (kOq X.K (!·)) := by
  intro pins s σ H x y v u Q I rx ry h
  obtain ⟨l, m, vs, us, ds, es, rfl, rfl, s1, s2, r1, r2, hd, he, hz, q⟩ := h
  cases rx; cases ry
  obtain ⟨its, rr, t1, _⟩ := I.list s1
  obtain ⟨its2, rr2, t2, _⟩ := I.list s2
  have l1 := rr.length
  have l2 := rr2.length
  have l3 := r1.len
  have l4 := r2.len
  by_cases hl : ds.length = es.length
  . refine SeqAt.RcNeAt.lists (e := eqJ ds es) t1.isList t2.isList (by rw [List.size_toArray, List.size_toArray]; omega) (by omega) (fun j h1 h2 => ?_) X.prog X.w X.xe _ ⟨.bl _, H, I, ?_, q⟩
    . have q := dNq I ds es X.A.in1 vs us its its2 hd he r1 r2 rr rr2 (by show X.A.units + 1 + hCq ds < cLine; omega) j (by simpa using h1) (by simpa using h2)
      simpa using q
    . show Value.bool _ = Value.bool _
      rw [List.size_toArray, <- l1, l3, fXq hl]
  . refine SeqAt.RcNeAt.lists_lengths t1.isList t2.isList (by rw [List.size_toArray, List.size_toArray]; simp; omega) (by omega) X.prog X.w X.xe _ ⟨.bl _, H, I, ?_, q⟩
    rw [e4q hl]; rfl
def eqR (f : Bool -> Bool) : DR2 := fun x y G Q => match x, y with
  | .int i, .int j => Q (.bl (f (i == j))) G
  | .str i, .str j => Q (.bl (f (i == j))) G
  | .tup _, .str _ => Q (.bl (f false)) G
  | .str _, .tup _ => Q (.bl (f false)) G
  | .ref l, .ref m => onL G l fun ds => onL G m fun es => bZq ds = true /\ bZq es = true /\ hCq ds <= 150 /\ Q (.bl (f (fIq ds es))) G
  | x, y => x.data = true /\ y.data = true /\ x.dp <= 150 /\ Q (.bl (f (eqD x y))) G
theorem mIq {f : Bool -> Bool} {x y : D} {G : DV} {Q : DK} (hx : x.data = true) (hy : y.data = true) (hd : x.dp <= 150) (q : Q (.bl (f (eqD x y))) G) : eqR f x y G Q := by
  cases x <;> cases y <;> first | exact q | exact ⟨hx, hy, hd, q⟩ | (simp [D.data] at hx; done) | (simp [D.data] at hy; done)
def rTS (K : PySem.W.Frag) (f : Bool -> Bool) : R2 := fun x y H Q => (∃ a vs z, x = .ref a /\ SqT K H a vs /\ y = .str z /\ Q (.bl (f false)) H) \/ ∃ a vs z, y = .ref a /\ SqT K H a vs /\ x = .str z /\ Q (.bl (f false)) H
theorem lAq (hu : X.A.units + 200 < cLine) : OpR X (compareOp .Eq) (rTS X.K id) := by
  intro pins s σ H x y v u Q I rx ry h
  rcases h with ⟨a, vs, z, rfl, sq, rfl, q⟩ | ⟨a, vs, z, rfl, sq, rfl, q⟩
  . cases rx; obtain ⟨t, rfl⟩ := ry
    obtain ⟨its, rr, t1, _⟩ := I.tuple sq
    exact SeqAt.RcAt.tuple_str z t t1 (by omega) X.prog X.w X.xe _ ⟨.bl false, H, I, rfl, q⟩
  . cases ry; obtain ⟨t, rfl⟩ := rx
    obtain ⟨its, rr, t1, _⟩ := I.tuple sq
    exact SeqAt.RcAt.str_tuple z t t1 (by omega) X.prog X.w X.xe _ ⟨.bl false, H, I, rfl, q⟩
theorem jWq (hu : X.A.units + 200 < cLine) : OpR X (compareOp .NotEq) (rTS X.K (!·)) := by
  intro pins s σ H x y v u Q I rx ry h
  rcases h with ⟨a, vs, z, rfl, sq, rfl, q⟩ | ⟨a, vs, z, rfl, sq, rfl, q⟩
  . cases rx; obtain ⟨t, rfl⟩ := ry
    obtain ⟨its, rr, t1, _⟩ := I.tuple sq
    exact SeqAt.RcNeAt.tuple_str z t t1 (by omega) X.prog X.w X.xe _ ⟨.bl true, H, I, rfl, q⟩
  . cases ry; obtain ⟨t, rfl⟩ := rx
    obtain ⟨its, rr, t1, _⟩ := I.tuple sq
    exact SeqAt.RcNeAt.str_tuple z t t1 (by omega) X.prog X.w X.xe _ ⟨.bl true, H, I, rfl, q⟩
theorem j8q {f : Bool -> Bool} {op : CmpOp} (h1 : OpR X (compareOp op) (oUq X.K f)) (h2 : OpR X (compareOp op) (kOq X.K f)) (h3 : OpR X (compareOp op) (rTS X.K f)) : AOp X (compareOp op) (eqR f) := by
  refine ⟨_, ⟨h1.or (h2.or h3)⟩, fun x y vx vy G H DQ Q v ax ay r F => ?_⟩
  have fin : ∀ b : Bool, DQ (.bl b) G -> Q (.bl b) H := fun b q => F (.bl b) G _ H (.refl v) rfl q
  have gen : x.data = true /\ y.data = true /\ x.dp <= 150 /\ DQ (.bl (f (eqD x y))) G -> oUq X.K f vx vy H Q := fun ⟨z1, z2, z3, z4⟩ => ⟨x, y, ax, ay, z1, z2, z3, fin _ z4⟩
  unfold eqR at r
  split at r
  . exact .inl (gen ⟨rfl, rfl, Nat.zero_le _, r⟩)
  . exact .inl (gen ⟨rfl, rfl, Nat.zero_le _, r⟩)
  . obtain ⟨l, vs, rfl, s1, _⟩ := ax
    cases ay
    exact .inr (.inr (.inl ⟨l, vs, _, rfl, s1, rfl, fin _ r⟩))
  . obtain ⟨l, vs, rfl, s1, _⟩ := ay
    cases ax
    exact .inr (.inr (.inr ⟨l, vs, _, rfl, s1, rfl, fin _ r⟩))
  . cases ax; cases ay
    obtain ⟨ds, vs, k1, s1, r1⟩ := b2q v r
    obtain ⟨es, us, ⟨z1, z2, z3, k2⟩, s2, r2⟩ := b2q v k1
    exact .inr (.inl ⟨_, _, vs, us, ds, es, rfl, rfl, s1, s2, r1, r2, z1, z2, z3, fin _ k2⟩)
  . exact .inl (gen r)
theorem cJq (hu : X.A.units + 200 < cLine) : AOp X (compareOp .Eq) (eqR id) := j8q (m1q hu) (lEq hu) (lAq hu)
theorem jGq (hu : X.A.units + 200 < cLine) : AOp X (compareOp .NotEq) (eqR (!·)) := j8q (mEq hu) (lFq hu) (jWq hu)
abbrev lRq (t : DTE) : DTE := fun ρ G Q => t ρ G fun d G' => ∃ G2, Sub G2 G' /\ Q d G2
theorem cNq (h : AE X e te) : AE X e (lRq te) := by
  obtain ⟨ca, ja, ra⟩ := h.run
  exact ⟨_, ja, fun ρ G DQ σ H Q B q F => ra ρ G _ σ H _ B q fun d G' v H' g a ⟨G2, s2, q2⟩ => F d G2 v H' (g.sub s2) a q2⟩
@[irreducible] def atS (ds : List D) (i : Int) (G : DV) (Q : DK) : Prop := atD ds i G Q
theorem gJq {ds : List D} {i : Int} {G : DV} {Q : DK} (h : atD ds i G Q) : atS ds i G Q := by unfold atS; exact h
abbrev rGq (t : DTA) (tb : DTE) : DTE := fun ρ G Q => t ρ G fun ds G1 => tb ρ G1 fun y G2 => match y with
  | .int i => atS ds i G2 Q
  | _ => False
theorem d9q {lp : Pos} (h : AA X es t) (hb : AE X b tb) (hs : e0q b) (hl : Nat.ble es.length 1000 = true := by rfl) : AE X (.Subscript (.List es lp) b pos) (rGq t tb) := by
  obtain ⟨ca, ja, ra⟩ := h.run
  obtain ⟨cb, jb, rb⟩ := hb.run
  refine ⟨_, nDq ⟨jKq⟩ (jHq ja) jb hs, fun ρ G DQ σ H Q B q F => ra ρ G _ σ H _ B q fun ds G1 vs H1 g1 al hn q1 => ⟨by rw [al.len, hn]; exact fAq hl, fun p hp => ?_⟩⟩
  have g2 := Go.newT (o := .lst vs) g1.vw hp
  have n1 := g1.vw.none hp
  refine rb ρ G1 _ σ _ _ ((B.go g1).go g2) q1 fun y G3 u H3 g3 ay q3 => ?_
  have h3 := g3.same p _ aSq n1
  split at q3
  . next i =>
    cases ay
    unfold atS at q3
    obtain ⟨d, hd, q4⟩ := e1q q3
    obtain ⟨w, hw, aw⟩ := eCq ((al.mono g2.tup).mono g3.tup) hd
    exact .inl ⟨p, vs, i, w, rfl, rfl, .of h3, hw, F d G3 w H3 ((g1.trans g2).trans g3) aw q4⟩
  . exact q3.elim
def i1q (sc : Scope) (N : List Str) (scope : Scope) (N' : List Str) (nt : Nat) (cap : List Nat) : Bool :=
  scope.names.all (fun y => y.2 != .cell) && scope.names.all (fun y => y.2 != .local || scope.names.lookup y.1 == some .local) &&
  scope.names.all (fun y => y.2 != .free || (sc.names.lookup y.1 == some .cell || sc.names.lookup y.1 == some .free)) && N'.length == nt + cap.length &&
  (List.range cap.length).all fun j => match cap[j]?, N'[nt + j]? with
    | some i, some x => N[i]? == some x && scope.names.lookup x == some .free
    | _, _ => true
theorem CompOk.of {scope : Scope} {N' : List Str} {nt : Nat} {cap : List Nat} (hk : scope.kind = .function) (h : i1q X.env.scope X.N scope N' nt cap = true) : CompOk X scope N' nt cap := by
  unfold i1q at h
  simp only [Bool.and_eq_true, List.all_eq_true] at h
  obtain ⟨⟨⟨⟨h1, h2⟩, h3⟩, h4⟩, h5⟩ := h
  refine ⟨hk, fun y hy => by simpa using h1 y hy, fun y hy e => ?_, fun y hy e => ?_, by simpa using h4, fun j i x hj hx => ?_⟩
  . have z := h2 y hy
    rw [e] at z
    simpa using z
  . have z := h3 y hy
    rw [e] at z
    simpa using z
  . have lt : j < cap.length := by
      rcases Nat.lt_or_ge j cap.length with z | z
      . exact z
      . rw [List.getElem?_eq_none z] at hj; cases hj
    have z := h5 j (List.mem_range.mpr lt)
    rw [hj, hx] at z
    simpa using z
abbrev pOq (to ti : DTE) : DTG := fun d ρ G Q => to ρ G fun x G1 => ti ρ G1 fun y G2 => match x, y with
  | .ref l, .int k => onM G2 l fun ds => ∃ j, ixN ds.length k = some j /\ Q ρ (up G2 l (.lst (ds.set j d)))
  | _, _ => False
theorem jLq (ho : AE X o to) (hi : AE X i ti) (ha : ∀ v, assign (.Subscript o i pos) X.env v = (do
      let ov ← holding [v] (eval o X.env)
      let iv ← holding [v, ov] (eval i X.env)
      standAt pos
      holding [v, ov, iv] (setItem ov iv v)
      release [v, ov, iv] []) := by intro _; rfl) : AG X (.Subscript o i pos) (pOq to ti) := by
  obtain ⟨co, jo, ro⟩ := ho.run
  obtain ⟨ci, ji, ri⟩ := hi.run
  refine ⟨_, nLq jo ji ⟨iEq⟩ ha, fun d v ρ G DQ σ H Q B ad q F => ro ρ G _ σ H _ B q fun x G1 vx H1 g1 ax q1 => ri ρ G1 _ σ H1 _ (B.go g1) q1 fun y G2 vy H2 g2 ay q2 => ?_⟩
  split at q2
  . next l k =>
    cases ax; cases ay
    obtain ⟨ds, vs, ⟨j, hj, q3⟩, e1, h1, r1⟩ := fDq g2.vw q2
    have ad2 := (ad.mono g1.tup).mono g2.tup
    have g3 := Go.setL g2.vw e1 (r1.set ad2 j)
    have gg := (g1.trans g2).trans g3
    exact ⟨l, vs, k, j, rfl, rfl, h1, by rw [r1.len]; exact hj, F ρ _ σ _ gg (B.go gg) q3⟩
  . exact q2.elim
abbrev qOq (k : Nat) (te : DTE) (f : Int -> Int -> Int) : DTS := fun DD ρ G => match ρ[k]? with
  | some (some (.int x)) => te ρ G fun y G1 => (match y with
      | .int z => DD.nx (ρ.set k (some (.int (f x z)))) G1
      | _ => False)
  | _ => False
structure AIp (X : Cx) (op : Operator) (f : Int -> Int -> Int) : Prop where
  run : JIp X op (ipI f)
theorem kQq : AIp X .Add (fun i j => i + j) := ⟨⟨lXq⟩⟩
theorem oIq {k : Nat} {x : Str} {op : Operator} {f : Int -> Int -> Int} {pos' : Pos} (hN : X.N.Nodup) (hi : X.N[k]? = some x) (hx : Loc X.env.scope x) (he : AE X e te) (ho : AIp X op f) (hf : X.fn x = true \/ X.env.scope.names.lookup x = some .local := by first | exact .inl rfl | exact .inr rfl | assumption) :
    AS X (.AugAssign (.Name x pos') op e pos) (qOq k te f) := by
  obtain ⟨ce, je, re⟩ := he.run
  refine ⟨_, oLq hN hi hx je ho.run hf, fun DD Dc ρ G σ H B q F => ?_⟩
  unfold qOq at q
  split at q
  . next x h =>
    obtain ⟨v, h1, h2⟩ := B.st k _ h
    cases h2
    refine ⟨.int x, h1, re ρ G _ σ H _ B q fun y G1 u H1 g1 ay q1 => ?_⟩
    split at q1
    . next z => cases ay; exact ⟨x, z, rfl, rfl, F.nx _ G1 _ H1 g1 ((B.go g1).set (d := .int (f x z)) rfl k) q1⟩
    . exact q1.elim
  . exact q.elim
abbrev nEq (te : DTE) : DTE := fun ρ G Q => te ρ G fun x G1 => match x with
  | .ref l => onL G1 l fun ds => ∀ p, G1 p = none -> Q (.ref p) (up G1 p (.lst ds.reverse))
  | _ => False
def bTq : List D -> Option (List Bool)
  | [] => some []
  | .bl i :: r => (bTq r).map (i :: ·)
  | _ :: _ => none
theorem d7q {K : PySem.W.Frag} {H : Hp} : ∀ {ds : List D} {bs : List Bool} {vs : List V}, bTq ds = some bs -> AbsL K H ds vs -> vs = bs.map V.bl
  | [], bs, vs, h, r => by cases h; exact r
  | d :: ds, bs, vs, h, ⟨v, q, e, av, l⟩ => by
    cases d with
    | bl i =>
      simp only [bTq, Option.map_eq_some_iff] at h
      obtain ⟨ms, h1, rfl⟩ := h
      subst e
      cases av
      rw [d7q h1 l]; rfl
    | _ => simp [bTq] at h
theorem d2q : ∀ bs : List Bool, bTq (bs.map D.bl) = some bs
  | [] => rfl
  | b :: bs => by simp [bTq, d2q bs]
def rXq : D -> DV -> DK -> Prop := fun x G Q => match x with
  | .ref l => onL G l fun ds => ∃ bs, bTq ds = some bs /\ Q (.bl (bs.all id)) G
  | _ => False
theorem hRq (hc : X.calm = true) : ACall X (.builtin "all") (lLq rXq) := by
  refine ⟨_, ⟨hOq hc⟩, fun xs vs G H DQ Q v a r F => ?_⟩
  obtain ⟨x, u, rfl, rfl, ax, r⟩ := cKq r a
  cases x with
  | ref l =>
    cases ax
    obtain ⟨ds, ws, ⟨bs, e, k⟩, s, rl⟩ := b2q v r
    rw [d7q e rl] at s
    exact ⟨l, bs, rfl, s, F (.bl (bs.all id)) G _ H (.refl v) rfl k⟩
  | _ => exact (show False from r).elim
def tyN (x : D) (G : DV) (k : String -> Prop) : Prop := match x with
  | .non => k "NoneType"
  | .bl _ => k "bool"
  | .int _ => k "int"
  | .str _ => k "str"
  | .tup _ => k "tuple"
  | .ref l => onL G l fun _ => k "list"
  | _ => False
def qCq (t T : String) : Option Bool :=
  if (t = "NoneType" \/ t = "bool" \/ t = "int" \/ t = "str" \/ t = "tuple" \/ t = "list") /\ (T = "bool" \/ T = "int" \/ T = "str" \/ T = "tuple" \/ T = "list") then some (decide (t = T) || (decide (t = "bool") && decide (T = "int"))) else none
theorem bNq {K : PySem.W.Frag} {t T : String} {b : Bool} (h : qCq t T = some b) : PySem.W.kitOne K (.type t) (.type T) = some b := by
  unfold qCq at h
  split at h
  . next c =>
    obtain ⟨c1, c2⟩ := c
    rcases c1 with rfl | rfl | rfl | rfl | rfl | rfl <;> rcases c2 with rfl | rfl | rfl | rfl | rfl <;> (simp at h; subst h; first | rfl | exact kit_other rfl (by decide))
  . cases h
def r8q (K : PySem.W.Frag) : List V -> Hp -> VK -> Prop := fun xs H Q => ∃ x T t b, xs = [x, .ty T] /\ ((TyOf K H x (.type t)) \/ (t = "tuple" /\ ∃ a vs, x = .ref a /\ SqT K H a vs) \/ (t = "list" /\ ∃ a vs, x = .ref a /\ SqL K H a vs)) /\ PySem.W.kitOne K (.type t) (.type T) = some b /\ Q (.bl b) H
theorem hFq : CallR X (.builtin "isinstance") (r8q X.K) := by
  intro pins s σ H xs us Q I r h
  obtain ⟨x, T, t, b, rfl, ty, hk, hQ⟩ := h
  obtain ⟨u, v, rfl, ru, rv⟩ := Vals.two r
  cases rv
  rcases ty with ty | ⟨rfl, a, vs, rfl, sq⟩ | ⟨rfl, a, vs, rfl, sq⟩
  . exact gYq I ru ty hk fun tk => ⟨.bl b, H, I.tok tk, rfl, hQ⟩
  . cases ru
    obtain ⟨its, _, ⟨o, h1, h2, _⟩, _⟩ := I.tuple sq
    exact PySem.W.kia_one PySem.W.kitx_tuple I.kIn ⟨o, h1, h2⟩ hk (fun z => nomatch z) fun tk => ⟨.bl b, H, I.tok tk, rfl, hQ⟩
  . cases ru
    obtain ⟨its, _, ⟨o, n, h1, h2, _⟩, _⟩ := I.list sq
    exact PySem.W.kia_one PySem.W.kitx_list I.kIn ⟨o, h1, h2⟩ hk (fun z => nomatch z) fun tk => ⟨.bl b, H, I.tok tk, rfl, hQ⟩
def rIq : D -> D -> DV -> DK -> Prop := fun x y G Q => match y with
  | .ty T => tyN x G fun t => ∃ b, qCq t T = some b /\ Q (.bl b) G
  | _ => False
theorem f3q : ACall X (.builtin "isinstance") (pVq rIq) := by
  refine ⟨_, ⟨hFq⟩, fun xs vs G H DQ Q v a r F => ?_⟩
  obtain ⟨x, y, u, w, rfl, rfl, ax, ay, r⟩ := iWq r a
  cases y with
  | ty T =>
    cases ay
    cases x with
    | non => cases ax; obtain ⟨b, hb, q⟩ := r; exact ⟨_, T, _, b, rfl, .inl .non, bNq hb, F (.bl b) G _ H (.refl v) rfl q⟩
    | bl z => cases ax; obtain ⟨b, hb, q⟩ := r; exact ⟨_, T, _, b, rfl, .inl (.bl z), bNq hb, F (.bl b) G _ H (.refl v) rfl q⟩
    | int z => cases ax; obtain ⟨b, hb, q⟩ := r; exact ⟨_, T, _, b, rfl, .inl (.int z), bNq hb, F (.bl b) G _ H (.refl v) rfl q⟩
    | str z => cases ax; obtain ⟨b, hb, q⟩ := r; exact ⟨_, T, _, b, rfl, .inl (.str z), bNq hb, F (.bl b) G _ H (.refl v) rfl q⟩
    | tup ds => obtain ⟨l, ws, rfl, s, _⟩ := ax; obtain ⟨b, hb, q⟩ := r; exact ⟨_, T, "tuple", b, rfl, .inr (.inl ⟨rfl, l, ws, rfl, s⟩), bNq hb, F (.bl b) G _ H (.refl v) rfl q⟩
    | ref l =>
      cases ax
      obtain ⟨ds, ws, ⟨b, hb, q⟩, s, _⟩ := b2q v r
      exact ⟨_, T, "list", b, rfl, .inr (.inr ⟨rfl, l, ws, rfl, s⟩), bNq hb, F (.bl b) G _ H (.refl v) rfl q⟩
    | ty z => exact (show False from r).elim
    | frl z => exact (show False from r).elim
  | _ => exact (show False from r).elim
end
end L3
namespace L3
open PySem PyProof L2
open PySem.MeetsSeq
section
variable {X : Cx}
variable {e : Expr} {t : DTA} {pos apos cpos : Pos}
end
abbrev fed (x y : Int) : DO := .lst [.int x, .int y]
def Fd (G : DV) (a : Addr) : Prop := ∃ x y, G a = some (fed x y)
theorem Fd.up {G : DV} {a : Addr} {x y : Int} : Fd (up G a (fed x y)) a := ⟨x, y, aJq⟩
theorem Fd.new {G : DV} {a l : Addr} {o : DO} (h : Fd G a) (n : G l = none) : Fd (L3.up G l o) a := by
  obtain ⟨x, y, e⟩ := h
  exact ⟨x, y, by rw [c1q (by rintro rfl; rw [n] at e; cases e)]; exact e⟩
theorem Fd.ne {G : DV} {a l : Addr} (h : Fd G a) (n : G l = none) : l ≠ a := by
  obtain ⟨x, y, e⟩ := h
  rintro rfl
  rw [n] at e; cases e
theorem dVq {G : DV} {a l : Addr} {f o : DO} (n : up G a f l = none) : up (up G a f) l o = up (up G l o) a f /\ G l = none /\ l ≠ a := by
  have ne : l ≠ a := by rintro rfl; rw [aJq] at n; cases n
  exact ⟨l2q (Ne.symm ne), by rw [c1q ne] at n; exact n, ne⟩
theorem Sub.new {G G1 : DV} {p : Addr} {o : DO} (h : Sub G G1) (n : G p = Option.none) : Sub G (up G1 p o) := fun b u e => by
  rw [c1q (by rintro rfl; rw [n] at e; cases e)]; exact h b u e
theorem Sub.put {G G1 : DV} {a : Addr} {o : DO} (h : Sub G G1) : Sub (up G a o) (up G1 a o) := fun b u e => by
  by_cases c : b = a
  . subst c; rw [aJq] at e ⊢; exact e
  . rw [c1q c] at e ⊢; exact h b u e
def Fx (a : Addr) (G G' : DV) : Prop := ∃ x y, G' = up G a (fed x y)
theorem Fx.mk {a : Addr} {G : DV} {x y : Int} : Fx a G (up G a (fed x y)) := ⟨x, y, rfl⟩
theorem Fx.trans {a : Addr} {G G1 G2 : DV} (h : Fx a G G1) (k : Fx a G1 G2) : Fx a G G2 := by
  obtain ⟨x, y, rfl⟩ := h
  obtain ⟨z, u, rfl⟩ := k
  exact ⟨z, u, p1q⟩
theorem Fx.fd {a : Addr} {G G' : DV} (h : Fx a G G') : Fd G' a := by obtain ⟨x, y, rfl⟩ := h; exact .up
theorem Fx.other {a l : Addr} {G G' : DV} (h : Fx a G G') (n : l ≠ a) : G' l = G l := by obtain ⟨x, y, rfl⟩ := h; exact c1q n
theorem Fx.drop {a l : Addr} {G G' : DV} {o : DO} (n : G l = Option.none) (h : Fx a (up G l o) G') (F : Fd G a) : ∃ G2, Sub G2 G' /\ Fx a G G2 := by
  obtain ⟨x, y, rfl⟩ := h
  exact ⟨up G a (fed x y), Sub.put (Sub.new (Sub.refl _) n), x, y, rfl⟩
def cGq : DSp := fun ds G Q => match ds with
  | [.ref a, .int m] => Fd G a /\ 0 < m /\ m < 2 ^ 62 /\ ∀ d G', Fx a G G' -> 0 <= d -> d < m -> Q (.int d) G'
  | _ => False
def f6q : DSp := fun ds G Q => match ds with
  | [.frl ss, .int k] => ∃ ns : List Int, ss = ns.map D.int /\ ns.length <= 63 /\ 0 <= k /\ k < 2 ^ 32 /\ ∀ r x y, G r = none -> Q (.ref r) (up G r (fed x y))
  | _ => False
def oBq : DSp := fun ds _ Q => ∃ ns : List Int, ds = [.frl (ns.map D.int)] /\ ns.length <= 63 /\ ∀ G', Q (.bl true) G'
abbrev f0q (K : PySem.W.Frag) : Sp := aPq K oBq
theorem o1q {K : PySem.W.Frag} {H : Hp} {a : Addr} {ns : List Int} (hl : ns.length <= 63) (o : oTq H) (h : SqL K H a (ns.map V.int)) : f0q K [.ref a] H (fun v _ => v = .bl true) fun _ _ _ => False := by
  have f : FrL K H a (ns.map V.int) := by
    rcases h with (h | h) | h
    . rcases o a with z | ⟨_, _, z⟩ <;> (rw [h] at z; cases z)
    . exact .inl h
    . exact .inr h
  refine ⟨[.frl (ns.map D.int)], fun _ => none, fun d _ => d = .bl true, ⟨.ref a, [], rfl, ⟨a, _, rfl, f, AbsL.of_ints ns⟩, rfl⟩, nofun, ⟨ns, rfl, hl, fun _ => rfl⟩, fun d G' v H' g ad e => ?_⟩
  subst e
  exact ad
section
variable {α : Type} {all : α -> List (List Int × α)} {inn : α -> List α}
theorem b3q {n : Nat} (h : n <= 200000) : n <= sizeLine := by rw [sizeLine_eq]; omega
theorem d1q {n : Nat} (h : n <= 200000) : n < sizeLine := by rw [sizeLine_eq]; omega
end
end L3
namespace L3
open PySem PyProof L2
section
variable {X : Cx}
variable {i : Nat} {T c : Addr} {name : Str} {params : Arguments} {body : List Stmt} {scope : Scope} {pos : Pos} {fr : List Str}
end
end L3
namespace L2
open PySem PySem.Spec PyProof.Rows
end L2
namespace L3
open PySem PyProof L2
section
variable {X : Cx} {k j : Nat} {name qual : Str} {st : Stmt} {fr : List Str} {vals : List D} {ps : List Str} {x : Str} {dsp : DSp} {p pos : Pos} {e : Expr} {es : List Expr} {t : DTA}
end
end L3
namespace L3
open PySem PyProof L2
section
variable {K : PySem.W.Frag} {H H' : Hp}
end
section
variable {X : Cx} {e : Expr} {es : List Expr} {t : DTA} {p pos : Pos}
end
end L3
namespace L3
open PySem PyProof L2
section
variable {K : PySem.W.Frag} {H : Hp}
end
section
variable {K : PySem.W.Frag} {G : DV} {H : Hp}
end
section
variable {X : Cx} {o e value : Expr} {es : List Expr} {f m : Str} {C : Addr} {pos pos' tpos apos p : Pos} {ta tv : DTE} {t : DTA}
end
end L3
namespace L2
open PySem PySem.Spec PyProof.Rows
section
variable {X : Cx} {e : Expr} {ta : TA} {p p2 pos pos2 : Pos}
end
end L2
namespace L3
open PySem PyProof L2
section
variable {X : Cx} {e : Expr} {t : DTA} {p p2 pos pos2 : Pos}
end
end L3
namespace L2
open PySem PySem.Spec PyProof.Rows
end L2
namespace L3
open PySem PyProof L2
end L3
namespace KSs
open PySem PyProof.Rows
end KSs
namespace KSs
open PySem PyProof.Rows
section
variable {prog : Program} {w : World} {A : Around} {E : Value -> Shared -> Prop} {s : Shared} {a : Addr} {es : Array (Int × Value)} {ep : Nat} {t : SetTable}
end
end KSs
namespace KSs
open PySem PyProof.Rows
section
variable {prog : Program} {w : World} {A : Around} {E : Value -> Shared -> Prop} {s : Shared}
end
end KSs
namespace KSs
open PySem PyProof.Rows
end KSs
namespace KSs
open PySem PyProof.Rows
section
variable {prog : Program} {w : World} {A : Around} {E : Value -> Shared -> Prop} {s : Shared} {a I T : Addr} {es : Array (Int × Value)} {ep : Nat} {t : SetTable}
end
end KSs
namespace KSs
open PySem PyProof.Rows
section
variable {prog : Program} {w : World} {A : Around} {E : Value -> Shared -> Prop} {s : Shared} {a I T : Addr} {es : Array (Int × Value)} {ep : Nat} {t : SetTable}
end
end KSs
namespace KSs
open PySem PyProof.Rows
section
variable {prog : Program} {w : World} {A : Around} {E : Value -> Shared -> Prop} {s : Shared} {a I T : Addr} {es : Array (Int × Value)} {ep : Nat} {t : SetTable}
end
end KSs
namespace KSs
open PySem PyProof.Rows
section
variable {prog : Program} {w : World} {A : Around} {E : Value -> Shared -> Prop} {s : Shared} {a : Addr} {es : Array (Int × Value)} {ep : Nat} {t : SetTable}
end
end KSs
namespace KSs
open PySem PyProof.Rows
section
variable {prog : Program} {w : World} {A : Around} {E : Value -> Shared -> Prop} {s : Shared} {a : Addr} {es : Array (Int × Value)} {ep : Nat} {t : SetTable}
end
end KSs
namespace L2
open PySem PySem.Spec PyProof.Rows
section
variable {X : Cx} {e : Expr} {te : TE} {p p2 pos pos2 : Pos}
theorem eZq : ∀ {ns : List Int} {us : List Value}, Vals (ns.map V.int) us -> IntsAre us ns
  | [], _, h => by cases h; exact IntsAre.nil
  | n :: ns, _, h => by
    cases h with
    | cons r rr =>
      obtain ⟨t, rfl⟩ := r
      exact IntsAre.cons _ _ (eZq rr)
end
end L2
namespace L3
open PySem PyProof L2
section
variable {X : Cx} {e : Expr} {te : DTE} {p p2 pos pos2 : Pos}
end
end L3
namespace L2
open PySem PySem.Spec PyProof.Rows
section
variable {X : Cx}
def rOq (K : PySem.W.Frag) : List V -> Hp -> VK -> Prop := fun xs H Q => ∃ (l : Addr) (ns : List Int), xs = [.ref l] /\ SqL K H l (ns.map V.int) /\ ns.length < 64 /\ ∀ ms : List Int, ms.Perm ns -> ms.Pairwise (· <= ·) -> ∀ p, H p = none -> Q (.ref p) (upd H p (.lst (ms.map V.int)))
theorem iYq : CallR X (.builtin "sorted") (rOq X.K) := by
  intro pins s σ H xs us Q I r h
  obtain ⟨l, ns, rfl, hq, hl, q⟩ := h
  obtain ⟨u, rfl, rx⟩ := iXq r
  cases rx
  obtain ⟨its, rv, pl, hz⟩ := I.list hq
  have hlen := rv.length
  rw [List.length_map] at hlen
  have sl := sizeLine_eq
  refine sorted_ints (vs := its) (ns := ns) pl.isList (eZq rv) (by omega) fun out ms a1 a2 a3 => ?_
  obtain ⟨c, hc⟩ := sortedAll_at s.heap its out
  have z := a2.length_eq
  exact ⟨.ref _, _, I.laid (t' := s.toks) (fun b o e => sortedAll_old e) (Nat.le_succ _) (show ObjOk X.prog X.w _ _ _ (.lst (ms.map V.int)) from ⟨by rw [List.length_map]; omega, out.toList, c, d8q a1, by simpa using hc⟩), rfl, q ms a2 a3 _ (I.hok.fresh (Nat.le_succ _))⟩
end
end L2
namespace L3
open PySem PyProof L2
section
variable {X : Cx}
def r6q : D -> DV -> DK -> Prop := fun x G Q => match x with
  | .ref l => onL G l fun ds => ∃ ns, cYq ds = some ns /\ ns.length < 64 /\ ∀ ms : List Int, ms.Perm ns -> ms.Pairwise (· <= ·) -> ∀ p, G p = none -> Q (.ref p) (up G p (.lst (ms.map D.int)))
  | _ => False
theorem eTq (_ : X.calm = true) : ACall X (.builtin "sorted") (lLq r6q) := by
  refine ⟨_, ⟨iYq⟩, fun xs vs G H DQ Q v a r F => ?_⟩
  obtain ⟨x, u, rfl, rfl, ax, r⟩ := cKq r a
  cases x with
  | ref l =>
    cases ax
    obtain ⟨ds, ws, ⟨ns, e, hl, k⟩, s, rl⟩ := b2q v r
    rw [f2q e] at rl
    rw [rl.ints] at s
    exact ⟨l, ns, rfl, s, hl, fun ms h1 h2 p hp => F (.ref p) _ _ _ (Go.newL v hp (AbsL.of_ints ms)) rfl (k ms h1 h2 p (v.none hp))⟩
  | _ => exact (show False from r).elim
end
end L3
namespace L3
open PySem PyProof L2
section
variable {K : PySem.W.Frag} {H : Hp} {G : DV}
end
section
variable {X : Cx} {o i e value : Expr} {pos pos' tpos : Pos} {td ti tv : DTE}
end
end L3
namespace L2
open PySem PySem.Spec PyProof.Rows
section
variable {X : Cx}
end
end L2
namespace L3
open PySem PySem.Spec L2
structure KTabD (K : PySem.W.Frag) (w : World) (ad : Addr) (tab : Str -> Option D) : Prop where
  ex : ∃ tv : Str -> Option V, KTab K w ad tv /\ (∀ z, tab z = none -> tv z = none) /\ ∀ z d, tab z = some d -> ∃ v, tv z = some v /\ ∀ H, Abs K H d v
section
variable {X : Cx} {a b c e f o i tg iter value : Expr} {x : Str} {ad C : Addr} {tab : Str -> Option D} {ta tv te tf to ti : DTE} {pos pos' tpos p apos cpos : Pos}
end
end L3
namespace L2
open PySem PySem.Spec PyProof.Rows
end L2
namespace L3
open PySem PySem.Spec L2
end L3
namespace L2
open PySem PySem.Spec PyProof.Rows
section
variable {X : Cx}
def rFq (i : Str) (n : Nat) : Str := ⟨(List.replicate n i.cps.toList).flatten.toArray⟩
def rUq : V -> Option Int -> Option Int -> Hp -> VK -> Prop := fun x lo hi H Q => ∃ z : Str, x = .str z /\ z.length <= sizeLine /\ Q (.str (Txt.slice z lo hi)) H
theorem o5q : SlR X rUq := by
  intro pins s σ H x v vl vu lo hi sl Q I rx hs pl pu h
  obtain ⟨z, rfl, hz, q⟩ := h
  obtain ⟨t, rfl⟩ := rx
  refine ⟨"str", _, F.slot_str_getitem.lookup, typeIs_str _ _ _, ?_⟩
  have fin : ∀ t' k, EP X pins σ Q (.str (Txt.slice z lo hi) t') { s with toks := k } := fun t' k => ⟨.str _, H, I.tok _, ⟨_, rfl⟩, q⟩
  cases pl with
  | none => cases pu with
    | none => exact wpAny_getItem_str_slice (l := none) (u := none) (st := none) hs rfl (post_val_or_str ⟨Nat.le_trans (Txt.slice_le z _ _) hz, fin⟩)
    | int j u => exact wpAny_getItem_str_slice (l := none) (u := some (j, u)) (st := none) hs rfl (post_val_or_str ⟨Nat.le_trans (Txt.slice_le z _ _) hz, fin⟩)
  | int i t0 => cases pu with
    | none => exact wpAny_getItem_str_slice (l := some (i, t0)) (u := none) (st := none) hs rfl (post_val_or_str ⟨Nat.le_trans (Txt.slice_le z _ _) hz, fin⟩)
    | int j u => exact wpAny_getItem_str_slice (l := some (i, t0)) (u := some (j, u)) (st := none) hs rfl (post_val_or_str ⟨Nat.le_trans (Txt.slice_le z _ _) hz, fin⟩)
end
end L2
namespace L3
open PySem PySem.Spec L2
section
variable {X : Cx}
def rKq : DR2 := fun x y G Q => match x, y with
  | .str z, .int n => 0 <= n /\ n <= 1000 /\ z.length <= 1000 /\ Q (.str (rFq z n.toNat)) G
  | _, _ => False
def rLq : D -> Option Int -> Option Int -> DV -> DK -> Prop := fun x lo hi G Q => match x with
  | .str z => z.length <= sizeLine /\ Q (.str (Txt.slice z lo hi)) G
  | _ => False
theorem o0q : ASl X rLq := by
  refine ⟨_, ⟨o5q⟩, fun x vx lo hi G H DQ Q v ax r F => ?_⟩
  cases x with
  | str z => cases ax; exact ⟨z, rfl, r.1, F (.str (Txt.slice z lo hi)) G _ H (.refl v) rfl r.2⟩
  | _ => exact (show False from r).elim
def h7q : D -> DV -> Prop := fun x _ => match x with
  | .str _ => True
  | _ => False
theorem cLq {K : PySem.W.Frag} {x : D} {v : V} {G : DV} {H : Hp} (ax : Abs K H x v) (h : h7q x G) : tyV K "str" v H := by
  cases x with
  | str z => cases ax; exact rfl
  | _ => exact (show False from h).elim
end
end L3
namespace L2
open PySem PySem.Spec PyProof.Rows
section
variable {X : Cx} {tg : Expr}
theorem eGq : MtR X "str.startswith" (fun x xs H Q => ∃ z y : Str, x = .str z /\ xs = [.str y] /\ Q (.bl (Txt.startswith z y)) H) := by
  intro pins s σ H x xs v us Q I rx rv h
  obtain ⟨z, y, rfl, rfl, q⟩ := h
  obtain ⟨t, rfl⟩ := rx
  obtain ⟨u, rfl, ru⟩ := rv.one
  obtain ⟨t', rfl⟩ := ru
  exact PySem.SC.startswith ⟨.bl _, H, I, rfl, q⟩
theorem j0q : MtR X "str.upper" (fun x xs H Q => ∃ z : Str, x = .str z /\ xs = [] /\ (Txt.upper z).length <= 1000 /\ Q (.str (Txt.upper z)) H) := by
  intro pins s σ H x xs v us Q I rx rv h
  obtain ⟨z, rfl, rfl, hz, q⟩ := h
  obtain ⟨t, rfl⟩ := rx
  cases rv
  refine PySem.SC.upper (by unfold Builtin.Str.tooLong; exact decide_eq_false (by rw [sizeLine_eq]; omega)) ⟨.str _, H, I.tok _, ⟨_, rfl⟩, q⟩
theorem iZq : MtR X "str.index" (fun x xs H Q => ∃ (z y : Str) (i : Nat) (r : List Nat), x = .str z /\ xs = [.str y] /\ Builtin.Str.occurrences z y 0 z.length 1 = i :: r /\ Q (.int i) H) := by
  intro pins s σ H x xs v us Q I rx rv h
  obtain ⟨z, y, i, r, rfl, rfl, ho, q⟩ := h
  obtain ⟨t, rfl⟩ := rx
  obtain ⟨u, rfl, ru⟩ := rv.one
  obtain ⟨t', rfl⟩ := ru
  exact PySem.SC.index ho ⟨.int i, H, I.tok _, ⟨_, rfl⟩, q⟩
theorem eSq : ∀ {ys : List Str} {us : List Value}, Vals (ys.map V.str) us -> StrsAre us ys
  | [], _, h => by cases h; exact .nil
  | y :: ys, _, h => by
    cases h with
    | cons r rr =>
      obtain ⟨t, rfl⟩ := r
      exact .cons _ _ (eSq rr)
theorem kYq (K : PySem.W.Frag) (hK : K = X.K) : MtR X "str.join" (fun x xs H Q => ∃ (z : Str) (l : Addr) (ys : List Str), x = .str z /\ xs = [.ref l] /\ SqL K H l (ys.map V.str) /\ z.length <= 16 /\ (ys.map (·.length)).sum + ys.length <= 1048576 /\ Q (.str (Txt.join z ys)) H) := by
  subst hK
  intro pins s σ H x xs v us Q I rx rv h
  obtain ⟨z, l, ys, rfl, rfl, hl, hz, hw, q⟩ := h
  obtain ⟨t, rfl⟩ := rx
  obtain ⟨u, rfl, ru⟩ := rv.one
  cases ru
  obtain ⟨its, r, p, _⟩ := I.list hl
  exact PyProof.Rows.join_listW p.isList (by simpa using eSq r) hz hw fun t' k => ⟨.str _, H, I.tok _, ⟨_, rfl⟩, q⟩
def Its (z : Str) : It := ⟨fun i _ => i < z.length, fun i H x H' => H' = H /\ ∃ c, z.cps[i]? = some c /\ x = .str ⟨#[c]⟩, fun i _ => z.length <= i⟩
theorem iMq {P : Program} {w : World} {K : PySem.W.Frag} {tg : Expr} (it : Addr) (z : Str) (t : Tok) (ty : String) (hty : ty = "str_ascii_iterator" \/ ty = "str_iterator") : Turn P w K tg (Its z) [it] it (fun i h => i <= z.length /\ h.IsStrIter it ty z t i) where
  mem := by simp
  obj := fun i h st b hb => by
    have e : b = it := by simpa using hb
    subst e
    obtain ⟨_, o, e, c, d⟩ := st
    exact ⟨o, e, fun v z => by rw [d] at z; cases z⟩
  keep := fun i h h' st k => ⟨st.1, let ⟨o, ho, r⟩ := st.2; ⟨o, k it (by simp) o ho, r⟩⟩
  item := by
    intro X hP hw hK hc i pins s σ H E I hf st hg
    subst hP hw hK
    obtain ⟨f0, f1, f2, f3, f4, f5⟩ := hf it (by simp)
    have W : Walks X.prog X.w X.A it [it] [it] z.cps.size (SignAt z) (fun i h => h.IsStrIter it ty z t i) := by
      rcases hty with rfl | rfl
      . exact Walks.strAscii (I.ok.hd hc) it z t
      . exact Walks.strWide (I.ok.hd hc) it z t
    refine W.item i s _ _ hg st.2 fun v h' tk hv st' kk => ?_
    obtain ⟨c, u, hc', rfl⟩ := hv
    have I1 : Inv X pins σ H { s with heap := h', toks := tk } := I.turned (fun b o hb e => kk b o (by simpa using hb) e) f0 f1 f3 f4 f5
    obtain ⟨o, e, c1, d⟩ := id st'
    refine ⟨_, rfl, h2q (s := { s with heap := h', toks := tk }) e c1 d (by rcases hty with rfl | rfl <;> decide) ⟨.str ⟨#[c]⟩, H, I1, ⟨u, rfl⟩, ⟨rfl, c, hc', rfl⟩, ⟨hg, st'⟩, fun b hb => (hf b hb).1⟩⟩
  done := by
    intro X hP hw hK hc i pins s σ H E I hf st hg
    subst hP hw hK
    obtain ⟨f0, f1, f2, f3, f4, f5⟩ := hf it (by simp)
    have W : Walks X.prog X.w X.A it [it] [it] z.cps.size (SignAt z) (fun i h => h.IsStrIter it ty z t i) := by
      rcases hty with rfl | rfl
      . exact Walks.strAscii (I.ok.hd hc) it z t
      . exact Walks.strWide (I.ok.hd hc) it z t
    have hi : i = z.cps.size := Nat.le_antisymm st.1 hg
    subst hi
    exact W.done s _ _ st.2 fun h' tk kk => ⟨rfl, I.turned (fun b o hb e => kk b o (by simpa using hb) e) f0 f1 f3 f4 f5⟩
  self := fun _ _ _ _ _ st h => by
    rcases hty with rfl | rfl
    . exact wpAny_pyIter_striter_ascii st.2 h
    . exact wpAny_pyIter_striter_wide st.2 h
theorem nHq {l : Expr} {tl : TE} (hl : PE X l tl) : PI X tg l (fun σ H R => tl σ H fun x H1 => ∃ z, x = .str z /\ R (Its z) H1) := by
  intro pins s σ H R I h
  refine thn (hl pins s σ H _ I h) fun v s1 ⟨x, H1, I1, r1, q1⟩ => ?_
  obtain ⟨z, rfl, q⟩ := q1
  obtain ⟨t, rfl⟩ := r1
  have fin : ∀ ty : String, (ty = "str_ascii_iterator" \/ ty = "str_iterator") -> PIE X pins σ tg R (.ref s1.heap.objs.size) { s1 with heap := s1.heap.push { cls := .type ty, data := .fields #[.str z t, .int 0 0] } } := fun ty hty => by
    refine ⟨s1.heap.objs.size, [s1.heap.objs.size], _, _, H1, rfl, I1.kept (t' := s1.toks) fun b o e => Heap.get?_push_of_some _ e, iMq _ z t ty hty, ⟨Nat.zero_le _, _, Heap.get?_push_size _ rfl, rfl, rfl⟩, fun b hb => ?_, q⟩
    have e : b = s1.heap.objs.size := by simpa using hb
    subst e
    exact I1.fpOk (Nat.le_refl _) (I1.hok.fresh (Nat.le_refl _))
  cases ha : z.cps.all (· < 128)
  . exact wpAny_pyIter_wide ha (fin _ (.inr rfl))
  . exact wpAny_pyIter_ascii ha (fin _ (.inl rfl))
end
section
variable {X : Cx} {tg : Expr}
structure KKeys (K : PySem.W.Frag) (w : World) (ad : Addr) (ks : List Str) : Prop where
  ex : ∃ (es : Array DictEntry) (n : Nat), K.lookup ad = some ⟨.type "dict", none, .dict es n, #[]⟩ /\ PySem.W.KeysLit w.params es.toList /\ Paired (fun (k : Str) (e : DictEntry) => ∃ t1, e.key = .str k t1) ks es.toList
  low : (ad == sysModules) = false
  nd : ks.Nodup
theorem fUq {P : Program} {w : World} : ∀ {ks : List Str} {es : List DictEntry}, Paired (fun (k : Str) (e : DictEntry) => ∃ t1, e.key = .str k t1) ks es -> ∃ kvs : List (Str × Value), Pairs (strKind P w) es kvs /\ kvs.map (·.1) = ks
  | _, _, .nil => ⟨[], .nil, rfl⟩
  | k :: ks, e :: es, .cons ⟨t, h⟩ r => by
    obtain ⟨kvs, p, e2⟩ := fUq (P := P) (w := w) r
    exact ⟨(k, e.val) :: kvs, .cons (by rw [h]; exact strKind_is P w k t) rfl p, by rw [List.map_cons, e2]⟩
theorem KKeys.at {P : Program} {w : World} {K : PySem.W.Frag} {ad : Addr} {ks : List Str} (T : KKeys K w ad ks) : ∃ (kvs : List (Str × Value)) (n : Nat), kvs.map (·.1) = ks /\ ∀ h : Heap, K.In h -> h.DictAt (strKind P w) ad kvs n := by
  obtain ⟨⟨es, n, hl, hk, hp⟩, lo, nd⟩ := T
  obtain ⟨kvs, pr, e⟩ := fUq (P := P) (w := w) hp
  refine ⟨kvs, n, e, fun h X => ⟨_, es, X _ _ hl, ⟨rfl, rfl, rfl⟩, rfl, fun e he => ?_, pr, by rw [e]; exact nd⟩⟩
  obtain ⟨x, t, e1, e2⟩ := hk.all e (Array.mem_toList_iff.mpr he)
  exact ⟨x, by rw [e1]; exact strKind_is P w x t, e2⟩
def Itk (ks : List Str) : It := ⟨fun i _ => i < ks.length, fun i H x H' => H' = H /\ ∃ k, ks[i]? = some k /\ x = .str k, fun i _ => ks.length <= i⟩
theorem hTq {P : Program} {w : World} {K : PySem.W.Frag} {tg : Expr} {ad : Addr} (it : Addr) {kvs : List (Str × Value)} {n : Nat} (hne : ad ≠ it) (hD : ∀ h : Heap, K.In h -> h.DictAt (strKind P w) ad kvs n) : Turn P w K tg (Itk (kvs.map (·.1))) [it] it (fun i h => i <= kvs.length /\ h.IsKeyIter it ad i kvs.length n) where
  mem := by simp
  obj := fun i h st b hb => by
    have e : b = it := by simpa using hb
    subst e
    obtain ⟨_, o, e, c, d⟩ := st
    exact ⟨o, e, fun v z => by rw [d] at z; cases z⟩
  keep := fun i h h' st k => ⟨st.1, st.2.at fun o e => k it (by simp) o e⟩
  item := by
    intro X hP hw hK hc i pins s σ H E I hf st hg
    subst hP hw hK
    obtain ⟨f0, f1, f2, f3, f4, f5⟩ := hf it (by simp)
    have hi : i < kvs.length := by have z : i < (kvs.map (·.1)).length := hg; rwa [List.length_map] at z
    have W := Walks.dictKeys (knd := strKind X.prog X.w) (I.ok.hd hc) it ad hne kvs n
    refine W.item i s _ _ hi ⟨st.2, hD _ I.kIn⟩ fun v h' tk hv st' kk => ?_
    obtain ⟨k, x, hkx, hkv⟩ := hv
    obtain ⟨u, rfl⟩ := Value.isStrOf_shape (show Value.isStrOf k v = true from hkv)
    have I1 : Inv X pins σ H { s with heap := h', toks := tk } := I.turned (fun b o hb e => kk b o (by simpa using hb) e) f0 f1 f3 f4 f5
    obtain ⟨o, e, c1, d⟩ := id st'.1
    refine ⟨_, rfl, h2q (s := { s with heap := h', toks := tk }) e c1 d (by decide) ⟨.str k, H, I1, ⟨u, rfl⟩, ⟨rfl, k, by rw [List.getElem?_map, hkx]; rfl, rfl⟩, ⟨hi, st'.1⟩, fun b hb => (hf b hb).1⟩⟩
  done := by
    intro X hP hw hK hc i pins s σ H E I hf st hg
    subst hP hw hK
    obtain ⟨f0, f1, f2, f3, f4, f5⟩ := hf it (by simp)
    have W := Walks.dictKeys (knd := strKind X.prog X.w) (I.ok.hd hc) it ad hne kvs n
    have hi : i = kvs.length := Nat.le_antisymm st.1 (by have z : (kvs.map (·.1)).length <= i := hg; rwa [List.length_map] at z)
    subst hi
    exact W.done s _ _ ⟨st.2, hD _ I.kIn⟩ fun h' tk kk => ⟨rfl, I.turned (fun b o hb e => kk b o (by simpa using hb) e) f0 f1 f3 f4 f5⟩
  self := fun _ _ _ _ _ st h => wpAny_pyIter_keyiter st.2 h
theorem j1q {x : Str} {p : Pos} {ad : Addr} {ks : List Str} (hg : Gl X x) (hm : X.mg x = some (.ref ad)) (T : KKeys X.K X.w ad ks) (hd : (x == ("__debug__" : Str)) = false := by decide) : PI X tg (.Name x p) (fun _ H R => R (Itk ks) H) := by
  intro pins s σ H R I h
  obtain ⟨kvs, n, e, hD⟩ := T.at (P := X.prog)
  refine thn (gOq (v := .ref ad) hg hm rfl hd pins s σ H (fun v H1 => v = .ref ad /\ H1 = H) I ⟨rfl, rfl⟩) fun u s1 ⟨x1, H1, I1, rx, ex, eH⟩ => ?_
  subst ex eH
  obtain rfl : u = Value.ref ad := rx
  refine wpAny_pyIter_dict T.low (hD _ I1.kIn) ?_
  refine ⟨s1.heap.objs.size, [s1.heap.objs.size], _, _, H1, rfl, I1.kept (t' := s1.toks) fun b o e => Heap.get?_push_of_some _ e, hTq _ (Nat.ne_of_lt (hD _ I1.kIn).lt_size) hD, ⟨Nat.zero_le _, _, Heap.get?_push_size _ rfl, rfl, rfl⟩, fun b hb => ?_, e.symm ▸ h⟩
  have e : b = s1.heap.objs.size := by simpa using hb
  subst e
  exact I1.fpOk (Nat.le_refl _) (I1.hok.fresh (Nat.le_refl _))
end
section
variable {X : Cx}
def jSq (ad : Addr) (tab : Str -> Option V) : R2 := fun x y H Q => ∃ z, x = .str z /\ y = .ref ad /\ Q (.bl (!(tab z).isSome)) H
theorem gUq {ad : Addr} {tab : Str -> Option V} (T : KTab X.K X.w ad tab) : OpR X (compareOp .NotIn) (jSq ad tab) := by
  intro pins s σ H x y v u Q I rx ry h
  obtain ⟨⟨es, n, hl, hk, ht⟩, lo⟩ := T
  obtain ⟨z, rfl, rfl, q⟩ := h
  obtain ⟨t, rfl⟩ := rx
  cases ry
  refine wpAny_notIn_of (strKind_is X.prog X.w z t) lo (PySem.W.mapOf_K I.kIn hl hk) ?_
  rw [<- (ht z).isSome_eq]
  exact ⟨.bl _, H, I.tok _, rfl, q⟩
end
end L2
namespace L3
open PySem PySem.Spec L2
section
variable {X : Cx} {tg a b c : Expr} {ta tb tc : DTE} {pos p : Pos}
abbrev n0q (ad : Addr) (tab : Str -> Option D) : DR2 := fun x y G Q => match x with
  | .str z => y = .ref ad /\ Q (.bl (!(tab z).isSome)) G
  | _ => False
theorem gFq {ad : Addr} {tab : Str -> Option D} (T : KTabD X.K X.w ad tab) : AOp X (compareOp .NotIn) (n0q ad tab) := by
  obtain ⟨tv, T, t1, t2⟩ := T
  refine ⟨_, ⟨gUq T⟩, fun x y vx vy G H DQ Q v ax ay r F => ?_⟩
  cases x with
  | str z =>
    cases ax
    obtain ⟨rfl, q⟩ := r
    cases ay
    refine ⟨z, rfl, rfl, ?_⟩
    have e : (tv z).isSome = (tab z).isSome := by
      cases ez : tab z with
      | none => rw [t1 z ez]; rfl
      | some d => obtain ⟨v', e1, _⟩ := t2 z d ez; rw [e1]; rfl
    rw [e]
    exact F (.bl _) G _ H (.refl v) rfl q
  | _ => exact (show False from r).elim
def bGq (z : Str) : List D := z.cps.toList.map fun c => .str ⟨#[c]⟩
abbrev pYq (ta : DTE) : DTI := fun ρ G R => ta ρ G fun x G1 => match x with
  | .str z => R ⟨bGq z, fun _ => True⟩ G1
  | _ => False
theorem mGq {K : PySem.W.Frag} {z : Str} {G1 : DV} {H1 : Hp} (v : Vw K G1 H1) :
    (∀ (i : Nat) (d : D), (bGq z)[i]? = some d -> (Its z).go i H1 /\ ∀ x H', (Its z).yld i H1 x H' -> Go K G1 H1 G1 H' /\ Abs K H' d x) /\ ∀ i, (bGq z).length <= i -> (Its z).stop i H1 := by
  refine ⟨fun i d hd => ?_, fun i hi => ?_⟩
  . unfold bGq at hd
    rw [List.getElem?_map] at hd
    cases hc : z.cps.toList[i]? with
    | none => rw [hc] at hd; cases hd
    | some c =>
      rw [hc] at hd; cases hd
      have hi := (List.getElem?_eq_some_iff.mp hc).1
      refine ⟨hi, fun x H' y => ?_⟩
      obtain ⟨rfl, c', e, rfl⟩ := y
      have e' : z.cps.toList[i]? = some c' := by simpa using e
      rw [hc] at e'; cases e'
      exact ⟨.refl v, rfl⟩
  . unfold bGq at hi
    rw [List.length_map] at hi
    exact hi
theorem h1q (ha : AE X a ta) : AI X tg a (pYq ta) := by
  obtain ⟨ca, ja, ra⟩ := ha.run
  refine ⟨_, ⟨nHq ja.run⟩, fun ρ G DR σ H R B q F => ra ρ G _ σ H _ B q fun x G1 v H1 g1 ax q1 => ?_⟩
  cases x with
  | str z => cases ax; exact ⟨z, rfl, F ⟨bGq z, fun _ => True⟩ _ G1 H1 g1 (fun G2 H2 g2 _ => mGq g2.vw) q1⟩
  | _ => exact (show False from q1).elim
theorem iTq {x : Str} {ad : Addr} {ks : List Str} (hg : Gl X x) (hm : X.mg x = some (.ref ad)) (T : KKeys X.K X.w ad ks) (hd : (x == ("__debug__" : Str)) = false := by decide) : AI X tg (.Name x p) (fun _ G R => R ⟨ks.map D.str, fun _ => True⟩ G) := by
  refine ⟨_, ⟨j1q hg hm T hd⟩, fun ρ G DR σ H R B q F => F ⟨ks.map D.str, fun _ => True⟩ _ G H (.refl B.vw) (fun G2 H2 g2 _ => ⟨fun i d hd => ?_, fun i hi => ?_⟩) q⟩
  . have hd' : (ks.map D.str)[i]? = some d := hd
    rw [List.getElem?_map] at hd'
    cases hc : ks[i]? with
    | none => rw [hc] at hd'; cases hd'
    | some k =>
      rw [hc] at hd'; cases hd'
      refine ⟨(List.getElem?_eq_some_iff.mp hc).1, fun x H' y => ?_⟩
      obtain ⟨rfl, k', e, rfl⟩ := y
      rw [hc] at e; cases e
      exact ⟨.refl g2.vw, rfl⟩
  . have hi' : (ks.map D.str).length <= i := hi
    rw [List.length_map] at hi'
    exact hi'
abbrev j7q (r r' : DR2) (ta tb tc : DTE) : DTE := fun ρ G Q => ta ρ G fun x G1 => tb ρ G1 fun y G2 => r x y G2 fun z G3 => blD z fun k => Br k (tc ρ G3 fun w G4 => r' y w G4 Q) (Q (.bl false) G3)
theorem g0q {op op' : CmpOp} {r r' : DR2} (ho : AOp X (compareOp op) r) (ho' : AOp X (compareOp op') r') (ha : AE X a ta) (hb : AE X b tb) (hc : AE X c tc) (hm : lastMarks [op, op'] [b, c] = false := by with_unfolding_all rfl) : AE X (.Compare a [op, op'] [b, c] pos) (j7q r r' ta tb tc) := by
  obtain ⟨ca, ja, ra⟩ := ha.run
  obtain ⟨cb, jb, rb⟩ := hb.run
  obtain ⟨cc, jc, rc⟩ := hc.run
  obtain ⟨co, jo, uo⟩ := ho.run
  obtain ⟨co', jo', uo'⟩ := ho'.run
  refine ⟨_, ⟨iDq jo.run jo'.run ja.run jb.run jc.run hm⟩, fun ρ G DQ σ H Q B q F => ra ρ G _ σ H _ B q fun x G1 v H1 g1 ax q1 => rb ρ G1 _ σ H1 _ (B.go g1) q1 fun y G2 u H2 g2 ay q2 => uo x y v u G2 H2 _ _ g2.vw (ax.mono g2.tup) ay q2 fun z G3 vz H3 g3 az q3 => ?_⟩
  cases z with
  | bl k =>
    cases az
    refine ⟨k, rfl, ?_⟩
    cases k with
    | true =>
      rw [if_pos rfl]
      exact rc ρ G3 _ σ H3 _ (((B.go g1).go g2).go g3) (q3.1 rfl) fun w G4 vw H4 g4 aw q4 => uo' y w u vw G4 H4 _ _ g4.vw ((ay.mono g3.tup).mono g4.tup) aw q4 (F.after (((g1.trans g2).trans g3).trans g4))
    | false => rw [if_neg (by decide)]; exact F (.bl false) G3 _ H3 ((g1.trans g2).trans g3) rfl (q3.2 rfl)
  | _ => exact (show False from q3).elim
theorem fSq {op op' : CmpOp} {r r' : DR2} (ho : AOp X (compareOp op) r) (ho' : AOp X (compareOp op') r') (ha : AE X a ta) (hb : AE X b tb) (hc : AE X c tc) (hm : lastMarks [op, op'] [b, c] = false := by with_unfolding_all rfl) : AT X (.Compare a [op, op'] [b, c] pos) (n9q (j7q r r' ta tb tc)) := by
  obtain ⟨ca, ja, ra⟩ := ha.run
  obtain ⟨cb, jb, rb⟩ := hb.run
  obtain ⟨cc, jc, rc⟩ := hc.run
  obtain ⟨co, jo, uo⟩ := ho.run
  obtain ⟨co', jo', uo'⟩ := ho'.run
  refine ⟨_, ⟨i9q jo.run jo'.run ja.run jb.run jc.run hm⟩, fun ρ G DQ σ H Q B q F => ra ρ G _ σ H _ B q fun x G1 v H1 g1 ax q1 => rb ρ G1 _ σ H1 _ (B.go g1) q1 fun y G2 u H2 g2 ay q2 => uo x y v u G2 H2 _ _ g2.vw (ax.mono g2.tup) ay q2 fun z G3 vz H3 g3 az q3 => ?_⟩
  cases z with
  | bl k =>
    cases az
    refine ⟨k, rfl, ?_⟩
    cases k with
    | true =>
      rw [if_pos rfl]
      refine rc ρ G3 _ σ H3 _ (((B.go g1).go g2).go g3) (q3.1 rfl) fun w G4 vw H4 g4 aw q4 => uo' y w u vw G4 H4 _ _ g4.vw ((ay.mono g3.tup).mono g4.tup) aw q4 fun z5 G5 v5 H5 g5 a5 q5 => ?_
      cases z5 with
      | bl k5 => cases a5; exact ⟨k5, rfl, F k5 G5 H5 ((((g1.trans g2).trans g3).trans g4).trans g5) q5⟩
      | _ => exact (show False from q5).elim
    | false => rw [if_neg (by decide)]; exact ⟨false, rfl, F false G3 H3 ((g1.trans g2).trans g3) (q3.2 rfl)⟩
  | _ => exact (show False from q3).elim
def hEq : D -> List D -> DV -> DK -> Prop := fun x xs G Q => match x, xs with
  | .str z, [.str y] => Q (.bl (Txt.startswith z y)) G
  | _, _ => False
theorem hJq {K : PySem.W.Frag} {H : Hp} {xs : List D} {vs : List V} {y : Str} (e : xs = [.str y]) (al : AbsL K H xs vs) : vs = [.str y] := by
  subst e
  obtain ⟨u, r', e, a, l⟩ := al
  subst e
  cases a
  cases (show r' = [] from l)
  rfl
theorem bPq : AMt X "str" "str.startswith" h7q hEq := by
  refine ⟨_, ⟨eGq⟩, fun x v G H _ ax h => cLq ax h, fun x xs vx vs G H DQ Q v ax al r F => ?_⟩
  unfold hEq at r
  split at r
  . next z y => cases ax; exact ⟨z, y, rfl, hJq rfl al, F (.bl _) G _ H (.refl v) rfl r⟩
  . exact r.elim
def j6q : D -> List D -> DV -> DK -> Prop := fun x xs G Q => match x, xs with
  | .str z, [] => (Txt.upper z).length <= 1000 /\ Q (.str (Txt.upper z)) G
  | _, _ => False
theorem gVq : AMt X "str" "str.upper" h7q j6q := by
  refine ⟨_, ⟨j0q⟩, fun x v G H _ ax h => cLq ax h, fun x xs vx vs G H DQ Q v ax al r F => ?_⟩
  unfold j6q at r
  split at r
  . next z => cases ax; exact ⟨z, rfl, al, r.1, F (.str _) G _ H (.refl v) rfl r.2⟩
  . exact r.elim
def j9q : D -> List D -> DV -> DK -> Prop := fun x xs G Q => match x, xs with
  | .str z, [.str y] => ∃ (i : Nat) (r : List Nat), Builtin.Str.occurrences z y 0 z.length 1 = i :: r /\ Q (.int i) G
  | _, _ => False
theorem h3q : AMt X "str" "str.index" h7q j9q := by
  refine ⟨_, ⟨iZq⟩, fun x v G H _ ax h => cLq ax h, fun x xs vx vs G H DQ Q v ax al r F => ?_⟩
  unfold j9q at r
  split at r
  . next z y => cases ax; obtain ⟨i, r', h, q⟩ := r; exact ⟨z, y, i, r', rfl, hJq rfl al, h, F (.int i) G _ H (.refl v) rfl q⟩
  . exact r.elim
theorem AbsL.strs {K : PySem.W.Frag} {H : Hp} {ys : List Str} : ∀ {vs : List V}, AbsL K H (ys.map D.str) vs -> vs = ys.map V.str := by
  induction ys with
  | nil => intro vs h; exact h
  | cons n ns ih => rintro vs ⟨v, r, e, q, l⟩; subst e; rw [ih l, show v = V.str n from q]; rfl
def oMq : D -> List D -> DV -> DK -> Prop := fun x xs G Q => match x, xs with
  | .str z, [.ref l] => onL G l fun ds => ∃ ys : List Str, ds = ys.map D.str /\ z.length <= 16 /\ (ys.map (·.length)).sum + ys.length <= 1048576 /\ Q (.str (Txt.join z ys)) G
  | _, _ => False
theorem e7q : AMt X "str" "str.join" h7q oMq := by
  refine ⟨_, ⟨kYq X.K rfl⟩, fun x v G H _ ax h => cLq ax h, fun x xs vx vs G H DQ Q v ax al r F => ?_⟩
  unfold oMq at r
  split at r
  . next z l =>
    cases ax
    obtain ⟨u, r', e, a, e2⟩ := al
    subst e
    cases a
    cases (show r' = [] from e2)
    obtain ⟨ds, ws, ⟨ys, rfl, h1, h2, q⟩, s, rl⟩ := b2q v r
    rw [rl.strs] at s
    exact ⟨z, l, ys, rfl, rfl, s, h1, h2, F (.str _) G _ H (.refl v) rfl q⟩
  . exact r.elim
def k7q : D -> DV -> DK -> Prop := fun x G Q => match x with
  | .int i => i.natAbs.log2 < 1920 /\ Q (.str (toString i)) G
  | _ => False
theorem hHq : ACall X (.type "str") (lLq k7q) := by
  refine ⟨_, ⟨eLq⟩, fun xs vs G H DQ Q v a r F => ?_⟩
  obtain ⟨x, u, rfl, rfl, ax, r⟩ := cKq r a
  cases x with
  | int i => cases ax; exact ⟨i, rfl, r.1, F (.str _) G _ H (.refl v) rfl r.2⟩
  | _ => exact (show False from r).elim
end
end L3
namespace L2
open PySem PySem.Spec PyProof.Rows
end L2
namespace L3
open PySem L2
theorem lNq {p : Prop} (c : false = true) : p := nomatch c
theorem gPq {p : Prop} (c : true = false) : p := nomatch c
section
variable {C T : Addr} {tp : Pos} {G G' : DV} {lp ld : Addr} {as : List Addr} {us : List Tm} {S : Sls} {rk : Addr -> Nat} {told : Addr -> Bool}
end
section
variable {C CM : Addr} {G G' : DV} {a lm p : Addr} {c : Cf}
end
section
variable (C CM : Addr)
end
section
variable {c : Cf} {p q s a b : Tm} {i j : Int} {st : List Mk} {u v : Addr}
end
theorem c8q {β : Type} {k z : Str} {v : β} {r : List (Str × β)} : (((k, v) :: r).find? fun kv => decide (kv.1 = z)).map (·.2) = if z = k then some v else (r.find? fun kv => decide (kv.1 = z)).map (·.2) := by
  by_cases h : k = z
  . simp [h]
  . rw [if_neg (Ne.symm h), List.find?_cons, decide_eq_false h]
theorem eJq : ∀ {t : List (Str × V)} {es : List DictEntry}, Paired (fun (kv : Str × V) (e : DictEntry) => (∃ t1, e.key = .str kv.1 t1) /\ RelV kv.2 e.val) t es →
    ∀ x, RelO ((t.find? fun kv => decide (kv.1 = x)).map (·.2)) ((es.find? fun d => Value.isStrOf x d.key).map (·.val))
  | _, _, .nil, _ => trivial
  | p :: t, e :: es, .cons ⟨⟨t1, e1⟩, e2⟩ r, x => by
    by_cases h : p.1 = x
    . have z : Value.isStrOf x e.key = true := by rw [e1, h]; simp [Value.isStrOf]
      rw [List.find?_cons, decide_eq_true h, List.find?_cons, z]
      exact e2
    . have z : Value.isStrOf x e.key = false := by
        rw [e1]
        simp only [Value.isStrOf]
        exact beq_false_of_ne h
      rw [List.find?_cons, decide_eq_false h, List.find?_cons, z]
      exact eJq r x
theorem l7q {K : PySem.W.Frag} {w : World} {ad : Addr} {es : Array DictEntry} {n : Nat} {LV : List (Str × V)} {L : List (Str × D)} {tab : Str -> Option D} (h1 : K.lookup ad = some ⟨.type "dict", none, .dict es n, #[]⟩) (h2 : (ad == sysModules) = false) (h3 : PySem.W.KeysLit w.params es.toList)
    (h4 : Paired (fun (kv : Str × V) (e : DictEntry) => (∃ t1, e.key = .str kv.1 t1) /\ RelV kv.2 e.val) LV es.toList) (h5 : ∀ z, tab z = (L.find? fun kv => decide (kv.1 = z)).map (·.2)) (h6 : Paired (fun (a : Str × D) (b : Str × V) => a.1 = b.1 /\ ∀ H, Abs K H a.2 b.2) L LV) : KTabD K w ad tab := by
  have key : ∀ {L : List (Str × D)} {LV : List (Str × V)}, Paired (fun (a : Str × D) (b : Str × V) => a.1 = b.1 /\ ∀ H, Abs K H a.2 b.2) L LV -> ∀ z, (((L.find? fun kv => decide (kv.1 = z)).map (·.2)) = none -> ((LV.find? fun kv => decide (kv.1 = z)).map (·.2)) = none) /\ ∀ d, ((L.find? fun kv => decide (kv.1 = z)).map (·.2)) = some d -> ∃ v, ((LV.find? fun kv => decide (kv.1 = z)).map (·.2)) = some v /\ ∀ H, Abs K H d v := by
    intro L LV h
    induction h with
    | nil => intro z; exact ⟨fun _ => rfl, fun d e => by cases e⟩
    | @cons a b as bs q r ih =>
      intro z
      obtain ⟨a1, a2⟩ := a
      obtain ⟨b1, b2⟩ := b
      obtain ⟨q1, q2⟩ := q
      cases (show a1 = b1 from q1)
      rw [c8q, c8q]
      by_cases c : z = a1
      . rw [if_pos c, if_pos c]; exact ⟨fun e => (by cases e), fun d e => (by cases e; exact ⟨_, rfl, q2⟩)⟩
      . rw [if_neg c, if_neg c]; exact ih z
  refine ⟨fun z => (LV.find? fun kv => decide (kv.1 = z)).map (·.2), ⟨⟨es, n, h1, h3, fun x => ?_⟩, h2⟩, fun z e => ((key h6 z).1 (by rw [<- h5]; exact e)), fun z d e => (key h6 z).2 d (by rw [<- h5]; exact e)⟩
  have := eJq h4 x
  unfold findBy
  obtain ⟨l⟩ := es
  rw [List.find?_toArray]
  exact this
abbrev letters : Str := "abcdefghijklmnopqrstuvwxyz"
abbrev figs : Str := "0123456789"
def words7 : List Str := ["way", "give", "pair", "first", "second", "plus", "look"]
def bLq (z y : Str) : Bool := z.cps.toList.all fun c => decide (c ∈ y.cps.toList)
theorem gXq (y : Str) (c : Nat) : (!(Builtin.Str.occurrences y ⟨#[c]⟩ 0 y.length 1).isEmpty) = decide (c ∈ y.cps.toList) := by
  rw [PyProof.Rows.empty_one, Bool.not_not]
def g1q (z : Str) : Bool := decide (1 <= (z.length : Int)) && (decide ((z.length : Int) <= 8) && (bLq z letters && !(words7.contains z)))
def bare (z : Str) : Str := if Txt.startswith z "-" then Txt.slice z (some 1) none else z
def jMq (z : Str) : Bool := decide (1 <= ((bare z).length : Int)) && (decide (((bare z).length : Int) <= 9) && bLq (bare z) figs) && (!Txt.startswith (bare z) "0" || z == "0")
def lMq (z : Str) : Option D := if z = "way" then some (.int 1) else if z = "give" then some (.int 2) else if z = "pair" then some (.int 2) else if z = "first" then some (.int 1) else if z = "second" then some (.int 1) else if z = "plus" then some (.int 2) else if z = "look" then some (.int 3) else none
theorem hVq (z : Str) : (lMq z).isSome = words7.contains z := by
  unfold lMq words7
  simp only [List.contains_cons, List.contains_nil, Bool.or_false]
  repeat' split
  all_goals simp_all
def b4q : DSp := fun ds G Q => ∃ z y : Str, ds = [.str z, .str y] /\ z.length <= 1000 /\ Q (.bl (bLq z y)) G
def dSq : DSp := fun ds G Q => ∃ z : Str, ds = [.str z] /\ z.length <= 1000 /\ Q (.bl (g1q z)) G
def gBq : DSp := fun ds G Q => ∃ z : Str, ds = [.str z] /\ z.length <= 1000 /\ Q (.bl (jMq z)) G
def eFq : DSp := fun ds G Q => ∃ z : Str, ds = [.str z, .int 9] /\ z.length <= 1000 /\ Q (.bl (jMq z)) G
def low (l : List Nat) : Prop := ∀ c ∈ l, 97 <= c /\ c <= 122
def dFq (l : List Nat) : Int := l.foldl (fun r c => r * 26 + ((c - 97 : Nat) : Int) + 1) 0
def hWq : DSp := fun ds G Q => ∃ z : Str, ds = [.str z] /\ z.length <= 8 /\ low z.cps.toList /\ Q (.int (dFq z.cps.toList - 1)) G
def a9q (n : Nat) : Str := if n < 26 then ⟨#[97 + n]⟩ else ⟨#[97 + (n / 26 - 1), 97 + n % 26]⟩
def cWq : DSp := fun ds G Q => ∃ n : Nat, ds = [.int n] /\ n < 100 /\ Q (.str (a9q n)) G
def e9q : DSp := fun ds G Q => ∃ n : Nat, ds = [.int n] /\ n < 100 /\ Q (.str (a9q n)) G
def c2q (m : Nat) : DSp := fun ds G Q => ∃ a, ds = [.ref a] /\ Fd G a /\ ∀ (z : Str) G', (∃ G0, Fx a G G0 /\ Sub G0 G') -> z.length <= m -> Q (.str z) G'
def hKq : DSp := fun ds G Q => ∃ b : Bool, ds = [.bl b, .bl b] /\ Q (.bl true) G
theorem g3q : ∀ c : Nat, 97 <= c -> c <= 122 -> Builtin.Str.occurrences letters ⟨#[c]⟩ 0 letters.length 1 = [c - 97] := by
  intro c h1 h2
  have key : ∀ k < 26, Builtin.Str.occurrences letters ⟨#[97 + k]⟩ 0 letters.length 1 = [k] := by decide +kernel
  have := key (c - 97) (by omega)
  rw [show 97 + (c - 97) = c by omega] at this
  exact this
theorem cVq : ∀ z ∈ words7, z.length <= 6 /\ 1 <= z.length /\ (∀ c ∈ z.cps.toList, 97 <= c /\ c <= 122) /\ 100 <= dFq z.cps.toList - 1 /\ (Txt.upper ⟨#[z.cps.toList.headD 0]⟩).length <= 5 := by decide +kernel
theorem f9q {ds : List D} {i : Int} {G : DV} {Q : DK} (h0 : 0 <= i) (h1 : i < ds.length) (h : ∀ d ∈ ds, Q d G) : atD ds i G Q := by
  obtain ⟨n, rfl⟩ : ∃ n : Nat, i = n := ⟨i.toNat, by omega⟩
  have hl : n < ds.length := by omega
  exact jJq (d := ds[n]) (bEq (List.getElem?_eq_getElem hl)) (h _ (List.getElem_mem hl))
theorem fEq (x : Str) (c : Nat) : (x == ⟨#[c]⟩) = (x.cps.toList == [c]) := by
  obtain ⟨a⟩ := x
  rw [Bool.eq_iff_iff, beq_iff_eq, beq_iff_eq]
  constructor
  . intro h; cases h; rfl
  . intro h
    have : a = #[c] := Array.toList_inj.mp h
    rw [this]
theorem d6q (z : Str) (c : Nat) : Txt.startswith z ⟨#[c]⟩ = (z.cps.toList.head? == some c) := by
  obtain ⟨a⟩ := z
  obtain ⟨l⟩ := a
  unfold Txt.startswith Builtin.Str.subAt Str.length
  cases l with
  | nil => simp
  | cons x l =>
    simp
theorem fGq (z : Str) (c : Nat) (h : c ≠ 0) : (Txt.slice z none (some 1) == ⟨#[c]⟩) = (z.cps.toList.head? == some c) := by
  by_cases hl : 1 <= z.length
  . have e := eq_of_beq (PyProof.Rows.slice_closes_toL (x := z) (j := 1) (by decide) (by omega))
    rw [e, fEq]
    obtain ⟨a⟩ := z
    obtain ⟨l⟩ := a
    cases l with
    | nil => simp
    | cons x l => simp
  . obtain ⟨a⟩ := z
    obtain ⟨l⟩ := a
    cases l with
    | nil => rw [fEq]; rfl
    | cons x l => exact absurd (show 1 <= (x :: l).length by simp) hl
theorem rVq : (("-" : String) : Str) = ⟨#[45]⟩ := by decide +kernel
theorem m2q : (("0" : String) : Str) = ⟨#[48]⟩ := by decide +kernel
theorem dZq (z : Str) : (Txt.slice z none (some 1) == "-") = Txt.startswith z "-" := by rw [rVq, d6q, fGq _ _ (by decide)]
theorem gAq : jMq "0" = true := by decide +kernel
theorem h9q (z : Str) : (bare z).length <= z.length := by
  unfold bare
  split
  . exact Txt.slice_le z _ _
  . exact Nat.le_refl _
theorem iBq : ∀ ys : List Str, (Str.join "" ys).length = (ys.map (·.length)).sum := by
  have he : (("" : String) : Str).length = 0 := by decide +kernel
  have app : ∀ x y : Str, (x ++ y).length = x.length + y.length := fun x y => by
    show (x.cps ++ y.cps).size = _
    rw [Array.size_append]; rfl
  intro ys
  induction ys with
  | nil => rfl
  | cons y ys ih =>
    cases ys with
    | nil => simp [Str.join]
    | cons z zs => rw [show Str.join "" (y :: z :: zs) = y ++ "" ++ Str.join "" (z :: zs) from rfl, app, app, he, ih, List.map_cons, List.sum_cons]; rfl
theorem dAq (ys : List Str) : (Txt.join "" ys).length = (ys.map (·.length)).sum := by
  rw [eq_of_beq (PyProof.Rows.join_plain_closes "" ys)]; exact iBq ys
theorem cCq : ∀ n < 100, g1q (a9q n) = true := by decide +kernel
theorem gIq : ∀ n < 100, jMq (toString ((n : Nat) : Int)) = true /\ ((toString ((n : Nat) : Int) : String) : Str).length <= 5 := by decide +kernel
def LI (n : Nat) (x : Str) (k : Nat) : Prop := (k = n + 1 /\ x = "") \/ (26 <= n /\ k = n / 26 /\ x = ⟨#[97 + n % 26]⟩) \/ (k = 0 /\ x = a9q n)
theorem hXq : ∀ k < 26, letters.cps.toList[k]? = some (97 + k) := by decide +kernel
theorem kIq {n k : Nat} {x : Str} (hn : n < 100) (h : LI n x k) (hk : 0 < k) : ∃ j, j = (k - 1) % 26 /\ atI letters.cps.toList (((k : Int) - 1) % 26) = some (97 + j) /\ (⟨#[97 + j]⟩ : Str).length + x.length <= 200000 /\ LI n ((⟨#[97 + j]⟩ : Str) ++ x) ((k - 1) / 26) := by
  refine ⟨(k - 1) % 26, rfl, ?_, ?_, ?_⟩
  . rw [show ((k : Int) - 1) % 26 = (((k - 1) % 26 : Nat) : Int) by omega]
    exact bEq (hXq _ (Nat.mod_lt _ (by decide)))
  . rcases h with ⟨_, rfl⟩ | ⟨_, _, rfl⟩ | ⟨h, _⟩
    . show 1 + _ <= _; decide +kernel
    . show 1 + 1 <= 200000; decide
    . omega
  . have app : ∀ a b : Nat, (⟨#[a]⟩ : Str) ++ (⟨#[b]⟩ : Str) = ⟨#[a, b]⟩ := fun a b => rfl
    have app0 : ∀ a : Nat, (⟨#[a]⟩ : Str) ++ (("" : String) : Str) = ⟨#[a]⟩ := fun a => by rw [show (("" : String) : Str) = ⟨#[]⟩ by decide +kernel]; rfl
    rcases h with ⟨rfl, rfl⟩ | ⟨h1, rfl, rfl⟩ | ⟨h, _⟩
    . rw [app0, Nat.add_sub_cancel]
      by_cases c : n < 26
      . exact .inr (.inr ⟨by omega, by rw [a9q, if_pos c, Nat.mod_eq_of_lt c]⟩)
      . exact .inr (.inl ⟨by omega, rfl, rfl⟩)
    . rw [app]
      refine .inr (.inr ⟨by omega, ?_⟩)
      rw [a9q, if_neg (by omega), show (n / 26 - 1) % 26 = n / 26 - 1 by omega]
    . omega
theorem mRq {n : Nat} {x : Str} (h : LI n x 0) : x = a9q n := by
  rcases h with ⟨h, _⟩ | ⟨h1, h2, _⟩ | ⟨_, h⟩
  . omega
  . omega
  . exact h
theorem gCq (l : List Nat) (c : Nat) : dFq (l ++ [c]) = dFq l * 26 + ((c - 97 : Nat) : Int) + 1 := by unfold dFq; rw [List.foldl_append]; rfl
def nMq (m : Nat) (ds : List D) : Bool := ds.all fun d => match d with
  | .str z => Nat.ble z.length m
  | _ => false
theorem hYq {m : Nat} {ds : List D} {i : Int} {G : DV} {Q : DK} (h : nMq m ds = true) (h0 : 0 <= i) (h1 : i < ds.length) (k : ∀ z : Str, z.length <= m -> Q (.str z) G) : atD ds i G Q := by
  refine f9q h0 h1 fun d hd => ?_
  have := List.all_eq_true.mp h d hd
  cases d with
  | str z => exact k z (Nat.le_of_ble_eq_true this)
  | _ => cases this
theorem fRq : ∀ (ws : List Str) (z : Str), inL (.str z) (ws.map D.str) = ws.contains z
  | [], _ => rfl
  | w :: ws, z => by
    have ih := fRq ws z
    unfold inL at ih ⊢
    rw [List.map_cons, List.any_cons, ih, List.contains_cons]
    congr 1
    show (w == z) = (z == w)
    rw [Bool.eq_iff_iff, beq_iff_eq, beq_iff_eq]; exact eq_comm
theorem f1q (z : Str) : inL (.str z) (words7.map D.str) = words7.contains z := fRq _ _
theorem dCq {z : Str} {i : Int} (h0 : 0 <= i) (h1 : i < z.length) : ∃ c, atI z.cps.toList i = some c := by
  obtain ⟨n, rfl⟩ : ∃ n : Nat, i = n := ⟨i.toNat, by omega⟩
  have e : z.cps.toList.length = z.length := rfl
  have h : n < z.cps.toList.length := by omega
  exact ⟨_, bEq (List.getElem?_eq_getElem h)⟩
theorem eDq (x y : Str) : (x ++ y).length = x.length + y.length := by
  show (x.cps ++ y.cps).size = _
  rw [Array.size_append]; rfl
theorem ePq {y : Str} {c : Nat} (h : atI y.cps.toList 0 = some c) : (!((⟨#[c]⟩ : Str) == "0")) = (!Txt.startswith y "0" || false) := by
  rw [m2q, d6q, fEq, Bool.or_false]
  cases e : y.cps.toList with
  | nil => rw [e] at h; cases h
  | cons x l =>
    rw [e] at h
    rw [show atI (x :: l) 0 = some x from bEq (j := 0) rfl] at h
    cases h
    simp
theorem lBq {l : List Nat} {c : Nat} (h : atI l 0 = some c) : l.headD 0 = c := by
  cases l with
  | nil => cases h
  | cons x l => rw [show atI (x :: l) 0 = some x from bEq (j := 0) rfl] at h; cases h; rfl
theorem eAq : ∀ {ys : List Str}, (∀ y ∈ ys, y.length = 1) -> (ys.map (·.length)).sum = ys.length
  | [], _ => rfl
  | y :: ys, h => by
    have h1 := h y (List.mem_cons_self ..)
    have h2 := eAq fun x hx => h x (List.mem_cons_of_mem y hx)
    rw [List.map_cons, List.sum_cons, h1, h2, List.length_cons]; omega
theorem hQq {n : Nat} (h : n < 100) : atI letters.cps.toList ((n : Int) % 26) = some (97 + n % 26) := by
  rw [show ((n : Int) % 26) = ((n % 26 : Nat) : Int) by omega]
  exact bEq (hXq _ (by omega))
theorem g5q {n : Nat} (h : n < 100) (h2 : 26 <= n) : atI letters.cps.toList ((n : Int) / 26 - 1) = some (97 + (n / 26 - 1)) := by
  rw [show ((n : Int) / 26 - 1) = ((n / 26 - 1 : Nat) : Int) by omega]
  exact bEq (hXq _ (by omega))
theorem e5q (n : Nat) : (a9q n).length <= 2 := by
  unfold a9q
  split
  . exact (by decide : 1 <= 2)
  . exact Nat.le_refl 2
def cntL : List (Str × D) := [("way", .int 1), ("give", .int 2), ("pair", .int 2), ("first", .int 1), ("second", .int 1), ("plus", .int 2), ("look", .int 3)]
def oCq : List (Str × V) := [("way", .int 1), ("give", .int 2), ("pair", .int 2), ("first", .int 1), ("second", .int 1), ("plus", .int 2), ("look", .int 3)]
theorem lCq (z : Str) : lMq z = (cntL.find? fun kv => decide (kv.1 = z)).map (·.2) := by
  unfold lMq cntL
  simp only [c8q]
  rfl
theorem rRq {K : PySem.W.Frag} : Paired (fun (a : Str × D) (b : Str × V) => a.1 = b.1 /\ ∀ H, Abs K H a.2 b.2) cntL oCq :=
  .cons ⟨rfl, fun _ => rfl⟩ (.cons ⟨rfl, fun _ => rfl⟩ (.cons ⟨rfl, fun _ => rfl⟩ (.cons ⟨rfl, fun _ => rfl⟩ (.cons ⟨rfl, fun _ => rfl⟩ (.cons ⟨rfl, fun _ => rfl⟩ (.cons ⟨rfl, fun _ => rfl⟩ .nil))))))
theorem cQq : ∀ {t : List (Str × V)} {es : List DictEntry}, Paired (fun (kv : Str × V) (e : DictEntry) => (∃ t1, e.key = .str kv.1 t1) /\ RelV kv.2 e.val) t es -> Paired (fun (k : Str) (e : DictEntry) => ∃ t1, e.key = .str k t1) (t.map (·.1)) es
  | _, _, .nil => .nil
  | _, _, .cons h r => .cons h.1 (cQq r)
theorem iFq {K : PySem.W.Frag} {w : World} {ad : Addr} {es : Array DictEntry} {n : Nat} {LV : List (Str × V)} {ks : List Str} (h1 : K.lookup ad = some ⟨.type "dict", none, .dict es n, #[]⟩) (h2 : (ad == sysModules) = false) (h3 : PySem.W.KeysLit w.params es.toList)
    (h4 : Paired (fun (kv : Str × V) (e : DictEntry) => (∃ t1, e.key = .str kv.1 t1) /\ RelV kv.2 e.val) LV es.toList) (e : LV.map (·.1) = ks) (nd : ks.Nodup) : KKeys K w ad ks := ⟨⟨es, n, h1, h3, e ▸ cQq h4⟩, h2, nd⟩
end L3
namespace KB
open PySem L2
def top (i : Nat) : Stmt := PySem.Challenge.pw_kindbags_k11_names_and_wholes.main.body.getD i (.Pass ⟨0, 0, 0, 0⟩)
structure Blt (mg : Str -> Option Value) : Prop where
  len : mg "len" = none
  isinstance : mg "isinstance" = none
  range : mg "range" = none
  bool : mg "bool" = none
  str : mg "str" = none
  all : mg "all" = none
  sorted : mg "sorted" = none
end KB
namespace KB
open PySem
abbrev cFq : List Str := ["text"]
abbrev d5q : List Str := ["text"]
abbrev dOq : List Str := ["text", "most"]
abbrev cIq : List Str := ["text", "signs"]
abbrev cEq : List Str := ["number"]
abbrev cHq : List Str := ["letters"]
abbrev bJq : List Str := ["rank"]
abbrev dMq : List Str := ["_law_script", "_law_k"]
abbrev dYq : List Str := ["_law_feed_here", "_law_many"]
abbrev eWq : List Str := ["_law_feed_here"]
abbrev eHq : List Str := ["_law_feed_here"]
abbrev dTq : List Str := ["_law_feed_here"]
abbrev d0q : List Str := ["_law_text_here", "_law_signs"]
abbrev dQq : List Str := ["_law_text_here"]
abbrev dIq : List Str := ["_law_text_here"]
abbrev dLq : List Str := ["_law_found", "_law_due"]
end KB
namespace KB
open PySem L2 L3
section
variable {P : Program} {w : World} {K : PySem.W.Frag} {mg : Str -> Option Value} {base : Heap} {f : Addr} {fd : FuncData}
set_option maxHeartbeats 4000000
abbrev bRq : Stmt := top 13
theorem sc_take : FnScope ["_law_feed_here", "_law_many", "_law_digit", "_law_one"] ["_law_feed_here", "_law_many"] (a2q bRq) := ⟨rfl, rfl, rfl, by decide +kernel, rfl, by decide +kernel, by decide +kernel⟩
theorem l8q (F : Fun K "_law_take" "_law_take" bRq f fd) : FnOk P w K mg base CX0 1 f fd ["_law_feed_here", "_law_many"] (aPq K cGq) := by
  refine okD (k := 0) F sc_take (fun ds G DQ h => ?_) (fun cdv A outer s H E hr ds G DQ h => ?_)
  . unfold cGq at h; split at h
    . rfl
    . exact h.elim
  unfold cGq at h; split at h
  case h_2 => exact h.elim
  next a m =>
  obtain ⟨⟨x, y, hF⟩, h0, h1, q⟩ := h
  refine ⟨_, (a6q (b9q (aWq fVq (bKq aix (a1q 0) a4q (fun _ _ => rfl)) a4q (aTq _)) (a6q (aCq (k := 2) sc_take.nd rfl (Or.inl rfl) (aHq b5q (bKq aix (a1q 0) a4q (fun _ _ => rfl)) (a1q 1)))
      (a6q (jOq (aHq cMq (bKq aix (a1q 0) a4q (fun _ _ => rfl)) (a1q 1)) (jLq (a1q 0) a4q))
      (a8q (aIq (a1q 2))))) aQq)
      (a6q (aCq (k := 3) sc_take.nd rfl (Or.inl rfl) (aHq b5q (aHq bAq (bKq aix (a1q 0) a4q (fun _ _ => rfl)) a4q) a4q))
      (a6q (jOq (aHq aLq (aHq b5q (aHq aLq (aHq bAq (a1q 3) a4q) a4q) a4q) a4q) (jLq (a1q 0) a4q))
      (a8q (aIq (aHq b5q (aHq cMq (aHq aLq (aHq bAq (a1q 3) a4q) (bKq aix (a1q 0) a4q (fun _ _ => rfl))) a4q) (a1q 1))))))), ?_⟩
  refine bFq hF ⟨fun c => ?_, fun c => ?_⟩
  . refine bFq hF ⟨h0, bFq hF ⟨⟨h0, by omega⟩, dWq hF ⟨0, rfl, Dr.of (q _ _ .mk (Int.emod_nonneg _ (by omega)) (Int.emod_lt_of_pos _ h0))⟩⟩⟩
  . refine bFq hF ⟨.inr ⟨by decide, by decide⟩, by simp, .inr ⟨by decide, by decide⟩, by simp, dWq hF ⟨1, rfl, .inr ⟨by decide, by decide⟩, bFq aJq ⟨⟨by decide, by decide⟩, h0, Dr.of (q _ _ .mk (Int.emod_nonneg _ (by omega)) (Int.emod_lt_of_pos _ h0))⟩⟩⟩
abbrev bVq : Stmt := top 12
theorem sc_feed : FnScope ["_law_script", "_law_k", "_law_cell", "_law_own"] ["_law_script", "_law_k"] (a2q bVq) := ⟨rfl, rfl, rfl, by decide +kernel, rfl, by decide +kernel, by decide +kernel⟩
theorem kNq (B : Blt mg) (F : Fun K "_law_feed" "_law_feed" bVq f fd) : FnOk P w K mg base CX0 1 f fd ["_law_script", "_law_k"] (aPq K f6q) := by
  refine okD (k := 0) F sc_feed (fun ds G DQ h => ?_) (fun cdv A outer s H E hr ds G DQ h => ?_)
  . unfold f6q at h; split at h
    . rfl
    . exact h.elim
  unfold f6q at h; split at h
  case h_2 => exact h.elim
  next ss k =>
  obtain ⟨ns, rfl, hl, h0, h1, q⟩ := h
  have fin : ∀ x y : Int, ∀ p, G p = none -> Dr DQ (.ref p) (up G p (fed x y)) := fun x y p hp => Dr.of (q p x y hp)
  have at_ok : ∀ j : Int, 0 <= j -> j < ns.length -> ∃ v, atI (ns.map D.int) j = some (.int v) := fun j j0 j1 => by
    refine ⟨ns[j.toNat], ?_⟩
    have e := bEq (xs := ns.map D.int) (j := j.toNat) (v := D.int ns[j.toNat]) (by simp [show j.toNat < ns.length by omega])
    rwa [show ((j.toNat : Nat) : Int) = j by omega] at e
  refine ⟨_, (a6q (aCq (k := 2) sc_feed.nd rfl (Or.inl rfl) (aHq aLq (aHq bAq a4q (a1q 1)) a4q))
      (a6q (b9q (aWq mQq (a1q 1) (aNq aOq rfl B.len PySem.boot_len (a0q (a1q 0) a5q)) (aTq _)) (a8q (aCq (k := 2) sc_feed.nd rfl (Or.inl rfl) (bKq aix (a1q 0) (a1q 1) (fun _ _ => rfl)))) (a8q (b9q (aWq fVq (aNq aOq rfl B.len PySem.boot_len (a0q (a1q 0) a5q)) a4q (aTq _)) (a8q (aCq (k := 2) sc_feed.nd rfl (Or.inl rfl) (aHq aLq (aHq bAq (aHq b5q (bKq aix (a1q 0) (aHq b5q (a1q 1) (aNq aOq rfl B.len PySem.boot_len (a0q (a1q 0) a5q))) (fun _ _ => rfl)) a4q) a4q) (aHq bAq a4q (a1q 1))))) aQq)))
      (a6q (aCq (k := 3) sc_feed.nd rfl (Or.inl rfl) a4q)
      (a6q (b9q (aWq mJq (a1q 2) (aHq k1q a4q a4q) (aTq _)) (a8q (aCq (k := 3) sc_feed.nd rfl (Or.inl rfl) (a1q 2))) aQq)
      (a8q (aIq (fMq (a0q (a1q 3) (a0q (aHq aLq (aHq b5q (aHq aLq (aHq bAq (aHq b5q (a1q 2) a4q) a4q) (aHq bAq a4q (a1q 1))) a4q) a4q) a5q))))))))), ?_⟩
  refine ⟨.inl ⟨by decide, by decide⟩, ⟨fun c => ?_, fun c => ?_⟩⟩
  . have c' : k < ns.length := by simpa using c
    obtain ⟨v, hv⟩ := at_ok k h0 c'
    refine (jEq hv ⟨⟨by decide, by decide, by decide⟩, fun c => ?_, fun c => ?_⟩)
    . exact ⟨by simp, .inr ⟨by decide, by decide⟩, .inl ⟨by decide, by decide⟩, by simp, fun p hp => fin _ _ p hp⟩
    . exact ⟨by simp, .inr ⟨by decide, by decide⟩, .inl ⟨by decide, by decide⟩, by simp, fun p hp => fin _ _ p hp⟩
  . refine ⟨fun c => ?_, fun c => ?_⟩
    . have c' : 0 < ns.length := by
        have : (0 : Int) < (ns.map D.int).length := by simpa using c
        simpa using this
      obtain ⟨v, hv⟩ := at_ok (k % (ns.map D.int).length) (Int.emod_nonneg _ (show ((ns.map D.int).length : Int) ≠ 0 by rw [List.length_map]; omega)) (by have := Int.emod_lt_of_pos k (show (0 : Int) < (ns.map D.int).length by simpa using c'); simpa using this)
      refine ⟨by simpa using c', ?_⟩
      refine (jEq hv ⟨by simp, .inr ⟨by decide, by decide⟩, .inl ⟨by decide, by decide⟩, ⟨by decide, by decide, by decide⟩, fun c => ?_, fun c => ?_⟩)
      . exact ⟨by simp, .inr ⟨by decide, by decide⟩, .inl ⟨by decide, by decide⟩, by simp, fun p hp => fin _ _ p hp⟩
      . exact ⟨by simp, .inr ⟨by decide, by decide⟩, .inl ⟨by decide, by decide⟩, by simp, fun p hp => fin _ _ p hp⟩
    . refine ⟨⟨by decide, by decide, by decide⟩, fun c => ?_, fun c => ?_⟩
      . exact ⟨by simp, .inr ⟨by decide, by decide⟩, .inl ⟨by decide, by decide⟩, by simp, fun p hp => fin _ _ p hp⟩
      . exact ⟨by simp, .inr ⟨by decide, by decide⟩, .inl ⟨by decide, by decide⟩, by simp, fun p hp => fin _ _ p hp⟩
abbrev aZq : Stmt := top 7
theorem hLq : FnScope ["text", "signs"] ["text", "signs"] (a2q aZq) := ⟨rfl, rfl, rfl, by decide +kernel, rfl, by decide +kernel, by decide +kernel⟩
theorem gWq (B : Blt mg) (F : Fun K "made_of" "made_of" aZq f fd) : FnOk P w K mg base CX0 1 f fd ["text", "signs"] (aPq K b4q) := by
  refine okD (k := 0) F hLq (fun ds G DQ h => ?_) (fun cdv A outer s H E hr ds G DQ h => ?_)
  . obtain ⟨_, _, rfl, _⟩ := h; rfl
  obtain ⟨z, y, rfl, hz, q⟩ := h
  refine ⟨_, (a8q (aIq (cNq (aNq (hRq rfl) rfl B.all PyProof.Rows.boot_all (a0q (cSq rfl (CompOk.of (N' := ["sign", "signs"]) (nt := 1) (cap := [1]) rfl (by kernel_rfl)) (b7q (k := 0) (by decide)) (h1q (a1q 0)) (fun _ _ _ _ => (bBq (k := 0) (show List.Nodup (["sign", "signs"] : List Str) by decide +kernel) rfl (Or.inl rfl))) (fun _ _ _ _ => (eXq jFq (a1q 0) (a1q 1) (by with_unfolding_all rfl)))) a5q))))), ?_⟩
  refine fLq z.cps.toList (fun c => .str ⟨#[c]⟩) (fun c => .bl (decide (c ∈ y.cps.toList))) rfl (d1q ?_) trivial (fun c _ R hR => ?_) (fun p hp => ?_)
  . have : z.cps.toList.length = z.length := rfl
    omega
  . show R (.bl (false ^^ !(Builtin.Str.occurrences y ⟨#[c]⟩ 0 y.length 1).isEmpty)) G
    rw [gXq, Bool.false_xor]; exact hR
  . refine bFq aJq ⟨z.cps.toList.map fun c => decide (c ∈ y.cps.toList), ?_, G, Sub.new (Sub.refl _) hp, Dr.of ?_⟩
    . rw [show (z.cps.toList.map fun c => D.bl (decide (c ∈ y.cps.toList))) = (z.cps.toList.map fun c => decide (c ∈ y.cps.toList)).map D.bl by simp]; exact d2q _
    . rw [List.all_map]; exact q
abbrev aYq : Stmt := top 4
theorem h5q : FnScope ["text"] ["text"] (a2q aYq) := ⟨rfl, rfl, rfl, by decide +kernel, rfl, by decide +kernel, by decide +kernel⟩
theorem gRq {aI : Addr} (B : Blt mg) {tL : Tok} (m_LETTERS : mg "LETTERS" = some (.str letters tL)) (m_INNER_COUNTS : mg "INNER_COUNTS" = some (.ref aI)) (T_INNER_COUNTS : KTabD K w aI lMq) (g_madeof : Got P w K mg base 1 "made_of" ["text", "signs"] (aPq K b4q)) (F : Fun K "is_name" "is_name" aYq f fd) : FnOk P w K mg base CX0 2 f fd ["text"] (aPq K dSq) := by
  refine okD (k := 1) F h5q (fun ds G DQ h => ?_) (fun cdv A outer s H E hr ds G DQ h => ?_)
  . obtain ⟨_, rfl, _⟩ := h; rfl
  obtain ⟨z, rfl, hz, q⟩ := h
  refine ⟨_, (a8q (aIq (fKq (g0q c3q c3q a4q (aNq aOq rfl B.len PySem.boot_len (a0q (a1q 0) a5q)) a4q) (fKq (a7q g_madeof hr (by omega) rfl (a0q (a1q 0) (a0q (cRq (d := .str _) (v := .str _) rfl m_LETTERS ⟨_, rfl⟩ (fun _ => rfl)) a5q))) (fOq (eXq (gFq T_INNER_COUNTS) (a1q 0) (cRq (d := .ref _) (v := .ref _) rfl m_INNER_COUNTS rfl (fun _ => rfl)) (by with_unfolding_all rfl))))))), ?_⟩
  unfold g1q at q
  refine ⟨b3q (by omega), ?_⟩
  refine ⟨fun c1 => ⟨fun c2 => ⟨z, letters, rfl, hz, ⟨fun c3 => ⟨rfl, Dr.of ?_⟩, fun c3 => Dr.of ?_⟩⟩, fun c2 => Dr.of ?_⟩, fun c1 => ⟨fun c2 => lNq c2, fun _ => Dr.of ?_⟩⟩
  . rw [c1, c2, c3, <- hVq] at q; exact q
  . rw [c1, c2, c3] at q; exact q
  . rw [c1, c2] at q; exact q
  . rw [c1] at q; exact q
abbrev bQq : Stmt := top 6
theorem sc_iswt : FnScope ["text", "most", "figures"] ["text", "most"] (a2q bQq) := ⟨rfl, rfl, rfl, by decide +kernel, rfl, by decide +kernel, by decide +kernel⟩
theorem l0q (B : Blt mg) {tF : Tok} (m_FIGURES : mg "FIGURES" = some (.str figs tF)) (g_madeof : Got P w K mg base 1 "made_of" ["text", "signs"] (aPq K b4q)) (F : Fun K "is_whole_text" "is_whole_text" bQq f fd) : FnOk P w K mg base CX0 2 f fd ["text", "most"] (aPq K eFq) := by
  refine okD (k := 1) F sc_iswt (fun ds G DQ h => ?_) (fun cdv A outer s H E hr ds G DQ h => ?_)
  . obtain ⟨_, rfl, _⟩ := h; rfl
  obtain ⟨z, rfl, hz, q⟩ := h
  refine ⟨_, (a6q (aCq (k := 2) sc_iswt.nd rfl (Or.inl rfl) (i6q (b8q (g2q PySem.F.plainAttrs_str PySem.F.slot_str_startswith PySem.F.type_str_startswith bPq (a1q 0) (a0q a3q a5q))) (c4q o0q (a1q 0) (d4q a4q) dBq) (a1q 0)))
      (a6q (b9q (cXq (AW.at (nYq (fSq c3q c3q a4q (aNq aOq rfl B.len PySem.boot_len (a0q (a1q 2) a5q)) (a1q 1)) (jZq (b8q (a7q g_madeof hr (by omega) rfl (a0q (a1q 2) (a0q (cRq (d := .str _) (v := .str _) rfl m_FIGURES ⟨_, rfl⟩ (fun _ => rfl)) a5q)))))))) (a8q (aIq cZq)) aQq)
      (a8q (aIq (pJq (nTq (g2q PySem.F.plainAttrs_str PySem.F.slot_str_startswith PySem.F.type_str_startswith bPq (a1q 2) (a0q a3q a5q))) (fOq (eXq (cJq (dGq hr)) (a1q 0) a3q (aTq _)))))))), ?_⟩
  have hbl := h9q z
  unfold jMq at q
  refine ⟨trivial, ⟨fun hs => ⟨b3q (by omega), ?_⟩, fun hs => ?_⟩⟩
  . rw [show Txt.slice z (some 1) none = bare z from (if_pos hs).symm]
    generalize bare z = y at q hbl ⊢
    refine ⟨b3q (by omega), ⟨fun c1 => ⟨fun c2 => ⟨y, figs, rfl, by omega, ⟨fun c3 => Dr.of ?_, fun c3 => ⟨trivial, ⟨fun c4 => Dr.of ?_, fun c4 => Dr.of ?_⟩⟩⟩⟩, fun c2 => ⟨fun _ => Dr.of ?_, fun c => gPq c⟩⟩, fun c1 => ⟨fun c => lNq c, fun _ => ⟨fun _ => Dr.of ?_, fun c => gPq c⟩⟩⟩⟩
    . rw [c1, c2, show bLq y figs = false by simpa using c3] at q; exact q
    . rw [c1, c2, show bLq y figs = true by simpa using c3, c4] at q; exact q
    . rw [c1, c2, show bLq y figs = true by simpa using c3, c4] at q; exact q
    . rw [c1, c2] at q; exact q
    . rw [c1] at q; exact q
  . rw [show bare z = z from if_neg (by rw [hs]; decide)] at q
    refine ⟨b3q (by omega), ⟨fun c1 => ⟨fun c2 => ⟨z, figs, rfl, by omega, ⟨fun c3 => Dr.of ?_, fun c3 => ⟨trivial, ⟨fun c4 => Dr.of ?_, fun c4 => Dr.of ?_⟩⟩⟩⟩, fun c2 => ⟨fun _ => Dr.of ?_, fun c => gPq c⟩⟩, fun c1 => ⟨fun c => lNq c, fun _ => ⟨fun _ => Dr.of ?_, fun c => gPq c⟩⟩⟩⟩
    . rw [c1, c2, show bLq z figs = false by simpa using c3] at q; exact q
    . rw [c1, c2, show bLq z figs = true by simpa using c3, c4] at q; exact q
    . rw [c1, c2, show bLq z figs = true by simpa using c3, c4] at q; exact q
    . rw [c1, c2] at q; exact q
    . rw [c1] at q; exact q
abbrev bDq : Stmt := top 5
theorem iAq : FnScope ["text"] ["text"] (a2q bDq) := ⟨rfl, rfl, rfl, by decide +kernel, rfl, by decide +kernel, by decide +kernel⟩
theorem iRq (g_iswt : Got P w K mg base 2 "is_whole_text" ["text", "most"] (aPq K eFq)) (F : Fun K "is_figures" "is_figures" bDq f fd) : FnOk P w K mg base CX0 3 f fd ["text"] (aPq K gBq) := by
  refine okD (k := 2) F iAq (fun ds G DQ h => ?_) (fun cdv A outer s H E hr ds G DQ h => ?_)
  . obtain ⟨_, rfl, _⟩ := h; rfl
  obtain ⟨z, rfl, hz, q⟩ := h
  exact ⟨_, (a8q (aIq (a7q g_iswt hr (by omega) rfl (a0q (a1q 0) (a0q a4q a5q))))), z, rfl, hz, Dr.of q⟩
abbrev b0q : Stmt := top 9
theorem sc_rankof : FnScope ["letters", "rank", "letter"] ["letters"] (a2q b0q) := ⟨rfl, rfl, rfl, by decide +kernel, rfl, by decide +kernel, by decide +kernel⟩
theorem gKq {tL : Tok} (m_LETTERS : mg "LETTERS" = some (.str letters tL)) (F : Fun K "rank_of" "rank_of" b0q f fd) : FnOk P w K mg base CX0 1 f fd ["letters"] (aPq K hWq) := by
  refine okD (k := 0) F sc_rankof (fun ds G DQ h => ?_) (fun cdv A outer s H E hr ds G DQ h => ?_)
  . obtain ⟨_, rfl, _⟩ := h; rfl
  obtain ⟨z, rfl, hz, hlow, q⟩ := h
  refine ⟨_, (a6q (aCq (k := 1) sc_rankof.nd rfl (Or.inl rfl) a4q)
      (a6q (fYq PassesOwn.never rfl (h1q (a1q 0)) (bBq (k := 2) sc_rankof.nd rfl (Or.inl rfl)) (a8q (aCq (k := 1) sc_rankof.nd rfl (Or.inl rfl) (aHq aLq (aHq aLq (aHq bAq (a1q 1) a4q) (g2q PySem.F.plainAttrs_str PySem.F.slot_str_index PySem.F.type_str_index h3q (cRq (d := .str _) (v := .str _) rfl m_LETTERS ⟨_, rfl⟩ (fun _ => rfl)) (a0q (a1q 2) a5q))) a4q))))
      (a8q (aIq (aHq e8q (a1q 1) a4q))))), ?_⟩
  refine ⟨fun i ρ G' => ∃ o2 : Option D, ρ = [some (.str z), some (.int (dFq (z.cps.toList.take i))), o2] /\ G = G', ⟨_, rfl, rfl⟩, fun _ _ _ _ _ => trivial, ?_, ?_⟩
  . rintro i d ρ G' hd ⟨o2, rfl, rfl⟩
    have hd' : (bGq z)[i]? = some d := hd
    unfold bGq at hd'
    rw [List.getElem?_map] at hd'
    cases hc : z.cps.toList[i]? with
    | none => rw [hc] at hd'; cases hd'
    | some c =>
      rw [hc] at hd'; cases hd'
      obtain ⟨h1, h2⟩ := hlow c (List.mem_of_getElem? hc)
      refine ⟨.inr (by decide), trivial, c - 97, [], g3q c h1 h2, Wk.of ⟨some (.str ⟨#[c]⟩), ?_, rfl⟩⟩
      rw [List.take_add_one, hc, Option.toList_some, gCq]
      rfl
  . rintro ρ G' ⟨o2, rfl, rfl⟩
    refine Dr.of ?_
    rw [show (⟨bGq z, _⟩ : DIt).items.length = z.cps.toList.length from List.length_map _, List.take_length]
    exact q
abbrev aMq : Stmt := top 10
theorem sc_lettersof : FnScope ["rank", "letters", "rest"] ["rank"] (a2q aMq) := ⟨rfl, rfl, rfl, by decide +kernel, rfl, by decide +kernel, by decide +kernel⟩
theorem eQq {tL : Tok} (m_LETTERS : mg "LETTERS" = some (.str letters tL)) (F : Fun K "letters_of" "letters_of" aMq f fd) : FnOk P w K mg base CX0 1 f fd ["rank"] (aPq K cWq) := by
  refine okD (k := 0) F sc_lettersof (fun ds G DQ h => ?_) (fun cdv A outer s H E hr ds G DQ h => ?_)
  . obtain ⟨_, rfl, _⟩ := h; rfl
  obtain ⟨n, rfl, hn, q⟩ := h
  refine ⟨_, (a6q (aCq (k := 1) sc_lettersof.nd rfl (Or.inl rfl) a3q)
      (a6q (aCq (k := 2) sc_lettersof.nd rfl (Or.inl rfl) (aHq aLq (a1q 0) a4q))
      (a6q (iOq PassesOwn.never (aWq fVq (a1q 2) a4q (aTq _)) (a6q (aCq (k := 1) sc_lettersof.nd rfl (Or.inl rfl) (aHq aLq (bKq aix (cRq (d := .str _) (v := .str _) rfl m_LETTERS ⟨_, rfl⟩ (fun _ => rfl)) (aHq b5q (aHq e8q (a1q 2) a4q) a4q) (fun _ _ => rfl)) (a1q 1)))
      (a8q (aCq (k := 2) sc_lettersof.nd rfl (Or.inl rfl) (aHq cMq (aHq e8q (a1q 2) a4q) a4q)))))
      (a8q (aIq (a1q 1)))))), ?_⟩
  refine ⟨fun μ ρ G' => ∃ (x : Str) (k : Nat), ρ = [some (.int n), some (.str x), some (.int k)] /\ G = G' /\ k = μ /\ LI n x k, ⟨_, "", n + 1, rfl, rfl, rfl, .inl ⟨rfl, rfl⟩⟩, ?_⟩
  rintro μ ρ G' ⟨x, k, rfl, rfl, rfl, hI⟩
  refine ⟨fun c => ?_, fun c => ?_⟩
  . have hk : 0 < k := by have : (0 : Int) < k := by simpa using c
                          omega
    obtain ⟨j, hj, ha, hx, hn'⟩ := kIq hn hI hk
    refine ⟨(by decide : (0 : Int) < 26), ⟨by decide +kernel, 97 + j, ha, ⟨b3q hx, ⟨(by decide : (0 : Int) < 26 /\ (26 : Int) < 2 ^ 64), Wk.of ⟨(k - 1) / 26, by omega, _, (k - 1) / 26, ?_, rfl, rfl, hn'⟩⟩⟩⟩⟩
    rw [show (((k - 1) / 26 : Nat) : Int) = ((k : Int) - 1) / 26 by omega]
    rfl
  . have hk : k = 0 := by have : ¬ (0 : Int) < k := by simpa using c
                          omega
    subst hk
    rw [mRq hI]
    exact Dr.of q
abbrev b1q : Stmt := top 8
theorem sc_nameof : FnScope ["number", "rank", "left_out"] ["number"] (a2q b1q) := ⟨rfl, rfl, rfl, by decide +kernel, rfl, by decide +kernel, by decide +kernel⟩
theorem hZq {aI : Addr} (B : Blt mg) (m_INNER_COUNTS : mg "INNER_COUNTS" = some (.ref aI)) (KK_INNER_COUNTS : KKeys K w aI words7) (g_rankof : Got P w K mg base 1 "rank_of" ["letters"] (aPq K hWq)) (g_lettersof : Got P w K mg base 1 "letters_of" ["rank"] (aPq K cWq)) (F : Fun K "name_of" "name_of" b1q f fd) : FnOk P w K mg base CX0 2 f fd ["number"] (aPq K e9q) := by
  refine okD (k := 1) F sc_nameof (fun ds G DQ h => ?_) (fun cdv A outer s H E hr ds G DQ h => ?_)
  . obtain ⟨_, rfl, _⟩ := h; rfl
  obtain ⟨n, rfl, hn, q⟩ := h
  refine ⟨_, (a6q (aCq (k := 1) sc_nameof.nd rfl (Or.inl rfl) (a1q 0))
      (a6q (fYq PassesOwn.never rfl (nAq (cNq (aNq (eTq rfl) rfl B.sorted PyProof.Rows.boot_sorted (a0q (cSq rfl (CompOk.of (N' := ["word"]) (nt := 1) (cap := []) rfl (by kernel_rfl)) (b7q (k := 0) (by decide)) (iTq rfl m_INNER_COUNTS KK_INNER_COUNTS) (fun _ _ _ _ => (bBq (k := 0) (show List.Nodup (["word"] : List Str) by decide +kernel) rfl (Or.inl rfl))) (fun _ _ _ _ => (a7q g_rankof hr (by omega) rfl (a0q (a1q 0) a5q)))) a5q)))) (bBq (k := 2) sc_nameof.nd rfl (Or.inl rfl)) (a8q (b9q (aWq c3q (a1q 2) (a1q 1) (aTq _)) (a8q (oIq (k := 1) sc_nameof.nd rfl (Or.inl rfl) a4q kQq)) aQq)))
      (a8q (aIq (a7q g_lettersof hr (by omega) rfl (a0q (a1q 1) a5q)))))), ?_⟩
  refine fLq words7 D.str (fun k => .int (dFq k.cps.toList - 1)) rfl (d1q (by decide)) trivial (fun k hk R hR => ?_) (fun p hp => ?_)
  . obtain ⟨h1, h2, h3, h4, _⟩ := cVq k hk
    exact ⟨k, rfl, by omega, h3, hR⟩
  . refine bFq aJq ⟨words7.map fun k : Str => dFq k.cps.toList - 1, by rw [<- dXq (words7.map fun k : Str => dFq k.cps.toList - 1), List.map_map]; rfl, by decide, fun ms hm _ p2 hp2 => ⟨up G p2 (.lst (ms.map D.int)), ?_, ?_⟩⟩
    . exact Sub.put (Sub.new (Sub.refl _) hp)
    refine kGq aJq ?_
    refine ⟨fun i ρ G' => ∃ o2 : Option D, ρ = [some (.int n), some (.int n), o2] /\ up G p2 (.lst (ms.map D.int)) = G', ⟨_, rfl, rfl⟩, fun _ _ _ _ h => by obtain ⟨_, _, rfl⟩ := h; exact aJq, ?_, ?_⟩
    . rintro i d ρ G' hd ⟨o2, rfl, rfl⟩
      have hd' : (ms.map D.int)[i]? = some d := hd
      rw [List.getElem?_map] at hd'
      cases hv : ms[i]? with
      | none => rw [hv] at hd'; cases hd'
      | some v =>
        rw [hv] at hd'; cases hd'
        have hv2 := (hm.mem_iff.mp (List.mem_of_getElem? hv))
        obtain ⟨k, hk, rfl⟩ := List.mem_map.mp hv2
        have h4 := (cVq k hk).2.2.2.1
        refine ⟨fun c => ?_, fun c => Wk.of ⟨_, rfl, rfl⟩⟩
        have : dFq k.cps.toList - 1 <= (n : Int) := by simpa using c
        omega
    . rintro ρ G' ⟨o2, rfl, rfl⟩
      have hg2 : G p2 = none := by
        by_cases e : p2 = p
        . rw [e]; exact hp
        . rw [c1q e] at hp2; exact hp2
      exact ⟨n, rfl, hn, G, Sub.new (Sub.refl _) hg2, q⟩
abbrev bCq : Stmt := top 17
theorem sc_allin : FnScope ["_law_text_here", "_law_signs", "_law_sign"] ["_law_text_here", "_law_signs"] (a2q bCq) := ⟨rfl, rfl, rfl, by decide +kernel, rfl, by decide +kernel, by decide +kernel⟩
theorem j3q (F : Fun K "_law_all_in" "_law_all_in" bCq f fd) : FnOk P w K mg base CX0 1 f fd ["_law_text_here", "_law_signs"] (aPq K b4q) := by
  refine okD (k := 0) F sc_allin (fun ds G DQ h => ?_) (fun cdv A outer s H E hr ds G DQ h => ?_)
  . obtain ⟨_, _, rfl, _⟩ := h; rfl
  obtain ⟨z, y, rfl, hz, q⟩ := h
  refine ⟨_, (a6q (fYq PassesOwn.never rfl (h1q (a1q 0)) (bBq (k := 2) sc_allin.nd rfl (Or.inl rfl)) (a8q (b9q (aWq i2q (a1q 2) (a1q 1) (by with_unfolding_all rfl)) (a8q (aIq cZq)) aQq)))
      (a8q (aIq cZq))), ?_⟩
  refine ⟨fun i ρ G' => ∃ o2 : Option D, ρ = [some (.str z), some (.str y), o2] /\ G = G' /\ ∀ c ∈ z.cps.toList.take i, c ∈ y.cps.toList, ⟨_, rfl, rfl, fun c hc => by cases hc⟩, fun _ _ _ _ _ => trivial, ?_, ?_⟩
  . rintro i d ρ G' hd ⟨o2, rfl, rfl, hI⟩
    have hd' : (bGq z)[i]? = some d := hd
    unfold bGq at hd'
    rw [List.getElem?_map] at hd'
    cases hc : z.cps.toList[i]? with
    | none => rw [hc] at hd'; cases hd'
    | some c =>
      rw [hc] at hd'; cases hd'
      refine ⟨fun c1 => ?_, fun c1 => ?_⟩
      . have c2 : (true ^^ !(Builtin.Str.occurrences y ⟨#[c]⟩ 0 y.length 1).isEmpty) = true := c1
        rw [gXq] at c2
        have c3 : ¬ c ∈ y.cps.toList := by simpa using c2
        have e : bLq z y = false := by
          unfold bLq
          rw [List.all_eq_false]
          exact ⟨c, List.mem_of_getElem? hc, by simpa using c3⟩
        rw [e] at q
        exact Dr.of q
      . have c2 : (true ^^ !(Builtin.Str.occurrences y ⟨#[c]⟩ 0 y.length 1).isEmpty) = false := c1
        rw [gXq] at c2
        have c3 : c ∈ y.cps.toList := by simpa using c2
        refine Wk.of ⟨some (.str ⟨#[c]⟩), rfl, rfl, fun b hb => ?_⟩
        rw [List.take_add_one, hc, Option.toList_some] at hb
        rcases List.mem_append.mp hb with hb | hb
        . exact hI b hb
        . simp at hb; subst hb; exact c3
  . rintro ρ G' ⟨o2, rfl, rfl, hI⟩
    rw [show (⟨bGq z, _⟩ : DIt).items.length = z.cps.toList.length from List.length_map _, List.take_length] at hI
    have e : bLq z y = true := by
      unfold bLq
      rw [List.all_eq_true]
      exact fun c hc => by simpa using hI c hc
    rw [e] at q
    exact Dr.of q
abbrev bWq : Stmt := top 18
theorem k8q : FnScope ["_law_text_here"] ["_law_text_here"] (a2q bWq) := ⟨rfl, rfl, rfl, by decide +kernel, rfl, by decide +kernel, by decide +kernel⟩
theorem lHq (B : Blt mg) (g_allin : Got P w K mg base 1 "_law_all_in" ["_law_text_here", "_law_signs"] (aPq K b4q)) (F : Fun K "_law_name_due" "_law_name_due" bWq f fd) : FnOk P w K mg base CX0 2 f fd ["_law_text_here"] (aPq K dSq) := by
  refine okD (k := 1) F k8q (fun ds G DQ h => ?_) (fun cdv A outer s H E hr ds G DQ h => ?_)
  . obtain ⟨_, rfl, _⟩ := h; rfl
  obtain ⟨z, rfl, hz, q⟩ := h
  refine ⟨_, (a6q (b9q (aWq jFq (a1q 0) (lSq (a0q a3q (a0q a3q (a0q a3q (a0q a3q (a0q a3q (a0q a3q (a0q a3q a5q)))))))) (by with_unfolding_all rfl)) (a8q (aIq cZq)) aQq)
      (a8q (aIq (fKq (g0q c3q c3q a4q (aNq aOq rfl B.len PySem.boot_len (a0q (a1q 0) a5q)) a4q) (fOq (a7q g_allin hr (by omega) rfl (a0q (a1q 0) (a0q a3q a5q)))))))), ?_⟩
  unfold g1q at q
  refine ⟨rfl, rfl, ⟨fun c0 => ?_, fun c0 => ?_⟩⟩
  . have c : words7.contains z = true := by rw [<- f1q]; rw [Bool.false_xor] at c0; exact c0
    rw [c] at q
    refine Dr.of ?_
    simpa using q
  . have c : words7.contains z = false := by rw [<- f1q]; rw [Bool.false_xor] at c0; exact c0
    rw [c] at q
    refine ⟨b3q (by omega), ⟨fun c1 => ⟨fun c2 => ⟨z, letters, rfl, hz, Dr.of ?_⟩, fun c2 => Dr.of ?_⟩, fun c1 => ⟨fun c2 => lNq c2, fun _ => Dr.of ?_⟩⟩⟩
    . rw [c1, c2] at q; simpa using q
    . rw [c1, c2] at q; exact q
    . rw [c1] at q; exact q
abbrev bXq : Stmt := top 19
theorem sc_fdue : FnScope ["_law_text_here", "_law_figures"] ["_law_text_here"] (a2q bXq) := ⟨rfl, rfl, rfl, by decide +kernel, rfl, by decide +kernel, by decide +kernel⟩
theorem kJq (B : Blt mg) (g_allin : Got P w K mg base 1 "_law_all_in" ["_law_text_here", "_law_signs"] (aPq K b4q)) (F : Fun K "_law_figures_due" "_law_figures_due" bXq f fd) : FnOk P w K mg base CX0 2 f fd ["_law_text_here"] (aPq K gBq) := by
  refine okD (k := 1) F sc_fdue (fun ds G DQ h => ?_) (fun cdv A outer s H E hr ds G DQ h => ?_)
  . obtain ⟨_, rfl, _⟩ := h; rfl
  obtain ⟨z, rfl, hz, q⟩ := h
  refine ⟨_, (a6q (b9q (aWq (cJq (dGq hr)) (a1q 0) a3q (aTq _)) (a8q (aIq cZq)) aQq)
      (a6q (aCq (k := 1) sc_fdue.nd rfl (Or.inl rfl) (a1q 0))
      (a6q (b9q (aWq (cJq (dGq hr)) (c4q o0q (a1q 0) dBq (d4q a4q)) a3q (aTq _)) (a8q (aCq (k := 1) sc_fdue.nd rfl (Or.inl rfl) (c4q o0q (a1q 0) (d4q a4q) dBq))) aQq)
      (a6q (b9q (AW.at (kZq (cXq (fSq c3q c3q a4q (aNq aOq rfl B.len PySem.boot_len (a0q (a1q 1) a5q)) a4q)) (jPq (cXq (b8q (a7q g_allin hr (by omega) rfl (a0q (a1q 1) (a0q a3q a5q)))))))) (a8q (aIq cZq)) aQq)
      (a8q (aIq (eXq (jGq (dGq hr)) (bKq aix (a1q 1) a4q (fun _ _ => rfl)) a3q (aTq _)))))))), ?_⟩
  have hbl := h9q z
  refine ⟨fun c0 => ?_, fun c0 => ?_⟩
  . have e : z = "0" := by simpa using c0
    rw [e, gAq] at q
    exact Dr.of q
  . have e0 : (z == ("0" : Str)) = false := c0
    unfold jMq at q
    rw [e0] at q
    refine ⟨b3q (by omega), ⟨fun c1 => ⟨b3q (by omega), ?_⟩, fun c1 => ?_⟩⟩
    . have hs : Txt.startswith z "-" = true := by rw [<- dZq]; exact c1
      rw [show Txt.slice z (some 1) none = bare z from (if_pos hs).symm]
      generalize bare z = y at q hbl ⊢
      refine ⟨b3q (by omega), ⟨fun c1 => ⟨fun c2 => ⟨fun _ => Dr.of ?_, fun c => gPq c⟩, fun c2 => ⟨y, figs, rfl, by omega, ⟨fun c3 => Dr.of ?_, fun c3 => ?_⟩⟩⟩, fun c1 => ⟨fun _ => ⟨fun _ => Dr.of ?_, fun c => gPq c⟩, fun c => gPq c⟩⟩⟩
      . rw [c1, show decide ((y.length : Int) <= 9) = false by simpa using c2] at q; exact q
      . rw [c1, show decide ((y.length : Int) <= 9) = true by simpa using c2, show bLq y figs = false by simpa using c3] at q; exact q
      . rw [c1, show decide ((y.length : Int) <= 9) = true by simpa using c2, show bLq y figs = true by simpa using c3] at q
        obtain ⟨ch, hch⟩ := dCq (z := y) (i := 0) (by decide) (by have z1 := of_decide_eq_true c1; omega)
        refine ⟨b3q (by omega), ch, hch, Dr.of ?_⟩
        show DQ (.bl (!((⟨#[ch]⟩ : Str) == "0"))) G
        rw [ePq hch]; exact q
      . rw [c1] at q; exact q
    . have hs : Txt.startswith z "-" = false := by rw [<- dZq]; exact c1
      rw [show bare z = z from if_neg (by rw [hs]; decide)] at q
      refine ⟨b3q (by omega), ⟨fun c1 => ⟨fun c2 => ⟨fun _ => Dr.of ?_, fun c => gPq c⟩, fun c2 => ⟨z, figs, rfl, by omega, ⟨fun c3 => Dr.of ?_, fun c3 => ?_⟩⟩⟩, fun c1 => ⟨fun _ => ⟨fun _ => Dr.of ?_, fun c => gPq c⟩, fun c => gPq c⟩⟩⟩
      . rw [c1, show decide ((z.length : Int) <= 9) = false by simpa using c2] at q; exact q
      . rw [c1, show decide ((z.length : Int) <= 9) = true by simpa using c2, show bLq z figs = false by simpa using c3] at q; exact q
      . rw [c1, show decide ((z.length : Int) <= 9) = true by simpa using c2, show bLq z figs = true by simpa using c3] at q
        obtain ⟨ch, hch⟩ := dCq (z := z) (i := 0) (by decide) (by have z1 := of_decide_eq_true c1; omega)
        refine ⟨b3q (by omega), ch, hch, Dr.of ?_⟩
        show DQ (.bl (!((⟨#[ch]⟩ : Str) == "0"))) G
        rw [ePq hch]; exact q
      . rw [c1] at q; exact q
abbrev bSq : Stmt := top 20
theorem k9q : FnScope ["_law_found", "_law_due"] ["_law_found", "_law_due"] (a2q bSq) := ⟨rfl, rfl, rfl, by decide +kernel, rfl, by decide +kernel, by decide +kernel⟩
theorem kAq (B : Blt mg) (F : Fun K "_law_says" "_law_says" bSq f fd) : FnOk P w K mg base CX0 1 f fd ["_law_found", "_law_due"] (aPq K hKq) := by
  refine okD (k := 0) F k9q (fun ds G DQ h => ?_) (fun cdv A outer s H E hr ds G DQ h => ?_)
  . obtain ⟨_, rfl, _⟩ := h; rfl
  obtain ⟨b, rfl, q⟩ := h
  refine ⟨_, (a8q (aIq (fKq (aNq f3q rfl B.isinstance PyProof.Rows.boot_isinstance (a0q (a1q 0) (a0q (h8q rfl B.bool PyProof.Rows.boot_bool) a5q))) (fOq (eXq (cJq (dGq hr)) (a1q 0) (a1q 1) (aTq _)))))), ?_⟩
  refine ⟨true, rfl, ⟨fun _ => mIq rfl rfl (show 0 <= 150 by decide) (Dr.of ?_), fun c => gPq c⟩⟩
  rw [show eqD (.bl b) (.bl b) = true from beq_self_eq_true b]; exact q
abbrev dDq : Stmt := top 14
theorem sc_key : FnScope ["_law_feed_here", "_law_word", "_law_letter", "_law_form"] ["_law_feed_here"] (a2q dDq) := ⟨rfl, rfl, rfl, by decide +kernel, rfl, by decide +kernel, by decide +kernel⟩
theorem nGq (g_take : Got P w K mg base 1 "_law_take" ["_law_feed_here", "_law_many"] (aPq K cGq)) (F : Fun K "_law_key" "_law_key" dDq f fd) : FnOk P w K mg base CX0 2 f fd ["_law_feed_here"] (aPq K (c2q 20)) := by
  refine okD (k := 1) F sc_key (fun ds G DQ h => ?_) (fun cdv A outer s H E hr ds G DQ h => ?_)
  . obtain ⟨_, rfl, _⟩ := h; rfl
  obtain ⟨a, rfl, hF, q⟩ := h
  refine ⟨_, (a6q (aCq (k := 1) sc_key.nd rfl (Or.inl rfl) (d9q (a0q a3q (a0q a3q (a0q a3q (a0q a3q (a0q a3q (a0q a3q (a0q a3q a5q))))))) (a7q g_take hr (by omega) rfl (a0q (a1q 0) (a0q a4q a5q))) (fun _ _ => rfl)))
      (a6q (aCq (k := 2) sc_key.nd rfl (Or.inl rfl) (bKq aix a3q (a7q g_take hr (by omega) rfl (a0q (a1q 0) (a0q a4q a5q))) (fun _ _ => rfl)))
      (a6q (aCq (k := 3) sc_key.nd rfl (Or.inl rfl) (a7q g_take hr (by omega) rfl (a0q (a1q 0) (a0q a4q a5q))))
      (a8q (aIq (d9q (a0q (a1q 1) (a0q (aHq aLq (a1q 1) (a1q 2)) (a0q (aHq aLq (a1q 2) (a1q 1)) (a0q (c4q o0q (a1q 1) dBq (d4q (q9q k0q a4q))) (a0q (aHq aLq (o3q PySem.F.plainAttrs_str PySem.F.slot_str_upper PySem.F.type_str_upper gVq (bKq aix (a1q 1) a4q (fun _ _ => rfl))) (c4q o0q (a1q 1) (d4q a4q) dBq)) a5q))))) (a1q 3) (fun _ _ => rfl))))))), ?_⟩
  refine ⟨hF, by decide, by decide, fun d1 G1 u1 d0 d1' => gJq (f9q d0 d1' fun d hd => ?_)⟩
  obtain ⟨wd, hw, rfl⟩ := List.mem_map.mp (show d ∈ words7.map D.str from hd)
  obtain ⟨w1, w2, -, -, w5⟩ := cVq wd hw
  refine ⟨u1.fd, by decide, by decide, fun d2 G2 u2 e0 e1 => ?_⟩
  have hll : letters.length = 26 := by decide +kernel
  obtain ⟨c, hc⟩ := dCq (z := letters) e0 (by rw [hll]; exact e1)
  refine ⟨by decide +kernel, c, hc, ⟨u2.fd, by decide, by decide, fun d3 G3 u3 f0 f1 => ?_⟩⟩
  have l1 : (⟨#[c]⟩ : Str).length = 1 := rfl
  have s1 := Txt.slice_le wd none (some (-1))
  have s2 := Txt.slice_le wd (some 1) none
  obtain ⟨ch, hch⟩ := dCq (z := wd) (i := 0) (by decide) (by omega)
  rw [lBq hch] at w5
  have u := (u1.trans u2).trans u3
  refine ⟨b3q (by omega), b3q (by omega), b3q (by omega), b3q (by omega), ch, hch, trivial, by omega, b3q (by omega), b3q (by omega), gJq (f9q f0 f1 fun d hd => ?_)⟩
  simp only [List.mem_cons, List.not_mem_nil, or_false] at hd
  rcases hd with rfl | rfl | rfl | rfl | rfl
  . exact Dr.of (q _ G3 ⟨G3, u, Sub.refl _⟩ (by omega))
  . exact Dr.of (q _ G3 ⟨G3, u, Sub.refl _⟩ (by rw [eDq]; omega))
  . exact Dr.of (q _ G3 ⟨G3, u, Sub.refl _⟩ (by rw [eDq]; omega))
  . exact Dr.of (q _ G3 ⟨G3, u, Sub.refl _⟩ (by omega))
  . exact Dr.of (q _ G3 ⟨G3, u, Sub.refl _⟩ (by rw [eDq]; omega))
abbrev d3q : Stmt := top 15
theorem sc_odd : FnScope ["_law_feed_here", "_law_some"] ["_law_feed_here"] (a2q d3q) := ⟨rfl, rfl, rfl, by decide +kernel, rfl, by decide +kernel, by decide +kernel⟩
theorem m8q (B : Blt mg) (g_take : Got P w K mg base 1 "_law_take" ["_law_feed_here", "_law_many"] (aPq K cGq)) (F : Fun K "_law_odd" "_law_odd" d3q f fd) : FnOk P w K mg base CX0 2 f fd ["_law_feed_here"] (aPq K (c2q 20)) := by
  refine okD (k := 1) F sc_odd (fun ds G DQ h => ?_) (fun cdv A outer s H E hr ds G DQ h => ?_)
  . obtain ⟨_, rfl, _⟩ := h; rfl
  obtain ⟨a, rfl, hF, q⟩ := h
  refine ⟨_, (a6q (aCq (k := 1) sc_odd.nd rfl (Or.inl rfl) (fMq (a0q a3q (a0q a3q (a0q a3q (a0q a3q (a0q a3q (a0q a3q (a0q a3q (a0q a3q (a0q a3q (a0q a3q (a0q a3q (a0q a3q (a0q a3q (a0q a3q (a0q a3q (a0q a3q (a0q a3q (a0q a3q a5q))))))))))))))))))))
      (a6q (aCq (k := 1) sc_odd.nd rfl (Or.inl rfl) (cNq (aHq aLq (a1q 1) (fMq (a0q a3q (a0q a3q (a0q a3q (a0q a3q (a0q a3q (a0q a3q (a0q a3q (a0q a3q (a0q a3q (a0q a3q (a0q a3q (a0q a3q (a0q a3q a5q)))))))))))))))))
      (a6q (aCq (k := 1) sc_odd.nd rfl (Or.inl rfl) (cNq (aHq aLq (a1q 1) (fMq (a0q a3q (a0q a3q (a0q a3q (a0q a3q (a0q a3q (a0q a3q (a0q a3q (a0q a3q a5q))))))))))))
      (a8q (aIq (bKq aix (a1q 1) (a7q g_take hr (by omega) rfl (a0q (a1q 0) (a0q (aNq aOq rfl B.len PySem.boot_len (a0q (a1q 1) a5q)) a5q))) (fun _ _ => rfl))))))), ?_⟩
  intro p1 hp1 p2 hp2
  obtain ⟨-, g2, n21⟩ := dVq (o := .lst []) hp2
  refine dWq (by rw [c1q (Ne.symm n21)]; exact aJq) (dWq aJq ⟨b3q (by decide), fun p3 hp3 => ?_⟩)
  have g3 : G p3 = none := (dVq (o := .lst []) (dVq (o := .lst []) hp3).2.1).2.1
  refine ⟨up G p3 _, Sub.put (Sub.new (Sub.new (Sub.refl _) hp1) g2), fun p4 hp4 => ?_⟩
  obtain ⟨-, g4, n43⟩ := dVq (o := .lst []) hp4
  refine dWq (by rw [c1q (Ne.symm n43)]; exact aJq) (dWq aJq ⟨b3q (by decide), fun p5 hp5 => ?_⟩)
  have g5 : G p5 = none := (dVq (o := .lst []) (dVq (o := .lst []) hp5).2.1).2.1
  refine ⟨up G p5 _, Sub.put (Sub.new (Sub.new (Sub.refl _) g3) g4), ?_⟩
  refine bFq aJq ⟨hF.new g5, by decide, by decide, fun d G6 u6 d0 d1 => ?_⟩
  obtain ⟨G7, s7, u7⟩ := Fx.drop g5 u6 hF
  refine bFq (by rw [u6.other (hF.ne g5)]; exact aJq) (hYq (m := 20) (by decide +kernel) d0 d1 fun z hz => Dr.of (q z G6 ⟨G7, u7, s7⟩ hz))
abbrev bUq : Stmt := top 16
theorem sc_text : FnScope ["_law_feed_here", "_law_form", "_law_figures", "_law_signs"] ["_law_feed_here"] (a2q bUq) := ⟨rfl, rfl, rfl, by decide +kernel, rfl, by decide +kernel, by decide +kernel⟩
theorem jVq (B : Blt mg) (g_take : Got P w K mg base 1 "_law_take" ["_law_feed_here", "_law_many"] (aPq K cGq)) (g_key : Got P w K mg base 2 "_law_key" ["_law_feed_here"] (aPq K (c2q 20))) (g_odd : Got P w K mg base 2 "_law_odd" ["_law_feed_here"] (aPq K (c2q 20))) (F : Fun K "_law_text" "_law_text" bUq f fd) : FnOk P w K mg base CX0 3 f fd ["_law_feed_here"] (aPq K (c2q 50)) := by
  refine okD (k := 2) F sc_text (fun ds G DQ h => ?_) (fun cdv A outer s H E hr ds G DQ h => ?_)
  . obtain ⟨_, rfl, _⟩ := h; rfl
  obtain ⟨a, rfl, hF, q⟩ := h
  refine ⟨_, (a6q (aCq (k := 1) sc_text.nd rfl (Or.inl rfl) (a7q g_take hr (by omega) rfl (a0q (a1q 0) (a0q a4q a5q))))
      (a6q (b9q (aWq (cJq (dGq hr)) (a1q 1) a4q (aTq _)) (a8q (aIq (g2q PySem.F.plainAttrs_str PySem.F.slot_str_join PySem.F.type_str_join e7q a3q (a0q (cSq rfl (CompOk.of (N' := ["_law_k", "_law_feed_here"]) (nt := 1) (cap := [0]) rfl (by kernel_rfl)) (b7q (k := 0) (by decide)) (bYq rfl B.range (a0q (a7q g_take hr (by omega) rfl (a0q (a1q 0) (a0q a4q a5q))) a5q)) (fun _ _ _ _ => (bBq (k := 0) (show List.Nodup (["_law_k", "_law_feed_here"] : List Str) by decide +kernel) rfl (Or.inl rfl))) (fun _ _ _ _ => (bKq aix a3q (a7q g_take hr (by omega) rfl (a0q (a1q 1) (a0q a4q a5q))) (fun _ _ => rfl)))) a5q)))) aQq)
      (a6q (b9q (aWq (cJq (dGq hr)) (a1q 1) a4q (aTq _)) (a8q (aIq (a7q g_key hr (by omega) rfl (a0q (a1q 0) a5q)))) aQq)
      (a6q (b9q (aWq (cJq (dGq hr)) (a1q 1) a4q (aTq _)) (a6q (aCq (k := 2) sc_text.nd rfl (Or.inl rfl) (g2q PySem.F.plainAttrs_str PySem.F.slot_str_join PySem.F.type_str_join e7q a3q (a0q (cSq rfl (CompOk.of (N' := ["_law_k", "_law_feed_here"]) (nt := 1) (cap := [0]) rfl (by kernel_rfl)) (b7q (k := 0) (by decide)) (bYq rfl B.range (a0q (a7q g_take hr (by omega) rfl (a0q (a1q 0) (a0q a4q a5q))) a5q)) (fun _ _ _ _ => (bBq (k := 0) (show List.Nodup (["_law_k", "_law_feed_here"] : List Str) by decide +kernel) rfl (Or.inl rfl))) (fun _ _ _ _ => (bKq aix a3q (a7q g_take hr (by omega) rfl (a0q (a1q 1) (a0q a4q a5q))) (fun _ _ => rfl)))) a5q)))
      (a8q (aIq (aHq aLq (d9q (a0q a3q (a0q a3q (a0q a3q (a0q a3q (a0q a3q (a0q a3q (a0q a3q (a0q a3q (a0q a3q (a0q a3q (a0q a3q (a0q a3q a5q)))))))))))) (a7q g_take hr (by omega) rfl (a0q (a1q 0) (a0q a4q a5q))) (fun _ _ => rfl)) (a1q 2))))) aQq)
      (a6q (b9q (aWq (cJq (dGq hr)) (a1q 1) a4q (aTq _)) (a8q (aIq (a7q g_odd hr (by omega) rfl (a0q (a1q 0) a5q)))) aQq)
      (a6q (aCq (k := 3) sc_text.nd rfl (Or.inr rfl) a3q)
      (a8q (aIq (g2q PySem.F.plainAttrs_str PySem.F.slot_str_join PySem.F.type_str_join e7q a3q (a0q (cSq rfl (CompOk.of (N' := ["_law_k", "_law_signs", "_law_feed_here"]) (nt := 1) (cap := [3, 0]) rfl (by kernel_rfl)) (b7q (k := 0) (by decide)) (bYq rfl B.range (a0q (a7q g_take hr (by omega) rfl (a0q (a1q 0) (a0q a4q a5q))) a5q)) (fun _ _ _ _ => (bBq (k := 0) (show List.Nodup (["_law_k", "_law_signs", "_law_feed_here"] : List Str) by decide +kernel) rfl (Or.inl rfl))) (fun _ _ _ _ => (bKq aix (a1q 1) (a7q g_take hr (by omega) rfl (a0q (a1q 2) (a0q (aNq aOq rfl B.len PySem.boot_len (a0q (a1q 1) a5q)) a5q))) (fun _ _ => rfl)))) a5q)))))))))), ?_⟩
  refine ⟨hF, by decide, by decide, fun fm G1 u1 f0 f1 => ⟨fun c => ?_, fun c => ⟨fun c => ?_, fun c => ⟨fun c => ?_, fun c => ⟨fun c => ?_, fun c => ?_⟩⟩⟩⟩⟩
  . refine ⟨trivial, ⟨u1.fd, by decide, by decide, fun m G2 u2 m0 m1 => cOq (by omega) ?_⟩⟩
    refine e3q (fun i ds G' => ∃ ys : List Str, ds = ys.map D.str /\ ys.length = i /\ (∀ y ∈ ys, y.length = 1) /\ Fx a G G') ?_ ⟨[], rfl, rfl, by simp, u1.trans u2⟩ (fun _ _ _ _ _ => trivial) ?_ ?_
    . show (bHq 0 (m : Int).toNat).length < sizeLine
      rw [aRq]; exact d1q (by omega)
    . rintro i d ds G' hd ⟨ys, rfl, hyl, hy1, u⟩
      refine ⟨u.fd, by decide, by decide, fun k G4 u4 k0 k1 => ?_⟩
      obtain ⟨c, hc⟩ := dCq (z := letters) k0 (by rw [show letters.length = 26 by decide +kernel]; exact k1)
      refine ⟨by decide +kernel, c, hc, WkV.of ⟨ys ++ [⟨#[c]⟩], by simp, by simp [hyl], fun y hy => ?_, u.trans u4⟩⟩
      rcases List.mem_append.mp hy with hy | hy
      . exact hy1 y hy
      . simp at hy; subst hy; rfl
    . rintro ds G3 ⟨ys, rfl, hyl, hy1, u3⟩ p hp
      have hyl' : ys.length = (m : Int).toNat := by rw [hyl]; exact aRq
      have hsum := eAq hy1
      have hj := dAq ys
      exact bFq aJq ⟨ys, rfl, by decide +kernel, by omega, Dr.of (q _ _ ⟨G3, u3, Sub.new (Sub.refl _) hp⟩ (by omega))⟩
  . exact ⟨a, rfl, u1.fd, fun z G' ⟨G0, h1, h2⟩ hz => Dr.of (q z G' ⟨G0, u1.trans h1, h2⟩ (by omega))⟩
  . refine ⟨trivial, ⟨u1.fd, by decide, by decide, fun m G2 u2 m0 m1 => cOq (by omega) ?_⟩⟩
    refine e3q (fun i ds G' => ∃ ys : List Str, ds = ys.map D.str /\ ys.length = i /\ (∀ y ∈ ys, y.length = 1) /\ Fx a G G') ?_ ⟨[], rfl, rfl, by simp, u1.trans u2⟩ (fun _ _ _ _ _ => trivial) ?_ ?_
    . show (bHq 0 (m : Int).toNat).length < sizeLine
      rw [aRq]; exact d1q (by omega)
    . rintro i d ds G' hd ⟨ys, rfl, hyl, hy1, u⟩
      refine ⟨u.fd, by decide, by decide, fun k G4 u4 k0 k1 => ?_⟩
      obtain ⟨c, hc⟩ := dCq (z := figs) k0 (by rw [show figs.length = 10 by decide +kernel]; exact k1)
      refine ⟨by decide +kernel, c, hc, WkV.of ⟨ys ++ [⟨#[c]⟩], by simp, by simp [hyl], fun y hy => ?_, u.trans u4⟩⟩
      rcases List.mem_append.mp hy with hy | hy
      . exact hy1 y hy
      . simp at hy; subst hy; rfl
    . rintro ds G3 ⟨ys, rfl, hyl, hy1, u3⟩ p hp
      have hyl' : ys.length = (m : Int).toNat := by rw [hyl]; exact aRq
      have hsum := eAq hy1
      have hj := dAq ys
      refine bFq aJq ⟨ys, rfl, by decide +kernel, by omega, ⟨u3.fd.new hp, by decide, by decide, fun d G5 u5 d0 d1 => gJq (hYq (m := 1) (by decide +kernel) d0 d1 fun z hz => ⟨b3q (by omega), Dr.of ?_⟩)⟩⟩
      obtain ⟨G7, s7, u7⟩ := Fx.drop hp u5 u3.fd
      exact q _ G5 ⟨G7, u3.trans u7, s7⟩ (by rw [eDq]; omega)
  . exact ⟨a, rfl, u1.fd, fun z G' ⟨G0, h1, h2⟩ hz => Dr.of (q z G' ⟨G0, u1.trans h1, h2⟩ (by omega))⟩
  . refine ⟨trivial, ⟨u1.fd, by decide, by decide, fun m G2 u2 m0 m1 => cOq (by omega) ?_⟩⟩
    refine e3q (fun i ds G' => ∃ ys : List Str, ds = ys.map D.str /\ ys.length = i /\ (∀ y ∈ ys, y.length = 1) /\ Fx a G G') ?_ ⟨[], rfl, rfl, by simp, u1.trans u2⟩ (fun _ _ _ _ _ => trivial) ?_ ?_
    . show (bHq 0 (m : Int).toNat).length < sizeLine
      rw [aRq]; exact d1q (by omega)
    . rintro i d ds G' hd ⟨ys, rfl, hyl, hy1, u⟩
      refine ⟨by decide +kernel, u.fd, by decide +kernel, by decide +kernel, fun k G4 u4 k0 k1 => ?_⟩
      obtain ⟨c, hc⟩ := dCq k0 k1
      refine ⟨by decide +kernel, c, hc, WkV.of ⟨ys ++ [⟨#[c]⟩], by simp, by simp [hyl], fun y hy => ?_, u.trans u4⟩⟩
      rcases List.mem_append.mp hy with hy | hy
      . exact hy1 y hy
      . simp at hy; subst hy; rfl
    . rintro ds G3 ⟨ys, rfl, hyl, hy1, u3⟩ p hp
      have hyl' : ys.length = (m : Int).toNat := by rw [hyl]; exact aRq
      have hsum := eAq hy1
      have hj := dAq ys
      exact bFq aJq ⟨ys, rfl, by decide +kernel, by omega, Dr.of (q _ _ ⟨G3, u3, Sub.new (Sub.refl _) hp⟩ (by omega))⟩
abbrev c5q : Stmt := top 21
theorem sc_law : FnScope ["_law_script", "_law_feed_here", "_law_number", "_law_text_here", "_law_letters", "_law_due", "_law_found", "_law_turn"] ["_law_script"] (a2q c5q) := ⟨rfl, rfl, rfl, by decide +kernel, rfl, by decide +kernel, by decide +kernel⟩
theorem mUq (B : Blt mg) (g_feed : Got P w K mg base 1 "_law_feed" ["_law_script", "_law_k"] (aPq K f6q)) (g_take : Got P w K mg base 1 "_law_take" ["_law_feed_here", "_law_many"] (aPq K cGq)) (g_text : Got P w K mg base 3 "_law_text" ["_law_feed_here"] (aPq K (c2q 50)))
    (g_nameof : Got P w K mg base 2 "name_of" ["number"] (aPq K e9q)) (g_isname : Got P w K mg base 2 "is_name" ["text"] (aPq K dSq)) (g_isfig : Got P w K mg base 3 "is_figures" ["text"] (aPq K gBq)) (g_ndue : Got P w K mg base 2 "_law_name_due" ["_law_text_here"] (aPq K dSq)) (g_fdue : Got P w K mg base 2 "_law_figures_due" ["_law_text_here"] (aPq K gBq)) (g_says : Got P w K mg base 1 "_law_says" ["_law_found", "_law_due"] (aPq K hKq))
    (F : Fun K "law" "law" c5q f fd) : FnOk P w K mg base CX0 20 f fd ["_law_script"] (f0q K) := by
  refine okD (k := 19) F sc_law (fun ds G DQ h => ?_) (fun cdv A outer s H E hr ds G DQ h => ?_)
  . obtain ⟨_, rfl, _⟩ := h; rfl
  obtain ⟨ns, rfl, hl, q⟩ := h
  refine ⟨_, (a6q (aCq (k := 1) sc_law.nd rfl (Or.inl rfl) (a7q g_feed hr (by omega) rfl (a0q (a1q 0) (a0q a4q a5q))))
      (a6q (aCq (k := 2) sc_law.nd rfl (Or.inl rfl) (a7q g_take hr (by omega) rfl (a0q (a1q 1) (a0q a4q a5q))))
      (a6q (aCq (k := 3) sc_law.nd rfl (Or.inl rfl) (a7q g_text hr (by omega) rfl (a0q (a1q 1) a5q)))
      (a6q (aCq (k := 4) sc_law.nd rfl (Or.inl rfl) a3q)
      (a6q (aCq (k := 5) sc_law.nd rfl (Or.inl rfl) (bKq aix (a1q 4) (aHq b5q (a1q 2) a4q) (fun _ _ => rfl)))
      (a6q (b9q (aWq fVq (a1q 2) a4q (aTq _)) (a8q (aCq (k := 5) sc_law.nd rfl (Or.inl rfl) (aHq aLq (bKq aix (a1q 4) (aHq e8q (aHq cMq (a1q 2) a4q) a4q) (fun _ _ => rfl)) (a1q 5)))) aQq)
      (a6q (aCq (k := 6) sc_law.nd rfl (Or.inl rfl) (a7q g_nameof hr (by omega) rfl (a0q (a1q 2) a5q)))
      (a6q (b9q (AW.at (kZq (cXq (b8q (aNq f3q rfl B.isinstance PyProof.Rows.boot_isinstance (a0q (a1q 6) (a0q (h8q rfl B.str PyProof.Rows.boot_str) a5q))))) (kZq (aWq (jGq (dGq hr)) (a1q 6) (a1q 5) (aTq _)) (jPq (cXq (b8q (a7q g_says hr (by omega) rfl (a0q (a7q g_isname hr (by omega) rfl (a0q (a1q 6) a5q)) (a0q cZq a5q))))))))) (a8q (aIq cZq)) aQq)
      (a6q (fYq PassesOwn.never rfl (bYq rfl B.range (a0q a4q a5q)) (bBq (k := 7) sc_law.nd rfl (Or.inl rfl)) (a6q (b9q (cXq (b8q (a7q g_says hr (by omega) rfl (a0q (a7q g_isname hr (by omega) rfl (a0q (a1q 3) a5q)) (a0q (a7q g_ndue hr (by omega) rfl (a0q (a1q 3) a5q)) a5q))))) (a8q (aIq cZq)) aQq)
      (a8q (b9q (cXq (b8q (a7q g_says hr (by omega) rfl (a0q (a7q g_isfig hr (by omega) rfl (a0q (a1q 3) a5q)) (a0q (a7q g_fdue hr (by omega) rfl (a0q (a1q 3) a5q)) a5q))))) (a8q (aIq cZq)) aQq))))
      (a8q (aIq (a7q g_says hr (by omega) rfl (a0q (a7q g_isfig hr (by omega) rfl (a0q (gZq hHq rfl B.str PyProof.Rows.boot_str (a0q (a1q 2) a5q)) a5q)) (a0q cZq a5q)))))))))))))), ?_⟩
  refine ⟨ns, rfl, hl, by decide, by decide, fun rf x0 y0 hrf => ⟨.up, by decide, by decide, fun d1 G1 u1 e0 e1 => ?_⟩⟩
  obtain ⟨n, rfl⟩ : ∃ n : Nat, d1 = n := ⟨d1.toNat, by omega⟩
  have hn : n < 100 := by omega
  have hll := e5q n
  refine ⟨rf, rfl, u1.fd, fun z G2 hG2 hz => ?_⟩
  refine ⟨(by decide : (0 : Int) < 26), by decide +kernel, 97 + n % 26, hQq hn, ⟨fun c => ?_, fun c => ?_⟩⟩
  . have h26 : 26 <= n := by have z1 := of_decide_eq_true c; omega
    refine ⟨(by decide : (0 : Int) < 26 /\ (26 : Int) < 2 ^ 64), by decide +kernel, 97 + (n / 26 - 1), g5q hn h26, b3q (show 1 + 1 <= 200000 by decide), ?_⟩
    rw [show (⟨#[97 + (n / 26 - 1)]⟩ : Str) ++ (⟨#[97 + n % 26]⟩ : Str) = a9q n by rw [a9q, if_neg (by omega)]; rfl]
    refine ⟨n, rfl, hn, ?_⟩
    refine ⟨true, rfl, ⟨fun c => lNq c, fun _ => ⟨fun c => ?_, fun _ => ⟨a9q n, rfl, by omega, true, by rw [cCq n hn], ?_⟩⟩⟩⟩
    . exact absurd c (by simp)
    refine Br.no rfl ?_
    refine cOq (by decide) ?_
    refine ⟨fun i ρ G' => ∃ o8 : Option D, ρ = [some (.frl (ns.map D.int)), some (.ref rf), some (.int n), some (.str z), some (.str letters), some (.str (a9q n)), some (.str (a9q n)), o8] /\ G2 = G', ⟨_, rfl, rfl⟩, fun _ _ _ _ _ => trivial, ?_, ?_⟩
    . rintro i d ρ G' hd ⟨o8, rfl, rfl⟩
      exact ⟨z, rfl, by omega, z, rfl, by omega, g1q z, rfl, Br.no rfl ⟨z, rfl, by omega, z, rfl, by omega, jMq z, rfl, Br.no rfl (Wk.of ⟨_, rfl, rfl⟩)⟩⟩
    . rintro ρ G' ⟨o8, rfl, rfl⟩
      obtain ⟨s1, s2⟩ := gIq n hn
      exact ⟨Nat.lt_of_le_of_lt (Nat.log2_le_self _) (by omega), _, rfl, by omega, true, by rw [s1], Dr.of (q _)⟩
  . have h26 : n < 26 := by have z1 := of_decide_eq_false c; omega
    rw [show (⟨#[97 + n % 26]⟩ : Str) = a9q n by rw [a9q, if_pos h26, Nat.mod_eq_of_lt h26]]
    refine ⟨n, rfl, hn, ?_⟩
    refine ⟨true, rfl, ⟨fun c => lNq c, fun _ => ⟨fun c => ?_, fun _ => ⟨a9q n, rfl, by omega, true, by rw [cCq n hn], ?_⟩⟩⟩⟩
    . exact absurd c (by simp)
    refine Br.no rfl ?_
    refine cOq (by decide) ?_
    refine ⟨fun i ρ G' => ∃ o8 : Option D, ρ = [some (.frl (ns.map D.int)), some (.ref rf), some (.int n), some (.str z), some (.str letters), some (.str (a9q n)), some (.str (a9q n)), o8] /\ G2 = G', ⟨_, rfl, rfl⟩, fun _ _ _ _ _ => trivial, ?_, ?_⟩
    . rintro i d ρ G' hd ⟨o8, rfl, rfl⟩
      exact ⟨z, rfl, by omega, z, rfl, by omega, g1q z, rfl, Br.no rfl ⟨z, rfl, by omega, z, rfl, by omega, jMq z, rfl, Br.no rfl (Wk.of ⟨_, rfl, rfl⟩)⟩⟩
    . rintro ρ G' ⟨o8, rfl, rfl⟩
      obtain ⟨s1, s2⟩ := gIq n hn
      exact ⟨Nat.lt_of_le_of_lt (Nat.log2_le_self _) (by omega), _, rfl, by omega, true, by rw [s1], Dr.of (q _)⟩
end
end KB
namespace KB
open PySem L2 L3
set_option maxHeartbeats 4000000
theorem o9q {l : PySem.W.OpenLaw} {w : World} {K : PySem.W.Frag} {h : Heap} {mg : Str -> Option Value} {fa f0 f1 f2 f3 f4 f5 f6 f7 f8 f9 f10 f11 f12 f13 f14 f15 f16  : Addr} (X : K.In h) (G : h.Ns mainGlobals mg) (hfa : mg "law" = some (.ref fa))
    {od0 an0 od1 an1 od2 an2 od3 an3 od4 an4 od5 an5 od6 an6 od7 an7 od8 an8 od9 an9 od10 an10 od11 an11 od12 an12 od13 an13 od14 an14 od15 an15 od16 an16 : Option Addr} {sl0 sl1 sl2 sl3 sl4 sl5 sl6 sl7 sl8 sl9 sl10 sl11 sl12 sl13 sl14 sl15 sl16 : Array (Option Value)} {oc0 kV0 dc0 pm0 ct0 cd0 oc1 kV1 dc1 pm1 ct1 cd1 oc2 kV2 dc2 pm2 ct2 cd2 oc3 kV3 dc3 pm3 ct3 cd3 oc4 kV4 dc4 pm4 ct4 cd4 oc5 kV5 dc5 pm5 ct5 cd5 oc6 kV6 dc6 pm6 ct6 cd6 oc7 kV7 dc7 pm7 ct7 cd7 oc8 kV8 dc8 pm8 ct8 cd8 oc9 kV9 dc9 pm9 ct9 cd9 oc10 kV10 dc10 pm10 ct10 cd10 oc11 kV11 dc11 pm11 ct11 cd11 oc12 kV12 dc12 pm12 ct12 cd12 oc13 kV13 dc13 pm13 ct13 cd13 oc14 kV14 dc14 pm14 ct14 cd14 oc15 kV15 dc15 pm15 ct15 cd15 oc16 kV16 dc16 pm16 ct16 cd16 : Value}
 (a0 : PySem.W.nsIn K mainGlobals "is_name" = some (some (.ref f0)))
 (l0 : K.lookup f0 = some ⟨oc0, od0, .func (PySem.W.fnOf "is_name" "is_name" (aEq aYq) (aBq aYq) (a2q aYq) .none kV0 dc0 pm0 an0 cd0 ct0), sl0⟩)
 (c0 : PySem.W.codeIn K cd0 "is_name" = true)
 (k0 : PySem.W.keepIn K (.ref f0) = true)
 (a1 : PySem.W.nsIn K mainGlobals "is_figures" = some (some (.ref f1)))
 (l1 : K.lookup f1 = some ⟨oc1, od1, .func (PySem.W.fnOf "is_figures" "is_figures" (aEq bDq) (aBq bDq) (a2q bDq) .none kV1 dc1 pm1 an1 cd1 ct1), sl1⟩)
 (c1 : PySem.W.codeIn K cd1 "is_figures" = true)
 (k1 : PySem.W.keepIn K (.ref f1) = true)
 (a2 : PySem.W.nsIn K mainGlobals "is_whole_text" = some (some (.ref f2)))
 (l2 : K.lookup f2 = some ⟨oc2, od2, .func (PySem.W.fnOf "is_whole_text" "is_whole_text" (aEq bQq) (aBq bQq) (a2q bQq) .none kV2 dc2 pm2 an2 cd2 ct2), sl2⟩)
 (c2 : PySem.W.codeIn K cd2 "is_whole_text" = true)
 (k2 : PySem.W.keepIn K (.ref f2) = true)
 (a3 : PySem.W.nsIn K mainGlobals "made_of" = some (some (.ref f3)))
 (l3 : K.lookup f3 = some ⟨oc3, od3, .func (PySem.W.fnOf "made_of" "made_of" (aEq aZq) (aBq aZq) (a2q aZq) .none kV3 dc3 pm3 an3 cd3 ct3), sl3⟩)
 (c3 : PySem.W.codeIn K cd3 "made_of" = true)
 (k3 : PySem.W.keepIn K (.ref f3) = true)
 (a4 : PySem.W.nsIn K mainGlobals "name_of" = some (some (.ref f4)))
 (l4 : K.lookup f4 = some ⟨oc4, od4, .func (PySem.W.fnOf "name_of" "name_of" (aEq b1q) (aBq b1q) (a2q b1q) .none kV4 dc4 pm4 an4 cd4 ct4), sl4⟩)
 (c4 : PySem.W.codeIn K cd4 "name_of" = true)
 (k4 : PySem.W.keepIn K (.ref f4) = true)
 (a5 : PySem.W.nsIn K mainGlobals "rank_of" = some (some (.ref f5)))
 (l5 : K.lookup f5 = some ⟨oc5, od5, .func (PySem.W.fnOf "rank_of" "rank_of" (aEq b0q) (aBq b0q) (a2q b0q) .none kV5 dc5 pm5 an5 cd5 ct5), sl5⟩)
 (c5 : PySem.W.codeIn K cd5 "rank_of" = true)
 (k5 : PySem.W.keepIn K (.ref f5) = true)
 (a6 : PySem.W.nsIn K mainGlobals "letters_of" = some (some (.ref f6)))
 (l6 : K.lookup f6 = some ⟨oc6, od6, .func (PySem.W.fnOf "letters_of" "letters_of" (aEq aMq) (aBq aMq) (a2q aMq) .none kV6 dc6 pm6 an6 cd6 ct6), sl6⟩)
 (c6 : PySem.W.codeIn K cd6 "letters_of" = true)
 (k6 : PySem.W.keepIn K (.ref f6) = true)
 (a7 : PySem.W.nsIn K mainGlobals "_law_feed" = some (some (.ref f7)))
 (l7 : K.lookup f7 = some ⟨oc7, od7, .func (PySem.W.fnOf "_law_feed" "_law_feed" (aEq bVq) (aBq bVq) (a2q bVq) .none kV7 dc7 pm7 an7 cd7 ct7), sl7⟩)
 (c7 : PySem.W.codeIn K cd7 "_law_feed" = true)
 (k7 : PySem.W.keepIn K (.ref f7) = true)
 (a8 : PySem.W.nsIn K mainGlobals "_law_take" = some (some (.ref f8)))
 (l8 : K.lookup f8 = some ⟨oc8, od8, .func (PySem.W.fnOf "_law_take" "_law_take" (aEq bRq) (aBq bRq) (a2q bRq) .none kV8 dc8 pm8 an8 cd8 ct8), sl8⟩)
 (c8 : PySem.W.codeIn K cd8 "_law_take" = true)
 (k8 : PySem.W.keepIn K (.ref f8) = true)
 (a9 : PySem.W.nsIn K mainGlobals "_law_key" = some (some (.ref f9)))
 (l9 : K.lookup f9 = some ⟨oc9, od9, .func (PySem.W.fnOf "_law_key" "_law_key" (aEq dDq) (aBq dDq) (a2q dDq) .none kV9 dc9 pm9 an9 cd9 ct9), sl9⟩)
 (c9 : PySem.W.codeIn K cd9 "_law_key" = true)
 (k9 : PySem.W.keepIn K (.ref f9) = true)
 (a10 : PySem.W.nsIn K mainGlobals "_law_odd" = some (some (.ref f10)))
 (l10 : K.lookup f10 = some ⟨oc10, od10, .func (PySem.W.fnOf "_law_odd" "_law_odd" (aEq d3q) (aBq d3q) (a2q d3q) .none kV10 dc10 pm10 an10 cd10 ct10), sl10⟩)
 (c10 : PySem.W.codeIn K cd10 "_law_odd" = true)
 (k10 : PySem.W.keepIn K (.ref f10) = true)
 (a11 : PySem.W.nsIn K mainGlobals "_law_text" = some (some (.ref f11)))
 (l11 : K.lookup f11 = some ⟨oc11, od11, .func (PySem.W.fnOf "_law_text" "_law_text" (aEq bUq) (aBq bUq) (a2q bUq) .none kV11 dc11 pm11 an11 cd11 ct11), sl11⟩)
 (c11 : PySem.W.codeIn K cd11 "_law_text" = true)
 (k11 : PySem.W.keepIn K (.ref f11) = true)
 (a12 : PySem.W.nsIn K mainGlobals "_law_all_in" = some (some (.ref f12)))
 (l12 : K.lookup f12 = some ⟨oc12, od12, .func (PySem.W.fnOf "_law_all_in" "_law_all_in" (aEq bCq) (aBq bCq) (a2q bCq) .none kV12 dc12 pm12 an12 cd12 ct12), sl12⟩)
 (c12 : PySem.W.codeIn K cd12 "_law_all_in" = true)
 (k12 : PySem.W.keepIn K (.ref f12) = true)
 (a13 : PySem.W.nsIn K mainGlobals "_law_name_due" = some (some (.ref f13)))
 (l13 : K.lookup f13 = some ⟨oc13, od13, .func (PySem.W.fnOf "_law_name_due" "_law_name_due" (aEq bWq) (aBq bWq) (a2q bWq) .none kV13 dc13 pm13 an13 cd13 ct13), sl13⟩)
 (c13 : PySem.W.codeIn K cd13 "_law_name_due" = true)
 (k13 : PySem.W.keepIn K (.ref f13) = true)
 (a14 : PySem.W.nsIn K mainGlobals "_law_figures_due" = some (some (.ref f14)))
 (l14 : K.lookup f14 = some ⟨oc14, od14, .func (PySem.W.fnOf "_law_figures_due" "_law_figures_due" (aEq bXq) (aBq bXq) (a2q bXq) .none kV14 dc14 pm14 an14 cd14 ct14), sl14⟩)
 (c14 : PySem.W.codeIn K cd14 "_law_figures_due" = true)
 (k14 : PySem.W.keepIn K (.ref f14) = true)
 (a15 : PySem.W.nsIn K mainGlobals "_law_says" = some (some (.ref f15)))
 (l15 : K.lookup f15 = some ⟨oc15, od15, .func (PySem.W.fnOf "_law_says" "_law_says" (aEq bSq) (aBq bSq) (a2q bSq) .none kV15 dc15 pm15 an15 cd15 ct15), sl15⟩)
 (c15 : PySem.W.codeIn K cd15 "_law_says" = true)
 (k15 : PySem.W.keepIn K (.ref f15) = true)
 (a16 : PySem.W.nsIn K mainGlobals "law" = some (some (.ref f16)))
 (l16 : K.lookup f16 = some ⟨oc16, od16, .func (PySem.W.fnOf "law" "law" (aEq c5q) (aBq c5q) (a2q c5q) .none kV16 dc16 pm16 an16 cd16 ct16), sl16⟩)
 (c16 : PySem.W.codeIn K cd16 "law" = true)
 (k16 : PySem.W.keepIn K (.ref f16) = true)
 (z0 : PySem.W.nsIn K mainGlobals "len" = some none)
 (z1 : PySem.W.nsIn K mainGlobals "isinstance" = some none)
 (z2 : PySem.W.nsIn K mainGlobals "range" = some none)
 (z3 : PySem.W.nsIn K mainGlobals "bool" = some none)
 (z4 : PySem.W.nsIn K mainGlobals "str" = some none)
 (z5 : PySem.W.nsIn K mainGlobals "all" = some none)
 (z6 : PySem.W.nsIn K mainGlobals "sorted" = some none)
    {aI : Addr} (aI0 : PySem.W.nsIn K mainGlobals "INNER_COUNTS" = some (some (.ref aI)))
    {eaI : Array DictEntry} {jaI : Nat} (aI1 : K.lookup aI = some ⟨.type "dict", none, .dict eaI jaI, #[]⟩)
    (aI2 : (aI == sysModules) = false)
 (aI3 : PySem.W.KeysLit w.params eaI.toList)
    (aI4 : Paired (fun (kv : Str × V) (e : DictEntry) => (∃ t1, e.key = .str kv.1 t1) /\ RelV kv.2 e.val) oCq eaI.toList)
    {tL : Tok} (gL : PySem.W.nsIn K mainGlobals "LETTERS" = some (some (.str letters tL)))
    {tF : Tok} (gF : PySem.W.nsIn K mainGlobals "FIGURES" = some (some (.str figs tF)))
    : ∃ fd : FuncData, (∀ (s : Shared) (v : Value), BindsTo s fd ⟨[v], []⟩ [("_law_script", v)]) /\ ∀ base : Heap, K.In base -> base.Ns mainGlobals mg -> FnOk l.prog w K mg base CX0 20 fa fd ["_law_script"] (f0q K) := by
  have e := hfa.symm.trans (PySem.W.mg_of X G a16)
  cases e
  have F_isname := aDq (st := aYq) l0 c0 k0
  have F_isfig := aDq (st := bDq) l1 c1 k1
  have F_iswt := aDq (st := bQq) l2 c2 k2
  have F_madeof := aDq (st := aZq) l3 c3 k3
  have F_nameof := aDq (st := b1q) l4 c4 k4
  have F_rankof := aDq (st := b0q) l5 c5 k5
  have F_lettersof := aDq (st := aMq) l6 c6 k6
  have F_feed := aDq (st := bVq) l7 c7 k7
  have F_take := aDq (st := bRq) l8 c8 k8
  have F_key := aDq (st := dDq) l9 c9 k9
  have F_odd := aDq (st := d3q) l10 c10 k10
  have F_text := aDq (st := bUq) l11 c11 k11
  have F_allin := aDq (st := bCq) l12 c12 k12
  have F_ndue := aDq (st := bWq) l13 c13 k13
  have F_fdue := aDq (st := bXq) l14 c14 k14
  have F_says := aDq (st := bSq) l15 c15 k15
  have F_law := aDq (st := c5q) l16 c16 k16
  have b_isname := (aDq (st := aYq) l0 c0 k0).binds (ps := cFq) fun _ _ _ _ _ _ us hl => match us, hl with | [_], _ => rfl
  have m_isname := PySem.W.mg_of X G a0
  have kp_isname := k0
  have b_isfig := (aDq (st := bDq) l1 c1 k1).binds (ps := d5q) fun _ _ _ _ _ _ us hl => match us, hl with | [_], _ => rfl
  have m_isfig := PySem.W.mg_of X G a1
  have kp_isfig := k1
  have b_iswt := (aDq (st := bQq) l2 c2 k2).binds (ps := dOq) fun _ _ _ _ _ _ us hl => match us, hl with | [_, _], _ => rfl
  have m_iswt := PySem.W.mg_of X G a2
  have kp_iswt := k2
  have b_madeof := (aDq (st := aZq) l3 c3 k3).binds (ps := cIq) fun _ _ _ _ _ _ us hl => match us, hl with | [_, _], _ => rfl
  have m_madeof := PySem.W.mg_of X G a3
  have kp_madeof := k3
  have b_nameof := (aDq (st := b1q) l4 c4 k4).binds (ps := cEq) fun _ _ _ _ _ _ us hl => match us, hl with | [_], _ => rfl
  have m_nameof := PySem.W.mg_of X G a4
  have kp_nameof := k4
  have b_rankof := (aDq (st := b0q) l5 c5 k5).binds (ps := cHq) fun _ _ _ _ _ _ us hl => match us, hl with | [_], _ => rfl
  have m_rankof := PySem.W.mg_of X G a5
  have kp_rankof := k5
  have b_lettersof := (aDq (st := aMq) l6 c6 k6).binds (ps := bJq) fun _ _ _ _ _ _ us hl => match us, hl with | [_], _ => rfl
  have m_lettersof := PySem.W.mg_of X G a6
  have kp_lettersof := k6
  have b_feed := (aDq (st := bVq) l7 c7 k7).binds (ps := dMq) fun _ _ _ _ _ _ us hl => match us, hl with | [_, _], _ => rfl
  have m_feed := PySem.W.mg_of X G a7
  have kp_feed := k7
  have b_take := (aDq (st := bRq) l8 c8 k8).binds (ps := dYq) fun _ _ _ _ _ _ us hl => match us, hl with | [_, _], _ => rfl
  have m_take := PySem.W.mg_of X G a8
  have kp_take := k8
  have b_key := (aDq (st := dDq) l9 c9 k9).binds (ps := eWq) fun _ _ _ _ _ _ us hl => match us, hl with | [_], _ => rfl
  have m_key := PySem.W.mg_of X G a9
  have kp_key := k9
  have b_odd := (aDq (st := d3q) l10 c10 k10).binds (ps := eHq) fun _ _ _ _ _ _ us hl => match us, hl with | [_], _ => rfl
  have m_odd := PySem.W.mg_of X G a10
  have kp_odd := k10
  have b_text := (aDq (st := bUq) l11 c11 k11).binds (ps := dTq) fun _ _ _ _ _ _ us hl => match us, hl with | [_], _ => rfl
  have m_text := PySem.W.mg_of X G a11
  have kp_text := k11
  have b_allin := (aDq (st := bCq) l12 c12 k12).binds (ps := d0q) fun _ _ _ _ _ _ us hl => match us, hl with | [_, _], _ => rfl
  have m_allin := PySem.W.mg_of X G a12
  have kp_allin := k12
  have b_ndue := (aDq (st := bWq) l13 c13 k13).binds (ps := dQq) fun _ _ _ _ _ _ us hl => match us, hl with | [_], _ => rfl
  have m_ndue := PySem.W.mg_of X G a13
  have kp_ndue := k13
  have b_fdue := (aDq (st := bXq) l14 c14 k14).binds (ps := dIq) fun _ _ _ _ _ _ us hl => match us, hl with | [_], _ => rfl
  have m_fdue := PySem.W.mg_of X G a14
  have kp_fdue := k14
  have b_says := (aDq (st := bSq) l15 c15 k15).binds (ps := dLq) fun _ _ _ _ _ _ us hl => match us, hl with | [_, _], _ => rfl
  have m_says := PySem.W.mg_of X G a15
  have kp_says := k15
  have B : Blt mg := ⟨PySem.W.mg_none_of X G z0, PySem.W.mg_none_of X G z1, PySem.W.mg_none_of X G z2, PySem.W.mg_none_of X G z3, PySem.W.mg_none_of X G z4, PySem.W.mg_none_of X G z5, PySem.W.mg_none_of X G z6⟩
  refine ⟨PySem.W.fnOf "law" "law" (aEq c5q) (aBq c5q) (a2q c5q) .none kV16 dc16 pm16 an16 cd16 ct16, fun s v => .of_eq rfl, fun base _ _  => ?_⟩
  have m_INNER_COUNTS := PySem.W.mg_of X G aI0
  have m_LETTERS := PySem.W.mg_of X G gL
  have m_FIGURES := PySem.W.mg_of X G gF
  have T_INNER_COUNTS : KTabD K w aI lMq := l7q aI1 aI2 aI3 aI4 lCq rRq
  have KK_INNER_COUNTS : KKeys K w aI words7 := iFq aI1 aI2 aI3 aI4 rfl (by decide +kernel)
  have g_madeof : Got l.prog w K mg base 1 "made_of" cIq (aPq K b4q) := ⟨f3, _, gWq B F_madeof, m_madeof, kp_madeof, b_madeof⟩
  have g_isname : Got l.prog w K mg base 2 "is_name" cFq (aPq K dSq) := ⟨f0, _, gRq B m_LETTERS m_INNER_COUNTS T_INNER_COUNTS g_madeof F_isname, m_isname, kp_isname, b_isname⟩
  have g_iswt : Got l.prog w K mg base 2 "is_whole_text" dOq (aPq K eFq) := ⟨f2, _, l0q B m_FIGURES g_madeof F_iswt, m_iswt, kp_iswt, b_iswt⟩
  have g_isfig : Got l.prog w K mg base 3 "is_figures" d5q (aPq K gBq) := ⟨f1, _, iRq g_iswt F_isfig, m_isfig, kp_isfig, b_isfig⟩
  have g_rankof : Got l.prog w K mg base 1 "rank_of" cHq (aPq K hWq) := ⟨f5, _, gKq m_LETTERS F_rankof, m_rankof, kp_rankof, b_rankof⟩
  have g_lettersof : Got l.prog w K mg base 1 "letters_of" bJq (aPq K cWq) := ⟨f6, _, eQq m_LETTERS F_lettersof, m_lettersof, kp_lettersof, b_lettersof⟩
  have g_nameof : Got l.prog w K mg base 2 "name_of" cEq (aPq K e9q) := ⟨f4, _, hZq B m_INNER_COUNTS KK_INNER_COUNTS g_rankof g_lettersof F_nameof, m_nameof, kp_nameof, b_nameof⟩
  have g_feed : Got l.prog w K mg base 1 "_law_feed" dMq (aPq K f6q) := ⟨f7, _, kNq B F_feed, m_feed, kp_feed, b_feed⟩
  have g_take : Got l.prog w K mg base 1 "_law_take" dYq (aPq K cGq) := ⟨f8, _, l8q F_take, m_take, kp_take, b_take⟩
  have g_key : Got l.prog w K mg base 2 "_law_key" eWq (aPq K (c2q 20)) := ⟨f9, _, nGq g_take F_key, m_key, kp_key, b_key⟩
  have g_odd : Got l.prog w K mg base 2 "_law_odd" eHq (aPq K (c2q 20)) := ⟨f10, _, m8q B g_take F_odd, m_odd, kp_odd, b_odd⟩
  have g_text : Got l.prog w K mg base 3 "_law_text" dTq (aPq K (c2q 50)) := ⟨f11, _, jVq B g_take g_key g_odd F_text, m_text, kp_text, b_text⟩
  have g_allin : Got l.prog w K mg base 1 "_law_all_in" d0q (aPq K b4q) := ⟨f12, _, j3q F_allin, m_allin, kp_allin, b_allin⟩
  have g_ndue : Got l.prog w K mg base 2 "_law_name_due" dQq (aPq K dSq) := ⟨f13, _, lHq B g_allin F_ndue, m_ndue, kp_ndue, b_ndue⟩
  have g_fdue : Got l.prog w K mg base 2 "_law_figures_due" dIq (aPq K gBq) := ⟨f14, _, kJq B g_allin F_fdue, m_fdue, kp_fdue, b_fdue⟩
  have g_says : Got l.prog w K mg base 1 "_law_says" dLq (aPq K hKq) := ⟨f15, _, kAq B F_says, m_says, kp_says, b_says⟩
  exact mUq B g_feed g_take g_text g_nameof g_isname g_isfig g_ndue g_fdue g_says F_law
theorem r7q {l : PySem.W.OpenLaw} {q : Program} {loose : List Str} {XP : (Str -> Option Value) -> Heap -> Prop} {YP : World -> Heap -> Prop} {d : DefRec} {K : Params -> PySem.W.Frag} (hn : l.most = some 63) (hdf : d.params.defaults = [])
    (hY : ∀ (w : World) (h : Heap), YP w h -> (K w.params).In h)
    (F : ∀ (w : World) (mg : Str -> Option Value) (fa : Addr) (h : Heap), (K w.params).In h -> h.Ns mainGlobals mg -> mg d.name = some (.ref fa) →
      ∃ fd : FuncData, (∀ (s : Shared) (u : Value), BindsTo s fd ⟨[u], []⟩ [("_law_script", u)]) /\ ∀ base : Heap, (K w.params).In base -> base.Ns mainGlobals mg -> FnOk l.prog w (K w.params) mg base CX0 20 fa fd ["_law_script"] (f0q (K w.params))) :
    PySem.W.WalkO q loose XP YP l.row.toRowW d [] (fun f vs => PySem.call f vs) :=
  L2.kXq (n := 63) (k := 20) (x := "_law_script") (CX := fun _ => CX0) (sp := fun w => f0q (K w.params)) hn (by decide) hdf ⟨rfl, by decide, by decide⟩ hY F (fun _ _ a ns hl o hS => o1q hl o hS) fun _ _ _ _ _ z => z
end KB
def PySem.W.Fast.tw6342778036884375789:=0
def PySem.W.Fast.tw4698168575328500171:=0
def PySem.W.Fast.tw6032858944426362984:=0
def PySem.W.Fast.tw15563527484219987249:=0
def PySem.W.Fast.tw18446346448054036851:=0
def PySem.W.Fast.tw12427763681125964439:=0
def PySem.W.Fast.tw5301264408435334316:=0
def PySem.W.Fast.tw15065538448228374159:=0
def PySem.W.Fast.tw17675980978772850246:=0
def PySem.W.Fast.tw14591708175283032771:=0
def PySem.W.Fast.tw10395662673066276602:=0
def PySem.W.Fast.tw4943678907200101300:=0
def PySem.W.Fast.tw15300693983183178664:=0
def PySem.W.Fast.tw11293482933618918429:=0
def PySem.W.Fast.tw4317047046459451745:=0
def PySem.W.Fast.tw18383475803201337969:=0
def PySem.W.Fast.tw6270852142655079096:=0
def PySem.W.Fast.tw5384473022966699792:=0
def PySem.W.Fast.tw12255361055794908117:=0
def PySem.W.Fast.tw3480097560989530334:=0
def PySem.W.Fast.tw9163275253966339450:=0
def PySem.W.Fast.tw13394198717648621366:=0
def PySem.W.Fast.tw8991260369672607357:=0
def PySem.W.Fast.tw15901530037043597103:=0
def PySem.W.Fast.tw1122013908298077827:=0
def PySem.W.Fast.tw7313092533653309897:=0
def PySem.W.Fast.tw480391070704841689:=0
def PySem.W.Fast.tw1760903774822061393:=0
def PySem.W.Fast.tw2208372314551371829:=0
def PySem.W.Fast.tw5855686333046789486:=0
def PySem.W.Fast.tw12896194397907876484:=0
def PySem.W.Fast.tw17612085628719566011:=0
def PySem.W.Fast.tw6764793429939146093:=0
def PySem.W.Fast.tw12024828437463644422:=0
def PySem.W.Fast.tw12690507031627603760:=0
def PySem.W.Fast.tw18150768283739785542:=0
def PySem.W.Fast.tw7934195940962563392:=0
def PySem.W.Fast.tw17934003758395288025:=0
def PySem.W.Fast.tw15998122921032077162:=0
def PySem.W.Fast.tw12044808471267515984:=0
open PySem PySem.W PyProof.Rows
set_option maxRecDepth 100000 in
set_option maxHeartbeats 0 in
theorem PySem.Challenge.cw_kindbags_k11_names_and_wholes_holds : PySem.Challenge.rw_kindbags_k11_names_and_wholes.Holds := by
  w_on; o_law; k_head; (case hw => w_witness2)
  k_fill
  refine KB.r7q (l := PySem.Challenge.rw_kindbags_k11_names_and_wholes) rfl rfl (fun w h Y => PySem.W.kIn_of Y) ?F
  case F =>
    intro w mg fa h KX G hmg
    refine' KB.o9q KX G hmg ?a0 ?l0 ?c0 ?k0 ?a1 ?l1 ?c1 ?k1 ?a2 ?l2 ?c2 ?k2 ?a3 ?l3 ?c3 ?k3 ?a4 ?l4 ?c4 ?k4 ?a5 ?l5 ?c5 ?k5 ?a6 ?l6 ?c6 ?k6 ?a7 ?l7 ?c7 ?k7 ?a8 ?l8 ?c8 ?k8 ?a9 ?l9 ?c9 ?k9 ?a10 ?l10 ?c10 ?k10 ?a11 ?l11 ?c11 ?k11 ?a12 ?l12 ?c12 ?k12 ?a13 ?l13 ?c13 ?k13 ?a14 ?l14 ?c14 ?k14 ?a15 ?l15 ?c15 ?k15 ?a16 ?l16 ?c16 ?k16 ?z0 ?z1 ?z2 ?z3 ?z4 ?z5 ?z6 ?aI0 ?aI1 ?aI2 ?aI3 ?aI4 ?gL ?gF
    (case a0 => k_is)
    (case l0 => k_is)
    (case c0 => k_is)
    (case k0 => k_is)
    (case a1 => k_is)
    (case l1 => k_is)
    (case c1 => k_is)
    (case k1 => k_is)
    (case a2 => k_is)
    (case l2 => k_is)
    (case c2 => k_is)
    (case k2 => k_is)
    (case a3 => k_is)
    (case l3 => k_is)
    (case c3 => k_is)
    (case k3 => k_is)
    (case a4 => k_is)
    (case l4 => k_is)
    (case c4 => k_is)
    (case k4 => k_is)
    (case a5 => k_is)
    (case l5 => k_is)
    (case c5 => k_is)
    (case k5 => k_is)
    (case a6 => k_is)
    (case l6 => k_is)
    (case c6 => k_is)
    (case k6 => k_is)
    (case a7 => k_is)
    (case l7 => k_is)
    (case c7 => k_is)
    (case k7 => k_is)
    (case a8 => k_is)
    (case l8 => k_is)
    (case c8 => k_is)
    (case k8 => k_is)
    (case a9 => k_is)
    (case l9 => k_is)
    (case c9 => k_is)
    (case k9 => k_is)
    (case a10 => k_is)
    (case l10 => k_is)
    (case c10 => k_is)
    (case k10 => k_is)
    (case a11 => k_is)
    (case l11 => k_is)
    (case c11 => k_is)
    (case k11 => k_is)
    (case a12 => k_is)
    (case l12 => k_is)
    (case c12 => k_is)
    (case k12 => k_is)
    (case a13 => k_is)
    (case l13 => k_is)
    (case c13 => k_is)
    (case k13 => k_is)
    (case a14 => k_is)
    (case l14 => k_is)
    (case c14 => k_is)
    (case k14 => k_is)
    (case a15 => k_is)
    (case l15 => k_is)
    (case c15 => k_is)
    (case k15 => k_is)
    (case a16 => k_is)
    (case l16 => k_is)
    (case c16 => k_is)
    (case k16 => k_is)
    (case z0 => k_is)
    (case z1 => k_is)
    (case z2 => k_is)
    (case z3 => k_is)
    (case z4 => k_is)
    (case z5 => k_is)
    (case z6 => k_is)
    (case aI0 => k_is)
    (case aI1 => k_is)
    (case aI2 => rfl)
    (case aI3 => exact ⟨⟨_, _, rfl, rfl⟩, ⟨_, _, rfl, rfl⟩, ⟨_, _, rfl, rfl⟩, ⟨_, _, rfl, rfl⟩, ⟨_, _, rfl, rfl⟩, ⟨_, _, rfl, rfl⟩, ⟨_, _, rfl, rfl⟩, trivial⟩)
    (case aI4 => exact .cons ⟨⟨_, rfl⟩, ⟨_, rfl⟩⟩ (.cons ⟨⟨_, rfl⟩, ⟨_, rfl⟩⟩ (.cons ⟨⟨_, rfl⟩, ⟨_, rfl⟩⟩ (.cons ⟨⟨_, rfl⟩, ⟨_, rfl⟩⟩ (.cons ⟨⟨_, rfl⟩, ⟨_, rfl⟩⟩ (.cons ⟨⟨_, rfl⟩, ⟨_, rfl⟩⟩ (.cons ⟨⟨_, rfl⟩, ⟨_, rfl⟩⟩ (.nil))))))))
    (case gL => k_is)
    (case gF => k_is)
