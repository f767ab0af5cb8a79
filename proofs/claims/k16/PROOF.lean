import PyProof.Rows.All
import Wide.All
import OpenK.AllK
import Wide.FinOn
import Lean
import PyProof.EqAt
import PyProof.EqKinds
import PyProof.TupleCall
import PySem.Challenge.RW_kindbags_k16_rules_at_their_places
set_option Elab.async false
set_option linter.all false
set_option maxRecDepth 100000
namespace L2
open PySem PySem.Spec PyProof.Rows
abbrev Key:=Sum Int Str
def lRq:Key->Value->Bool
  | .inl k,v=>Value.isInt k v
  | .inr x,v=>Value.isStrOf x v
def keyH (w:World):Key->Int
  | .inl k=>hashInt k
  | .inr x=>hashStr w x
theorem b7q:∀ {k:Key} {v:Value},lRq k v=true->(∃ i t,k=Sum.inl i/\v=Value.int i t)\/(∃ x t,k=Sum.inr x/\v=Value.str x t)
  | .inl i,v,h=>by
    obtain ⟨t,e⟩:=Value.isInt_shape (k:=i) (v:=v) h
    exact .inl ⟨i,t,rfl,e⟩
  | .inr x,v,h=>by
    obtain ⟨t,e⟩:=Value.isStrOf_shape (x:=x) (v:=v) h
    exact .inr ⟨x,t,rfl,e⟩
theorem oMq (i:Int) (t:Tok):lRq (.inl i) (.int i t)=true:=by simp [lRq,Value.isInt]
theorem nOq (x:Str) (t:Tok):lRq (.inr x) (.str x t)=true:=by simp [lRq,Value.isStrOf]
theorem wJq (a b:Int):decide ((Sum.inl a:Key)=Sum.inl b)=(a==b):=by
  by_cases e:a=b
  . subst e;simp
  . have h:¬ (Sum.inl a:Key)=Sum.inl b:=λ q=>e (Sum.inl.inj q)
    rw [decide_eq_false h]
    exact (beq_eq_false_iff_ne.mpr e).symm
theorem xRq (a b:Str):decide ((Sum.inr a:Key)=Sum.inr b)=decide (a=b):=by
  by_cases e:a=b
  . subst e;simp
  . have h:¬ (Sum.inr a:Key)=Sum.inr b:=λ q=>e (Sum.inr.inj q)
    rw [decide_eq_false h,decide_eq_false e]
theorem wQq (a:Int) (b:Str):decide ((Sum.inl a:Key)=Sum.inr b)=false:=decide_eq_false (λ q=>nomatch q)
theorem v2q (a:Str) (b:Int):decide ((Sum.inr a:Key)=Sum.inl b)=false:=decide_eq_false (λ q=>nomatch q)
def bBq (prog:Program) (w:World):PySem.KeyKind prog w Key where
  is:=lRq
  hash:=keyH w
  inj:=λ v a b ha hb=>by
    rcases b7q ha with ⟨i,t,rfl,rfl⟩ | ⟨x,t,rfl,rfl⟩
    . rcases b7q hb with ⟨j,u,rfl,e⟩ | ⟨y,u,rfl,e⟩
      . injection e with e1 _;rw [e1]
      . exact nomatch e
    . rcases b7q hb with ⟨j,u,rfl,e⟩ | ⟨y,u,rfl,e⟩
      . exact nomatch e
      . injection e with e1 _;rw [e1]
  byValue:=λ k v h=>by
    rcases b7q h with ⟨i,t,rfl,rfl⟩ | ⟨x,t,rfl,rfl⟩<;>rfl
  pyHash:=λ hv h=>by
    rcases b7q hv with ⟨i,t,rfl,rfl⟩ | ⟨x,t,rfl,rfl⟩
    . exact wpAny_pyHash_int h
    . exact wpAny_pyHash_str h
  eqBool:=λ hu hv h=>by
    rcases b7q hu with ⟨i,t,rfl,rfl⟩ | ⟨x,t,rfl,rfl⟩
    . rcases b7q hv with ⟨j,u,rfl,rfl⟩ | ⟨y,u,rfl,rfl⟩
      . rw [wJq] at h;exact wpAny_eqBool_int h
      . rw [wQq] at h;exact SeqAt.EqAt.int_str i t y u _ _ _ _ h
    . rcases b7q hv with ⟨j,u,rfl,rfl⟩ | ⟨y,u,rfl,rfl⟩
      . rw [v2q] at h;exact SeqAt.EqAt.str_int x t j u _ _ _ _ h
      . rw [xRq] at h;exact wpAny_eqBool_str h
  «strs»:=λ k x t v h=>by
    rcases b7q h with ⟨i,u,rfl,e⟩ | ⟨y,u,rfl,e⟩
    . exact nomatch e
    . injection e with e1 _
      subst e1
      cases v<;>rfl
theorem jNq (prog:Program) (w:World) (i:Int) (t:Tok):(bBq prog w).is (.inl i) (.int i t)=true:=oMq i t
theorem jQq (prog:Program) (w:World) (x:Str) (t:Tok):(bBq prog w).is (.inr x) (.str x t)=true:=nOq x t
inductive V where
  | non | bl (b:Bool) | int (i:Int) | str (x:Str) | byt (b:Array UInt8) | flt (b:UInt64) | ref (a:Addr) | ty (n:String)
  deriving DecidableEq
def RelV:V->Value->Prop
  | .non,u=>u=Value.none
  | .bl b,u=>u=Value.bool b
  | .int i,u=>∃ t,u=Value.int i t
  | .str x,u=>∃ t,u=Value.str x t
  | .byt b,u=>∃ t,u=Value.bytes b t
  | .flt b,u=>∃ t,u=Value.float b t
  | .ref a,u=>u=Value.ref a
  | .ty n,u=>u=Value.type n
abbrev Vals:List V->List Value->Prop:=Paired RelV
theorem Vals.length {xs:List V} {us:List Value} (r:Vals xs us):xs.length=us.length:=Paired.length r
theorem Vals.get:∀ {xs:List V} {us:List Value} {i:Nat} {x:V},Vals xs us->xs[i]?=some x->∃ u,us[i]?=some u/\RelV x u
  | _,_,_,_,.nil,e=>by simp at e
  | _,_,0,_,.cons r _,e=>by simp at e;subst e;exact ⟨_,rfl,r⟩
  | _,_,i+1,x,.cons _ t,e=>by
    obtain ⟨u,h1,h2⟩:=Vals.get (i:=i) (x:=x) t (by simpa using e)
    exact ⟨u,by simpa using h1,h2⟩
theorem Vals.set {x:V} {u:Value} (r:RelV x u):∀ {xs:List V} {us:List Value} (i:Nat),Vals xs us->Vals (xs.set i x) (us.set i u)
  | _,_,_,.nil=>.nil
  | _,_,0,.cons _ t=>.cons r t
  | _,_,i+1,.cons q t=>.cons q (Vals.set r i t)
theorem Vals.append:∀ {xs ys:List V} {us ws:List Value},Vals xs us->Vals ys ws->Vals (xs++ys) (us++ws)
  | _,_,_,_,.nil,s=>s
  | _,_,_,_,.cons r t,s=>.cons r (Vals.append t s)
theorem Vals.take:∀ {xs:List V} {us:List Value} (n:Nat),Vals xs us->Vals (xs.take n) (us.take n)
  | _,_,0,_=>.nil
  | _,_,_+1,.nil=>.nil
  | _,_,n+1,.cons r t=>.cons r (Vals.take n t)
theorem Vals.drop:∀ {xs:List V} {us:List Value} (n:Nat),Vals xs us->Vals (xs.drop n) (us.drop n)
  | _,_,0,r=>r
  | _,_,_+1,.nil=>.nil
  | _,_,n+1,.cons _ t=>Vals.drop n t
def RelO:Option V->Option Value->Prop
  | some v,some u=>RelV v u
  | none,none=>True
  | _,_=>False
def KV {κ:Type}:List (κ × V)->List (κ × Value)->Prop:=Paired λ(p:κ × V) (q:κ × Value)=>p.1=q.1/\RelV p.2 q.2
def kV:Key->V
  | .inl i=>.int i
  | .inr x=>.str x
inductive HO where
  | lst (xs:List V)
  | tup (xs:List V)
  | dK (kvs:List (Key × V)) | dT (kvs:List (List Key × V))
  | set (S:Int->Bool) (n:Nat)
  | ins (C dx:Addr) (fs:List (Str × V))
  | own (x:Addr)
  | xd (fs:List (Str × V))
  | met (f x:Addr)
  | rng (lo hi:Int)
  | frz (o:Obj) (u:HO)
  | tbl (ps:Array Value)
  | ext (φ:Heap->Prop)
abbrev Hp:=Addr->Option HO
def upd (H:Hp) (a:Addr) (o:HO):Hp:=λ b=>if b=a then some o else H b
theorem aNq {H:Hp} {a:Addr} {o:HO}:upd H a o a=some o:=by unfold upd;rw [if_pos rfl]
theorem aEq {H:Hp} {a b:Addr} {o:HO} (h:b≠a):upd H a o b=H b:=by unfold upd;rw [if_neg h]
theorem zPq {H:Hp} {a b:Addr} {o u:HO} (h:H a=some o) (h':H b=some u) (d:o≠u):a≠b:=by
  intro e;subst e;rw [h] at h';exact d (Option.some.inj h')
theorem aTq {H:Hp} {a b:Addr} {o:HO} (h:H a=some o) (h':H b=none):a≠b:=by
  intro e;subst e;rw [h] at h';cases h'
section
variable (P:Program) (w:World)
def ObjOk (H:Hp) (h:Heap) (a:Addr):HO->Prop
  | .lst xs=>xs.length<=sizeLine/\∃ (its:List Value) (n:Nat),Vals xs its/\h.get? a=some { cls:=.type "list", data:=.seq its.toArray n }
  | .tup xs=>xs.length<=sizeLine/\∃ its:List Value,Vals xs its/\IsTup h a its.toArray
  | .dK kvs=>kvs.length<=sizeLine/\(a==sysModules)=false/\∃ vs,KV kvs vs/\h.DictOf (bBq P w) a vs
  | .dT kvs=>kvs.length<=sizeLine/\(a==sysModules)=false/\∃ xs:List (List Key × Addr × Value),
      Paired (λ(p:List Key × V) (q:List Key × Addr × Value)=>p.1=q.1/\H q.2.1=some (.tup (p.1.map kV))/\RelV p.2 q.2.2) kvs xs ∧
      ∃ o es ep,h.get? a=some o/\o.ExactDict/\o.data=.dict es ep/\es.toList=xs.map (entryOfKey (tupleKind (bBq P w)))/\(xs.map (·.1)).Nodup
  | .set S n=>h.SetOf (intKind P w) a S n
  | .ins C dx fs=>H dx=some (.own a)/\fs.length<=1000/\dx≠a/\h.get? a=some (PySem.W.instObj C dx) ∧
      ∃ mA,h.Ns1 dx mA/\(∀ f,RelO (fs.lookup f) (mA f))/\PySem.Within mA (fs.map (·.1))
  | .own _=>∃ o,h.get? a=some o
  | .xd fs=>∃ mA,h.Ns1 a mA/\∀ f,RelO (fs.lookup f) (mA f)
  | .rng lo hi=>∃ t u v,h.get? a=some { cls:=.type "range", data:=.fields #[.int lo t,.int hi u,.int 1 v] }
  | .frz o u=>h.get? a=some o/\ObjOk H h a u
  | .tbl ps=>h.get? a=some { cls:=.none,data:=.fields ps }
  | .met f x=>h.get? a=some (PySem.W.methodObj (.ref f) (.ref x))
  | .ext φ=>φ h/\(∃ o,h.get? a=some o)/\∀ h1 h2:Heap,φ h1->(∀ o,h1.get? a=some o->h2.get? a=some o)->φ h2
def HOk (H:Hp) (h:Heap):Prop:=∀ a o,H a=some o->ObjOk P w H h a o
end
section
variable {P:Program} {w:World} {H H':Hp} {h h':Heap} {a:Addr} {o:HO}
theorem ObjOk.lt (x:ObjOk P w H h a o):a < h.objs.size:=by
  cases o with
  | lst xs=>obtain ⟨_,_,_,_,e⟩:=x;exact Heap.lt_size e
  | tup xs=>obtain ⟨_,_,_,p⟩:=x;exact p.lt
  | dK kvs=>obtain ⟨_,_,_,_,o,_,_,e,_⟩:=x;exact Heap.lt_size e
  | dT kvs=>obtain ⟨_,_,_,_,o,_,_,e,_⟩:=x;exact Heap.lt_size e
  | set S n=>obtain ⟨o,_,_,_,e,_⟩:=x;exact Heap.lt_size e
  | ins C dx fs=>obtain ⟨_,_,_,e,_⟩:=x;exact Heap.lt_size e
  | own y=>obtain ⟨_,e⟩:=x;exact Heap.lt_size e
  | xd fs=>obtain ⟨_,⟨_,_,_,e,_⟩,_⟩:=x;exact Heap.lt_size e
  | rng lo hi=>obtain ⟨_,_,_,e⟩:=x;exact Heap.lt_size e
  | frz ob u=>obtain ⟨e,_⟩:=x;exact Heap.lt_size e
  | tbl ps=>exact Heap.lt_size (show h.get? a=some _ from x)
  | met f y=>exact Heap.lt_size (show h.get? a=some _ from x)
  | ext φ=>obtain ⟨_,⟨_,e⟩,_⟩:=x;exact Heap.lt_size e
theorem Paired.mapP {α β:Type} {F G:α->β->Prop}:∀ {l₁:List α} {l₂:List β},Paired F l₁ l₂->(∀ a b,F a b->G a b)->Paired G l₁ l₂
  | _,_,.nil,_=>.nil
  | _,_,.cons r t,f=>.cons (f _ _ r) (Paired.mapP t f)
theorem ObjOk.stay (x:ObjOk P w H h a o) (k:∀ b u,(b=a\/H b=some (.own a))->h.get? b=some u->h'.get? b=some u)
    (ho:∀ b,H b=some (.own a)->H' b=some (.own a)) (ht:∀ b xs,H b=some (.tup xs)->H' b=some (.tup xs)):ObjOk P w H' h' a o:=by
  induction o with
  | lst xs=>obtain ⟨z,its,n,r,e⟩:=x;exact ⟨z,its,n,r,k _ _ (.inl rfl) e⟩
  | tup xs=>obtain ⟨z,its,r,ob,e,c⟩:=x;exact ⟨z,its,r,ob,k _ _ (.inl rfl) e,c⟩
  | dK kvs=>obtain ⟨z,y,vs,r,ob,es,ep,e,c⟩:=x;exact ⟨z,y,vs,r,ob,es,ep,k _ _ (.inl rfl) e,c⟩
  | dT kvs=>
    obtain ⟨z,y,xs,r,ob,es,ep,e,c⟩:=x
    exact ⟨z,y,xs,Paired.mapP r λ p q z=>⟨z.1,ht _ _ z.2.1,z.2.2⟩,ob,es,ep,k _ _ (.inl rfl) e,c⟩
  | set S n=>obtain ⟨ob,es,ep,t,e,c⟩:=x;exact ⟨ob,es,ep,t,k _ _ (.inl rfl) e,c⟩
  | ins C dx fs=>
    obtain ⟨d,z,ne,e,mA,⟨od,es,ep,e2,c⟩,r⟩:=x
    exact ⟨ho _ d,z,ne,k _ _ (.inl rfl) e,mA,⟨od,es,ep,k _ _ (.inr d) e2,c⟩,r⟩
  | own y=>obtain ⟨ob,e⟩:=x;exact ⟨ob,k _ _ (.inl rfl) e⟩
  | xd fs=>obtain ⟨mA,⟨od,es,ep,e,c⟩,r⟩:=x;exact ⟨mA,⟨od,es,ep,k _ _ (.inl rfl) e,c⟩,r⟩
  | rng lo hi=>obtain ⟨t,u,v,e⟩:=x;exact ⟨t,u,v,k _ _ (.inl rfl) e⟩
  | frz ob u ih=>obtain ⟨e,q⟩:=x;exact ⟨k _ _ (.inl rfl) e,ih q⟩
  | tbl ps=>
    have e:h.get? a=some { cls:=.none,data:=.fields ps }:=x
    show h'.get? a=some { cls:=.none,data:=.fields ps }
    exact k a _ (.inl rfl) e
  | met f y=>
    have e:h.get? a=some (PySem.W.methodObj (.ref f) (.ref y)):=x
    show h'.get? a=some (PySem.W.methodObj (.ref f) (.ref y))
    exact k a _ (.inl rfl) e
  | ext φ=>obtain ⟨p,⟨o,e⟩,st⟩:=x;exact ⟨st _ _ p λ o q=>k _ _ (.inl rfl) q,⟨o,k _ _ (.inl rfl) e⟩,st⟩
theorem HOk.lt (x:HOk P w H h) (e:H a=some o):a < h.objs.size:=(x a o e).lt
theorem HOk.fresh (x:HOk P w H h) (e:h.objs.size<=a):H a=none:=by
  cases q:H a with
  | none=>rfl
  | some u=>exact absurd (Nat.lt_of_lt_of_le (x.lt q) e) (Nat.lt_irrefl _)
theorem HOk.kept (x:HOk P w H h) (k:∀ b u,h.get? b=some u->h'.get? b=some u):HOk P w H h':=λ a o e=>
  (x a o e).stay (λ b u _ q=>k b u q) (λ _ q=>q) λ _ _ q=>q
theorem HOk.laid (x:HOk P w H h) (k:∀ b u,h.get? b=some u->h'.get? b=some u) (hp:h.objs.size<=a) (new:ObjOk P w (upd H a o) h' a o):HOk P w (upd H a o) h':=λ b u e=>by
  have hn:=x.fresh hp
  by_cases hb:b=a
  . subst hb;rw [aNq] at e;cases e;exact new
  . rw [aEq hb] at e
    exact (x b u e).stay (λ c v _ q=>k c v q) (λ c q=>by rw [aEq (aTq q hn)];exact q) λ c xs q=>by rw [aEq (aTq q hn)];exact q
end
def Rd (H:Hp) (a:Addr) (u:HO):Prop:=H a=some u\/∃ o,H a=some (.frz o u)
theorem Rd.ok {P:Program} {w:World} {H:Hp} {h:Heap} {a:Addr} {u:HO} (r:Rd H a u) (x:HOk P w H h):ObjOk P w H h a u:=by
  rcases r with r | ⟨o,r⟩
  . exact x a u r
  . obtain ⟨_,q⟩:=x a _ r
    exact q
def Mut:Option HO->Prop
  | some (.lst _)=>True
  | some (.dK _)=>True
  | some (.dT _)=>True
  | some (.set _ _)=>True
  | some (.ins _ _ _)=>True
  | some (.ext _)=>True
  | _=>False
section
variable {P:Program} {w:World} {H:Hp} {h h':Heap} {x e:Addr} {o':HO}
theorem HOk.write (ok:HOk P w H h) (mu:Mut (H x)) (he:e=x\/H e=some (.own x)) (k:∀ b u,b≠e->h.get? b=some u->h'.get? b=some u) (heo:∃ u,h'.get? e=some u)
    (new:ObjOk P w (upd H x o') h' x o'):HOk P w (upd H x o') h':=λ b u q=>by
  have nown:∀ c y,H c=some (.own y)->c≠x:=λ c y r z=>by subst z;rw [r] at mu;exact mu
  have ntup:∀ c xs,H c=some (.tup xs)->c≠x:=λ c xs r z=>by subst z;rw [r] at mu;exact mu
  by_cases hb:b=x
  . subst hb;rw [aNq] at q;cases q;exact new
  . rw [aEq hb] at q
    by_cases hbe:b=e
    . have q':H b=some (.own x):=by
        rcases he with z | z
        . exact absurd (hbe.trans z) hb
        . rw [hbe];exact z
      rw [q] at q';cases q'
      obtain ⟨v,hv⟩:=heo
      exact ⟨v,by rw [hbe];exact hv⟩
    . refine (ok b u q).stay (λ c v hc r=>k c v ?_ r) (λ c r=>by rw [aEq (nown c b r)];exact r) λ c xs r=>by rw [aEq (ntup c xs r)];exact r
      rcases hc with rfl | hc
      . exact hbe
      . rintro rfl
        rcases he with z | z
        . exact nown c b hc z
        . rw [hc] at z;cases z;exact hb rfl
end
structure Un (fs ex:List Addr) (H H':Hp) (h h':Heap):Prop where
  keep:∀ b o,h.get? b=some o->H b=none->b ∉ fs->b ∉ ex->h'.get? b=some o
  slot:∀ b o,h.get? b=some o->H b=none->b∈fs->b ∉ ex->∃ sl,h'.get? b=some { o with slots:=sl }
  free:∀ b o,h.get? b=some o->H b=none->b ∉ ex->H' b=none
  there:∀ b o,h.get? b=some o->b ∉ ex->∃ o',h'.get? b=some o'
  tups:∀ b xs,H b=some (.tup xs)->H' b=some (.tup xs)
  frzs:∀ b o u,H b=some (.frz o u)->H' b=some (.frz o u)
  tbls:∀ b ps,H b=some (.tbl ps)->∃ more,H' b=some (.tbl (ps++more))
section
variable {fs fs' ex ex':List Addr} {H H1 H2:Hp} {h h1 h2 h':Heap} {a x e:Addr} {o:HO}
theorem Un.any (u:Un fs ex H H1 h h1) {b:Addr} {ob:Obj} (q:h.get? b=some ob) (n:H b=none) (hx:b ∉ ex):∃ sl,h1.get? b=some { ob with slots:=sl }:=by
  by_cases hb:b∈fs
  . exact u.slot b ob q n hb hx
  . exact ⟨ob.slots,u.keep b ob q n hb hx⟩
theorem Un.kept (k:∀ b u,h.get? b=some u->h'.get? b=some u):Un fs ex H H h h':=
  ⟨λ b ob q _ _ _=>k b ob q,λ b ob q _ _ _=>⟨ob.slots,k b ob q⟩,λ _ _ _ n _=>n,λ b ob q _=>⟨ob,k b ob q⟩,λ _ _ q=>q,λ _ _ _ q=>q,λ _ ps q=>⟨#[],by rw [q];simp⟩⟩
theorem Un.refl:Un fs ex H H h h:=Un.kept λ _ _ q=>q
theorem Un.laid (k:∀ b u,h.get? b=some u->h'.get? b=some u) (hp:h.objs.size<=a) (hn:H a=none):Un fs ex H (upd H a o) h h' where
  keep:=λ b u q _ _ _=>k b u q
  slot:=λ b u q _ _ _=>⟨u.slots,k b u q⟩
  free:=λ b u q n _=>by rw [aEq (Nat.ne_of_lt (Nat.lt_of_lt_of_le (Heap.lt_size q) hp))];exact n
  there:=λ b u q _=>⟨u,k b u q⟩
  tups:=λ b xs q=>by rw [aEq (aTq q hn)];exact q
  frzs:=λ b u xs q=>by rw [aEq (aTq q hn)];exact q
  tbls:=λ b ps q=>⟨#[],by rw [aEq (aTq q hn),q];simp⟩
theorem Un.write (mu:Mut (H x)) (he:e=x\/H e=some (.own x)) (k:∀ b u,b≠e->h.get? b=some u->h'.get? b=some u) (heo:∃ u,h'.get? e=some u):Un fs ex H (upd H x o) h h':=by
  have hx:∀ b,H b=none->b≠x:=λ b n z=>by subst z;rw [n] at mu;exact mu
  have hb:∀ b,H b=none->b≠e:=λ b n z=>by
    subst z
    rcases he with r | r
    . exact hx b n r
    . rw [n] at r;cases r
  have hm:∀ b u,H b=some u->¬ Mut (some u)->b≠x:=λ b u q nm z=>by subst z;rw [q] at mu;exact nm mu
  refine ⟨λ b u q n _ _=>k b u (hb b n) q,λ b u q n _ _=>⟨u.slots,k b u (hb b n) q⟩,λ b u q n _=>by rw [aEq (hx b n)];exact n,λ b u q _=>?_,
    λ b xs q=>by rw [aEq (hm b _ q λ z=>z)];exact q,λ b u xs q=>by rw [aEq (hm b _ q λ z=>z)];exact q,λ b ps q=>⟨#[],by rw [aEq (hm b _ q λ z=>z),q];simp⟩⟩
  by_cases hbe:b=e
  . subst hbe;exact heo
  . exact ⟨u,k b u hbe q⟩
end
def trk (h:Heap) (H:Hp):List Addr:=(List.range h.objs.size).filter λ a=>(H a).isSome
def oVq (h:Heap) (H:Hp):Heap:=PySem.W.hideAll h (trk h H)
theorem nYq (h:Heap) (H:Hp):(oVq h H).objs.size=h.objs.size:=PySem.W.hideAll_size _ _
theorem pRq {h:Heap} {H:Hp} {b:Addr} {o:Obj} (e:h.get? b=some o) (n:H b=none):(oVq h H).get? b=some o:=
  PySem.W.hideAll_get _ e λ hm=>by
    have q:(H b).isSome=true:=(List.mem_filter.mp hm).2
    rw [n] at q;simp at q
theorem t4q {h:Heap} {H:Hp} {b:Addr} {o:Obj} (e:(oVq h H).get? b=some o):h.get? b=some o/\H b=none:=by
  have e':h.get? b=some o:=PySem.W.of_hideAll (trk h H) e
  refine ⟨e',?_⟩
  cases q:H b with
  | none=>rfl
  | some x=>
    have hm:b∈trk h H:=List.mem_filter.mpr ⟨List.mem_range.mpr (Heap.lt_size e'),by simp [q]⟩
    have z:(oVq h H).get? b=none:=PySem.W.hideAll_none (trk h H) hm
    rw [z] at e;cases e
structure Mod (K:PySem.W.Frag) (mg:Str->Option Value) (base:Heap):Prop where
  kin:K.In base
  glob:base.Ns mainGlobals mg
  blt:∃ mb,base.Ns builtinsNs mb/\∀ x:Str,x≠"__name__"->mb x=bootBuiltins x
  nolimit:base.NoLimit
structure Cx where
  prog:Program
  w:World
  K:PySem.W.Frag
  mg:Str->Option Value
  base:Heap
  A:Around
  N:List Str
  s₀:Shared
  H₀:Hp
  env:Env
  outer:List Env
  stack:List Env
  ex:List Addr
  fn:Str->Bool
  calm:Bool
  pn:List (Addr × Obj)
  xe:Value->Shared->Prop
def frs (l:List Env):List Addr:=l.filterMap (·.frame)
abbrev Cx.fs (X:Cx):List Addr:=frs X.outer
def Vis (sc:Scope) (x:Str):Prop:=sc.names.lookup x=some .local\/sc.names.lookup x=some .cell\/sc.names.lookup x=some .free
def Loc (sc:Scope) (x:Str):Prop:=sc.names.lookup x=some .local\/sc.names.lookup x=some .cell
def Look (env:Env) (h:Heap) (m:Str->Option Value) (x:Str) (u:Value):Prop:=
  (env.kindOf x=some .local/\m x=some u)\/((env.kindOf x=some .cell\/env.kindOf x=some .free)/\∃ c,env.cells.lookup x=some c/\h.IsCell c (some u))
structure Cx.Ok (X:Cx):Prop where
  mod:Mod X.K X.mg X.base
  kind:X.env.scope.kind=.function
  glob:X.env.globals=mainGlobals
  blt:X.env.builtins=builtinsNs
  above:X.s₀.heap.objs.size<=X.env.locals
  inj:∀ x y c,X.env.cells.lookup x=some c->X.env.cells.lookup y=some c->x=y
  has:∀ x,(X.env.kindOf x=some .cell\/X.env.kindOf x=some .free)->∃ c,X.env.cells.lookup x=some c
  cab:∀ x c,X.fn x=true->X.env.cells.lookup x=some c->X.s₀.heap.objs.size<=c
  hd:X.calm=true->X.A.handled=none
  frames:X.A.frames=some X.stack
  stk:X.stack=X.outer\/(X.stack=X.env::X.outer/\X.env.frame=some X.env.locals)
  exf:∀ b∈X.ex,b≠X.env.locals/\∀ x c,X.env.cells.lookup x=some c->c≠b
  bs:∀ b o,X.base.get? b=some o->X.s₀.heap.get? b=some o/\X.H₀ b=none
  bsz:X.base.objs.size<=X.s₀.heap.objs.size
  noex:∀ b o,X.base.get? b=some o->b ∉ X.ex
  exfs:∀ b∈X.ex,b ∉ X.fs
  funs:X.s₀.heap.FunFrames X.base X.outer
  frf:∀ b∈X.fs,X.H₀ b=none
structure Inv (X:Cx) (pins:List (Addr × Obj)) (σ:List (Option V)) (H:Hp) (s:Shared):Prop where
  ok:X.Ok
  os:s.os=X.s₀.os
  bare:AllBare s.gens
  base:Un X.fs X.ex X.H₀ H X.s₀.heap s.heap
  loc:∃ m,s.heap.Ns X.env.locals m/\∀ (i:Nat) (x:Str) (v:V),X.N[i]?=some x->σ[i]?=some (some v)->Vis X.env.scope x->∃ u,RelV v u/\Look X.env s.heap m x u
  cell:∀ x c,X.env.cells.lookup x=some c->∃ v,s.heap.IsCell c v
  free:H X.env.locals=none
  freeC:∀ x c,X.env.cells.lookup x=some c->H c=none
  pin:∀ p∈X.pn++pins,s.heap.get? p.1=some p.2/\H p.1=none/\p.1≠X.env.locals/\p.1 ∉ X.fs/\∀ v,p.2.data≠.cell v
  hok:HOk X.prog X.w H s.heap
  len:σ.length=X.N.length
section
variable {X:Cx} {pins:List (Addr × Obj)} {σ:List (Option V)} {H H':Hp} {s:Shared} {h':Heap}
theorem Cx.Ok.nofr (ok:X.Ok) {b:Addr} {o:Obj} (e:X.base.get? b=some o):b ∉ X.fs:=λ hb=>by
  have:=(ok.funs.mem hb).1
  rw [e] at this;cases this
theorem Inv.bs (I:Inv X pins σ H s):∀ b o,X.base.get? b=some o->s.heap.get? b=some o/\H b=none:=λ b o e=>
  ⟨I.base.keep b o (I.ok.bs b o e).1 (I.ok.bs b o e).2 (I.ok.nofr e) (I.ok.noex b o e),I.base.free b o (I.ok.bs b o e).1 (I.ok.bs b o e).2 (I.ok.noex b o e)⟩
theorem Inv.bk (I:Inv X pins σ H s):∀ b o,X.base.get? b=some o->s.heap.get? b=some o:=λ b o e=>(I.bs b o e).1
theorem Inv.mod (I:Inv X pins σ H s):Mod X.K X.mg X.base:=I.ok.mod
theorem Inv.kIn (I:Inv X pins σ H s):X.K.In s.heap:=I.ok.mod.kin.keeps I.bk
theorem Inv.lt (I:Inv X pins σ H s):X.env.locals < s.heap.objs.size:=let ⟨_,hn,_⟩:=I.loc;hn.lt
theorem Inv.sz (I:Inv X pins σ H s):X.s₀.heap.objs.size<=s.heap.objs.size:=Nat.le_trans I.ok.above (Nat.le_of_lt I.lt)
theorem Inv.nofs (I:Inv X pins σ H s) {a:Addr} (h:s.heap.objs.size<=a):a ∉ X.fs:=λ hb=>by
  obtain ⟨_,o,ho,_⟩:=I.ok.funs.mem hb
  exact absurd (Nat.lt_of_lt_of_le (Heap.lt_size ho) (Nat.le_trans I.sz h)) (Nat.lt_irrefl _)
theorem Inv.cne (I:Inv X pins σ H s):∀ x c,X.env.cells.lookup x=some c->c≠X.env.locals:=λ x c e z=>by
  obtain ⟨v,o,ho,hd⟩:=I.cell x c e
  obtain ⟨m,⟨o',es,ep,ho',hd',_⟩,_⟩:=I.loc
  rw [z,ho'] at ho;cases ho;rw [hd'] at hd;cases hd
theorem Inv.funs (I:Inv X pins σ H s):s.heap.FunFrames X.base X.outer:=by
  have all:∀ (l:List Env),(∀ b∈frs l,b∈X.fs)->X.s₀.heap.FunFrames X.base l->s.heap.FunFrames X.base l:=by
    intro l
    induction l with
    | nil=>intro _ _;trivial
    | cons env r ih=>
      intro hs hl
      obtain ⟨hk,⟨L,o,hf,hn,ho,hd⟩,hr⟩:=hl
      have hL:L∈X.fs:=hs L (by unfold frs;rw [List.filterMap_cons,hf];exact List.mem_cons_self)
      obtain ⟨sl,e⟩:=I.base.slot L o ho (I.ok.frf L hL) hL λ z=>I.ok.exfs L z hL
      exact ⟨hk,⟨L,_,hf,hn,e,hd⟩,ih (λ b hb=>hs b (by unfold frs;rw [List.filterMap_cons,hf];exact List.mem_cons_of_mem _ hb)) hr⟩
  exact all X.outer (λ _ hb=>hb) I.ok.funs
theorem Inv.stack (I:Inv X pins σ H s):s.heap.FunFrames X.base X.stack:=by
  rcases I.ok.stk with e | ⟨e,hf⟩
  . rw [e];exact I.funs
  . rw [e]
    obtain ⟨m,hn,_⟩:=I.loc
    refine .cons (by rw [I.ok.kind];decide) hf hn ?_ I.funs
    exact Heap.get?_none_of_le (Nat.le_trans I.ok.bsz I.ok.above)
theorem Inv.stkSub (I:Inv X pins σ H s):∀ b∈frs X.stack,b∈X.env.locals::X.fs:=λ b hb=>by
  rcases I.ok.stk with e | ⟨e,hf⟩
  . rw [e] at hb;exact List.mem_cons_of_mem _ hb
  . rw [e] at hb
    unfold frs at hb
    rw [List.filterMap_cons,hf] at hb
    exact hb
theorem Inv.stkFree (I:Inv X pins σ H s):∀ b∈frs X.stack,H b=none:=λ b hb=>by
  rcases List.mem_cons.mp (I.stkSub b hb) with e | hb
  . rw [e];exact I.free
  . obtain ⟨_,o,ho,_⟩:=I.ok.funs.mem hb
    exact I.base.free b o ho (I.ok.frf b hb) λ z=>I.ok.exfs b z hb
theorem Inv.step {g':Array GenState} {t':Nat} {d':Drawn} {ch:List Addr} (I:Inv X pins σ H s)
    (hch:∀ b∈ch,(b∈X.ex\/X.s₀.heap.objs.size<=b)/\b≠X.env.locals/\(∀ x c,X.env.cells.lookup x=some c->c≠b)/\∀ p∈X.pn++pins,p.1≠b)
    (keep:∀ b o,b≠X.env.locals->b ∉ X.fs->b ∉ ch->s.heap.get? b=some o->H b=none->h'.get? b=some o)
    (slot:∀ b o,b≠X.env.locals->b∈X.fs->b ∉ ch->s.heap.get? b=some o->H b=none->∃ sl,h'.get? b=some { o with slots:=sl }) (free:∀ b o,b ∉ ch->s.heap.get? b=some o->H b=none->H' b=none)
    (there:∀ b o,b ∉ ch->s.heap.get? b=some o->∃ o',h'.get? b=some o')
    (tups:∀ b xs,H b=some (.tup xs)->H' b=some (.tup xs)) (frzs:∀ b o u,H b=some (.frz o u)->H' b=some (.frz o u)) (tbls:∀ b ps,H b=some (.tbl ps)->∃ more,H' b=some (.tbl (ps++more)))
    (ns:∀ m,s.heap.Ns X.env.locals m->h'.Ns X.env.locals m) (hok:HOk X.prog X.w H' h') (hg:AllBare g') :
    Inv X pins σ H' { s with heap:=h',gens:=g',drawn:=d',toks:=t' }:=by
  have neL:∀ b o,X.s₀.heap.get? b=some o->b≠X.env.locals:=λ b o e=>Nat.ne_of_lt (Nat.lt_of_lt_of_le (Heap.lt_size e) I.ok.above)
  have neC:∀ b o,X.s₀.heap.get? b=some o->b ∉ X.ex->b ∉ ch:=λ b o e hx hb=>by
    rcases (hch b hb).1 with z | z
    . exact hx z
    . exact absurd (Nat.lt_of_lt_of_le (Heap.lt_size e) z) (Nat.lt_irrefl _)
  have cellK:∀ x c,X.env.cells.lookup x=some c->∀ v,s.heap.IsCell c v->h'.IsCell c v:=λ x c e v ⟨o,ho,hd⟩=>by
    have nch:c ∉ ch:=λ z=>(hch c z).2.2.1 x c e rfl
    by_cases hc:c∈X.fs
    . obtain ⟨sl,q⟩:=slot c o (I.cne x c e) hc nch ho (I.freeC x c e)
      exact ⟨_,q,hd⟩
    . exact ⟨o,keep c o (I.cne x c e) hc nch ho (I.freeC x c e),hd⟩
  refine ⟨I.ok,I.os,hg,⟨λ b o e n hb hx=>?_,λ b o e n hb hx=>?_,λ b o e n hx=>?_,λ b o e hx=>?_,λ b xs e=>tups b xs (I.base.tups b xs e),λ b o xs e=>frzs b o xs (I.base.frzs b o xs e),λ b ps e=>?_⟩,?_,λ x c e=>?_,?_,λ x c e=>?_,λ p hp=>?_,hok,I.len⟩
  . exact keep b o (neL b o e) hb (neC b o e hx) (I.base.keep b o e n hb hx) (I.base.free b o e n hx)
  . obtain ⟨sl,e1⟩:=I.base.slot b o e n hb hx
    obtain ⟨sl',e2⟩:=slot b _ (neL b o e) hb (neC b o e hx) e1 (I.base.free b o e n hx)
    exact ⟨sl',e2⟩
  . obtain ⟨o',e1⟩:=I.base.there b o e hx
    exact free b o' (neC b o e hx) e1 (I.base.free b o e n hx)
  . obtain ⟨o',e1⟩:=I.base.there b o e hx
    exact there b o' (neC b o e hx) e1
  . obtain ⟨m1,e1⟩:=I.base.tbls b ps e
    obtain ⟨m2,e2⟩:=tbls b _ e1
    exact ⟨m1++m2,by rw [e2,Array.append_assoc]⟩
  . obtain ⟨m,hn,hl⟩:=I.loc
    refine ⟨m,ns m hn,λ i x v e1 e2 e3=>?_⟩
    obtain ⟨u,r,l⟩:=hl i x v e1 e2 e3
    refine ⟨u,r,?_⟩
    rcases l with l | ⟨k,c,e,z⟩
    . exact .inl l
    . exact .inr ⟨k,c,e,cellK x c e _ z⟩
  . obtain ⟨v,z⟩:=I.cell x c e
    exact ⟨v,cellK x c e v z⟩
  . obtain ⟨m,⟨o,_,_,ho,_⟩,_⟩:=I.loc
    exact free _ o (λ z=>(hch _ z).2.1 rfl) ho I.free
  . obtain ⟨v,o,ho,hd⟩:=I.cell x c e
    exact free c o (λ z=>(hch c z).2.2.1 x c e rfl) ho (I.freeC x c e)
  . obtain ⟨e,n,ne,nf,d⟩:=I.pin p hp
    have nch:p.1 ∉ ch:=λ z=>(hch p.1 z).2.2.2 p hp rfl
    exact ⟨keep p.1 p.2 ne nf nch e n,free p.1 p.2 nch e n,ne,nf,d⟩
theorem Inv.un {t':Nat} (I:Inv X pins σ H s) (u:Un X.fs [] H H' s.heap h') (hok:HOk X.prog X.w H' h'):Inv X pins σ H' { s with heap:=h',toks:=t' }:=by
  obtain ⟨m,⟨o,es,ep,ho,r⟩,_⟩:=id I.loc
  obtain ⟨sl,hL⟩:=u.any ho I.free (by simp)
  exact I.step (g':=s.gens) (d':=s.drawn) (ch:=[]) (λ _ z=>nomatch z) (λ b o _ hb _ e n=>u.keep b o e n hb (by simp)) (λ b o _ hb _ e n=>u.slot b o e n hb (by simp)) (λ b o _ e n=>u.free b o e n (by simp)) (λ b o _ e=>u.there b o e (by simp)) u.tups u.frzs u.tbls (λ m' hm=>by
    obtain ⟨o',es',ep',ho',r'⟩:=hm
    rw [ho] at ho';cases ho'
    exact ⟨_,es',ep',hL,r'⟩) hok I.bare
theorem Inv.call {g':Array GenState} {t':Nat} {d':Drawn} {ch:List Addr} (I:Inv X pins σ H s) (u:Un (frs X.stack) ch H H' s.heap h') (hok:HOk X.prog X.w H' h') (hg:AllBare g')
    (hch:∀ b∈ch,(b∈X.ex\/X.s₀.heap.objs.size<=b)/\b≠X.env.locals/\(∀ x c,X.env.cells.lookup x=some c->c≠b)/\∀ p∈X.pn++pins,p.1≠b) :
    Inv X pins σ H' { s with heap:=h',gens:=g',drawn:=d',toks:=t' }:=by
  obtain ⟨m,⟨o,es,ep,ho,r⟩,_⟩:=id I.loc
  obtain ⟨sl,hL⟩:=u.any ho I.free λ z=>(hch _ z).2.1 rfl
  exact I.step (ch:=ch) hch (λ b o hL hb hc e n=>u.keep b o e n (λ z=>(List.mem_cons.mp (I.stkSub b z)).elim hL hb) hc) (λ b o _ _ hc e n=>u.any e n hc) (λ b o hc e n=>u.free b o e n hc) (λ b o hc e=>u.there b o e hc) u.tups u.frzs u.tbls (λ m' hm=>by
    obtain ⟨o',es',ep',ho',r'⟩:=hm
    rw [ho] at ho';cases ho'
    exact ⟨_,es',ep',hL,r'⟩) hok hg
theorem Inv.turned {t':Nat} {it:Addr} (I:Inv X pins σ H s) (k:∀ b o,b≠it->s.heap.get? b=some o->h'.get? b=some o) (hn:H it=none) (hL:it≠X.env.locals)
    (h1:it∈X.ex\/X.s₀.heap.objs.size<=it) (h2:∀ x c,X.env.cells.lookup x=some c->c≠it) (h3:∀ p∈X.pn++pins,p.1≠it):Inv X pins σ H { s with heap:=h',toks:=t' }:=by
  have nit:∀ b u,H b=some u->b≠it:=λ b u e z=>by rw [z,hn] at e;cases e
  refine I.step (g':=s.gens) (d':=s.drawn) (ch:=[it]) (λ b hb=>?_) (λ b o _ _ hc e _=>k b o (λ z=>hc (by simp [z])) e) (λ b o _ _ hc e _=>⟨o.slots,k b o (λ z=>hc (by simp [z])) e⟩) (λ _ _ _ _ n=>n)
    (λ b o hc e=>⟨o,k b o (λ z=>hc (by simp [z])) e⟩) (λ _ _ e=>e) (λ _ _ _ e=>e) (λ b ps e=>⟨#[],by rw [e];simp⟩) (λ m hm=>?_) (λ b u e=>?_) I.bare
  . have e:b=it:=by simpa using hb
    subst e
    exact ⟨h1,hL,h2,h3⟩
  . obtain ⟨o,es,ep,ho,r⟩:=hm
    exact ⟨o,es,ep,k _ o (Ne.symm hL) ho,r⟩
  . refine (I.hok b u e).stay (λ c v hc q=>k c v ?_ q) (λ _ q=>q) λ _ _ q=>q
    rcases hc with z | z
    . rw [z];exact nit b u e
    . exact nit c _ z
theorem Inv.tok (I:Inv X pins σ H s) (t:Nat):Inv X pins σ H { s with toks:=t }:=I.un (h':=s.heap) (t':=t) Un.refl I.hok
theorem Inv.kept {t':Nat} (I:Inv X pins σ H s) (k:∀ b u,s.heap.get? b=some u->h'.get? b=some u):Inv X pins σ H { s with heap:=h',toks:=t' }:=I.un (Un.kept k) (I.hok.kept k)
theorem Inv.laid {a:Addr} {o:HO} {t':Nat} (I:Inv X pins σ H s) (k:∀ b u,s.heap.get? b=some u->h'.get? b=some u) (hp:s.heap.objs.size<=a) (new:ObjOk X.prog X.w (upd H a o) h' a o) :
    Inv X pins σ (upd H a o) { s with heap:=h',toks:=t' }:=I.un (Un.laid k hp (I.hok.fresh hp)) (I.hok.laid k hp new)
theorem Inv.write {x e:Addr} {o:HO} {t':Nat} (I:Inv X pins σ H s) (mu:Mut (H x)) (he:e=x\/H e=some (.own x)) (k:∀ b u,b≠e->s.heap.get? b=some u->h'.get? b=some u) (heo:∃ u,h'.get? e=some u)
    (new:ObjOk X.prog X.w (upd H x o) h' x o):Inv X pins σ (upd H x o) { s with heap:=h',toks:=t' }:=I.un (Un.write mu he k heo) (I.hok.write mu he k heo new)
theorem Inv.pins_of {pins':List (Addr × Obj)} (I:Inv X pins σ H s) (h:∀ p∈pins',s.heap.get? p.1=some p.2/\H p.1=none/\p.1≠X.env.locals/\p.1 ∉ X.fs/\∀ v,p.2.data≠.cell v):Inv X pins' σ H s:=
  ⟨I.ok,I.os,I.bare,I.base,I.loc,I.cell,I.free,I.freeC,λ p hp=>(List.mem_append.mp hp).elim (λ z=>I.pin p (List.mem_append_left _ z)) (h p),I.hok,I.len⟩
theorem h7q {N:List Str} (hN:N.Nodup) {i j:Nat} {x:Str} (a:N[i]?=some x) (b:N[j]?=some x):i=j:=by
  obtain ⟨h1,e1⟩:=List.getElem?_eq_some_iff.mp a
  obtain ⟨h2,e2⟩:=List.getElem?_eq_some_iff.mp b
  exact (List.getElem_inj hN).mp (e1.trans e2.symm)
theorem j1q {M:Model} {A:Around} {E:Value->Shared->Prop} {i:Nat} {x:Str} {v:V} {u:Value} {Q:Unit->Shared->Prop} (I:Inv X pins σ H s) (hN:X.N.Nodup) (hi:X.N[i]?=some x) (hx:Loc X.env.scope x) (r:RelV v u)
    (h:∀ s',Inv X pins (σ.set i (some v)) H s'->(∃ a,Heap.SameBut a s.heap s'.heap/\(a=X.env.locals\/X.env.cells.lookup x=some a))->Q () s') (hf:X.fn x=true\/X.env.scope.names.lookup x=some .local:=by first | exact .inl rfl | exact .inr rfl | assumption):wpAny M A (storeName X.env x u) Q E s:=by
  obtain ⟨m,hn,hl⟩:=id I.loc
  have hcls:(X.env.scope.kind==.class||(X.env.scope.kind==.module&&X.env.locals !=X.env.globals))=false:=by rw [I.ok.kind];rfl
  have hiσ:i < σ.length:=by rw [I.len];exact (List.getElem?_eq_some_iff.mp hi).1
  have cne:=I.cne
  have tracked:∀ {a:Addr} {h':Heap},(∃ o,s.heap.get? a=some o/\H a=none)->Heap.SameBut a s.heap h'->HOk X.prog X.w H h':=λ{a h'} ha hs b ob e=>by
    obtain ⟨_,_,hfree⟩:=ha
    refine (I.hok b ob e).stay (λ c w' hc q=>(hs.2 c ?_).trans q) (λ _ q=>q) λ _ _ q=>q
    rintro rfl
    rcases hc with rfl | hc
    . rw [hfree] at e;cases e
    . rw [hfree] at hc;cases hc
  rcases hx with hk | hk
  . refine wpAny_storeName_local hk hn (λ h' hn' hs=>?_) hcls
    obtain ⟨oL,_,_,hoL,_⟩:=id hn
    refine h _ ⟨I.ok,I.os,I.bare,⟨λ b o e n hb hx=>?_,λ b o e n hb hx=>?_,I.base.free,λ b o e hx=>?_,I.base.tups,I.base.frzs,I.base.tbls⟩,⟨_,hn',λ j y v' e1 e2 e3=>?_⟩,λ y c e=>?_,I.free,I.freeC,λ p hp=>?_,tracked ⟨oL,hoL,I.free⟩ hs,by simpa using I.len⟩ ⟨_,hs,.inl rfl⟩
    . exact (hs.2 b (Nat.ne_of_lt (Nat.lt_of_lt_of_le (Heap.lt_size e) I.ok.above))).trans (I.base.keep b o e n hb hx)
    . obtain ⟨sl,e1⟩:=I.base.slot b o e n hb hx
      exact ⟨sl,(hs.2 b (Nat.ne_of_lt (Nat.lt_of_lt_of_le (Heap.lt_size e) I.ok.above))).trans e1⟩
    . obtain ⟨o',e1⟩:=I.base.there b o e hx
      exact ⟨o',(hs.2 b (Nat.ne_of_lt (Nat.lt_of_lt_of_le (Heap.lt_size e) I.ok.above))).trans e1⟩
    . by_cases hj:j=i
      . subst hj
        rw [hi] at e1;cases e1
        rw [List.getElem?_set_self hiσ] at e2
        cases e2
        exact ⟨u,r,.inl ⟨hk,by simp⟩⟩
      . rw [List.getElem?_set_ne (Ne.symm hj)] at e2
        obtain ⟨u',r',q⟩:=hl j y v' e1 e2 e3
        refine ⟨u',r',?_⟩
        rcases q with ⟨k,e⟩ | ⟨k,c,e,z⟩
        . refine .inl ⟨k,?_⟩
          have:y≠x:=λ e=>hj (h7q hN e1 (e ▸ hi))
          simp [this,e]
        . exact .inr ⟨k,c,e,z.sameBut hs (cne y c e)⟩
    . obtain ⟨w',z⟩:=I.cell y c e
      exact ⟨w',z.sameBut hs (cne y c e)⟩
    . obtain ⟨e,n,ne,nf,d⟩:=I.pin p hp
      exact ⟨(hs.2 p.1 ne).trans e,n,ne,nf,d⟩
  . have hfn:X.fn x=true:=by
      rcases hf with z | z
      . exact z
      . rw [z] at hk;cases hk
    obtain ⟨c,hc⟩:=I.ok.has x (.inl hk)
    obtain ⟨w',z⟩:=I.cell x c hc
    refine wpAny_storeName_cell I.ok.kind hk hc z (λ h' hc' hs=>?_)
    obtain ⟨oc,hoc,hocd⟩:=id z
    refine h { s with heap:=h' } ⟨I.ok,I.os,I.bare,⟨λ b o e n hb hx=>?_,λ b o e n hb hx=>?_,I.base.free,λ b o e hx=>?_,I.base.tups,I.base.frzs,I.base.tbls⟩,⟨m,hn.sameBut hs (Ne.symm (cne x c hc)),λ j y v' e1 e2 e3=>?_⟩,λ y c' e=>?_,I.free,I.freeC,λ p hp=>?_,tracked ⟨oc,hoc,I.freeC x c hc⟩ hs,by simpa using I.len⟩ ⟨c,hs,.inr hc⟩
    . exact (hs.2 b (Nat.ne_of_lt (Nat.lt_of_lt_of_le (Heap.lt_size e) (I.ok.cab x c hfn hc)))).trans (I.base.keep b o e n hb hx)
    . obtain ⟨sl,e1⟩:=I.base.slot b o e n hb hx
      exact ⟨sl,(hs.2 b (Nat.ne_of_lt (Nat.lt_of_lt_of_le (Heap.lt_size e) (I.ok.cab x c hfn hc)))).trans e1⟩
    . obtain ⟨o',e1⟩:=I.base.there b o e hx
      exact ⟨o',(hs.2 b (Nat.ne_of_lt (Nat.lt_of_lt_of_le (Heap.lt_size e) (I.ok.cab x c hfn hc)))).trans e1⟩
    . by_cases hj:j=i
      . subst hj
        rw [hi] at e1;cases e1
        rw [List.getElem?_set_self hiσ] at e2
        cases e2
        exact ⟨u,r,.inr ⟨.inl hk,c,hc,hc'⟩⟩
      . rw [List.getElem?_set_ne (Ne.symm hj)] at e2
        obtain ⟨u',r',q⟩:=hl j y v' e1 e2 e3
        refine ⟨u',r',?_⟩
        rcases q with q | ⟨k,c',e,z'⟩
        . exact .inl q
        . refine .inr ⟨k,c',e,z'.sameBut hs ?_⟩
          rintro rfl
          exact hj (h7q hN e1 (I.ok.inj _ _ _ e hc ▸ hi))
    . by_cases hcc:c'=c
      . subst hcc;exact ⟨_,hc'⟩
      . obtain ⟨w2,z2⟩:=I.cell y c' e
        exact ⟨w2,z2.sameBut hs hcc⟩
    . obtain ⟨e,n,ne,nf,d⟩:=I.pin p hp
      refine ⟨(hs.2 p.1 ?_).trans e,n,ne,nf,d⟩
      intro q
      rw [q,hoc] at e
      have q':oc=p.2:=Option.some.inj e
      exact d w' (by rw [<- q'];exact hocd)
theorem dGq {M:Model} {A:Around} {E:Value->Shared->Prop} {i:Nat} {x:Str} {v:V} {u:Value} {Q:Unit->Shared->Prop} (I:Inv X pins σ H s) (hN:X.N.Nodup) (hi:X.N[i]?=some x) (hx:Loc X.env.scope x) (r:RelV v u)
    (h:∀ s',Inv X pins (σ.set i (some v)) H s'->Q () s') (hf:X.fn x=true\/X.env.scope.names.lookup x=some .local:=by first | exact .inl rfl | exact .inr rfl | assumption):wpAny M A (storeName X.env x u) Q E s:=
  j1q I hN hi hx r (λ s' I' _=>h s' I') hf
theorem Inv.call' {s':Shared} {ch:List Addr} (I:Inv X pins σ H s) (ho:s'.os=s.os) (u:Un (frs X.stack) ch H H' s.heap s'.heap) (hok:HOk X.prog X.w H' s'.heap) (hg:AllBare s'.gens)
    (hch:∀ b∈ch,(b∈X.ex\/X.s₀.heap.objs.size<=b)/\b≠X.env.locals/\(∀ x c,X.env.cells.lookup x=some c->c≠b)/\∀ p∈X.pn++pins,p.1≠b):Inv X pins σ H' s':=by
  obtain ⟨h',g',d',t',o'⟩:=s'
  have e:o'=s.os:=ho
  subst e
  exact I.call (g':=g') (t':=t') (d':=d') u hok hg hch
end
abbrev XK:=Value->Option Addr->Hp->Prop
abbrev St:=List (Option V)
abbrev VK:=V->Hp->Prop
abbrev TE:=St->Hp->VK->Prop
abbrev TT:=St->Hp->(Bool->Hp->Prop)->Prop
abbrev TA:=St->Hp->(List V->Hp->Prop)->Prop
structure Ends where
  nx:St->Hp->Prop
  rt:VK
  bk:St->Hp->Prop:=λ _ _=>False
  ct:St->Hp->Prop:=λ _ _=>False
abbrev TS:=Ends->St->Hp->Prop
def EP (X:Cx) (pins:List (Addr × Obj)) (σ:St) (Q:VK) (u:Value) (s':Shared):Prop:=∃ v H',Inv X pins σ H' s'/\RelV v u/\Q v H'
def TP (X:Cx) (pins:List (Addr × Obj)) (σ:St) (Q:Bool->Hp->Prop) (b:Bool) (s':Shared):Prop:=∃ H',Inv X pins σ H' s'/\Q b H'
def AP (X:Cx) (pins:List (Addr × Obj)) (σ:St) (Q:List V->Hp->Prop) (us:List Value) (s':Shared):Prop:=∃ vs H',Inv X pins σ H' s'/\Vals vs us/\Q vs H'
def SP (X:Cx) (pins:List (Addr × Obj)) (D:Ends) (f:Flow) (s':Shared):Prop:=
  match f with
  | .next=>∃ σ' H',Inv X pins σ' H' s'/\D.nx σ' H'
  | .brk=>∃ σ' H',Inv X pins σ' H' s'/\D.bk σ' H'
  | .cont=>∃ σ' H',Inv X pins σ' H' s'/\D.ct σ' H'
  | .ret u=>∃ v σ' H',Inv X pins σ' H' s'/\RelV v u/\D.rt v H'
def PE (X:Cx) (e:Expr) (t:TE):Prop:=
  ∀ (pins:List (Addr × Obj)) (s:Shared) (σ:St) (H:Hp) (Q:VK),Inv X pins σ H s->t σ H Q->wpAny (model X.prog X.w) X.A (eval e X.env) (EP X pins σ Q) X.xe s
def PT (X:Cx) (e:Expr) (t:TT):Prop:=
  ∀ (pins:List (Addr × Obj)) (s:Shared) (σ:St) (H:Hp) (Q:Bool->Hp->Prop),Inv X pins σ H s->t σ H Q->wpAny (model X.prog X.w) X.A (isTrue e X.env (eval e X.env)) (TP X pins σ Q) X.xe s
def PW (X:Cx) (e:Expr) (t:TT):Prop:=
  ∀ (whole:Sem Value) (pins:List (Addr × Obj)) (s:Shared) (σ:St) (H:Hp) (Q:Bool->Hp->Prop),Inv X pins σ H s->t σ H Q->wpAny (model X.prog X.w) X.A (isTrue e X.env whole) (TP X pins σ Q) X.xe s
theorem PW.pt {X:Cx} {e:Expr} {t:TT} (h:PW X e t):PT X e t:=h _
def PA (X:Cx) (es:List Expr) (t:TA):Prop:=
  ∀ (pos:Pos) (pins:List (Addr × Obj)) (s:Shared) (σ:St) (H:Hp) (Q:List V->Hp->Prop),Inv X pins σ H s->t σ H Q->wpAny (model X.prog X.w) X.A (spliced (backTo pos (starEach es X.env))) (AP X pins σ Q) X.xe s
def PS (X:Cx) (st:Stmt) (t:TS):Prop:=
  ∀ (pins:List (Addr × Obj)) (s:Shared) (σ:St) (H:Hp) (D:Ends),Inv X pins σ H s->t D σ H->wpAny (model X.prog X.w) X.A (exec st X.env) (SP X pins D) X.xe s
def PSs (X:Cx) (st:List Stmt) (t:TS):Prop:=
  ∀ (pins:List (Addr × Obj)) (s:Shared) (σ:St) (H:Hp) (D:Ends),Inv X pins σ H s->t D σ H->wpAny (model X.prog X.w) X.A (execs st X.env) (SP X pins D) X.xe s
theorem thn {α:Type} {t:Sem α} {Q Q':α->Shared->Prop} {M:Model} {A:Around} {E:Value->Shared->Prop} {s:Shared} (h:wpAny M A t Q E s) (hQ:∀ a s,Q a s->Q' a s):wpAny M A t Q' E s:=wpAny_mono h hQ λ _ _ x=>x
section
variable {X:Cx}
theorem bin {a b:Expr} {ta tb:TE} (ha:PE X a ta) (hb:PE X b tb) {pins:List (Addr × Obj)} {s:Shared} {σ:St} {H:Hp} {R:V->V->Hp->Prop} (I:Inv X pins σ H s) (h:ta σ H λ x H1=>tb σ H1 λ y H2=>R x y H2)
    {α:Type} {Q:α->Shared->Prop} {f:Value->Value->Sem α}
    (hf:∀ v u s2 x y H2,Inv X pins σ H2 s2->RelV x v->RelV y u->R x y H2->wpAny (model X.prog X.w) X.A (f v u) Q X.xe s2) :
    wpAny (model X.prog X.w) X.A (eval a X.env) (λ v s₁=>wpAny (model X.prog X.w) X.A (eval b X.env) (λ u s₂=>wpAny (model X.prog X.w) X.A (f v u) Q X.xe s₂) X.xe s₁) X.xe s:=by
  refine thn (ha pins s σ H _ I h) λ v s1 ⟨x,H1,I1,r1,q1⟩=>?_
  refine thn (hb pins s1 σ H1 _ I1 q1) λ u s2 ⟨y,H2,I2,r2,q2⟩=>?_
  exact hf v u s2 x y H2 I2 r1 r2 q2
def tVar (i:Nat):TE:=λ σ H Q=>∃ v,σ[i]?=some (some v)/\Q v H
def tC (v:V):TE:=λ _ H Q=>Q v H
theorem rKq {i:Nat} {x:Str} {pos:Pos} (hN:X.N[i]?=some x) (hv:Vis X.env.scope x) (hd:(x==("__debug__" : Str))=false:=by decide) (hcd:(x==("__classdict__" : Str))=false:=by decide):PE X (.Name x pos) (tVar i):=by
  intro pins s σ H Q I h
  obtain ⟨v,e,h⟩:=h
  obtain ⟨m,hn,hl⟩:=I.loc
  obtain ⟨u,r,l⟩:=hl i x v hN e hv
  have fin:EP X pins σ Q u s:=⟨v,H,I,r,h⟩
  rcases l with ⟨hk,hm⟩ | ⟨hk,c,hc,hcell⟩
  . exact wpAny_Name (wpAny_loadName_local I.ok.kind hk hn hm fin) hd
  . rcases hk with hk | hk
    . exact wpAny_Name (wpAny_loadName_cell I.ok.kind hk hc hcell fin) hd
    . exact wpAny_Name (wpAny_loadName_free I.ok.kind hk hc hcell fin hcd) hd
theorem uUq {i j pos}:PE X (.Constant (.int i) j pos) (tC (.int i)):=λ _ _ _ H _ I h=>wpAny_Constant_int ⟨.int i,H,I.tok _,⟨_,rfl⟩,h⟩
theorem z1q {b j pos}:PE X (.Constant (.bool b) j pos) (tC (.bl b)):=λ _ _ _ H _ I h=>Constant_bool ⟨.bl b,H,I,rfl,h⟩
theorem wAq {j pos}:PE X (.Constant .none j pos) (tC .non):=λ _ _ _ H _ I h=>Constant_none ⟨.non,H,I,rfl,h⟩
theorem uXq {x j pos}:PE X (.Constant (.str x) j pos) (tC (.str x)):=λ _ _ _ H _ I h=>Calls.Constant_str ⟨.str x,H,I.tok _,⟨_,rfl⟩,h⟩
def Gl (X:Cx) (x:Str):Prop:=X.env.kindOf x=some .globalImplicit
theorem dYq {E:Value->Shared->Prop} {pins:List (Addr × Obj)} {s:Shared} {σ:St} {H:Hp} {x:Str} {u:Value} {pos:Pos} {Q:Value->Shared->Prop} (I:Inv X pins σ H s) (hg:Gl X x) (hm:X.mg x=some u) (h:Q u s)
    (hd:(x==("__debug__" : Str))=false:=by decide):wpAny (model X.prog X.w) X.A (eval (.Name x pos) X.env) Q E s:=
  Calls.Name_function_global I.ok.kind hg (Calls.loadGlobal_global (by rw [I.ok.glob];exact I.mod.glob.keeps I.bk) hm h) hd
theorem c3q {E:Value->Shared->Prop} {pins:List (Addr × Obj)} {s:Shared} {σ:St} {H:Hp} {x:Str} {u:Value} {pos:Pos} {Q:Value->Shared->Prop} (I:Inv X pins σ H s) (hg:Gl X x) (hm:X.mg x=none) (hv:bootBuiltins x=some u) (h:Q u s)
    (hn:x≠"__name__":=by decide) (hd:(x==("__debug__" : Str))=false:=by decide):wpAny (model X.prog X.w) X.A (eval (.Name x pos) X.env) Q E s:=by
  obtain ⟨mb,h1,h2⟩:=I.mod.blt
  exact Calls.Name_function_global I.ok.kind hg (Calls.loadGlobal_builtin (by rw [I.ok.glob];exact I.mod.glob.keeps I.bk) hm (by rw [I.ok.blt];exact h1.keeps I.bk) ((h2 x hn).trans hv) h) hd
theorem sZq {x:Str} {v:V} {u:Value} {pos:Pos} (hg:Gl X x) (hm:X.mg x=some u) (r:RelV v u) (hd:(x==("__debug__" : Str))=false:=by decide):PE X (.Name x pos) (tC v):=
  λ _ _ _ H _ I h=>dYq I hg hm ⟨v,H,I,r,h⟩ hd
theorem tNq {x:Str} {v:V} {u:Value} {pos:Pos} (hg:Gl X x) (hm:X.mg x=none) (hv:bootBuiltins x=some u) (r:RelV v u) (hn:x≠"__name__":=by decide) (hd:(x==("__debug__" : Str))=false:=by decide):PE X (.Name x pos) (tC v):=
  λ _ _ _ H _ I h=>c3q I hg hm hv ⟨v,H,I,r,h⟩ hn hd
variable {a b:Expr} {ta tb:TE} {pos:Pos}
variable {tA tB':TT} {rest:List Expr}
def tOr (t u:TT):TT:=λ σ H Q=>t σ H λ c H1=>if c=true then Q true H1 else u σ H1 Q
def tNot (t:TT):TT:=λ σ H Q=>t σ H λ c H1=>Q (!c) H1
theorem wWq (ha:PT X a tA):PW X (.BoolOp .Or [a] pos) tA:=by
  intro wh pins s σ H Q I h
  refine isTrue_or (thn (ha pins s σ H Q I h) λ c s1 e=>?_)
  cases c with
  | false=>exact isTrue_or_nil e
  | true=>exact e
theorem yNq (ha:PT X a tA) (hb:PW X (.BoolOp .Or (b::rest) pos) tB'):PW X (.BoolOp .Or (a::b::rest) pos) (tOr tA tB'):=by
  intro wh pins s σ H Q I h
  refine isTrue_or (thn (ha pins s σ H _ I h) λ c s1 ⟨H1,I1,q1⟩=>?_)
  cases c with
  | true=>exact ⟨H1,I1,q1⟩
  | false=>exact hb wh pins s1 σ H1 Q I1 q1
theorem vOq (ha:PT X a tA):PT X (.UnaryOp .Not a pos) (tNot tA):=by
  intro pins s σ H Q I h
  exact isTrue_not (ha pins s σ H (λ c H1=>Q (!c) H1) I h)
def wUq (ta tb:TE):TE:=λ σ H Q=>ta σ H λ x H1=>∃ c,x=.bl c/\if c=true then tb σ H1 Q else Q (.bl false) H1
def wRq (ta:TE):TE:=λ σ H Q=>ta σ H λ x H1=>∃ c,x=.bl c/\Q (.bl (!c)) H1
theorem yAq {op} {t:TE} (h:PE X a t):PE X (.BoolOp op [a] pos) t:=λ pins s σ H Q I hw=>BoolOp_one (h pins s σ H Q I hw)
theorem xGq (ha:PE X a ta) (hb:PE X (.BoolOp .And (b::rest) pos) tb):PE X (.BoolOp .And (a::b::rest) pos) (wUq ta tb):=by
  intro pins s σ H Q I h
  refine BoolOp_and (thn (ha pins s σ H _ I h) λ v s1 ⟨x,H1,I1,r1,q1⟩=>?_)
  obtain ⟨c,rfl,q1⟩:=q1
  cases r1
  refine wpAny_truthy_bool ?_
  cases c with
  | true=>exact hb pins s1 σ H1 Q I1 q1
  | false=>exact ⟨.bl false,H1,I1,rfl,q1⟩
theorem xZq (ha:PE X a ta):PE X (.UnaryOp .Not a pos) (wRq ta):=by
  intro pins s σ H Q I h
  refine UnaryOp_ (thn (ha pins s σ H _ I h) λ v s1 ⟨x,H1,I1,r1,q1⟩=>?_)
  obtain ⟨c,rfl,q1⟩:=q1
  cases r1
  exact not_of (wpAny_truthy_bool ⟨.bl (!c),H1,I1,rfl,q1⟩)
def tIf (t:TT) (ta tb:TE):TE:=λ σ H Q=>t σ H λ c H1=>if c=true then ta σ H1 Q else tb σ H1 Q
theorem pJq {c:Expr} (hc:PT X c tA) (ha:PE X a ta) (hb:PE X b tb):PE X (.IfExp c a b pos) (tIf tA ta tb):=by
  intro pins s σ H Q I h
  refine wpAny_IfExp (thn (hc pins s σ H _ I h) λ d s1 ⟨H1,I1,q1⟩=>?_)
  cases d with
  | true=>exact ha pins s1 σ H1 Q I1 q1
  | false=>exact hb pins s1 σ H1 Q I1 q1
end
def SqL (K:PySem.W.Frag) (H:Hp) (a:Addr) (xs:List V):Prop:=
  Rd H a (.lst xs) ∨
    ∃ (o:Obj) (its:Array Value) (n:Nat),K.lookup a=some o/\o.cls=.type "list"/\o.dict=none/\o.data=.seq its n/\its.size<=sizeLine/\Vals xs its.toList
def SqT (K:PySem.W.Frag) (H:Hp) (a:Addr) (xs:List V):Prop:=
  Rd H a (.tup xs) ∨
    ∃ (o:Obj) (its:Array Value) (n:Nat),K.lookup a=some o/\o.cls=.type "tuple"/\o.data=.seq its n/\its.size<=sizeLine/\Vals xs its.toList
def absV:Value->Option V
  | .none=>some .non
  | .bool b=>some (.bl b)
  | .int i _=>some (.int i)
  | .str x _=>some (.str x)
  | .bytes b _=>some (.byt b)
  | .float b _=>some (.flt b)
  | .ref a=>some (.ref a)
  | .type n=>some (.ty n)
  | _=>none
theorem RelV.abs {x:V} {u:Value} (r:RelV x u):absV u=some x:=by
  cases x with
  | non=>cases r;rfl
  | bl _=>cases r;rfl
  | int _=>obtain ⟨t,rfl⟩:=r;rfl
  | str _=>obtain ⟨t,rfl⟩:=r;rfl
  | byt _=>obtain ⟨t,rfl⟩:=r;rfl
  | flt _=>obtain ⟨t,rfl⟩:=r;rfl
  | ref _=>cases r;rfl
  | ty _=>cases r;rfl
theorem RelV.inj {x y:V} {u:Value} (r:RelV x u) (q:RelV y u):x=y:=Option.some.inj (r.abs.symm.trans q.abs)
theorem Vals.inj:∀ {xs ys:List V} {us:List Value},Vals xs us->Vals ys us->xs=ys
  | _,_,_,.nil,.nil=>rfl
  | _,_,_,.cons r t,.cons r' t'=>by rw [r.inj r',Vals.inj t t']
section
variable {X:Cx} {pins:List (Addr × Obj)} {σ:St} {H:Hp} {s:Shared} {a:Addr} {xs ys:List V}
theorem SqL.of {K:PySem.W.Frag} (h:H a=some (.lst xs)):SqL K H a xs:=.inl (.inl h)
theorem SqT.of {K:PySem.W.Frag} (h:H a=some (.tup xs)):SqT K H a xs:=.inl (.inl h)
theorem Inv.list (I:Inv X pins σ H s) (h:SqL X.K H a xs):∃ its:List Value,Vals xs its/\PlainL s.heap a its.toArray/\xs.length<=sizeLine:=by
  rcases h with h | ⟨o,its,n,hk,hc,hd,hs,hz,r⟩
  . obtain ⟨z,its,n,r,e⟩:=h.ok I.hok
    exact ⟨its,r,⟨_,n,e,rfl,rfl,rfl⟩,z⟩
  . refine ⟨its.toList,r,⟨o,n,I.kIn a o hk,hc,hd,by simpa using hs⟩,?_⟩
    have e:=r.length
    simp only [Array.length_toList] at e
    omega
theorem Inv.tuple (I:Inv X pins σ H s) (h:SqT X.K H a xs):∃ its:List Value,Vals xs its/\IsTup s.heap a its.toArray/\xs.length<=sizeLine:=by
  rcases h with h | ⟨o,its,n,hk,hc,hs,hz,r⟩
  . obtain ⟨z,its,r,p⟩:=h.ok I.hok
    exact ⟨its,r,p,z⟩
  . refine ⟨its.toList,r,⟨o,I.kIn a o hk,hc,n,by simpa using hs⟩,?_⟩
    have e:=r.length
    simp only [Array.length_toList] at e
    omega
theorem Inv.list_inj (I:Inv X pins σ H s) (h:SqL X.K H a xs) (h':SqL X.K H a ys):xs=ys:=by
  obtain ⟨its,r,⟨o,n,e,_,_,d⟩,_⟩:=I.list h
  obtain ⟨its',r',⟨o',n',e',_,_,d'⟩,_⟩:=I.list h'
  rw [e] at e';cases e'
  rw [d] at d'
  injection d' with d1 _
  have:its=its':=by simpa using congrArg Array.toList d1
  subst this
  exact r.inj r'
theorem Inv.tuple_inj (I:Inv X pins σ H s) (h:SqT X.K H a xs) (h':SqT X.K H a ys):xs=ys:=by
  obtain ⟨its,r,⟨o,e,_,n,d⟩,_⟩:=I.tuple h
  obtain ⟨its',r',⟨o',e',_,n',d'⟩,_⟩:=I.tuple h'
  rw [e] at e';cases e'
  rw [d] at d'
  injection d' with d1 _
  have:its=its':=by simpa using congrArg Array.toList d1
  subst this
  exact r.inj r'
end
abbrev Cx.wish (X:Cx) (E:Value->Shared->Prop):Cx:={ X with xe:=E }
abbrev Cx.nox (X:Cx):Cx:=X.wish λ _ _=>False
theorem Cx.Ok.wish {X:Cx} (ok:X.Ok) (E:Value->Shared->Prop):(X.wish E).Ok:=
  ⟨ok.mod,ok.kind,ok.glob,ok.blt,ok.above,ok.inj,ok.has,ok.cab,ok.hd,ok.frames,ok.stk,ok.exf,ok.bs,ok.bsz,ok.noex,ok.exfs,ok.funs,ok.frf⟩
theorem Cx.Ok.unwish {X:Cx} {E:Value->Shared->Prop} (ok:(X.wish E).Ok):X.Ok:=
  ⟨ok.mod,ok.kind,ok.glob,ok.blt,ok.above,ok.inj,ok.has,ok.cab,ok.hd,ok.frames,ok.stk,ok.exf,ok.bs,ok.bsz,ok.noex,ok.exfs,ok.funs,ok.frf⟩
section
variable {X:Cx} {pins:List (Addr × Obj)} {σ:St} {H:Hp} {s:Shared} {E:Value->Shared->Prop}
theorem Inv.wish (I:Inv X pins σ H s) (E:Value->Shared->Prop):Inv (X.wish E) pins σ H s:=⟨I.ok.wish E,I.os,I.bare,I.base,I.loc,I.cell,I.free,I.freeC,I.pin,I.hok,I.len⟩
theorem Inv.unwish (I:Inv (X.wish E) pins σ H s):Inv X pins σ H s:=⟨I.ok.unwish,I.os,I.bare,I.base,I.loc,I.cell,I.free,I.freeC,I.pin,I.hok,I.len⟩
theorem SP.unwish {D:Ends} {f:Flow} {s':Shared} (h:SP (X.wish E) pins D f s'):SP X pins D f s':=by
  cases f with
  | next=>obtain ⟨σ',H',I,q⟩:=h;exact ⟨σ',H',I.unwish,q⟩
  | brk=>obtain ⟨σ',H',I,q⟩:=h;exact ⟨σ',H',I.unwish,q⟩
  | cont=>obtain ⟨σ',H',I,q⟩:=h;exact ⟨σ',H',I.unwish,q⟩
  | ret u=>obtain ⟨v,σ',H',I,r,q⟩:=h;exact ⟨v,σ',H',I.unwish,r,q⟩
theorem PSs.nox {st:List Stmt} {t:TS} (h:PSs X.nox st t):PSs X st t:=λ pins s σ H D I hw=>
  wpAny_mono (h pins s σ H D (I.wish _) hw) (λ _ _ q=>q.unwish) λ _ _ z=>False.elim z
end
section
variable {X:Cx} {st:Stmt} {rest:List Stmt} {t u:TS} {e:Expr} {te:TE} {pos:Pos}
def wLq:TS:=λ D σ H=>D.nx σ H
def tSeq (t u:TS):TS:=λ D σ H=>t { D with nx:=u D } σ H
theorem mXq:PSs X [] wLq:=λ _ _ σ H _ I h=>wpAny_execs_nil ⟨σ,H,I,h⟩
theorem kIq (h1:PS X st t) (h2:PSs X rest u):PSs X (st::rest) (tSeq t u):=by
  intro pins s σ H D I h
  refine wpAny_execs_cons (thn (h1 pins s σ H { D with nx:=u D } I h) λ f s1 q=>?_)
  cases f with
  | next=>
    obtain ⟨σ',H',I',q⟩:=q
    exact h2 pins s1 σ' H' D I' q
  | ret v=>exact q
  | brk=>exact q
  | cont=>exact q
theorem mYq (h1:PS X st t):PSs X [st] t:=by
  intro pins s σ H D I h
  refine wpAny_execs_cons (thn (h1 pins s σ H D I h) λ f s1 q=>?_)
  cases f with
  | next=>exact wpAny_execs_nil q
  | ret v=>exact q
  | brk=>exact q
  | cont=>exact q
theorem Inv.quiet {pins:List (Addr × Obj)} {σ:St} {H:Hp} {s:Shared} (I:Inv X pins σ H s):interactive X.env=false:=by simp [interactive,I.ok.kind]
def uKq (te:TE):TS:=λ D σ H=>te σ H λ _ H1=>D.nx σ H1
theorem t6q (he:PE X e te) (hs:swapsWith e none pos.line X.env=pure false:=by rfl):PS X (.Expr e pos) (uKq te):=by
  intro pins s σ H D I h
  exact wpAny_Expr_any (thn (he pins s σ H _ I h) λ v s1 ⟨x,H1,I1,r1,q1⟩=>⟨σ,H1,I1,q1⟩) I.quiet hs
def tRet (te:TE):TS:=λ D σ H=>te σ H D.rt
theorem vPq (he:PE X e te):PS X (.Return (some e) pos) (tRet te):=by
  intro pins s σ H D I h
  exact wpAny_Return_some (thn (he pins s σ H _ I h) λ v s1 ⟨x,H1,I1,r1,q1⟩=>⟨x,σ,H1,I1,r1,q1⟩)
def tIfS (c:TT) (t u:TS):TS:=λ D σ H=>c σ H λ b H1=>if b=true then t D σ H1 else u D σ H1
theorem v5q {c:Expr} {a b:List Stmt} {tc:TT} (hc:PT X c tc) (ha:PSs X a t) (hb:PSs X b u):PS X (.If c a b pos) (tIfS tc t u):=by
  intro pins s σ H D I h
  refine wpAny_If (thn (hc pins s σ H _ I h) λ d s1 ⟨H1,I1,q1⟩=>?_)
  cases d with
  | true=>exact ha pins s1 σ H1 D I1 q1
  | false=>exact hb pins s1 σ H1 D I1 q1
end
abbrev TG:=V->St->Hp->(St->Hp->Prop)->Prop
abbrev TGs:=List V->St->Hp->(St->Hp->Prop)->Prop
def PG (X:Cx) (target:Expr) (t:TG):Prop:=
  ∀ (pins:List (Addr × Obj)) (s:Shared) (σ:St) (H:Hp) (v:V) (u:Value) (Q:St->Hp->Prop),Inv X pins σ H s->RelV v u->t v σ H Q →
    wpAny (model X.prog X.w) X.A (assign target X.env u) (λ _ s'=>∃ σ' H',Inv X pins σ' H' s'/\Q σ' H') X.xe s
def PGs (X:Cx) (ts:List Expr) (t:TGs):Prop:=
  ∀ (pins:List (Addr × Obj)) (s:Shared) (σ:St) (H:Hp) (vs:List V) (us:List Value) (Q:St->Hp->Prop),Inv X pins σ H s->Vals vs us->t vs σ H Q →
    wpAny (model X.prog X.w) X.A (assignInOrder ((assignEach ts X.env).map (·.2)) us) (λ _ s'=>∃ σ' H',Inv X pins σ' H' s'/\Q σ' H') X.xe s
abbrev x5q:=V->V->V->Hp->(Hp->Prop)->Prop
def z6q (X:Cx) (t:x5q):Prop:=
  ∀ (pins:List (Addr × Obj)) (s:Shared) (σ:St) (H:Hp) (o i v:V) (ov iv u:Value) (Q:Hp->Prop),Inv X pins σ H s->RelV o ov->RelV i iv->RelV v u->t o i v H Q →
    wpAny (model X.prog X.w) X.A (setItem ov iv u) (λ _ s'=>∃ H',Inv X pins σ H' s'/\Q H') X.xe s
section
variable {X:Cx} {pos:Pos}
def lAq (i:Nat):TG:=λ v σ H Q=>Q (σ.set i (some v)) H
theorem sJq {i:Nat} {x:Str} (hN:X.N.Nodup) (hi:X.N[i]?=some x) (hx:Loc X.env.scope x) (hf:X.fn x=true\/X.env.scope.names.lookup x=some .local:=by first | exact .inl rfl | exact .inr rfl | assumption):PG X (.Name x pos) (lAq i):=by
  intro pins s σ H v u Q I r h
  exact wpAny_assign_Name (dGq I hN hi hx r (λ s' I'=>⟨_,H,I',h⟩) hf)
def gNil:TGs:=λ vs σ H Q=>vs=[]/\Q σ H
def wCq (t:TG) (u:TGs):TGs:=λ vs σ H Q=>∃ v r,vs=v::r/\t v σ H λ σ' H'=>u r σ' H' Q
theorem sXq:PGs X [] gNil:=by
  intro pins s σ H vs us Q I r h
  obtain ⟨e,h⟩:=h
  subst e
  cases r
  exact assignInOrder_nil ⟨σ,H,I,h⟩
theorem oYq {e:Expr} {es:List Expr} {t:TG} {u:TGs} (h1:PG X e t) (h2:PGs X es u)
    (hs:(assignEach (e::es) X.env).map (·.2)=assign e X.env::(assignEach es X.env).map (·.2):=by rfl):PGs X (e::es) (wCq t u):=by
  intro pins s σ H vs us Q I r h
  obtain ⟨v,vr,e1,h⟩:=h
  subst e1
  cases r with
  | cons r rr=>
    rw [hs]
    refine assignInOrder_cons (thn (h1 pins s σ H _ _ _ I r h) λ _ s1 ⟨σ1,H1,I1,q1⟩=>?_)
    exact h2 pins s1 σ1 H1 _ _ Q I1 rr q1
def gTup (K:PySem.W.Frag) (n:Nat) (t:TGs):TG:=λ v σ H Q=>∃ a xs,v=.ref a/\SqT K H a xs/\xs.length=n/\t xs σ H Q
theorem x6q {es:List Expr} {k:Nat} {t:TGs} {n:Nat} (hc:X.calm=true) (h:PGs X es t)
    (hn:(assignEach es X.env).length=n:=by rfl) (hst:(assignEach es X.env).findIdx? (·.1)=none:=by rfl):PG X (.Tuple es k pos) (gTup X.K n t):=by
  intro pins s σ H v u Q I r hw
  obtain ⟨a,xs,e1,hq,hl,hw⟩:=hw
  subst e1
  cases r
  obtain ⟨its,rv,ht,hz⟩:=I.tuple hq
  refine assign_Tuple_tuple (I.ok.hd hc) ht (by simp [hn,<- hl,rv.length]) hst λ h' hx=>?_
  have I1:Inv X pins σ H { s with heap:=h' }:=I.kept (t':=s.toks) λ b o e=>hx b o (Nat.ne_of_lt (Heap.lt_size e)) e
  exact h pins _ σ H xs _ Q I1 (by simpa using rv) hw
def gSub (to ti:TE) (t:x5q):TG:=λ v σ H Q=>to σ H λ o H1=>ti σ H1 λ i H2=>t o i v H2 λ H3=>Q σ H3
theorem w0q {o i:Expr} {to ti:TE} {t:x5q} (ho:PE X o to) (hi:PE X i ti) (hs:z6q X t)
    (ha:∀ v,assign (.Subscript o i pos) X.env v=(do
      let ov ← holding [v] (eval o X.env)
      let iv ← holding [v,ov] (eval i X.env)
      standAt pos
      holding [v,ov,iv] (setItem ov iv v)
      release [v,ov,iv] []):=by intro _;rfl):PG X (.Subscript o i pos) (gSub to ti t):=by
  intro pins s σ H v u Q I r h
  rw [ha]
  refine wpAny_bind (wpAny_holding (thn (ho pins s σ H _ I h) λ ov s1 ⟨x,H1,I1,r1,q1⟩=>?_))
  refine wpAny_bind (wpAny_holding (thn (hi pins s1 σ H1 _ I1 q1) λ iv s2 ⟨y,H2,I2,r2,q2⟩=>?_))
  refine wpAny_bind (wpAny_standAt (wpAny_bind (wpAny_holding (thn (hs pins s2 σ H2 x y v ov iv u _ I2 r1 r2 r q2) λ _ s3 ⟨H3,I3,q3⟩=>?_))))
  exact wpAny_release ⟨σ,H3,I3,q3⟩
def uBq (te:TE) (g:TG):TS:=λ D σ H=>te σ H λ x H1=>g x σ H1 D.nx
theorem w2q {tg e:Expr} {te:TE} {g:TG} (he:PE X e te) (hg:PG X tg g) (hs:swapsWithSole [tg] e pos.line X.env=pure false:=by rfl) (hw:swappedStores [tg] e X.env=pure none:=by rfl)
    (h1:(assignEach [tg] X.env).map (·.2)=[assign tg X.env]:=by rfl):PS X (.Assign [tg] e pos) (uBq te g):=by
  intro pins s σ H D I h
  refine wpAny_Assign_stores (thn (he pins s σ H _ I h) λ v s1 ⟨x,H1,I1,r1,q1⟩=>?_) hs hw
  rw [h1]
  exact thn (hg pins s1 σ H1 x v _ I1 r1 q1) λ _ s2 q=>q
theorem uLq {i:Nat} {x:Str} {e:Expr} {te:TE} {pos':Pos} (hN:X.N.Nodup) (hi:X.N[i]?=some x) (hx:Loc X.env.scope x) (he:PE X e te) (hs:swapsWith e (some (.Name x pos')) pos.line X.env=pure false:=by rfl) (hf:X.fn x=true\/X.env.scope.names.lookup x=some .local:=by first | exact .inl rfl | exact .inr rfl | assumption) :
    PS X (.Assign [.Name x pos'] e pos) (uBq te (lAq i)):=by
  intro pins s σ H D I h
  refine wpAny_Assign_Name (thn (he pins s σ H _ I h) λ v s1 ⟨y,H1,I1,r1,q1⟩=>?_) hs
  exact dGq I1 hN hi hx r1 (λ s2 I2=>⟨_,H1,I2,q1⟩) hf
end
section
variable {X:Cx} {pos:Pos}
def r0q (c:TT) (tb:TS):TS:=λ D σ H=>∃ W:Nat->St->Hp->Prop,(∃ m,W m σ H)/\∀ m σ H,W m σ H →
  c σ H λ b H1=>if b=true then ∃ N:St->Hp->Prop,(∀ σ' H',N σ' H'->∃ m',m' < m/\W m' σ' H')/\tb { D with nx:=N,ct:=N,bk:=D.nx } σ H1 else D.nx σ H1
theorem q0q {c:Expr} {body:List Stmt} {tc:TT} {tb:TS} (hp:PassesOwn (model X.prog X.w) X.A X.env X.xe) (hc:PT X c tc) (hb:PSs X body tb):PS X (.While c body [] pos) (r0q tc tb):=by
  intro pins s σ H D I h
  obtain ⟨W,⟨m0,w0⟩,turn⟩:=h
  refine wpAny_While (codeAny_whileLoop (λ n s'=>∃ σ' H',Inv X pins σ' H' s'/\W n σ' H') ?_ m0 ⟨σ,H,I,w0⟩)
  rintro n s1 ⟨σ1,H1,I1,w1⟩
  refine wpAny_passesOwn hp (thn (hc pins s1 σ1 H1 _ I1 (turn n σ1 H1 w1)) λ b s2 ⟨H2,I2,q2⟩=>?_)
  cases b with
  | true=>
    obtain ⟨N,hN,q2⟩:=q2
    rw [if_pos rfl]
    refine wpAny_passesOwn hp (thn (hb pins s2 σ1 H2 _ I2 q2) λ f s3 q3=>?_)
    cases f with
    | next=>
      obtain ⟨σ3,H3,I3,n3⟩:=q3
      obtain ⟨m',hm,w3⟩:=hN σ3 H3 n3
      exact ⟨m',hm,σ3,H3,I3,w3⟩
    | cont=>
      obtain ⟨σ3,H3,I3,n3⟩:=q3
      obtain ⟨m',hm,w3⟩:=hN σ3 H3 n3
      exact ⟨m',hm,σ3,H3,I3,w3⟩
    | brk=>exact q3
    | ret v=>exact q3
  | false=>
    rw [if_neg Bool.false_ne_true]
    exact wpAny_execs_nil ⟨σ1,H2,I2,q2⟩
end
structure It where
  go:Nat->Hp->Prop
  yld:Nat->Hp->V->Hp->Prop
  stop:Nat->Hp->Prop
def hYq (X:Cx) (pins:List (Addr × Obj)) (H:Hp) (b:Addr):Prop:=
  H b=none/\b≠X.env.locals/\b ∉ X.fs/\(b∈X.ex\/X.s₀.heap.objs.size<=b)/\(∀ x c,X.env.cells.lookup x=some c->c≠b)/\∀ p∈X.pn++pins,p.1≠b
theorem Inv.fpOk {X:Cx} {pins:List (Addr × Obj)} {σ:St} {H H':Hp} {s:Shared} {b:Addr} (I:Inv X pins σ H s) (hb:s.heap.objs.size<=b) (hn:H' b=none):hYq X pins H' b:=by
  refine ⟨hn,Nat.ne_of_gt (Nat.lt_of_lt_of_le I.lt hb),I.nofs hb,.inr (Nat.le_trans I.sz hb),λ x c e z=>?_,λ p hp z=>?_⟩
  . obtain ⟨v,q⟩:=I.cell x c e
    exact absurd (Nat.lt_of_lt_of_le q.lt (by rw [z];exact hb)) (Nat.lt_irrefl _)
  . exact absurd (Nat.lt_of_lt_of_le (Heap.lt_size (I.pin p hp).1) (by rw [z];exact hb)) (Nat.lt_irrefl _)
structure Turn (P:Program) (w:World) (K:PySem.W.Frag) (tg:Expr) (J:It) (fp:List Addr) (it:Addr) (tn:Nat->Heap->Prop):Prop where
  mem:it∈fp
  obj:∀ i h,tn i h->∀ b∈fp,∃ o,h.get? b=some o/\∀ v,o.data≠.cell v
  keep:∀ i h h',tn i h->(∀ b∈fp,∀ o,h.get? b=some o->h'.get? b=some o)->tn i h'
  item:∀ (X:Cx),X.prog=P->X.w=w->X.K=K->X.calm=true->∀ (i:Nat) (pins:List (Addr × Obj)) (s:Shared) (σ:St) (H:Hp) (E:Value->Shared->Prop),Inv X pins σ H s->(∀ b∈fp,hYq X pins H b)->tn i s.heap->J.go i H →
    wpAny (model P w) X.A (pyNext (.ref it)) (λ r s1=>∃ u,r=some u ∧
      wpAny (model P w) X.A (letOwnedTupleGo tg (.ref it) u) (λ _ s2=>∃ x H',Inv X pins σ H' s2/\RelV x u/\J.yld i H x H'/\tn (i+1) s2.heap/\∀ b∈fp,H' b=none) E s1) E s
  done:∀ (X:Cx),X.prog=P->X.w=w->X.K=K->X.calm=true->∀ (i:Nat) (pins:List (Addr × Obj)) (s:Shared) (σ:St) (H:Hp) (E:Value->Shared->Prop),Inv X pins σ H s->(∀ b∈fp,hYq X pins H b)->tn i s.heap->J.stop i H →
    wpAny (model P w) X.A (pyNext (.ref it)) (λ r s1=>r=none/\Inv X pins σ H s1) E s
  self:∀ (A:Around) (i:Nat) (s:Shared) (Q:Value->Shared->Prop) (E:Value->Shared->Prop),tn i s.heap->Q (.ref it) s->wpAny (model P w) A (pyIter (.ref it)) Q E s
abbrev TI:=St->Hp->(It->Hp->Prop)->Prop
def PIE (X:Cx) (pins:List (Addr × Obj)) (σ:St) (tg:Expr) (R:It->Hp->Prop) (itv:Value) (s2:Shared):Prop:=
  ∃ (it:Addr) (fp:List Addr) (tn:Nat->Heap->Prop) (J:It) (H':Hp),itv=.ref it/\Inv X pins σ H' s2/\Turn X.prog X.w X.K tg J fp it tn/\tn 0 s2.heap/\(∀ b∈fp,hYq X pins H' b)/\R J H'
def PI (X:Cx) (tg iter:Expr) (wi:TI):Prop:=
  ∀ (pins:List (Addr × Obj)) (s:Shared) (σ:St) (H:Hp) (R:It->Hp->Prop),Inv X pins σ H s->wi σ H R →
    wpAny (model X.prog X.w) X.A (eval iter X.env) (λ v s1=>wpAny (model X.prog X.w) X.A (pyIter v) (PIE X pins σ tg R) X.xe s1) X.xe s
theorem pWq {M:Model} {A:Around} {E:Value->Shared->Prop} {s:Shared} {tg:Expr} {it:Addr} {u:Value} {o:Obj} {n:String} {vs:Array Value} {Q:Unit->Shared->Prop} (ho:s.heap.get? it=some o) (hc:o.cls=.type n) (hd:o.data=.fields vs)
    (hn:["enumerate", "zip", "dict_itemiterator", "dict_reverseitemiterator", "odict_iterator", "itertools.zip_longest", "itertools.pairwise"].contains n=false) (hQ:Q () s):wpAny M A (letOwnedTupleGo tg (.ref it) u) Q E s:=by
  unfold letOwnedTupleGo
  cases tg<;>first
    | exact wpAny_pure hQ
    | (cases u<;>first
        | exact wpAny_pure hQ
        | (refine wpAny_bind (wpAny_load ho ?_)
           rw [hc,hd]
           show wpAny M A (if (["enumerate", "zip", "dict_itemiterator", "dict_reverseitemiterator", "odict_iterator", "itertools.zip_longest", "itertools.pairwise"].contains n&&vs[0]?==some (rawInt _))=true then _ else _) Q E s
           rw [if_neg (by intro h;rw [hn,Bool.false_and] at h;cases h)]
           exact wpAny_pure hQ))
def Itl (K:PySem.W.Frag) (a:Addr):It:=
  ⟨λ i H=>∃ xs x,SqL K H a xs/\xs[i]?=some x,λ i H x H'=>H'=H/\∀ xs,SqL K H a xs->xs[i]?=some x,λ i H=>∃ xs,SqL K H a xs/\xs.length<=i⟩
def Itt (K:PySem.W.Frag) (a:Addr):It:=
  ⟨λ i H=>∃ xs x,SqT K H a xs/\xs[i]?=some x,λ i H x H'=>H'=H/\∀ xs,SqT K H a xs->xs[i]?=some x,λ i H=>∃ xs,SqT K H a xs/\xs.length<=i⟩
def Itr (lo:Int) (n:Nat):It:=⟨λ i _=>i < n,λ i H x H'=>H'=H/\x=.int (lo+i),λ i _=>n<=i⟩
theorem m3q {P:Program} {w:World} {K:PySem.W.Frag} {tg:Expr} (a it:Addr):Turn P w K tg (Itl K a) [it] it (λ i h=>h.IsListIter it a i) where
  mem:=by simp
  obj:=λ i h st b hb=>by
    have e:b=it:=by simpa using hb
    subst e
    obtain ⟨o,e,c,d⟩:=st
    exact ⟨o,e,λ v z=>by rw [d] at z;cases z⟩
  keep:=λ i h h' st k=>st.at λ o e=>k it (by simp) o e
  item:=by
    intro X hP hw hK hc i pins s σ H E I hf st hg
    subst hP hw hK
    obtain ⟨xs,x,hq,hx⟩:=hg
    obtain ⟨its,rv,p,hz⟩:=I.list hq
    obtain ⟨u,hu,ru⟩:=rv.get hx
    obtain ⟨f0,f1,f2,f3,f4,f5⟩:=hf it (by simp)
    refine wpAny_pyNext_list_item st p.isList (x:=u) (by simpa using hu) λ h' st' sb=>?_
    have I1:Inv X pins σ H { s with heap:=h' }:=I.turned (t':=s.toks) (λ b o hb e=>(sb.2 b hb).trans e) f0 f1 f3 f4 f5
    obtain ⟨o,e,c,d⟩:=id st'
    exact ⟨u,rfl,pWq (s:={ s with heap:=h' }) e c d (by decide) ⟨x,H,I1,ru,⟨rfl,λ ys hy=>by rw [I.list_inj hy hq];exact hx⟩,st',λ b hb=>(hf b hb).1⟩⟩
  done:=by
    intro X hP hw hK hc i pins s σ H E I hf st hg
    subst hP hw hK
    obtain ⟨xs,hq,hx⟩:=hg
    obtain ⟨its,rv,p,hz⟩:=I.list hq
    obtain ⟨f0,f1,f2,f3,f4,f5⟩:=hf it (by simp)
    have hl:=rv.length
    exact wpAny_pyNext_list_end (I.ok.hd hc) st p.isList (by simp;omega) λ h' eb=>⟨rfl,I.turned (t':=s.toks) (λ b o hb e=>eb b o hb e) f0 f1 f3 f4 f5⟩
  self:=λ _ _ _ _ _ st h=>wpAny_pyIter_listiter st h
theorem lEq {P:Program} {w:World} {K:PySem.W.Frag} {tg:Expr} (a it:Addr):Turn P w K tg (Itt K a) [it] it (λ i h=>h.IsTupleIter it a i) where
  mem:=by simp
  obj:=λ i h st b hb=>by
    have e:b=it:=by simpa using hb
    subst e
    obtain ⟨o,e,c,d⟩:=st
    exact ⟨o,e,λ v z=>by rw [d] at z;cases z⟩
  keep:=λ i h h' st k=>st.at λ o e=>k it (by simp) o e
  item:=by
    intro X hP hw hK hc i pins s σ H E I hf st hg
    subst hP hw hK
    obtain ⟨xs,x,hq,hx⟩:=hg
    obtain ⟨its,rv,p,hz⟩:=I.tuple hq
    obtain ⟨u,hu,ru⟩:=rv.get hx
    obtain ⟨f0,f1,f2,f3,f4,f5⟩:=hf it (by simp)
    refine wpAny_pyNext_tuple_item st (show s.heap.IsTuple a its.toArray from p) (x:=u) (by simpa using hu) λ h' st' sb=>?_
    have I1:Inv X pins σ H { s with heap:=h' }:=I.turned (t':=s.toks) (λ b o hb e=>(sb.2 b hb).trans e) f0 f1 f3 f4 f5
    obtain ⟨o,e,c,d⟩:=id st'
    exact ⟨u,rfl,pWq (s:={ s with heap:=h' }) e c d (by decide) ⟨x,H,I1,ru,⟨rfl,λ ys hy=>by rw [I.tuple_inj hy hq];exact hx⟩,st',λ b hb=>(hf b hb).1⟩⟩
  done:=by
    intro X hP hw hK hc i pins s σ H E I hf st hg
    subst hP hw hK
    obtain ⟨xs,hq,hx⟩:=hg
    obtain ⟨its,rv,p,hz⟩:=I.tuple hq
    obtain ⟨f0,f1,f2,f3,f4,f5⟩:=hf it (by simp)
    have hl:=rv.length
    exact wpAny_pyNext_tuple_end (I.ok.hd hc) st (show s.heap.IsTuple a its.toArray from p) (by simp;omega) λ h' eb=>⟨rfl,I.turned (t':=s.toks) (λ b o hb e=>eb b o hb e) f0 f1 f3 f4 f5⟩
  self:=λ _ _ _ _ _ st h=>wpAny_pyIter_tupleiter st h
theorem lVq {P:Program} {w:World} {K:PySem.W.Frag} {tg:Expr} (it:Addr) (lo:Int) (n:Nat):Turn P w K tg (Itr lo n) [it] it (λ i h=>IsRangeIter h it (lo+(i:Nat) * 1) ((n:Int) - (i:Nat)) 1) where
  mem:=by simp
  obj:=λ i h st b hb=>by
    have e:b=it:=by simpa using hb
    subst e
    exact ⟨_,st,λ v z=>by
      have z':Data.fields _=Data.cell v:=z
      cases z'⟩
  keep:=λ i h h' st k=>k it (by simp) _ st
  item:=by
    intro X hP hw hK hc i pins s σ H E I hf st hg
    subst hP hw hK
    obtain ⟨f0,f1,f2,f3,f4,f5⟩:=hf it (by simp)
    have W:=Walks.range (prog:=X.prog) (w:=X.w) (I.ok.hd hc) it lo 1 n
    refine W.item i s _ _ hg st λ v h' tk hv st' kk=>?_
    obtain ⟨t,rfl⟩:=hv
    have I1:Inv X pins σ H { s with heap:=h',toks:=tk }:=I.turned (λ b o hb e=>kk b o (by simpa using hb) e) f0 f1 f3 f4 f5
    refine ⟨_,rfl,pWq (s:={ s with heap:=h',toks:=tk }) (n:="range_iterator") st' rfl rfl (by decide) ⟨.int (lo+i),H,I1,⟨t,?_⟩,⟨rfl,rfl⟩,st',λ b hb=>(hf b hb).1⟩⟩
    rw [Int.mul_one]
  done:=by
    intro X hP hw hK hc i pins s σ H E I hf st hg
    subst hP hw hK
    obtain ⟨f0,f1,f2,f3,f4,f5⟩:=hf it (by simp)
    exact wpAny_pyNext_range_end (I.ok.hd hc) st (by have:n<=i:=hg;omega) λ h' eb=>⟨rfl,I.turned (t':=s.toks) (λ b o hb e=>eb b o hb e) f0 f1 f3 f4 f5⟩
  self:=λ _ _ _ _ _ st h=>wpAny_pyIter_rangeiter st h
section
variable {X:Cx} {tg:Expr}
theorem qGq {pins:List (Addr × Obj)} {σ:St} {H:Hp} {s:Shared} {R:It->Hp->Prop} {E:Value->Shared->Prop} {lo hi:Int} {t u v:Tok} {tk:Nat} (I:Inv X pins σ H s) (h1:-(2 ^ 62)<=lo) (h2:lo < 2 ^ 62) (h3:-(2 ^ 62)<=hi) (h4:hi < 2 ^ 62)
    (q:R (Itr lo (hi - lo).toNat) H):wpAny (model X.prog X.w) X.A (pyIter (.ref s.heap.objs.size)) (PIE X pins σ tg R) E { s with heap:=s.heap.push { cls:=.type "range", data:=.fields #[.int lo t,.int hi u,.int 1 v] },toks:=tk }:=by
  refine wpAny_pyIter_range (IsRange.new ..) (small_one h1 h2 h3 h4) ?_
  have I1:Inv X pins σ H { s with heap:=s.heap.push { cls:=.type "range", data:=.fields #[.int lo t,.int hi u,.int 1 v] },toks:=tk }:=I.kept λ b o e=>Heap.get?_push_of_some _ e
  refine ⟨(s.heap.push { cls:=.type "range", data:=.fields #[.int lo t,.int hi u,.int 1 v] }).objs.size,[(s.heap.push { cls:=.type "range", data:=.fields #[.int lo t,.int hi u,.int 1 v] }).objs.size],_,_,H,rfl,
    I1.kept (t':=tk) λ b o e=>Heap.get?_push_of_some _ e,lVq _ lo (hi - lo).toNat,?_,λ b hb=>?_,q⟩
  . have e1:lo+((0:Nat):Int) * 1=lo:=by simp
    have e2:(((hi - lo).toNat:Nat):Int) - ((0:Nat):Int)=Builtin.Range.rangeSize lo hi 1:=by rw [rangeSize_one];split<;>omega
    show IsRangeIter _ _ (lo+((0:Nat):Int) * 1) ((((hi - lo).toNat:Nat):Int) - ((0:Nat):Int)) 1
    rw [e1,e2]
    exact Heap.get?_push_size _ rfl
  . have e:b=(s.heap.push { cls:=.type "range", data:=.fields #[.int lo t,.int hi u,.int 1 v] }).objs.size:=by simpa using hb
    subst e
    exact I1.fpOk (Nat.le_refl _) (I1.hok.fresh (Nat.le_refl _))
def xJq (ta:TA):TI:=λ σ H R=>ta σ H λ vs H1=>∃ j:Int,vs=[.int j]/\-(2 ^ 62)<=j/\j < 2 ^ 62/\R (Itr 0 j.toNat) H1
theorem mTq {a:Expr} {ta:TA} {p pos:Pos} (hg:Gl X "range") (hm:X.mg "range" = none) (ha:PA X [a] ta) (hs:starEach [a] X.env=[(false,eval a X.env)]:=by rfl):PI X tg (.Call (.Name "range" p) [a] [] pos) (xJq ta):=by
  intro pins s σ H R I h
  refine Call_ (c3q I hg hm boot_range (PyProof.Rows.callWith_type1 (thn (ha pos pins s σ H _ I h) λ us s1 ⟨vs,H1,I1,r1,q1⟩=>?_) hs rfl))
  obtain ⟨j,e,q1,q2,q⟩:=q1
  subst e
  cases r1 with
  | cons r rr=>
    cases rr
    obtain ⟨t,rfl⟩:=r
    exact call_range_1 (qGq I1 (by omega) (by omega) q1 q2 (by simpa using q))
def tFor (wi:TI) (g:TG) (tb:TS):TS:=λ D σ H=>wi σ H λ J H1=>∃ W:Nat->Nat->St->Hp->Prop,(∃ m,W 0 m σ H1)/\∀ i m σ H,W i m σ H →
  (J.stop i H/\D.nx σ H)\/(J.go i H/\∃ N:St->Hp->Prop,(∀ σ' H',N σ' H'->∃ m',m' < m/\W (i+1) m' σ' H')/\∀ x H',J.yld i H x H'->g x σ H' λ σ2 H2=>tb { D with nx:=N,ct:=N,bk:=D.nx } σ2 H2)
def j8q (fp:List Addr) (h:Heap):List (Addr × Obj):=fp.filterMap λ b=>(h.get? b).map λ o=>(b,o)
theorem b9q {fp:List Addr} {h:Heap} {b:Addr} {o:Obj} (hb:b∈fp) (e:h.get? b=some o):(b,o)∈j8q fp h:=List.mem_filterMap.mpr ⟨b,hb,by rw [e];rfl⟩
theorem mGq {fp:List Addr} {h:Heap} {p:Addr × Obj} (hp:p∈j8q fp h):p.1∈fp/\h.get? p.1=some p.2:=by
  obtain ⟨b,hb,e⟩:=List.mem_filterMap.mp hp
  cases q:h.get? b with
  | none=>rw [q] at e;cases e
  | some o=>
    rw [q] at e
    have e':(b,o)=p:=Option.some.inj e
    subst e'
    exact ⟨hb,q⟩
theorem Inv.pinned {pins:List (Addr × Obj)} {σ:St} {H:Hp} {s:Shared} {fp:List Addr} (I:Inv X pins σ H s) (hf:∀ b∈fp,hYq X pins H b) (ho:∀ b∈fp,∃ o,s.heap.get? b=some o/\∀ v,o.data≠.cell v):Inv X (pins++j8q fp s.heap) σ H s:=
  I.pins_of λ p hp=>(List.mem_append.mp hp).elim (λ z=>I.pin p (List.mem_append_right _ z)) λ z=>by
    obtain ⟨hb,e⟩:=mGq z
    obtain ⟨f0,f1,f2,_⟩:=hf p.1 hb
    obtain ⟨o,e',d⟩:=ho p.1 hb
    rw [e] at e';cases e'
    exact ⟨e,f0,f1,f2,d⟩
theorem Inv.unpinned {pins pl:List (Addr × Obj)} {σ:St} {H:Hp} {s:Shared} (I:Inv X (pins++pl) σ H s):Inv X pins σ H s:=I.pins_of λ p hp=>I.pin p (List.mem_append_right _ (List.mem_append_left _ hp))
theorem vCq {iter:Expr} {body:List Stmt} {wi:TI} {g:TG} {tb:TS} {pos:Pos} (hp:PassesOwn (model X.prog X.w) X.A X.env X.xe) (hc:X.calm=true) (hi:PI X tg iter wi) (hg:PG X tg g) (hb:PSs X body tb)
    (hs:∀ x,foldedSetIterable iter X.env x=pure x:=by intro _;rfl):PS X (.For tg iter body [] pos) (tFor wi g tb):=by
  intro pins s σ H D I h
  refine wpAny_For (thn (hi pins s σ H _ I h) λ v s1 h1=>thn h1 λ itv s2 h2=>?_) hs
  obtain ⟨it,fp,tn,J,H2,e,I2,T,st2,f2,W,⟨m0,w0⟩,turn⟩:=h2
  subst e
  have stat:∀ {H':Hp},(∀ b∈fp,H' b=none)->∀ b∈fp,hYq X pins H' b:=λ hn b hb=>⟨hn b hb,(f2 b hb).2⟩
  refine codeAny_forLoop_any (λ n s'=>∃ i σ' H',Inv X pins σ' H' s'/\tn i s'.heap/\(∀ b∈fp,H' b=none)/\W i n σ' H') ?_ m0 ⟨0,σ,H2,I2,st2,λ b hb=>(f2 b hb).1,w0⟩
  rintro n s3 ⟨i,σ3,H3,I3,st3,fr3,w3⟩
  rcases turn i n σ3 H3 w3 with ⟨stop,qn⟩ | ⟨go,N,hN,step⟩
  . refine wpAny_passesOwn hp (thn (T.done X rfl rfl rfl hc i pins s3 σ3 H3 X.xe I3 (stat fr3) st3 stop) λ r s4 ⟨hr,I4⟩=>?_)
    subst hr
    exact wpAny_execs_nil ⟨σ3,H3,I4,qn⟩
  . refine wpAny_passesOwn hp (thn (T.item X rfl rfl rfl hc i pins s3 σ3 H3 X.xe I3 (stat fr3) st3 go) λ r s4 ⟨u,hr,h4⟩=>?_)
    subst hr
    refine wpAny_passesOwn hp (thn h4 λ _ s5 ⟨x,H5,I5,r5,y5,st5,fr5⟩=>?_)
    have I5':=I5.pinned (stat fr5) (T.obj _ _ st5)
    refine wpAny_passesOwn hp (thn (hg _ s5 σ3 H5 x u _ I5' r5 (step x H5 y5)) λ _ s6 ⟨σ6,H6,I6,q6⟩=>?_)
    refine wpAny_passesOwn hp (thn (hb _ s6 σ6 H6 _ I6 q6) λ f s7 q7=>?_)
    have again:∀ {σ7:St} {H7:Hp},Inv X (pins++j8q fp s5.heap) σ7 H7 s7->N σ7 H7->∃ m,m < n/\∃ i σ' H',Inv X pins σ' H' s7/\tn i s7.heap/\(∀ b∈fp,H' b=none)/\W i m σ' H':=λ{σ7 H7} I7 n7=>by
      obtain ⟨m',hm,w7⟩:=hN σ7 H7 n7
      refine ⟨m',hm,i+1,σ7,H7,I7.unpinned,T.keep _ _ _ st5 λ b hb o e=>(I7.pin (b,o) (List.mem_append_right _ (List.mem_append_right _ (b9q hb e)))).1,λ b hb=>?_,w7⟩
      obtain ⟨o,e,d⟩:=T.obj _ _ st5 b hb
      exact (I7.pin (b,o) (List.mem_append_right _ (List.mem_append_right _ (b9q hb e)))).2.1
    cases f with
    | next=>obtain ⟨σ7,H7,I7,n7⟩:=q7;exact again I7 n7
    | cont=>obtain ⟨σ7,H7,I7,n7⟩:=q7;exact again I7 n7
    | brk=>obtain ⟨σ7,H7,I7,q7⟩:=q7;exact ⟨σ7,H7,I7.unpinned,q7⟩
    | ret v=>obtain ⟨x7,σ7,H7,I7,r7,q7⟩:=q7;exact ⟨x7,σ7,H7,I7.unpinned,r7,q7⟩
end
abbrev R2:=V->V->Hp->VK->Prop
def OpR (X:Cx) (f:Value->Value->Sem Value) (r:R2):Prop:=
  ∀ (pins:List (Addr × Obj)) (s:Shared) (σ:St) (H:Hp) (x y:V) (v u:Value) (Q:VK),Inv X pins σ H s->RelV x v->RelV y u->r x y H Q →
    wpAny (model X.prog X.w) X.A (f v u) (EP X pins σ Q) X.xe s
def UnR (X:Cx) (f:Value->Sem Value) (r:V->Hp->VK->Prop):Prop:=
  ∀ (pins:List (Addr × Obj)) (s:Shared) (σ:St) (H:Hp) (x:V) (v:Value) (Q:VK),Inv X pins σ H s->RelV x v->r x H Q →
    wpAny (model X.prog X.w) X.A (f v) (EP X pins σ Q) X.xe s
def CallR (X:Cx) (f:Value) (r:List V->Hp->VK->Prop):Prop:=
  ∀ (pins:List (Addr × Obj)) (s:Shared) (σ:St) (H:Hp) (xs:List V) (us:List Value) (Q:VK),Inv X pins σ H s->Vals xs us->r xs H Q →
    wpAny (model X.prog X.w) X.A (call f us) (EP X pins σ Q) X.xe s
def TruR (X:Cx) (r:V->Hp->(Bool->Hp->Prop)->Prop):Prop:=
  ∀ (pins:List (Addr × Obj)) (s:Shared) (σ:St) (H:Hp) (x:V) (v:Value) (Q:Bool->Hp->Prop),Inv X pins σ H s->RelV x v->r x H Q →
    wpAny (model X.prog X.w) X.A (truthy v) (TP X pins σ Q) X.xe s
def tOp (r:R2) (ta tb:TE):TE:=λ σ H Q=>ta σ H λ x H1=>tb σ H1 λ y H2=>r x y H2 Q
def tUn (r:V->Hp->VK->Prop) (ta:TE):TE:=λ σ H Q=>ta σ H λ x H1=>r x H1 Q
def rI (C:Int->Int->Prop) (g:Int->Int->V):R2:=λ x y H Q=>∃ i j,x=.int i/\y=.int j/\C i j/\Q (g i j) H
def rI0 (g:Int->Int->V):R2:=λ x y H Q=>∃ i j,x=.int i/\y=.int j/\Q (g i j) H
def rU (g:Int->V):V->Hp->VK->Prop:=λ x H Q=>∃ i,x=.int i/\Q (g i) H
section
variable {X:Cx} {a b c:Expr} {ta tb tc:TE} {pos:Pos}
theorem zIq (ha:PE X a ta) (hb:PE X b tb) {pins:List (Addr × Obj)} {s:Shared} {σ:St} {H:Hp} {R:V->V->Hp->Prop} (I:Inv X pins σ H s)
    (h:ta σ H λ x H1=>tb σ H1 λ y H2=>R x y H2) {Q:Value->Shared->Prop} {f:Value->Value->Sem Value}
    (hf:∀ v u s2 x y H2,Inv X pins σ H2 s2->RelV x v->RelV y u->R x y H2->wpAny (model X.prog X.w) X.A (f v u) Q X.xe s2) :
    wpAny (model X.prog X.w) X.A (eval a X.env) (λ v s₁=>wpAny (model X.prog X.w) X.A (eval b X.env) (λ u s₂=>wpAny (model X.prog X.w) X.A (f v u) Q X.xe s₂) X.xe s₁) X.xe s:=by
  refine thn (ha pins s σ H _ I h) λ v s1 ⟨x,H1,I1,r1,q1⟩=>?_
  refine thn (hb pins s1 σ H1 _ I1 q1) λ u s2 ⟨y,H2,I2,r2,q2⟩=>?_
  exact hf v u s2 x y H2 I2 r1 r2 q2
theorem zOq {op:Operator} {r:R2} (ho:OpR X (binaryOp op) r) (ha:PE X a ta) (hb:PE X b tb):PE X (.BinOp a op b pos) (tOp r ta tb):=by
  intro pins s σ H Q I h
  exact wpAny_BinOp (zIq ha hb I h λ v u s2 x y H2 I2 rx ry q=>ho pins s2 σ H2 x y v u Q I2 rx ry q)
theorem zMq {op:UnaryOp} {r:V->Hp->VK->Prop} (ho:UnR X (unaryOp op) r) (ha:PE X a ta):PE X (.UnaryOp op a pos) (tUn r ta):=by
  intro pins s σ H Q I h
  exact UnaryOp_ (thn (ha pins s σ H _ I h) λ v s1 ⟨x,H1,I1,r1,q1⟩=>ho pins s1 σ H1 x v Q I1 r1 q1)
theorem opI {f:Value->Value->Sem Value} {C:Int->Int->Prop} {g:Int->Int->Int}
    (rule:∀ (i j:Int) (t u:Tok) (s:Shared) (Q:Value->Shared->Prop) (E:Value->Shared->Prop),C i j->Q (.int (g i j) s.toks) { s with toks:=s.toks+1 }->wpAny (model X.prog X.w) X.A (f (.int i t) (.int j u)) Q E s) :
    OpR X f (rI C λ i j=>.int (g i j)):=by
  intro pins s σ H x y v u Q I rx ry h
  obtain ⟨i,j,rfl,rfl,hc,q⟩:=h
  obtain ⟨t,rfl⟩:=rx
  obtain ⟨t',rfl⟩:=ry
  exact rule i j t t' s _ _ hc ⟨.int (g i j),H,I.tok _,⟨_,rfl⟩,q⟩
theorem opI0 {f:Value->Value->Sem Value} {g:Int->Int->Int}
    (rule:∀ (i j:Int) (t u:Tok) (s:Shared) (Q:Value->Shared->Prop) (E:Value->Shared->Prop),Q (.int (g i j) s.toks) { s with toks:=s.toks+1 }->wpAny (model X.prog X.w) X.A (f (.int i t) (.int j u)) Q E s) :
    OpR X f (rI0 λ i j=>.int (g i j)):=by
  intro pins s σ H x y v u Q I rx ry h
  obtain ⟨i,j,rfl,rfl,q⟩:=h
  obtain ⟨t,rfl⟩:=rx
  obtain ⟨t',rfl⟩:=ry
  exact rule i j t t' s _ _ ⟨.int (g i j),H,I.tok _,⟨_,rfl⟩,q⟩
theorem opB0 {f:Value->Value->Sem Value} {g:Int->Int->Bool}
    (rule:∀ (i j:Int) (t u:Tok) (s:Shared) (Q:Value->Shared->Prop) (E:Value->Shared->Prop),Q (.bool (g i j)) s->wpAny (model X.prog X.w) X.A (f (.int i t) (.int j u)) Q E s) :
    OpR X f (rI0 λ i j=>.bl (g i j)):=by
  intro pins s σ H x y v u Q I rx ry h
  obtain ⟨i,j,rfl,rfl,q⟩:=h
  obtain ⟨t,rfl⟩:=rx
  obtain ⟨t',rfl⟩:=ry
  exact rule i j t t' s _ _ ⟨.bl (g i j),H,I,rfl,q⟩
def CPow (i j:Int):Prop:=0<=j/\j<=1000000/\i.natAbs < 2 ^ 64
def CMul (i j:Int):Prop:=(-(2 ^ 64) < i/\i < 2 ^ 64)\/(-(2 ^ 64) < j/\j < 2 ^ 64)
theorem CMul.ok {i j:Int} (h:CMul i j):IntMulOk i j:=by
  rcases h with ⟨h1,h2⟩ | ⟨h1,h2⟩
  . exact .of_left (intBits_le_64 h1 h2)
  . exact .of_right (intBits_le_64 h1 h2)
theorem op_add:OpR X (binaryOp .Add) (rI0 λ i j=>.int (i+j)):=opI0 λ _ _ _ _ _ _ _ q=>add_int q
theorem uJq:OpR X (binaryOp .Sub) (rI0 λ i j=>.int (i - j)):=opI0 λ _ _ _ _ _ _ _ q=>sub_int q
theorem y8q:OpR X (binaryOp .Mult) (rI CMul λ i j=>.int (i * j)):=opI λ _ _ _ _ _ _ _ hc q=>mul_int q hc.ok
theorem vXq:OpR X (binaryOp .Mod) (rI (λ _ j=>0 < j) λ i j=>.int (i % j)):=opI λ i j _ _ _ _ _ hc q=>by
  have h1:(0:Int) < j:=hc
  exact mod_int' (by omega) (by rw [Int.fmod_eq_emod_of_nonneg i (by omega)];exact q)
theorem vWq:OpR X (binaryOp .Pow) (rI CPow λ i j=>.int (i ^ j.toNat)):=opI λ _ _ _ _ _ _ _ hc q=>pow_int_small hc.1 hc.2.1 hc.2.2 q
theorem unI {f:Value->Sem Value} {g:Int->Int}
    (rule:∀ (i:Int) (t:Tok) (s:Shared) (Q:Value->Shared->Prop) (E:Value->Shared->Prop),Q (.int (g i) s.toks) { s with toks:=s.toks+1 }->wpAny (model X.prog X.w) X.A (f (.int i t)) Q E s) :
    UnR X f (rU λ i=>.int (g i)):=by
  intro pins s σ H x v Q I rx h
  obtain ⟨i,rfl,q⟩:=h
  obtain ⟨t,rfl⟩:=rx
  exact rule i t s _ _ ⟨.int (g i),H,I.tok _,⟨_,rfl⟩,q⟩
theorem w5q:UnR X (unaryOp .USub) (rU λ i=>.int (-i)):=unI λ _ _ _ _ _ q=>neg_int q
end
section
variable {X:Cx} {a b c:Expr} {ta tb tc:TE} {pos:Pos}
theorem rJq {pins:List (Addr × Obj)} {σ:St} {H:Hp} {s:Shared} {Q:VK} {k k':Bool} (I:Inv X pins σ H s) (q:Q (.bl k) H) (e:k=k'):EP X pins σ Q (.bool k') s:=by
  subst e
  exact ⟨.bl k,H,I,rfl,q⟩
theorem yPq:OpR X (compareOp .Lt) (rI0 λ i j=>.bl (decide (i < j))):=opB0 λ _ _ _ _ _ _ _ q=>lt_int q
theorem z2q:OpR X (compareOp .Gt) (rI0 λ i j=>.bl (decide (j < i))):=opB0 λ _ _ _ _ _ _ _ q=>gt_int q
theorem zGq:OpR X (compareOp .GtE) (rI0 λ i j=>.bl (decide (j<=i))):=opB0 λ _ _ _ _ _ _ _ q=>ge_int q
theorem oEq:OpR X (compareOp .In) (λ x y H Q=>∃ i j,x=.str i/\y=.str j/\Q (.bl (!(Builtin.Str.occurrences j i 0 j.length 1).isEmpty)) H):=by
  intro pins s σ H x y v u Q I rx ry h
  obtain ⟨i,j,rfl,rfl,q⟩:=h
  obtain ⟨t,rfl⟩:=rx
  obtain ⟨t',rfl⟩:=ry
  exact in_str (rJq I q rfl)
theorem sBq:OpR X (compareOp .IsNot) (λ x y H Q=>y=.non/\Q (.bl (!decide (x=.non))) H):=by
  intro pins s σ H x y v u Q I rx ry h
  obtain ⟨rfl,q⟩:=h
  cases ry
  refine isnot_none_gen (rJq I q ?_)
  cases x<;>first
    | (cases rx;rfl)
    | (obtain ⟨t,rfl⟩:=rx;rfl)
theorem OpR.or {f:Value->Value->Sem Value} {r r':R2} (h:OpR X f r) (h':OpR X f r'):OpR X f (λ x y H Q=>r x y H Q\/r' x y H Q):=by
  intro pins s σ H x y v u Q I rx ry q
  rcases q with q | q
  . exact h pins s σ H x y v u Q I rx ry q
  . exact h' pins s σ H x y v u Q I rx ry q
theorem aBq (b:Expr) {op:CmpOp} (h:op≠.In:=by decide) (h2:op≠.NotIn:=by decide):behindInMarks op b=false:=by
  have e1:(op==CmpOp.In)=false:=by cases op<;>first | rfl | exact absurd rfl h
  have e2:(op==CmpOp.NotIn)=false:=by cases op<;>first | rfl | exact absurd rfl h2
  cases b<;>simp [behindInMarks,e1,e2]
theorem tMq {op:CmpOp} {r:R2} (ho:OpR X (compareOp op) r) (ha:PE X a ta) (hb:PE X b tb) (hm:behindInMarks op b=false):PE X (.Compare a [op] [b] pos) (tOp r ta tb):=by
  intro pins s σ H Q I h
  exact wpAny_Compare1 (zIq ha hb I h λ v u s2 x y H2 I2 rx ry q=>ho pins s2 σ H2 x y v u Q I2 rx ry q) hm
def xEq (t:TE):TT:=λ σ H Q=>t σ H λ x H'=>∃ k,x=.bl k/\Q k H'
theorem t5q {op:CmpOp} {r:R2} (ho:OpR X (compareOp op) r) (ha:PE X a ta) (hb:PE X b tb) (hm:behindInMarks op b=false):PT X (.Compare a [op] [b] pos) (xEq (tOp r ta tb)):=by
  intro pins s σ H Q I h
  refine wpAny_isTrue_Compare1 (thn (ha pins s σ H _ I h) λ v s1 ⟨x,H1,I1,r1,q1⟩=>thn (hb pins s1 σ H1 _ I1 q1) λ u s2 ⟨y,H2,I2,r2,q2⟩=>
    thn (ho pins s2 σ H2 x y v u _ I2 r1 r2 q2) λ c s3 ⟨z,H3,I3,r3,k,e,q3⟩=>?_) hm
  subst e
  cases r3
  exact wpAny_truthy_bool ⟨H3,I3,q3⟩
def yIq (K:PySem.W.Frag) (x:V) (H:Hp) (k:Bool):Prop:=
  match x with
  | .non=>k=false
  | .bl b=>k=b
  | .int i=>k=(i !=0)
  | .str y=>y.length<=sizeLine/\k=((y.length:Int) !=0)
  | .byt y=>y.size<=sizeLine/\k=((y.size:Int) !=0)
  | .ref p=>(∃ xs,SqL K H p xs/\k=!xs.isEmpty)\/(∃ xs,SqT K H p xs/\k=!xs.isEmpty)\/∃ kvs,H p=some (.dK kvs)/\k=!kvs.isEmpty
  | _=>False
theorem l4q {κ:Type} {kvs:List (κ × V)} {vs:List (κ × Value)} (r:KV kvs vs):(!vs.isEmpty)=!kvs.isEmpty:=by
  cases r<;>rfl
theorem gRq {xs:List V} {its:List Value} (r:Vals xs its):(!its.toArray.isEmpty)=!xs.isEmpty:=by
  cases r<;>simp
theorem e6q:(sizeLine:Nat) < 2 ^ 63:=by rw [sizeLine_eq];decide
theorem r5q:TruR X (λ x H Q=>∃ k,yIq X.K x H k/\Q k H):=by
  intro pins s σ H x v Q I rx h
  obtain ⟨k,e,q⟩:=h
  have hl:=e6q
  have hs:sizeLine=16777216:=sizeLine_eq
  cases x with
  | non=>
    cases rx
    have e':k=false:=e
    subst e'
    exact truthy_none ⟨H,I,q⟩
  | bl b=>
    cases rx
    have e':k=b:=e
    subst e'
    exact wpAny_truthy_bool ⟨H,I,q⟩
  | int i=>
    obtain ⟨t,rfl⟩:=rx
    have e':k=(i !=0):=e
    subst e'
    exact PySem.P.truthy_int ⟨H,I,q⟩
  | str y=>
    obtain ⟨t,rfl⟩:=rx
    obtain ⟨hy,e'⟩:y.length<=sizeLine/\k=((y.length:Int) !=0):=e
    subst e'
    exact PySem.P.truthy_str (by omega) ⟨H,I.tok _,q⟩
  | byt y=>
    obtain ⟨t,rfl⟩:=rx
    obtain ⟨hy,e'⟩:y.size<=sizeLine/\k=((y.size:Int) !=0):=e
    subst e'
    exact PySem.W.truthy_bytes (by omega) ⟨H,I.tok _,q⟩
  | ref p=>
    cases rx
    have e':(∃ xs,SqL X.K H p xs/\k=!xs.isEmpty)\/(∃ xs,SqT X.K H p xs/\k=!xs.isEmpty)\/∃ kvs,H p=some (.dK kvs)/\k=!kvs.isEmpty:=e
    rcases e' with ⟨xs,hx,e'⟩ | ⟨xs,hx,e'⟩ | ⟨kvs,hx,e'⟩
    . subst e'
      obtain ⟨its,r,pl,hz⟩:=I.list hx
      have hlen:=r.length
      exact wpAny_truthy_list pl.isList (by simp only [List.size_toArray];omega) ⟨H,I.tok _,by rw [gRq r];exact q⟩
    . subst e'
      obtain ⟨its,r,pl,hz⟩:=I.tuple hx
      have hlen:=r.length
      exact truthy_tuple pl (by simp only [List.size_toArray];omega) ⟨H,I.tok _,by rw [gRq r];exact q⟩
    . subst e'
      obtain ⟨hz,hS,vs,r,m⟩:kvs.length<=sizeLine/\(p==sysModules)=false/\∃ vs,KV kvs vs/\s.heap.DictOf (bBq X.prog X.w) p vs:=I.hok p _ hx
      have hlen:kvs.length=vs.length:=Paired.length r
      exact wpAny_truthy_dict hS m (by omega) ⟨H,I.tok _,by rw [l4q r];exact q⟩
  | _=>exact (show False from e).elim
theorem qSq (ha:PE X a ta) (he:∀ whole,isTrue a X.env whole=(do let v ← whole;standAt a.pos;holding [v] (truthy v))) :
    PT X a (λ σ H Q=>ta σ H λ x H'=>∃ k,yIq X.K x H' k/\Q k H'):=by
  intro pins s σ H Q I h
  exact isTrue_plain (thn (ha pins s σ H _ I h) λ v s1 ⟨x,H1,I1,r1,q1⟩=>r5q pins s1 σ H1 x v Q I1 r1 q1) (he _)
theorem op_add_str:OpR X (binaryOp .Add) (λ x y H Q=>∃ i j,x=.str i/\y=.str j/\i.length+j.length<=sizeLine/\Q (.str (i++j)) H):=by
  intro pins s σ H x y v u Q I rx ry h
  obtain ⟨i,j,rfl,rfl,hz,q⟩:=h
  obtain ⟨t,rfl⟩:=rx
  obtain ⟨t',rfl⟩:=ry
  exact add_str (λ t' tk=>⟨.str (i++j),H,I.tok _,⟨_,rfl⟩,q⟩) hz
theorem oFq {x:V} {us:List Value} (r:Vals [x] us):∃ u,us=[u]/\RelV x u:=by
  cases r with
  | cons r1 r2=>cases r2;exact ⟨_,rfl,r1⟩
theorem nBq:CallR X (.type "int") (λ xs H Q=>(∃ i,xs=[.int i]/\Q (.int i) H)\/∃ k,xs=[.bl k]/\Q (.int (if k then 1 else 0)) H):=by
  intro pins s σ H xs us Q I r h
  rcases h with ⟨i,rfl,q⟩ | ⟨k,rfl,q⟩
  . obtain ⟨u,rfl,t,rfl⟩:=oFq r
    exact call_int_int ⟨.int i,H,I,⟨_,rfl⟩,q⟩
  . obtain ⟨u,rfl,r1⟩:=oFq r
    cases r1
    exact call_int_bool ⟨.int (if k then 1 else 0),H,I.tok _,⟨_,rfl⟩,q⟩
end
structure ObjM (h:Heap) (x dx C:Addr) (mA:Str->Option Value):Prop where
  obj:h.get? x=some (PySem.W.instObj C dx)
  ns:h.Ns1 dx mA
  ne:dx≠x
theorem mJq {h:Heap} {dx:Addr} {mA:Str->Option Value} (n:h.Ns1 dx mA):∃ od,h.get? dx=some od/\∀ name,PySem.W.lookIn name od=some (mA name):=by
  obtain ⟨o,es,ep,ho,hd,hk,_,hm⟩:=n
  refine ⟨o,ho,λ name=>?_⟩
  have e:=hm name
  unfold nsFind findBy at e
  rw [<- Array.find?_toList] at e
  unfold PySem.W.lookIn
  rw [hd]
  dsimp only
  split
  . rename_i y q
    rw [q] at e
    exact congrArg some e
  . rename_i q
    rw [q] at e
    have a:es.toList.any (·.refKey)=false:=by
      rw [List.any_eq_false]
      intro y hy
      obtain ⟨z,t,hkey⟩:=hk y (Array.mem_toList_iff.mp hy)
      simp [DictEntry.refKey,hkey]
    have a':¬ es.toList.any (·.refKey)=true:=by rw [a];exact Bool.false_ne_true
    rw [if_neg a']
    exact congrArg some e
theorem ObjM.look {h:Heap} {x dx C:Addr} {mA:Str->Option Value} (I:ObjM h x dx C mA):∃ od,PySem.W.InstAt h x (PySem.W.instObj C dx) C (some od)/\∀ name,PySem.W.lookIn name od=some (mA name):=
  let ⟨od,ho,hl⟩:=mJq I.ns
  ⟨od,⟨I.obj,rfl,rfl,ho⟩,hl⟩
section
variable {prog:Program} {w:World} {A:Around} {E:Value->Shared->Prop} {s:Shared} {K:PySem.W.Frag} {x dx C f:Addr} {mA:Str->Option Value} {name:Str} {v:Value}
end
theorem RelO.some_of {v:V} {o:Option Value} (r:RelO (some v) o):∃ u,o=some u/\RelV v u:=by
  cases o with
  | none=>exact (show False from r).elim
  | some u=>exact ⟨u,rfl,r⟩
section
variable {P:Program} {w:World} {H H':Hp} {h h':Heap} {a C dx:Addr} {fs fs':List (Str × V)}
theorem tOq (hok:HOk P w H h) (e:H a=some (.ins C dx fs)):∃ mA,ObjM h a dx C mA/\(∀ f,RelO (fs.lookup f) (mA f))/\PySem.Within mA (fs.map (·.1))/\fs.length<=1000/\H dx=some (.own a):=by
  obtain ⟨d,z,ne,ob,mA,n,r,q⟩:=(show ObjOk P w H h a (.ins C dx fs) from hok a _ e)
  exact ⟨mA,⟨ob,n,ne⟩,r,q,z,d⟩
end
structure Cls (K:PySem.W.Frag) (C:Addr):Prop where
  pg:PySem.W.plainGet K C Str.empty=true
  hd:PySem.W.hasDictIn K C=true
  po:PySem.W.plainOver K C=true
  sa:PySem.W.findIn K (.ref C) "__setattr__" = some (some (.builtin "object.__setattr__"))
theorem Cls.get {K:PySem.W.Frag} {C:Addr} (c:Cls K C) (f:Str):PySem.W.plainGet K C f=true:=c.pg
section
variable {X:Cx} {pins:List (Addr × Obj)} {σ:St} {H:Hp} {s:Shared} {a C dx:Addr} {fs:List (Str × V)} {f:Str} {v:V} {A:Around} {E:Value->Shared->Prop}
end
section
variable {X:Cx} {o e value:Expr} {f:Str} {pos pos' tpos:Pos} {ta tv:TE}
end
section
variable {X:Cx} {pins:List (Addr × Obj)} {σ:St} {H:Hp} {s:Shared} {A:Around} {E:Value->Shared->Prop} {Q:Value->Shared->Prop} {c:Value} {b:Bool}
inductive TyOf (K:PySem.W.Frag) (H:Hp):V->Value->Prop where
  | non:TyOf K H .non (.type "NoneType")
  | bl (x:Bool):TyOf K H (.bl x) (.type "bool")
  | int (i:Int):TyOf K H (.int i) (.type "int")
  | str (x:Str):TyOf K H (.str x) (.type "str")
  | flt (x:UInt64):TyOf K H (.flt x) (.type "float")
  | lst {a:Addr} {xs:List V} (e:H a=some (.lst xs)):TyOf K H (.ref a) (.type "list")
  | frz {a:Addr} {o:Obj} {xs:List V} (e:H a=some (.frz o (.lst xs))):TyOf K H (.ref a) (.type "list")
  | tup {a:Addr} {xs:List V} (e:H a=some (.tup xs)):TyOf K H (.ref a) (.type "tuple")
  | dK {a:Addr} {kvs:List (Key × V)} (e:H a=some (.dK kvs)):TyOf K H (.ref a) (.type "dict")
  | dT {a:Addr} {kvs:List (List Key × V)} (e:H a=some (.dT kvs)):TyOf K H (.ref a) (.type "dict")
  | ins {a C dx:Addr} {fs:List (Str × V)} (e:H a=some (.ins C dx fs)) (cl:Cls K C) (ha:PySem.W.findIn K (.ref C) "__class__" = some (some (.builtin "object.__class__")))
      (hn:PySem.W.specialIn K (.builtin "object.__class__") "__get__" = some (some (.builtin "getset_descriptor.__get__"))) (htk:PySem.W.takesIn K (.builtin "object.__class__")=some true)
      (hm:PySem.W.mroIn K C (.type "object")=some true):TyOf K H (.ref a) (.ref C)
theorem nGq {x:V} {u t:Value} (I:Inv X pins σ H s) (rx:RelV x u) (ty:TyOf X.K H x t) (e:PySem.W.kitOne X.K t c=some b) (h:∀ tk,Q (.bool b) { s with toks:=tk }) :
    wpAny (model X.prog X.w) A (call (.builtin "isinstance") [u,c]) Q E s:=by
  cases ty with
  | non=>cases (show u=Value.none from rx);exact PySem.W.kia_one PySem.W.kitx_none I.kIn True.intro e (λ z=>nomatch z) h
  | bl y=>cases (show u=Value.bool y from rx);exact PySem.W.kia_one PySem.W.kitx_bool I.kIn True.intro e (λ z=>nomatch z) h
  | int i=>obtain ⟨t,q⟩:=(show ∃ t,u=Value.int i t from rx);cases q;exact PySem.W.kia_one PySem.W.kitx_int I.kIn True.intro e (λ z=>nomatch z) h
  | str y=>obtain ⟨t,q⟩:=(show ∃ t,u=Value.str y t from rx);cases q;exact PySem.W.kia_one PySem.W.kitx_str I.kIn True.intro e (λ z=>nomatch z) h
  | flt y=>obtain ⟨t,q⟩:=(show ∃ t,u=Value.float y t from rx);cases q;exact PySem.W.kia_one PySem.W.kitx_float I.kIn True.intro e (λ z=>nomatch z) h
  | @lst a xs ea=>
    cases (show u=Value.ref a from rx)
    obtain ⟨_,_,n,_,h1⟩:=(show ObjOk X.prog X.w H s.heap a (.lst xs) from I.hok a _ ea)
    exact PySem.W.kia_one PySem.W.kitx_list I.kIn ⟨_,h1,rfl⟩ e (λ z=>nomatch z) h
  | @frz a ob xs ea=>
    cases (show u=Value.ref a from rx)
    obtain ⟨_,_,_,n,_,h1⟩:=(show ObjOk X.prog X.w H s.heap a (.frz ob (.lst xs)) from I.hok a _ ea)
    exact PySem.W.kia_one PySem.W.kitx_list I.kIn ⟨_,h1,rfl⟩ e (λ z=>nomatch z) h
  | @tup a xs ea=>
    cases (show u=Value.ref a from rx)
    obtain ⟨_,_,_,p⟩:=(show ObjOk X.prog X.w H s.heap a (.tup xs) from I.hok a _ ea)
    obtain ⟨o,h1,h2,_⟩:=p
    exact PySem.W.kia_one PySem.W.kitx_tuple I.kIn ⟨o,h1,h2⟩ e (λ z=>nomatch z) h
  | @dK a kvs ea=>
    cases (show u=Value.ref a from rx)
    obtain ⟨_,_,vs,_,p⟩:=(show ObjOk X.prog X.w H s.heap a (.dK kvs) from I.hok a _ ea)
    obtain ⟨o,es,ep,h1,h2,_⟩:=p
    exact PySem.W.kia_one PySem.W.kitx_dict I.kIn ⟨o,h1,h2.1⟩ e (λ z=>nomatch z) h
  | @dT a kvs ea=>
    cases (show u=Value.ref a from rx)
    obtain ⟨_,_,xs,_,o,es,ep,h1,h2,_⟩:=(show ObjOk X.prog X.w H s.heap a (.dT kvs) from I.hok a _ ea)
    exact PySem.W.kia_one PySem.W.kitx_dict I.kIn ⟨o,h1,h2.1⟩ e (λ z=>nomatch z) h
  | @ins a C dx fs ea cl ha hn htk hm=>
    cases (show u=Value.ref a from rx)
    obtain ⟨mA,O,_⟩:=tOq I.hok ea
    obtain ⟨od,J,_⟩:=O.look
    exact PySem.W.kia_one (PySem.W.kitx_own (cl.get _) cl.hd ha hn htk hm) I.kIn J e (λ z=>nomatch z) h
end
structure Room (k:Nat) (A:Around):Prop where
  hd:A.handled=none
  dp:A.depth+3 * k+5 < recursionLimit
  un:A.units+16 * k+200 < cLine
theorem Room.mono {j k:Nat} {A:Around} (r:Room k A) (h:j<=k):Room j A:=⟨r.hd,by have:=r.dp;omega,by have:=r.un;omega⟩
theorem Room.deeper {k:Nat} {A:Around} (r:Room (k+1) A) (env:Env):Room k (A.deeper env):=
  ⟨r.hd,by have:=r.dp;show A.depth+1+3 * k+5 < _;omega,by have:=r.un;show A.units+3+16 * k+200 < _;omega⟩
theorem Room.depth {k:Nat} {A:Around} (r:Room k A):A.depth < recursionLimit:=by have:=r.dp;omega
def tNil:TA:=λ _ H Q=>Q [] H
def xBq (ta:TE) (tr:TA):TA:=λ σ H Q=>ta σ H λ x H1=>tr σ H1 λ xs H2=>Q (x::xs) H2
section
variable {X:Cx} {e:Expr} {es:List Expr} {te:TE} {t:TA} {pos:Pos}
theorem vBq:PA X [] tNil:=λ _ _ _ _ H Q I h=>Calls.spliced_nil ⟨[],H,I,.nil,h⟩
theorem tEq (ha:PE X e te) (hr:PA X es t) (hs:starEach (e::es) X.env=(false,eval e X.env)::starEach es X.env:=by rfl):PA X (e::es) (xBq te t):=by
  intro pos pins s σ H Q I h
  rw [hs]
  show wpAny _ _ (spliced ((false,eval e X.env)::backTo pos (starEach es X.env))) _ _ s
  refine Calls.spliced_cons (thn (ha pins s σ H _ I h) λ u s1 ⟨x,H1,I1,r1,q1⟩=>?_)
  exact thn (hr pos pins s1 σ H1 _ I1 q1) λ us s2 ⟨xs,H2,I2,r2,q2⟩=>⟨x::xs,H2,I2,.cons r1 r2,q2⟩
def tTup (t:TA):TE:=λ σ H Q=>t σ H λ xs H1=>xs.length<=sizeLine/\∀ p,H1 p=none->Q (.ref p) (upd H1 p (.tup xs))
def tLst (t:TA):TE:=λ σ H Q=>t σ H λ xs H1=>xs.length<=sizeLine/\∀ p,H1 p=none->Q (.ref p) (upd H1 p (.lst xs))
theorem vJq {x1} (h:PA X es t):PE X (.Tuple es x1 pos) (tTup t):=by
  intro pins s σ H Q I hq
  refine wpAny_Tuple_spliced (thn (h pos pins s σ H _ I hq) λ us s1 ⟨xs,H1,I1,r,z,q⟩=>⟨by rw [<- r.length];exact z,?_⟩)
  have hf:H1 s1.heap.objs.size=none:=I1.hok.fresh (Nat.le_refl _)
  refine ⟨.ref s1.heap.objs.size,upd H1 s1.heap.objs.size (.tup xs),I1.laid (t':=s1.toks) (λ b u e=>Heap.get?_push_of_some _ e) (Nat.le_refl _) ?_,rfl,q _ hf⟩
  exact ⟨z,us,r,⟨_,Heap.get?_push_size _ rfl,rfl,_,rfl⟩⟩
theorem xFq (h:PA X es t):PE X (.List es pos) (tLst t):=by
  intro pins s σ H Q I hq
  refine wpAny_List_spliced (thn (h pos pins s σ H _ I hq) λ us s1 ⟨xs,H1,I1,r,z,q⟩=>⟨by rw [<- r.length];exact z,?_⟩)
  have hf:H1 s1.heap.objs.size=none:=I1.hok.fresh (Nat.le_refl _)
  refine ⟨.ref s1.heap.objs.size,upd H1 s1.heap.objs.size (.lst xs),I1.laid (t':=s1.toks) (λ b u e=>Heap.get?_push_of_some _ e) (Nat.le_refl _) ?_,rfl,q _ hf⟩
  exact ⟨z,us,0,r,Heap.get?_push_size _ rfl⟩
end
abbrev Sp:=List V->Hp->VK->XK->Prop
abbrev CXT:=List Env->Hp->Shared->XK->Value->Shared->Prop
structure Env0 (P:Program) (w:World) (K:PySem.W.Frag) (mg:Str->Option Value) (base:Heap) (A:Around) (outer:List Env) (s:Shared) (H:Hp):Prop where
  frames:A.frames=some outer
  mod:Mod K mg base
  bs:∀ b o,base.get? b=some o->s.heap.get? b=some o/\H b=none
  bsz:base.objs.size<=s.heap.objs.size
  funs:s.heap.FunFrames base outer
  frf:∀ b∈frs outer,H b=none
  hok:HOk P w H s.heap
  bare:AllBare s.gens
def CE (outer:List Env) (P:Program) (w:World) (H:Hp) (s:Shared) (Q:VK) (u:Value) (s':Shared):Prop:=
  ∃ v H',s'.os=s.os/\AllBare s'.gens/\Un (frs outer) [] H H' s.heap s'.heap/\HOk P w H' s'.heap/\RelV v u/\Q v H'
def CR (CX:CXT) (outer:List Env) (P:Program) (w:World) (H:Hp) (s:Shared) (Q:VK) (E:XK) (r:Result) (s':Shared):Prop:=
  match r with
  | .ok (.ret u)=>CE outer P w H s Q u s'
  | .ok _=>False
  | .error e=>CX outer H s E e s'
structure FnOk (P:Program) (w:World) (K:PySem.W.Frag) (mg:Str->Option Value) (base:Heap) (CX:CXT) (k:Nat) (f:Addr) (fd:FuncData) (ps:List Str) (sp:Sp):Prop where
  len:∀ vs H Q E,sp vs H Q E->vs.length=ps.length
  run:∀ (A:Around) (outer:List Env) (s:Shared) (H:Hp) (args:Args) (us:List Value) (vs:List V) (Q:VK) (E:XK),Room k A->Env0 P w K mg base A outer s H->BindsTo s fd args (ps.zip us)->Vals vs us->sp vs H Q E →
    codeAny (model P w) A (.call (.ref f) args) (CR CX outer P w H s Q E) s
section
variable {X:Cx} {pins:List (Addr × Obj)} {σ:St} {H:Hp} {s s':Shared}
theorem Inv.env0 (I:Inv X pins σ H s):Env0 X.prog X.w X.K X.mg X.base X.A X.stack s H:=
  ⟨I.ok.frames,I.ok.mod,I.bs,Nat.le_trans I.ok.bsz I.sz,I.stack,I.stkFree,I.hok,I.bare⟩
theorem Inv.after {Q:VK} {u:Value} (I:Inv X pins σ H s) (h:CE X.stack X.prog X.w H s Q u s'):EP X pins σ Q u s':=by
  obtain ⟨v,H',os,bare,un,hok,r,q⟩:=h
  obtain ⟨hh,g,d,t,os'⟩:=s'
  obtain rfl:os'=s.os:=os
  exact ⟨v,H',I.call (h':=hh) (g':=g) (d':=d) (t':=t) (ch:=[]) un hok bare (λ b z=>absurd z (by simp)),r,q⟩
end
def u0q (sp:Sp) (dvs:List V) (E:XK) (t:TA):TE:=λ σ H Q=>t σ H λ vs H1=>sp (vs++dvs) H1 Q E
def Binds (K:PySem.W.Frag) (fd:FuncData) (ps:List Str) (ds:List Value):Prop:=
  ∀ (s:Shared) (us:List Value),K.In s.heap->(us++ds).length=ps.length->BindsTo s fd ⟨us,[]⟩ (ps.zip (us++ds))
theorem Binds.all {K:PySem.W.Frag} {fd:FuncData} {ps:List Str} (h:∀ us:List Value,us.length=ps.length->bindArgs fd ⟨us,[]⟩=pure (ps.zip us)):Binds K fd ps []:=λ s us _ hl=>by
  rw [List.append_nil] at hl ⊢
  exact .of_eq (h us hl)
def o4q (CX:CXT) (X:Cx) (E:XK):Prop:=∀ (pins:List (Addr × Obj)) (σ:St) (H:Hp) (s:Shared) (e:Value) (s':Shared),Inv X pins σ H s->CX X.stack H s E e s'->X.xe e s'
section
variable {X:Cx} {CX:CXT} {k:Nat} {f C:Addr} {fd:FuncData} {ps:List Str} {sp:Sp} {dvs:List V} {ds:List Value} {E:XK} {x m:Str} {p pos apos:Pos} {e o:Expr} {es:List Expr} {ta:TE} {t:TA}
theorem w8q {pins:List (Addr × Obj)} {σ:St} {H:Hp} {s:Shared} {Q:VK} {us:List Value} {vs:List V} (F:FnOk X.prog X.w X.K X.mg X.base CX k f fd ps sp) (hr:Room k X.A) (hb:Binds X.K fd ps ds) (hd:Vals dvs ds) (hx:o4q CX X E)
    (I:Inv X pins σ H s) (r:Vals vs us) (h:sp (vs++dvs) H Q E):wpAny (model X.prog X.w) X.A (call (.ref f) us) (EP X pins σ Q) X.xe s:=by
  have r2:Vals (vs++dvs) (us++ds):=r.append hd
  have hl:(us++ds).length=ps.length:=by rw [<- r2.length];exact F.len _ _ _ _ h
  refine wpAny_call (codeAny_mono (F.run X.A X.stack s H ⟨us,[]⟩ (us++ds) (vs++dvs) Q E hr I.env0 (hb s us I.kIn hl) r2 h) λ r s' hq=>?_)
  cases r with
  | error e=>exact hx pins σ H s e s' I hq
  | ok fl=>
    cases fl with
    | ret u=>exact I.after hq
    | next=>exact False.elim hq
    | brk=>exact False.elim hq
    | cont=>exact False.elim hq
theorem sWq (F:FnOk X.prog X.w X.K X.mg X.base CX k f fd ps sp) (hr:Room k X.A) (hg:Gl X x) (hm:X.mg x=some (.ref f)) (hk:PySem.W.keepIn X.K (.ref f)=true) (hb:Binds X.K fd ps ds) (hd:Vals dvs ds) (hx:o4q CX X E)
    (ha:PA X (e::es) t) (hdb:(x==("__debug__" : Str))=false:=by decide) (he:starEach (e::es) X.env=(false,eval e X.env)::starEach es X.env:=by rfl) (hpl:(backTo pos (starEach es X.env)).any (·.1)=false:=by rfl) :
    PE X (.Call (.Name x p) (e::es) [] pos) (u0q sp dvs E t):=by
  intro pins s σ H Q I h
  refine wpAny_Call_Name_kw (dYq I hg hm ?_ hdb)
  refine PySem.W.callWith_K (h₀:=X.base) I.ok.mod.kin hk (thn (ha pos pins s σ H _ I h) λ us s1 ⟨vs,H1,I1,r,q⟩=>⟨I1.kIn,?_⟩) he hpl
  exact w8q F hr hb hd hx I1 r q
end
section
variable {X:Cx} {CX:CXT} {k:Nat} {f C:Addr} {fd:FuncData} {ps ks:List Str} {sp:Sp} {E:XK} {x m:Str} {p pos apos kpos:Pos} {e o:Expr} {es:List Expr} {kws:List Keyword} {te ta:TE} {t tk:TA} {nm:Option Str}
variable {g:List Value->List Value->List Value} {gV:List V->List V->List V}
end
structure FnScope (N P:List Str) (sc:Scope):Prop where
  kind:sc.kind=.function
  co:sc.isCoroutine=false
  gen:sc.isGenerator=false
  nd:N.Nodup
  pre:N.take P.length=P
  par:∀ x∈P,sc.names.lookup x=some .local\/sc.names.lookup x=some .cell
  nofree:∀ y∈sc.names,y.2≠.free
theorem iKq {kindOf:Str->Option NameKind} {x:Str}:∀ {binds:List (Str × Value)} {m:Str->Option Value},(∀ v,(x,v) ∉ binds)->bindL kindOf binds m x=m x
  | [],_,_=>rfl
  | (n,v)::r,m,h=>by
    unfold bindL
    rw [iKq λ w hw=>h w (List.mem_cons_of_mem _ hw)]
    split
    . have:x≠n:=by rintro rfl;exact h v List.mem_cons_self
      simp [this]
    . rfl
theorem j4q {kindOf:Str->Option NameKind} {x:Str}:∀ {binds:List (Str × Value)} {m:Str->Option Value},(∀ v,(x,v) ∉ binds)->bindC kindOf binds m x=m x
  | [],_,_=>rfl
  | (n,v)::r,m,h=>by
    unfold bindC
    rw [j4q λ w hw=>h w (List.mem_cons_of_mem _ hw)]
    split
    . rfl
    . have:x≠n:=by rintro rfl;exact h v List.mem_cons_self
      simp [this]
theorem i8q {kindOf:Str->Option NameKind} {x:Str} {v:Value}:∀ {P:List Str} {vs:List Value} {i:Nat} {m:Str->Option Value},P.Nodup->P[i]?=some x->vs[i]?=some v->kindOf x=some .local →
    bindL kindOf (P.zip vs) m x=some v
  | [],_,_,_,_,h,_,_=>by simp at h
  | _::_,[],_,_,_,_,h,_=>by simp at h
  | p::P,w::vs,0,m,nd,h1,h2,hk=>by
    simp at h1 h2;subst h1;subst h2
    show bindL kindOf ((p,w)::P.zip vs) m p=_
    unfold bindL
    rw [iKq λ v hv=>(List.nodup_cons.mp nd).1 (List.of_mem_zip hv).1,if_pos hk]
    simp
  | p::P,w::vs,i+1,m,nd,h1,h2,hk=>by
    show bindL kindOf ((p,w)::P.zip vs) m x=_
    unfold bindL
    exact i8q (i:=i) (List.nodup_cons.mp nd).2 (by simpa using h1) (by simpa using h2) hk
theorem iNq {kindOf:Str->Option NameKind} {x:Str} {v:Value}:∀ {P:List Str} {vs:List Value} {i:Nat} {m:Str->Option Value},P.Nodup->P[i]?=some x->vs[i]?=some v->kindOf x≠some .local →
    bindC kindOf (P.zip vs) m x=some v
  | [],_,_,_,_,h,_,_=>by simp at h
  | _::_,[],_,_,_,_,h,_=>by simp at h
  | p::P,w::vs,0,m,nd,h1,h2,hk=>by
    simp at h1 h2;subst h1;subst h2
    show bindC kindOf ((p,w)::P.zip vs) m p=_
    unfold bindC
    rw [j4q λ v hv=>(List.nodup_cons.mp nd).1 (List.of_mem_zip hv).1,if_neg hk]
    simp
  | p::P,w::vs,i+1,m,nd,h1,h2,hk=>by
    show bindC kindOf ((p,w)::P.zip vs) m x=_
    unfold bindC
    exact iNq (i:=i) (List.nodup_cons.mp nd).2 (by simpa using h1) (by simpa using h2) hk
def cVq (N:List Str) (vs:List V):St:=vs.map some++List.replicate (N.length - vs.length) none
def kYq (CX:CXT) (P:Program) (w:World) (K:PySem.W.Frag) (mg:Str->Option Value) (base:Heap) (N:List Str) (qual:Str) (scope:Scope) (f:Addr) (cd:Value) (A:Around) (outer:List Env) (s:Shared) (H:Hp) (E:XK):Cx where
  prog:=P
  w:=w
  K:=K
  mg:=mg
  base:=base
  A:=A.deeper (envOfC qual scope s.heap.objs.size f cd)
  N:=N
  s₀:=s
  H₀:=H
  env:=envOfC qual scope s.heap.objs.size f cd
  outer:=outer
  stack:=envOfC qual scope s.heap.objs.size f cd::outer
  ex:=[]
  calm:=true
  fn:=λ _=>true
  pn:=[]
  xe:=λ e s'=>wpAny (model P w) (A.deeper (envOfC qual scope s.heap.objs.size f cd)) (leaving (envOfC qual scope s.heap.objs.size f cd) e) (λ _ s''=>CX outer H s E e s'') (λ e' s''=>CX outer H s E e' s'') s'
theorem k4q {sc:Scope} {n:Nat} {x:Str} (h:sc.names.lookup x=some .cell):∃ c,(cellsFrom n sc.names []).lookup x=some c:=by
  have q:=PySem.W.cellsFrom_some sc.names n [] (.inl h)
  exact Option.isSome_iff_exists.mp q
theorem mVq {CX:CXT} {P:Program} {w:World} {K:PySem.W.Frag} {mg:Str->Option Value} {base:Heap} {N ps:List Str} {qual:Str} {scope:Scope} {f:Addr} {cd:Value} {A:Around} {outer:List Env} {s s1:Shared} {H:Hp} {E:XK} {us:List Value} {vs:List V}
    (S:FnScope N ps scope) (hd:A.handled=none) (e0:Env0 P w K mg base A outer s H) (hl:vs.length=ps.length) (r:Vals vs us)
    (x:InCallC s s.heap.objs.size (bindL (envOfC qual scope s.heap.objs.size f cd).kindOf (ps.zip us) λ _=>none) (cellsFrom (s.heap.objs.size+1) scope.names []) (bindC (envOfC qual scope s.heap.objs.size f cd).kindOf (ps.zip us) λ _=>none) s1) :
    Inv (kYq CX P w K mg base N qual scope f cd A outer s H E) [] (cVq N vs) H s1:=by
  have hpl:ps.length<=N.length:=by have:=congrArg List.length S.pre;rw [List.length_take] at this;omega
  obtain ⟨h1,tk,rfl,hk⟩:=x.done
  have noA:∀ b:Addr,b ∉ (kYq CX P w K mg base N qual scope f cd A outer s H E).ex:=λ b z=>absurd (show b∈([]:List Addr) from z) (by simp)
  refine ⟨⟨e0.mod,S.kind,rfl,rfl,Nat.le_refl _,λ y z c h1 h2=>?_,λ y hy=>?_,λ y c _ h=>?_,λ _=>hd,Around.frames_deeper e0.frames,.inr ⟨rfl,rfl⟩,λ b z=>absurd z (noA b),e0.bs,e0.bsz,λ b _ _=>noA b,λ b z=>absurd z (noA b),e0.funs,e0.frf⟩,
    rfl,e0.bare,Un.kept hk,⟨_,x.toInCall.ns,λ i y v h1 h2 h3=>?_⟩,λ y c h=>⟨_,x.cell y c h⟩,e0.hok.fresh (Nat.le_refl _),λ y c h=>?_,λ p hp=>absurd (show p∈([]:List (Addr × Obj)) from hp) (by simp),e0.hok.kept hk,?_⟩
  . exact name_of_addr x.apart (PySem.mem_of_lookup h1) (PySem.mem_of_lookup h2)
  . have hy:scope.names.lookup y=some .cell\/scope.names.lookup y=some .free:=hy
    rcases hy with hy | hy
    . exact k4q hy
    . exact absurd rfl (S.nofree _ (PySem.mem_of_lookup hy))
  . exact Nat.le_of_lt (x.above y c (PySem.mem_of_lookup h))
  . have hi:i < vs.length:=by
      unfold cVq at h2
      by_cases hi:i < vs.length
      . exact hi
      . rw [List.getElem?_append_right (by simpa using hi)] at h2
        rw [List.getElem?_replicate] at h2
        split at h2<;>cases h2
    have ha:vs[i]?=some v:=by
      unfold cVq at h2
      rw [List.getElem?_append_left (by simpa using hi),List.getElem?_map] at h2
      cases e:vs[i]? with
      | none=>rw [e] at h2;cases h2
      | some a=>rw [e] at h2;cases h2;rfl
    obtain ⟨u,hu,rv⟩:=r.get ha
    have hp:ps[i]?=some y:=by
      rw [<- S.pre,List.getElem?_take_of_lt (by omega)];exact h1
    have ndP:ps.Nodup:=by rw [<- S.pre];exact S.nd.sublist (List.take_sublist _ _)
    refine ⟨u,rv,?_⟩
    rcases S.par y (List.mem_of_getElem? hp) with k | k
    . exact .inl ⟨k,i8q ndP hp hu k⟩
    . obtain ⟨c,e⟩:=k4q (n:=s.heap.objs.size+1) k
      refine .inr ⟨.inl k,c,e,?_⟩
      have q:=x.cell y c e
      rw [iNq ndP hp hu (by show scope.names.lookup y≠_;rw [k];decide)] at q
      exact q
  . exact e0.hok.fresh (Nat.le_of_lt (x.above y c (PySem.mem_of_lookup h)))
  . unfold cVq
    show _=N.length
    rw [List.length_append,List.length_map,List.length_replicate]
    omega
theorem rWq {CX:CXT} {P:Program} {w:World} {K:PySem.W.Frag} {mg:Str->Option Value} {base:Heap} {k:Nat} {f:Addr} {name qual:Str} {params:Arguments} {body:List Stmt} {scope:Scope} {dV kV doc pm cdv ct oc:Value} {an od:Option Addr}
    {osl:Array (Option Value)} {N ps:List Str} {sp:Sp} (lk:K.lookup f=some ⟨oc,od,.func (PySem.W.fnOf name qual params body scope dV kV doc pm an cdv ct),osl⟩) (hcd:PySem.W.codeIn K cdv qual=true) (S:FnScope N ps scope)
    (len:∀ vs H Q E,sp vs H Q E->vs.length=ps.length)
    (hbody:∀ (A:Around) (outer:List Env) (s:Shared) (H:Hp) (vs:List V) (Q:VK) (E:XK),Room k (A.deeper (envOfC qual scope s.heap.objs.size f cdv))->sp vs H Q E →
      ∃ t,PSs (kYq CX P w K mg base N qual scope f cdv A outer s H E) body t/\t { nx:=λ _ H'=>Q .non H',rt:=Q } (cVq N vs) H) :
    FnOk P w K mg base CX (k+1) f (PySem.W.fnOf name qual params body scope dV kV doc pm an cdv ct) ps sp:=by
  refine ⟨len,λ A outer s H args us vs Q E hr e0 hb r hsp=>?_⟩
  have hl:=len _ _ _ _ hsp
  have KX:K.In s.heap:=e0.mod.kin.keeps λ b o e=>(e0.bs b o e).1
  have lim:s.heap.NoLimit:=e0.mod.nolimit.keeps λ b o e=>(e0.bs b o e).1
  have hkind:∀ y∈ps.zip us,scope.names.lookup y.1=some .local\/(scope.names.lookup y.1=some .cell/\((cellsFrom (s.heap.objs.size+1) scope.names []).lookup y.1).isSome=true):=λ⟨n,v⟩ hy=>by
    rcases S.par n (List.of_mem_zip hy).1 with q | q
    . exact .inl q
    . exact .inr ⟨q,PySem.W.cellsFrom_some _ _ _ (.inl q)⟩
  refine codeAny_call_function hr.depth (KX _ _ lk) rfl S.co S.gen rfl (PySem.W.codeRec_of KX hcd) (hb _ _ _ _ ?_)
  refine wpAny_newFunctionEnv_cells S.kind hkind λ env he s1 x=>?_
  subst he
  refine ⟨lim.keeps x.toInCall.keep,codeAny_func ?_⟩
  obtain ⟨t,ht,hq⟩:=hbody A outer s H vs Q E (hr.deeper _) hsp
  have I:Inv (kYq CX P w K mg base N qual scope f cdv A outer s H E) [] (cVq N vs) H s1:=mVq S hr.hd e0 hl r x
  refine wpAny_mono (ht [] s1 (cVq N vs) H _ I hq) (λ fl s' hs=>?_) λ e s' hs=>hs
  have fin:∀ {σ':St} {H':Hp} {v:V} {u:Value},Inv (kYq CX P w K mg base N qual scope f cdv A outer s H E) [] σ' H' s'->RelV v u->Q v H'->CE outer P w H s Q u s':=
    λ{σ' H' v u} J rv q=>⟨v,H',J.os,J.bare,J.base,J.hok,rv,q⟩
  cases fl with
  | ret u=>
    obtain ⟨v,σ',H',J,rv,q⟩:=hs
    exact fin J rv q
  | next=>
    obtain ⟨σ',H',J,q⟩:=hs
    exact fin (v:=V.non) (u:=Value.none) J rfl q
  | brk=>
    obtain ⟨_,_,_,q⟩:=hs
    exact False.elim q
  | cont=>
    obtain ⟨_,_,_,q⟩:=hs
    exact False.elim q
section
variable {X:Cx} {x:Str} {p pos:Pos} {e:Expr} {es:List Expr} {t:TA} {id T:String} {r:List V->Hp->VK->Prop}
def tCB (r:List V->Hp->VK->Prop) (t:TA):TE:=λ σ H Q=>t σ H λ vs H1=>r vs H1 Q
theorem oWq (hc:CallR X (.builtin id) r) (hg:Gl X x) (hm:X.mg x=none) (hv:bootBuiltins x=some (.builtin id)) (ha:PA X (e::es) t) (hn:x≠"__name__":=by decide) (hdb:(x==("__debug__" : Str))=false:=by decide)
    (he:starEach (e::es) X.env=(false,eval e X.env)::starEach es X.env:=by rfl) (hpl:(backTo pos (starEach es X.env)).any (·.1)=false:=by rfl):PE X (.Call (.Name x p) (e::es) [] pos) (tCB r t):=by
  intro pins s σ H Q I h
  refine wpAny_Call_Name_kw (c3q I hg hm hv ?_ hn hdb)
  exact PyProof.Rows.callWith_builtin1 (thn (ha pos pins s σ H _ I h) λ us s1 ⟨vs,H1,I1,r1,q1⟩=>hc pins s1 σ H1 vs us Q I1 r1 q1) he hpl
theorem m6q (hc:CallR X (.type T) r) (hg:Gl X x) (hm:X.mg x=none) (hv:bootBuiltins x=some (.type T)) (ha:PA X (e::es) t) (hn:x≠"__name__":=by decide) (hdb:(x==("__debug__" : Str))=false:=by decide)
    (he:starEach (e::es) X.env=(false,eval e X.env)::starEach es X.env:=by rfl) (hpl:(backTo pos (starEach es X.env)).any (·.1)=false:=by rfl):PE X (.Call (.Name x p) (e::es) [] pos) (tCB r t):=by
  intro pins s σ H Q I h
  refine wpAny_Call_Name_kw (c3q I hg hm hv ?_ hn hdb)
  exact PyProof.Rows.callWith_type1 (thn (ha pos pins s σ H _ I h) λ us s1 ⟨vs,H1,I1,r1,q1⟩=>hc pins s1 σ H1 vs us Q I1 r1 q1) he hpl
end
end L2
namespace HT
open PySem PyProof.Rows
section
open PySem.SeqAt
open PySem.AutoSeq1 (wpAny_loadPart')
open PySem.MeetsSeq PySem.MeetsSeq2 PySem.MeetsSeq3
end
section
variable {prog:Program} {w:World} {A:Around} {E:Value->Shared->Prop} {s:Shared}
theorem cat_tup {t b:Addr} {vs ws:List Value} {Q:Value->Shared->Prop} (ht:IsTup s.heap t vs.toArray) (hb:IsTup s.heap b ws.toArray) (hv:vs≠[])
    (h1:ws=[]->Q (.ref t) s) (h2:ws≠[]->Q (.ref s.heap.objs.size) { s with heap:=s.heap.push { cls:=.type "tuple", data:=.seq (vs++ws).toArray } })
    (hsz:vs.length+ws.length<=sizeLine):wpAny (model prog w) A (binaryOp .Add (.ref t) (.ref b)) Q E s:=by
  obtain ⟨⟨cls,dd,data,sl⟩,ho,hc,n,hd⟩:=id ht
  obtain ⟨⟨cls2,dd2,data2,sl2⟩,ho2,hc2,n2,hd2⟩:=id hb
  simp only at hc hd hc2 hd2
  subst hc hd hc2 hd2
  have e:vs.toArray++ws.toArray=(vs++ws).toArray:=by simp
  by_cases hw:ws=[]
  . exact concat_meets ⟨_,ho,rfl⟩ ⟨_,ho2,rfl⟩ noFill_tuple_add seq_tuple_add PySem.F.slot_tuple_add PySem.F.entry_tuple_add (PySem.F.args_tuple_add_2 _ _)
      (tuple_addW1 t b vs.toArray ws.toArray n n2 dd dd2 sl sl2 (by simpa using hv) (by simp [hw])) ⟨ho,ho2,h1 hw⟩
  . refine concat_meets ⟨_,ho,rfl⟩ ⟨_,ho2,rfl⟩ noFill_tuple_add seq_tuple_add PySem.F.slot_tuple_add PySem.F.entry_tuple_add (PySem.F.args_tuple_add_2 _ _)
      (tuple_addW2 t b vs.toArray ws.toArray n n2 dd dd2 sl sl2 (by simpa using hv) (by simpa using hw) (by rw [List.size_toArray,List.size_toArray];exact hsz)) ⟨ho,ho2,?_⟩
    rw [e]
    exact h2 hw
def sIx (n d:Nat):Option Int->Nat
  | none=>d
  | some v=>if v < 0 then (v+(n:Int)).toNat else min v.toNat n
theorem wMq (n d:Nat) (hd:d<=n) (o:Option Int):sIx n d o<=n:=by
  cases o with
  | none=>exact hd
  | some v=>
    show (if v < 0 then (v+(n:Int)).toNat else min v.toNat n)<=n
    by_cases hv:v < 0
    . rw [if_pos hv];omega
    . rw [if_neg hv];exact Nat.min_le_right _ _
theorem o6q (v:Int) (n d:Nat):(if v < 0 then max (v+(n:Int)) 0 else min v (n:Int))=((sIx n d (some v):Nat):Int):=by
  show (if v < 0 then max (v+(n:Int)) 0 else min v (n:Int))=(((if v < 0 then (v+(n:Int)).toNat else min v.toNat n):Nat):Int)
  by_cases hv:v < 0
  . simp only [if_pos hv];omega
  . simp only [if_neg hv];omega
theorem lGq (lo hi:Option Int) (n:Nat):Builtin.Slice.sliceAdjust lo hi 1 (n:Int)=(((sIx n 0 lo:Nat):Int),((sIx n n hi:Nat):Int)):=by
  have h1:¬ ((1:Int) < 0):=by omega
  unfold Builtin.Slice.sliceAdjust
  simp only [h1,if_false]
  refine Prod.ext ?_ ?_
  . cases lo with
    | none=>rfl
    | some v=>exact o6q v n 0
  . cases hi with
    | none=>rfl
    | some v=>exact o6q v n n
theorem lBq (i j:Nat):Builtin.Slice.slicePlaces (i:Int) (j:Int) 1=j - i:=by
  unfold Builtin.Slice.slicePlaces
  have h1:(1:Int) > 0:=by omega
  simp only [h1,if_true,Int.ediv_one]
  split<;>omega
theorem gOq {v:Value} {o:Option Int} {Q:Option Int->Shared->Prop} (p:IsPart v o) (h:Q o s):wpAny (model prog w) A (Builtin.Slice.slicePartIndex v) Q E s:=by
  cases p with
  | none=>exact slicePart_none h
  | int i t=>exact slicePart_int h
theorem sliceApplied_gen {sl:Addr} {vl vu:Value} {lo hi:Option Int} {n:Nat} {Q:Int × Int × Nat->Shared->Prop} (hs:s.heap.IsSliceOf sl vl vu .none) (pl:IsPart vl lo) (pu:IsPart vu hi)
    (h:Q (((sIx n 0 lo:Nat):Int),1,sIx n n hi - sIx n 0 lo) s):wpAny (model prog w) A (Builtin.Slice.sliceApplied (.ref sl) (pure (n:Int))) Q E s:=by
  obtain ⟨os,hos,hcs,hds⟩:=id hs
  unfold Builtin.Slice.sliceApplied Builtin.Slice.sliceFields
  refine wpAny_bind (wpAny_bind (wpAny_field hos hds (x:=vl) rfl (wpAny_bind (wpAny_field hos hds (x:=vu) rfl (wpAny_bind (wpAny_field hos hds (x:=.none) rfl (wpAny_pure ?_)))))))
  refine wpAny_bind (slicePart_none ?_)
  show wpAny _ _ (if ((1:Int)==0)=true then _ else _) _ _ s
  rw [if_neg (by decide)]
  refine wpAny_bind (gOq pl (wpAny_bind (gOq pu (wpAny_bind (wpAny_pure ?_)))))
  show wpAny _ _ (match Builtin.Slice.sliceAdjust lo hi 1 (n:Int) with | (lo,hi)=>pure (lo,(1:Int),Builtin.Slice.slicePlaces lo hi 1)) _ _ s
  rw [lGq lo hi n]
  show wpAny _ _ (pure (((sIx n 0 lo:Nat):Int),(1:Int),Builtin.Slice.slicePlaces ((sIx n 0 lo:Nat):Int) ((sIx n n hi:Nat):Int) 1)) _ _ s
  rw [lBq]
  exact wpAny_pure h
theorem oZq (xs:Array Value) (i k:Nat):((List.range k).filterMap λ(m:Nat)=>xs[((i:Int)+(m:Int) * 1).toNat]?).toArray=((xs.toList.drop i).take k).toArray:=by
  have e:(λ(m:Nat)=>xs[((i:Int)+(m:Int) * 1).toNat]?)=λ m=>xs[i+m]?:=by
    funext m
    have:((i:Int)+(m:Int) * 1).toNat=i+m:=by omega
    rw [this]
  rw [e]
  have:=pick_run xs i k
  rw [List.filterMap_map] at this
  have e2:((λ x=>xs[x]?) ∘ λ x=>i+x)=λ m=>xs[i+m]?:=rfl
  rw [e2] at this
  rw [this]
theorem getItem_tuple_cut {t sl:Addr} {items:Array Value} {vl vu:Value} {lo hi:Option Int} {Q:Value->Shared->Prop} (ht:IsTup s.heap t items) (hs:s.heap.IsSliceOf sl vl vu .none) (pl:IsPart vl lo) (pu:IsPart vu hi)
    (hw:¬ (sIx items.size 0 lo=0/\sIx items.size items.size hi=items.size))
    (h:Q (.ref s.heap.objs.size) { s with heap:=s.heap.push { cls:=.type "tuple", data:=.seq ((items.toList.drop (sIx items.size 0 lo)).take (sIx items.size items.size hi - sIx items.size 0 lo)).toArray } })
    (hsz:items.size<=sizeLine):wpAny (model prog w) A (getItem (.ref t) (.ref sl)) Q E s:=by
  have htake:sizeOk (.seq ((items.toList.drop (sIx items.size 0 lo)).take (sIx items.size items.size hi - sIx items.size 0 lo)).toArray):=by
    show ((items.toList.drop (sIx items.size 0 lo)).take (sIx items.size items.size hi - sIx items.size 0 lo)).toArray.size<=sizeLine
    rw [List.size_toArray,List.length_take,List.length_drop,Array.length_toList]
    omega
  have hj:sIx items.size items.size hi<=items.size:=wMq _ _ (Nat.le_refl _) hi
  obtain ⟨os,hos,hcs,hds⟩:=id hs
  have hTs:s.TypeIs (.ref sl) "slice":=⟨os,hos,hcs⟩
  unfold getItem
  try with_reducible refine wpAny_holding ?_
  first | refine wpAny_bind (wpAny_pure ?_) | skip
  refine wpAny_bind (wpAny_sequenceKey ht.typeIs (by decide) ?_)
  refine wpAny_bind (wpAny_callSpecial?_slot (name:=Str.ofString "__getitem__") ht.typeIs PyProof.Rows.slot_tuple_getitem
    (wpAny_call_entry PyProof.Rows.slot_tuple_getitem ht.typeIs entry_tuple_getitem ?_ (args_tuple_getitem _ _)))
  show wpAny _ _ (Builtin.Tuple.tupleItemsOf (.ref t) >>= _) _ _ s
  refine wpAny_bind (tupleItemsOf_ ht ?_)
  refine wpAny_bind (wpAny_typeOf hTs ?_)
  rw [if_pos (by decide)]
  refine wpAny_bind (sliceApplied_gen hs pl pu ?_)
  have hno:¬ ((((sIx items.size 0 lo:Nat):Int)==0&&(1:Int)==1&&(sIx items.size items.size hi - sIx items.size 0 lo)==items.size)=true):=by
    intro q
    rw [Bool.and_eq_true,Bool.and_eq_true] at q
    have q1:((sIx items.size 0 lo:Nat):Int)=0:=eq_of_beq q.1.1
    have q2:sIx items.size items.size hi - sIx items.size 0 lo=items.size:=eq_of_beq q.2
    exact hw ⟨by omega,by omega⟩
  show wpAny _ _ (if (((sIx items.size 0 lo:Nat):Int)==0&&(1:Int)==1&&(sIx items.size items.size hi - sIx items.size 0 lo)==items.size)=true then _ else _) _ _ s
  rw [if_neg hno,oZq]
  first
    | exact wpAny_bind (m:=Builtin.Tuple.tupleExact _) (wpAny_newObj_type (wpAny_pure ⟨_,rfl,wpAny_pure h⟩) htake)
    | exact wpAny_bind (m:=Builtin.Tuple.tupleExact _) (wpAny_newObj_type (wpAny_bind (wpAny_pure (wpAny_pure ⟨_,rfl,wpAny_pure h⟩))) htake)
    | exact wpAny_bind (wpAny_bind (m:=Builtin.Tuple.tupleExact _) (wpAny_newObj_type (wpAny_pure (wpAny_pure ⟨_,rfl,wpAny_pure h⟩)) htake))
    | exact wpAny_bind (wpAny_bind (m:=Builtin.Tuple.tupleExact _) (wpAny_newObj_type (wpAny_pure ⟨_,rfl,wpAny_pure h⟩) htake))
end
end HT
namespace L2
open PySem PySem.Spec PyProof.Rows
abbrev TO:=St->Hp->(Option Int->Hp->Prop)->Prop
def PO (X:Cx) (e:Option Expr) (t:TO):Prop:=
  ∀ (pins:List (Addr × Obj)) (s:Shared) (σ:St) (H:Hp) (Q:Option Int->Hp->Prop),Inv X pins σ H s->t σ H Q →
    wpAny (model X.prog X.w) X.A (evalPart e X.env) (λ u s'=>∃ o H',Inv X pins σ H' s'/\IsPart u o/\Q o H') X.xe s
def mWq:TO:=λ _ H Q=>Q none H
def x9q (t:TE):TO:=λ σ H Q=>t σ H λ x H1=>∃ i,x=.int i/\Q (some i) H1
section
variable {X:Cx} {e:Expr} {te:TE} {lo hi:Option Expr} {tl th:TO} {pos p2:Pos}
theorem rPq:PO X none mWq:=by
  intro pins s σ H Q I h
  rw [evalPart_none]
  exact wpAny_pure ⟨none,H,I,.none,h⟩
theorem sFq (h:PE X e te):PO X (some e) (x9q te):=by
  intro pins s σ H Q I hw
  rw [evalPart_some]
  refine thn (h pins s σ H _ I hw) λ u s1 ⟨x,H1,I1,r1,q1⟩=>?_
  obtain ⟨i,rfl,q⟩:=q1
  obtain ⟨t,rfl⟩:=r1
  exact ⟨some i,H1,I1,.int i t,q⟩
def SlR (X:Cx) (r:V->Option Int->Option Int->Hp->VK->Prop):Prop:=
  ∀ (pins:List (Addr × Obj)) (s:Shared) (σ:St) (H:Hp) (x:V) (v vl vu:Value) (lo hi:Option Int) (sl:Addr) (Q:VK),Inv X pins σ H s->RelV x v->s.heap.IsSliceOf sl vl vu .none->IsPart vl lo->IsPart vu hi->r x lo hi H Q →
    ∃ T id,typeLookup (.type T) "__getitem__" = pure (some (.builtin id))/\s.TypeIs v T/\wpAny (model X.prog X.w) X.A (getItem v (.ref sl)) (EP X pins σ Q) X.xe s
theorem SlR.or {r r':V->Option Int->Option Int->Hp->VK->Prop} (h:SlR X r) (h':SlR X r'):SlR X (λ x lo hi H Q=>r x lo hi H Q\/r' x lo hi H Q):=by
  intro pins s σ H x v vl vu lo hi sl Q I rx hs pl pu q
  rcases q with q | q
  . exact h pins s σ H x v vl vu lo hi sl Q I rx hs pl pu q
  . exact h' pins s σ H x v vl vu lo hi sl Q I rx hs pl pu q
def tSl (r:V->Option Int->Option Int->Hp->VK->Prop) (te:TE) (tl th:TO):TE:=λ σ H Q=>te σ H λ x H1=>tl σ H1 λ l H2=>th σ H2 λ u H3=>r x l u H3 Q
theorem pKq {r:V->Option Int->Option Int->Hp->VK->Prop} (hr:SlR X r) (he:PE X e te) (hl:PO X lo tl) (hu:PO X hi th):PE X (.Subscript e (.Slice lo hi none p2) pos) (tSl r te tl th):=by
  intro pins s σ H Q I h
  refine Subscript_ (thn (he pins s σ H _ I h) λ v s1 ⟨x,H1,I1,r1,q1⟩=>?_)
  refine wpAny_Slice (thn (hl pins s1 σ H1 _ I1 q1) λ vl s2 ⟨l,H2,I2,pl,q2⟩=>thn (hu pins s2 σ H2 _ I2 q2) λ vu s3 ⟨u,H3,I3,pu,q3⟩=>?_)
  rw [evalPart_none]
  refine wpAny_pure ?_
  have I4:Inv X pins σ H3 { s3 with heap:=s3.heap.push { cls:=.type "slice", data:=.fields #[vl,vu,.none] } }:=I3.kept (t':=s3.toks) λ b ob q=>Heap.get?_push_of_some _ q
  obtain ⟨T,id,hT,ht,hg⟩:=hr pins { s3 with heap:=s3.heap.push { cls:=.type "slice", data:=.fields #[vl,vu,.none] } } σ H3 x v vl vu l u s3.heap.objs.size Q I4 r1 (Heap.IsSliceOf.new ..) pl pu q3
  show wpAny (model X.prog X.w) X.A (subscriptTail e (.Slice lo hi none p2) v (.ref s3.heap.objs.size)) (EP X pins σ Q) X.xe { s3 with heap:=s3.heap.push { cls:=.type "slice", data:=.fields #[vl,vu,.none] } }
  exact tail_any (ops:=[.ref s3.heap.objs.size,v]) ht hT hg (by with_unfolding_all rfl)
def lWq (xs:List V) (lo hi:Option Int):List V:=(xs.drop (HT.sIx xs.length 0 lo)).take (HT.sIx xs.length xs.length hi - HT.sIx xs.length 0 lo)
theorem fYq (xs:List V) (lo hi:Option Int):(lWq xs lo hi).length<=xs.length:=by
  unfold lWq
  rw [List.length_take,List.length_drop]
  omega
def rSlT (K:PySem.W.Frag):V->Option Int->Option Int->Hp->VK->Prop:=λ x lo hi H Q=>∃ a xs,x=.ref a/\SqT K H a xs ∧
  ¬ (HT.sIx xs.length 0 lo=0/\HT.sIx xs.length xs.length hi=xs.length)/\∀ p,H p=none->Q (.ref p) (upd H p (.tup (lWq xs lo hi)))
theorem wKq:SlR X (rSlT X.K):=by
  intro pins s σ H x v vl vu lo hi sl Q I rx hs pl pu h
  obtain ⟨a,xs,rfl,hx,hw,q⟩:=h
  cases rx
  obtain ⟨its,r,ht,hz⟩:=I.tuple hx
  have hlen:its.toArray.size=xs.length:=by rw [List.size_toArray];exact r.length.symm
  refine ⟨"tuple", _,PyProof.Rows.slot_tuple_getitem.lookup,ht.typeIs,?_⟩
  refine HT.getItem_tuple_cut ht hs pl pu (by rw [hlen];exact hw) ?_ (by rw [hlen];exact hz)
  rw [hlen]
  refine ⟨.ref s.heap.objs.size,_,I.laid (t':=s.toks) (o:=.tup (lWq xs lo hi)) (λ b ob q=>Heap.get?_push_of_some _ q) (Nat.le_refl _) ?_,rfl,q _ (I.hok.fresh (Nat.le_refl _))⟩
  exact ⟨Nat.le_trans (fYq xs lo hi) hz,_,(r.drop (HT.sIx xs.length 0 lo)).take (HT.sIx xs.length xs.length hi - HT.sIx xs.length 0 lo),IsTup.new _ _⟩
def zKq (K:PySem.W.Frag):R2:=λ x y H Q=>∃ a b xs ys,x=.ref a/\y=.ref b/\SqT K H a xs/\SqT K H b ys/\xs≠[]/\xs.length+ys.length<=sizeLine ∧
  (ys=[]->Q (.ref a) H)/\(ys≠[]->∀ p,H p=none->Q (.ref p) (upd H p (.tup (xs++ys))))
theorem Vals.nil_iff {xs:List V} {us:List Value} (r:Vals xs us):us=[] ↔ xs=[]:=by
  cases r with
  | nil=>simp
  | cons _ _=>simp
theorem sVq:OpR X (binaryOp .Add) (zKq X.K):=by
  intro pins s σ H x y v u Q I rx ry h
  obtain ⟨a,b,xs,ys,rfl,rfl,ha,hb,hx,hz,q1,q2⟩:=h
  cases rx
  cases ry
  obtain ⟨its,r1,p1,_⟩:=I.tuple ha
  obtain ⟨its2,r2,p2,_⟩:=I.tuple hb
  refine HT.cat_tup p1 p2 (λ z=>hx (r1.nil_iff.mp z)) (λ z=>⟨.ref a,H,I,rfl,q1 (r2.nil_iff.mp z)⟩) (λ z=>?_) (by rw [<- r1.length,<- r2.length];exact hz)
  refine ⟨.ref s.heap.objs.size,_,I.laid (t':=s.toks) (o:=.tup (xs++ys)) (λ b ob q=>Heap.get?_push_of_some _ q) (Nat.le_refl _) ?_,rfl,q2 (λ w=>z (r2.nil_iff.mpr w)) _ (I.hok.fresh (Nat.le_refl _))⟩
  exact ⟨by rw [List.length_append];exact hz,_,r1.append r2,IsTup.new _ _⟩
end
def ixN (n:Nat) (i:Int):Option Nat:=if 0<=i then (if i < n then some i.toNat else none) else if -(n:Int)<=i then some (i+n).toNat else none
def atI {α:Type} (xs:List α) (i:Int):Option α:=(ixN xs.length i).bind λ j=>xs[j]?
theorem oBq {n:Nat} {i:Int} {j:Nat} (h:ixN n i=some j):seqIndex? i n=some j/\j < n/\-(n:Int)<=i/\i < n:=by
  unfold ixN at h
  by_cases h0:0<=i
  . rw [if_pos h0] at h
    by_cases h1:i < n
    . rw [if_pos h1] at h
      have e:i.toNat=j:=Option.some.inj h
      exact ⟨by rw [seqIndex_of h0 h1,e],by omega,by omega,h1⟩
    . rw [if_neg h1] at h;cases h
  . rw [if_neg h0] at h
    by_cases h1:-(n:Int)<=i
    . rw [if_pos h1] at h
      have e:(i+n).toNat=j:=Option.some.inj h
      exact ⟨by rw [seqIndex_neg (by omega) h1,e],by omega,h1,by omega⟩
    . rw [if_neg h1] at h;cases h
theorem k2q {α:Type} {xs:List α} {i:Int} {v:α} (h:atI xs i=some v):∃ j,seqIndex? i xs.length=some j/\xs[j]?=some v/\j < xs.length/\-(xs.length:Int)<=i/\i < xs.length:=by
  unfold atI at h
  cases e:ixN xs.length i with
  | none=>rw [e] at h;cases h
  | some j=>
    rw [e] at h
    obtain ⟨h1,h2,h3,h4⟩:=oBq e
    exact ⟨j,h1,h,h2,h3,h4⟩
theorem bWq {α:Type} {xs:List α} {j:Nat} {v:α} (h:xs[j]?=some v):atI xs (j:Int)=some v:=by
  have hj:j < xs.length:=(List.getElem?_eq_some_iff.mp h).1
  have e:ixN xs.length (j:Int)=some j:=by
    unfold ixN
    rw [if_pos (by omega),if_pos (by omega)];simp
  unfold atI;rw [e];exact h
def h0q (b:Expr):Prop:=∀ o i,subscripted b false o i=operate [o,i] (getItem o i)
def IxR (X:Cx) (r:R2):Prop:=
  ∀ (value slice:Expr) (pins:List (Addr × Obj)) (s:Shared) (σ:St) (H:Hp) (x y:V) (v u:Value) (Q:VK),Inv X pins σ H s->RelV x v->RelV y u->r x y H Q →
    subscripted slice false v u=operate [v,u] (getItem v u)->wpAny (model X.prog X.w) X.A (subscriptTail value slice v u) (EP X pins σ Q) X.xe s
def MtR (X:Cx) (id:String) (r:V->List V->Hp->VK->Prop):Prop:=
  ∀ (pins:List (Addr × Obj)) (s:Shared) (σ:St) (H:Hp) (x:V) (xs:List V) (v:Value) (us:List Value) (Q:VK),Inv X pins σ H s->RelV x v->Vals xs us->r x xs H Q →
    wpAny (model X.prog X.w) X.A (call (.builtin id) (v::us)) (EP X pins σ Q) X.xe s
section
variable {X:Cx} {a b:Expr} {ta tb:TE} {pos:Pos}
theorem IxR.or {r r':R2} (h:IxR X r) (h':IxR X r'):IxR X (λ x y H Q=>r x y H Q\/r' x y H Q):=by
  intro value slice pins s σ H x y v u Q I rx ry q hs
  rcases q with q | q
  . exact h value slice pins s σ H x y v u Q I rx ry q hs
  . exact h' value slice pins s σ H x y v u Q I rx ry q hs
theorem MtR.or {id:String} {r r':V->List V->Hp->VK->Prop} (h:MtR X id r) (h':MtR X id r'):MtR X id (λ x xs H Q=>r x xs H Q\/r' x xs H Q):=by
  intro pins s σ H x xs v us Q I rx rs q
  rcases q with q | q
  . exact h pins s σ H x xs v us Q I rx rs q
  . exact h' pins s σ H x xs v us Q I rx rs q
theorem zEq {r:R2} (hr:IxR X r) (ha:PE X a ta) (hb:PE X b tb) (hs:h0q b):PE X (.Subscript a b pos) (tOp r ta tb):=by
  intro pins s σ H Q I h
  exact Subscript_ (zIq ha hb I h λ v u s2 x y H2 I2 rx ry q=>hr a b pins s2 σ H2 x y v u Q I2 rx ry q (hs _ _))
def rIxL (K:PySem.W.Frag):R2:=λ x y H Q=>∃ p xs i v,x=.ref p/\y=.int i/\SqL K H p xs/\atI xs i=some v/\Q v H
def rIxT (K:PySem.W.Frag):R2:=λ x y H Q=>∃ p xs i v,x=.ref p/\y=.int i/\SqT K H p xs/\atI xs i=some v/\Q v H
def rIxS:R2:=λ x y H Q=>∃ z i c,x=.str z/\y=.int i/\z.length<=sizeLine/\atI z.cps.toList i=some c/\Q (.str ⟨#[c]⟩) H
theorem ix_list:IxR X (rIxL X.K):=by
  intro value slice pins s σ H x y v u Q I rx ry h hs
  obtain ⟨p,xs,i,z,rfl,rfl,hq,he,q⟩:=h
  cases rx
  obtain ⟨t,rfl⟩:=ry
  obtain ⟨its,r,pl,hz⟩:=I.list hq
  obtain ⟨j,h1,h2,h3,h4,h5⟩:=k2q he
  obtain ⟨w,ew,rw'⟩:=r.get h2
  have hl:=r.length
  have hn:=e6q
  have fin:EP X pins σ Q w s:=⟨z,H,I,rw',q⟩
  by_cases h0:0<=i
  . have hj:i.toNat=j:=by
      rw [seqIndex_of h0 h5] at h1
      exact Option.some.inj h1
    exact item_listR pl.isList h0 (by omega) (by rw [hj];simpa using ew) fin hs
  . have hj:(i+(its.toArray.size:Int)).toNat=j:=by
      rw [seqIndex_neg (by omega) h4] at h1
      rw [List.size_toArray,<- hl]
      exact Option.some.inj h1
    exact subscriptTail_builtinR (x:=w) pl.isList.typeIs slot_list_getitem.lookup
      (wpAny_getItem_list_neg (Q:=λ r s'=>r=w/\EP X pins σ Q r s') pl.isList (by omega) (by rw [List.size_toArray]<;>omega) (by omega) (by rw [hj];simpa using ew) ⟨rfl,fin⟩) hs
theorem ix_tup:IxR X (rIxT X.K):=by
  intro value slice pins s σ H x y v u Q I rx ry h hs
  obtain ⟨p,xs,i,z,rfl,rfl,hq,he,q⟩:=h
  cases rx
  obtain ⟨t,rfl⟩:=ry
  obtain ⟨its,r,pl,hz⟩:=I.tuple hq
  obtain ⟨j,h1,h2,h3,h4,h5⟩:=k2q he
  obtain ⟨w,ew,rw'⟩:=r.get h2
  have hl:=r.length
  have hn:=e6q
  have fin:EP X pins σ Q w s:=⟨z,H,I,rw',q⟩
  exact subscriptTail_builtinR (x:=w) pl.typeIs slot_tuple_getitem.lookup
    (getItem_tuple (j:=j) (Q:=λ r s'=>r=w/\EP X pins σ Q r s') pl (by omega) (by omega) (by rw [List.size_toArray,<- hl];exact h1) (by simpa using ew) ⟨rfl,fin⟩) hs
theorem vKq:IxR X rIxS:=by
  intro value slice pins s σ H x y v u Q I rx ry h hs
  obtain ⟨z,i,c,rfl,rfl,hz,he,q⟩:=h
  obtain ⟨t,rfl⟩:=rx
  obtain ⟨t',rfl⟩:=ry
  obtain ⟨j,h1,h2,h3,h4,h5⟩:=k2q he
  have hl:z.cps.toList.length=z.length:=by simp [Str.length]
  rw [hl] at h1 h4 h5
  have hn:=e6q
  exact tail_any (typeIs_str s z t) slot_str_getitem.lookup (getItem_str (c:=c) (by
    have e1:decide (i < -(2 ^ 63:Int))=false:=decide_eq_false (by omega)
    have e2:decide (i ≥ 2 ^ 63)=false:=decide_eq_false (by omega)
    rw [e1,e2,Bool.or_false]) (by rw [h1];simpa using h2) ⟨.str ⟨#[c]⟩,H,I.tok _,⟨_,rfl⟩,q⟩) hs
def rIx (K:PySem.W.Frag):R2:=λ x y H Q=>rIxL K x y H Q\/rIxT K x y H Q\/rIxS x y H Q
theorem rIq:IxR X (rIx X.K):=ix_list.or (ix_tup.or vKq)
theorem lMq (its:List Value) (n j:Nat) (u:Value):Obj.mapSeq (·.setIfInBounds j u) { cls:=.type "list", data:=.seq its.toArray n }={ cls:=.type "list", data:=.seq (its.set j u).toArray n }:=by
  simp [Obj.mapSeq]
theorem Inv.lst {pins:List (Addr × Obj)} {σ:St} {H:Hp} {s:Shared} {p:Addr} {xs:List V} (I:Inv X pins σ H s) (h:H p=some (.lst xs)) :
    ∃ (its:List Value) (n:Nat),Vals xs its/\s.heap.get? p=some { cls:=.type "list", data:=.seq its.toArray n }/\xs.length<=sizeLine:=by
  obtain ⟨z,its,n,r,e⟩:=I.hok p _ h
  exact ⟨its,n,r,e,z⟩
theorem Inv.lstUpd {pins:List (Addr × Obj)} {σ:St} {H:Hp} {s:Shared} {p:Addr} {xs ys:List V} {its its':List Value} {n n':Nat} {f:Obj->Obj} (I:Inv X pins σ H s) (h:H p=some (.lst xs))
    (ho:s.heap.get? p=some { cls:=.type "list", data:=.seq its.toArray n }) (hf:f { cls:=.type "list", data:=.seq its.toArray n }={ cls:=.type "list", data:=.seq its'.toArray n' }) (r:Vals ys its') (hz:ys.length<=sizeLine) (t:Nat) :
    Inv X pins σ (upd H p (.lst ys)) { s with heap:=s.heap.update p f,toks:=t }:=by
  have e:(s.heap.update p f).get? p=some { cls:=.type "list", data:=.seq its'.toArray n' }:=by
    rw [Heap.get?_update_self f ho (by rw [hf]<;>rfl),hf]
  refine I.write (x:=p) (e:=p) (by rw [h];trivial) (.inl rfl) (λ b u hb q=>(Heap.get?_update_other _ _ (Ne.symm hb)).trans q) ⟨_,e⟩ ?_
  exact ⟨hz,its',n',r,e⟩
def zFq:V->V->V->Hp->(Hp->Prop)->Prop:=λ o i v H Q=>∃ p xs k j,o=.ref p/\i=.int k/\H p=some (.lst xs)/\ixN xs.length k=some j/\Q (upd H p (.lst (xs.set j v)))
theorem pIq:z6q X zFq:=by
  intro pins s σ H o i v ov iv u Q I ro ri rv h
  obtain ⟨p,xs,k,j,rfl,rfl,hp,hj,q⟩:=h
  cases ro
  obtain ⟨t,rfl⟩:=ri
  obtain ⟨its,n,r,ho,hz⟩:=I.lst hp
  obtain ⟨h1,h2,h3,h4⟩:=oBq hj
  have hl:=r.length
  have hn:=e6q
  have I':Inv X pins σ (upd H p (.lst (xs.set j v))) { s with heap:=s.heap.update p (Obj.mapSeq (·.setIfInBounds j u)) }:=
    I.lstUpd hp ho (lMq its n j u) (r.set rv j) (by rw [List.length_set];exact hz) s.toks
  by_cases h0:0<=k
  . have hk:k.toNat=j:=by
      rw [seqIndex_of h0 h4] at h1
      exact Option.some.inj h1
    exact PySem.W.ki_setAt ho h0 (by omega) (by rw [List.size_toArray,<- hl];exact h4) (by rw [hk];exact ⟨_,I',q⟩)
  . have hk:(k+(its.toArray.size:Int)).toNat=j:=by
      rw [seqIndex_neg (by omega) h3] at h1
      rw [List.size_toArray,<- hl]
      exact Option.some.inj h1
    exact PySem.W.ki_setBack ho (by omega) (by rw [List.size_toArray,<- hl];exact h3) (by omega) (by rw [hk];exact ⟨_,I',q⟩)
theorem iAq (lo hi:Option Int) (n:Nat):(sliceBounds lo hi none n).1=((HT.sIx n 0 lo:Nat):Int)/\(sliceBounds lo hi none n).2.1=((HT.sIx n n hi:Nat):Int)/\(sliceBounds lo hi none n).2.2=1:=by
  refine ⟨?_,?_,rfl⟩
  . cases lo with
    | none=>simp [sliceBounds,HT.sIx]
    | some i=>
      simp only [sliceBounds,HT.sIx,Option.getD_none,show (1:Int) > 0 by decide,if_true]
      by_cases h:i < 0
      . simp only [h,if_true]<;>omega
      . simp only [h,if_false]<;>omega
  . cases hi with
    | none=>simp [sliceBounds,HT.sIx]
    | some i=>
      simp only [sliceBounds,HT.sIx,Option.getD_none,show (1:Int) > 0 by decide,if_true]
      by_cases h:i < 0
      . simp only [h,if_true]<;>omega
      . simp only [h,if_false]<;>omega
theorem hNq (its:List Value) (lo hi:Option Int):slicePick its.toArray lo hi none=((its.drop (HT.sIx its.length 0 lo)).take (HT.sIx its.length its.length hi - HT.sIx its.length 0 lo)).toArray:=by
  obtain ⟨h1,h2,h3⟩:=iAq lo hi its.toArray.size
  unfold slicePick
  rw [h1,h2,h3]
  simp only [sliceRange_one,pick_run,List.size_toArray]<;>rfl
def rSlL (K:PySem.W.Frag):V->Option Int->Option Int->Hp->VK->Prop:=λ x lo hi H Q=>∃ a xs,x=.ref a/\SqL K H a xs/\∀ p,H p=none->Q (.ref p) (upd H p (.lst (lWq xs lo hi)))
theorem tZq:SlR X (rSlL X.K):=by
  intro pins s σ H x v vl vu lo hi sl Q I rx hs pl pu h
  obtain ⟨a,xs,rfl,hx,q⟩:=h
  cases rx
  obtain ⟨its,r,ht,hz⟩:=I.list hx
  have hlen:=r.length
  refine ⟨"list", _,slot_list_getitem.lookup,ht.isList.typeIs,?_⟩
  refine wpAny_getItem_list_slice ht.isList hs pl pu .none (by simp) ?_ (by rw [List.size_toArray]<;>omega)
  rw [hNq,<- hlen]
  refine ⟨.ref s.heap.objs.size,_,I.laid (t':=s.toks) (o:=.lst (lWq xs lo hi)) (λ b ob q=>Heap.get?_push_of_some _ q) (Nat.le_refl _) ?_,rfl,q _ (I.hok.fresh (Nat.le_refl _))⟩
  exact ⟨Nat.le_trans (fYq xs lo hi) hz,_,0,(r.drop (HT.sIx xs.length 0 lo)).take (HT.sIx xs.length xs.length hi - HT.sIx xs.length 0 lo),Heap.get?_push_size _ rfl⟩
def g1q:V->Bool
  | .non=>true
  | .bl _=>true
  | .int _=>true
  | .str _=>true
  | _=>false
def eqV:V->V->Bool
  | .non,.non=>true
  | .bl a,.bl b=>a==b
  | .bl a,.int b=>(if a then 1 else 0)==b
  | .int a,.bl b=>a==(if b then 1 else 0)
  | .int a,.int b=>a==b
  | .str a,.str b=>a==b
  | _,_=>false
theorem v8q {A:Around} {s:Shared} {y x:V} {u v:Value} (ry:RelV y u) (rx:RelV x v) (fy:g1q y=true) (fx:g1q x=true):SeqAt.EqAt A s u v (eqV y x):=by
  cases y with
  | non=>
    cases ry
    cases x with
    | non=>cases rx;exact SeqAt.EqAt.same _
    | bl b=>cases rx;exact SeqAt.EqAt.none_bool b
    | int b=>obtain ⟨t,rfl⟩:=rx;exact SeqAt.EqAt.none_int b t
    | str b=>obtain ⟨t,rfl⟩:=rx;exact SeqAt.EqAt.none_str b t
    | _=>exact absurd (show false=true from fx) Bool.false_ne_true
  | bl a=>
    cases ry
    cases x with
    | non=>cases rx;exact SeqAt.EqAt.bool_none a
    | bl b=>cases rx;exact SeqAt.EqAt.bool_bool a b
    | int b=>obtain ⟨t,rfl⟩:=rx;exact SeqAt.EqAt.bool_int a b t
    | str b=>obtain ⟨t,rfl⟩:=rx;exact SeqAt.EqAt.bool_str a b t
    | _=>exact absurd (show false=true from fx) Bool.false_ne_true
  | int a=>
    obtain ⟨t',rfl⟩:=ry
    cases x with
    | non=>cases rx;exact SeqAt.EqAt.int_none a t'
    | bl b=>cases rx;exact SeqAt.EqAt.int_bool a t' b
    | int b=>obtain ⟨t,rfl⟩:=rx;exact SeqAt.EqAt.int_int a t' b t
    | str b=>obtain ⟨t,rfl⟩:=rx;exact SeqAt.EqAt.int_str a t' b t
    | _=>exact absurd (show false=true from fx) Bool.false_ne_true
  | str a=>
    obtain ⟨t',rfl⟩:=ry
    cases x with
    | non=>cases rx;exact SeqAt.EqAt.str_none a t'
    | bl b=>cases rx;exact SeqAt.EqAt.str_bool a t' b
    | int b=>obtain ⟨t,rfl⟩:=rx;exact SeqAt.EqAt.str_int a t' b t
    | str b=>obtain ⟨t,rfl⟩:=rx;exact SeqAt.EqAt.str_str a t' b t
    | _=>exact absurd (show false=true from fx) Bool.false_ne_true
  | _=>exact absurd (show false=true from fy) Bool.false_ne_true
def eqU (x:V) (u:Value):Bool:=match u with
  | .none=>eqV .non x
  | .bool b=>eqV (.bl b) x
  | .int i _=>eqV (.int i) x
  | .str z _=>eqV (.str z) x
  | _=>false
theorem rHq {x y:V} {u:Value} (r:RelV y u) (f:g1q y=true):eqU x u=eqV y x:=by
  cases y with
  | non=>cases r;rfl
  | bl b=>cases r;rfl
  | int i=>obtain ⟨t,rfl⟩:=r;rfl
  | str z=>obtain ⟨t,rfl⟩:=r;rfl
  | _=>exact absurd (show false=true from f) Bool.false_ne_true
theorem jFq {x:V}:∀ {xs:List V} {us:List Value},Vals xs us->xs.all g1q=true->us.any (eqU x)=xs.any λ y=>eqV y x
  | _,_,.nil,_=>rfl
  | y::xs,u::us,.cons r t,f=>by
    rw [List.all_cons,Bool.and_eq_true] at f
    rw [List.any_cons,List.any_cons,rHq r f.1,jFq t f.2]
theorem hZq {A:Around} {s:Shared} {x:V} {v:Value} (rx:RelV x v) (fx:g1q x=true):∀ {xs:List V} {us:List Value},Vals xs us->xs.all g1q=true->∀ u∈us,SeqAt.EqAt A s u v (eqU x u)
  | _,_,.nil,_=>λ u hu=>by cases hu
  | y::xs,u::us,.cons r t,f=>λ u' hu=>by
    rw [List.all_cons,Bool.and_eq_true] at f
    rcases List.mem_cons.mp hu with rfl | hu
    . rw [rHq r f.1];exact v8q r rx f.1 fx
    . exact hZq rx fx t f.2 u' hu
def inV (x:V) (xs:List V):Bool:=xs.any λ y=>eqV y x
def rIn (K:PySem.W.Frag) (neg:Bool):R2:=λ x y H Q=>∃ p xs,y=.ref p/\(SqL K H p xs\/SqT K H p xs)/\g1q x=true/\xs.all g1q=true/\Q (.bl (if neg then !inV x xs else inV x xs)) H
theorem op_in_seq:OpR X (compareOp .In) (rIn X.K false):=by
  intro pins s σ H x y v u Q I rx ry h
  obtain ⟨p,xs,rfl,hq,fx,fs,q⟩:=h
  cases ry
  rcases hq with hq | hq
  . obtain ⟨its,r,pl,hz⟩:=I.list hq
    refine SeqAt.in_listAt (eqU x) pl.isList (λ w hw=>hZq rx fx r fs w (by simpa using hw)) ⟨.bl _,H,I,rfl,?_⟩
    rw [show its.toArray.any (eqU x)=its.any (eqU x) by simp,jFq r fs]
    exact q
  . obtain ⟨its,r,pl,hz⟩:=I.tuple hq
    refine SeqAt.in_tupleAt (eqU x) pl (λ w hw=>hZq rx fx r fs w (by simpa using hw)) ⟨.bl _,H,I,rfl,?_⟩
    rw [show its.toArray.any (eqU x)=its.any (eqU x) by simp,jFq r fs]
    exact q
theorem call_len_seq:CallR X (.builtin "len") (λ xs H Q=>∃ p ys,xs=[.ref p]/\(SqL X.K H p ys\/SqT X.K H p ys)/\Q (.int ys.length) H):=by
  intro pins s σ H xs us Q I r h
  obtain ⟨p,ys,rfl,hq,q⟩:=h
  obtain ⟨u,rfl,rx⟩:=oFq r
  cases rx
  have hn:=e6q
  rcases hq with hq | hq
  . obtain ⟨its,r',pl,hz⟩:=I.list hq
    have hlen:=r'.length
    exact Calls.call_len_list pl.isList (by simp only [List.size_toArray]<;>omega) ⟨.int ys.length,H,I.tok _,⟨s.toks+1,by rw [List.size_toArray,hlen]⟩,q⟩
  . obtain ⟨its,r',pl,hz⟩:=I.tuple hq
    have hlen:=r'.length
    exact len_tuple pl (by simp only [List.size_toArray]<;>omega) ⟨.int ys.length,H,I.tok _,⟨s.toks+1,by rw [List.size_toArray,hlen]⟩,q⟩
theorem iPq:CallR X (.builtin "len") (λ xs H Q=>∃ z,xs=[.str z]/\z.length<=sizeLine/\Q (.int z.length) H):=by
  intro pins s σ H xs us Q I r h
  obtain ⟨z,rfl,hz,q⟩:=h
  obtain ⟨u,rfl,t,rfl⟩:=oFq r
  have hn:=e6q
  exact len_str (by omega) ⟨.int z.length,H,I.tok _,⟨_,rfl⟩,q⟩
theorem CallR.or {f:Value} {r r':List V->Hp->VK->Prop} (h:CallR X f r) (h':CallR X f r'):CallR X f (λ xs H Q=>r xs H Q\/r' xs H Q):=by
  intro pins s σ H xs us Q I rs q
  rcases q with q | q
  . exact h pins s σ H xs us Q I rs q
  . exact h' pins s σ H xs us Q I rs q
theorem hUq:CallR X (.type "tuple") (λ xs H Q=>∃ p ys,xs=[.ref p]/\((SqL X.K H p ys/\∀ l,H l=none->Q (.ref l) (upd H l (.tup ys)))\/(SqT X.K H p ys/\Q (.ref p) H))):=by
  intro pins s σ H xs us Q I r h
  obtain ⟨p,ys,rfl,h⟩:=h
  obtain ⟨u,rfl,rx⟩:=oFq r
  cases rx
  rcases h with ⟨hq,q⟩ | ⟨hq,q⟩
  . obtain ⟨its,r',pl,hz⟩:=I.list hq
    have hlen:=r'.length
    refine call_tuple_list pl.isList (λ h' kp=>?_) (by simp only [List.size_toArray]<;>omega)
    have I1:Inv X pins σ H { s with heap:=h' }:=I.kept (t':=s.toks) kp
    have I2:Inv X pins σ (upd H h'.objs.size (.tup ys)) { s with heap:=h'.push { cls:=.type "tuple", data:=.seq its.toArray } }:=
      I1.laid (t':=s.toks) (λ b o e=>Heap.get?_push_of_some _ e) (Nat.le_refl _) (show ObjOk X.prog X.w _ _ _ (.tup ys) from ⟨hz,its,r',IsTup.new _ _⟩)
    exact ⟨.ref h'.objs.size,_,I2,rfl,q _ (I1.hok.fresh (Nat.le_refl _))⟩
  . obtain ⟨its,r',pl,hz⟩:=I.tuple hq
    exact call_tuple_same pl ⟨.ref p,H,I,rfl,q⟩
def tyV (K:PySem.W.Frag) (T:String) (x:V) (H:Hp):Prop:=match x with
  | .str _=>T = "str"
  | .int _=>T = "int"
  | .ref p=>(T = "list"/\∃ xs,SqL K H p xs)\/(T = "tuple"/\∃ o,K.lookup p=some o/\o.cls=.type "tuple"/\o.dict=none) ∨
      (T = "dict"/\((∃ kvs,H p=some (.dK kvs))\/∃ kvs,H p=some (.dT kvs)))\/(T = "set"/\∃ S n,H p=some (.set S n))
  | _=>False
theorem r9q {pins:List (Addr × Obj)} {σ:St} {H:Hp} {s:Shared} {T:String} {x:V} {v:Value} (I:Inv X pins σ H s) (r:RelV x v) (ty:tyV X.K T x H) :
    s.TypeIs v T/\∀ a,v=.ref a->∃ ob,s.heap.get? a=some ob/\ob.dict=none:=by
  cases x with
  | str z=>
    obtain ⟨t,rfl⟩:=r
    cases (show T = "str" from ty)
    exact ⟨typeIs_str s z t,λ _ e=>nomatch e⟩
  | int i=>
    obtain ⟨t,rfl⟩:=r
    cases (show T = "int" from ty)
    exact ⟨typeIs_int s i t,λ _ e=>nomatch e⟩
  | ref p=>
    cases r
    rcases ty with ⟨rfl,xs,hq⟩ | ⟨rfl,o,hk,hc,hd⟩ | ⟨rfl,hk⟩ | ⟨rfl,S,n,hk⟩
    . obtain ⟨its,_,pl,_⟩:=I.list hq
      refine ⟨pl.isList.typeIs,λ a e=>?_⟩
      cases e
      obtain ⟨o,n,e,c,hd,_⟩:=pl
      exact ⟨o,e,hd⟩
    . refine ⟨⟨o,I.kIn p o hk,hc⟩,λ a e=>?_⟩
      cases e
      exact ⟨o,I.kIn _ o hk,hd⟩
    . have z:∃ o,s.heap.get? p=some o/\o.ExactDict:=by
        rcases hk with ⟨kvs,hk⟩ | ⟨kvs,hk⟩
        . obtain ⟨_,_,_,_,o,_,_,e,ex,_⟩:=I.hok p _ hk
          exact ⟨o,e,ex⟩
        . obtain ⟨_,_,_,_,o,_,_,e,ex,_⟩:=I.hok p _ hk
          exact ⟨o,e,ex⟩
      obtain ⟨o,e,ex⟩:=z
      refine ⟨⟨o,e,ex.1⟩,λ a e2=>?_⟩
      cases e2
      exact ⟨o,e,ex.2.1⟩
    . obtain ⟨o,_,_,_,e,ex,_⟩:=I.hok p _ hk
      refine ⟨⟨o,e,ex.1⟩,λ a e2=>?_⟩
      cases e2
      exact ⟨o,e,ex.2.1⟩
  | _=>exact False.elim ty
def tBM0 (K:PySem.W.Frag) (T:String) (r:V->List V->Hp->VK->Prop) (to:TE):TE:=λ σ H Q=>to σ H λ x H1=>tyV K T x H1/\r x [] H1 Q
def tBM (K:PySem.W.Frag) (T:String) (r:V->List V->Hp->VK->Prop) (to:TE) (t:TA):TE:=λ σ H Q=>to σ H λ x H1=>tyV K T x H1/\t σ H1 λ xs H2=>r x xs H2 Q
variable {o e:Expr} {es:List Expr} {to:TE} {t:TA} {name:Str} {apos cpos:Pos} {T id:String} {r:V->List V->Hp->VK->Prop}
theorem uVq (pa:PlainAttrs T) (slot:Slot T name id) (hty:typeOf (.builtin id)=pure (.type "method_descriptor")) (hm:MtR X id r) (ho:PE X o to)
    (hbase:attributeBase o name X.env (eval o X.env)=eval o X.env:=by rfl) (hline:(apos.endLine==cpos.line)=true:=by rfl):PE X (.Call (.Attribute o name apos) [] [] cpos) (tBM0 X.K T r to):=by
  intro pins s σ H Q I h
  refine wpAny_Call_method0_late hbase hline (thn (ho pins s σ H _ I h) λ v s1 ⟨x,H1,I1,r1,ty,q1⟩=>?_)
  obtain ⟨h1,h2⟩:=r9q I1 r1 ty
  exact ⟨T,id,pa,slot,hty,h1,h2,Calls.callWith_builtin rfl (PySem.evalArgs_none (hm pins s1 σ H1 x [] v [] Q I1 r1 .nil q1))⟩
theorem zDq (pa:PlainAttrs T) (slot:Slot T name id) (hty:typeOf (.builtin id)=pure (.type "method_descriptor")) (hm:MtR X id r) (ho:PE X o to) (ha:PA X (e::es) t)
    (hbase:attributeBase o name X.env (eval o X.env)=eval o X.env:=by rfl)
    (hfew:((backTo cpos (starEach (e::es) X.env)).all (λ x=>!x.1)&&(backToKw cpos (keywordEach [] X.env)).all (λ x=>x.1.isSome)
     &&decide ((e::es).length+([]:List Keyword).length+(if ([]:List Keyword).isEmpty then 0 else 1) < 30))=true:=by rfl)
    (hline:(apos.endLine==cpos.line)=true:=by rfl) (hs:starEach (e::es) X.env=(false,eval e X.env)::starEach es X.env:=by rfl) (hplain:(backTo cpos (starEach es X.env)).any (·.1)=false:=by rfl) :
    PE X (.Call (.Attribute o name apos) (e::es) [] cpos) (tBM X.K T r to t):=by
  intro pins s σ H Q I h
  refine wpAny_Call_method_late hbase hfew hline rfl (thn (ho pins s σ H _ I h) λ v s1 ⟨x,H1,I1,r1,ty,q1⟩=>?_)
  obtain ⟨h1,h2⟩:=r9q I1 r1 ty
  refine ⟨T,id,pa,slot,hty,h1,h2,?_⟩
  have hA:=ha cpos pins s1 σ H1 _ I1 q1
  rw [hs] at hA ⊢
  refine Calls.callWith_builtin (by show (false||(backTo cpos (starEach es X.env)).any (·.1))=false;rw [hplain]<;>rfl) (Calls.evalArgs_plain ?_)
  exact thn hA λ us s2 ⟨vs,H2,I2,r2,q2⟩=>hm pins s2 σ H2 x vs v us Q I2 r1 r2 q2
end
def MtM (X:Cx) (id:String) (r:V->List V->Hp->VK->Prop):Prop:=
  ∀ (pins:List (Addr × Obj)) (s:Shared) (σ:St) (H:Hp) (x:V) (xs:List V) (v:Value) (us:List Value) (Q:VK),Inv X pins σ H s->RelV x v->Vals xs us->r x xs H Q →
    wpAny (model X.prog X.w) X.A (call (.builtin id) (v::us)) (EP X pins σ Q) X.xe s
theorem Vals.one:∀ {x:V} {us:List Value},Vals [x] us->∃ u,us=[u]/\RelV x u
  | _,_,.cons r .nil=>⟨_,rfl,r⟩
theorem Vals.two:∀ {x y:V} {us:List Value},Vals [x,y] us->∃ u v,us=[u,v]/\RelV x u/\RelV y v
  | _,_,_,.cons r (.cons q .nil)=>⟨_,_,rfl,r,q⟩
theorem Vals.zero:∀ {us:List Value},Vals [] us->us=[]
  | _,.nil=>rfl
theorem Vals.dropLast {xs:List V} {us:List Value} (h:Vals xs us):Vals xs.dropLast us.dropLast:=by
  induction h with
  | nil=>exact .nil
  | cons r t ih=>
    cases t with
    | nil=>exact .nil
    | cons q t'=>exact .cons r ih
theorem lQq {α:Type} (l:List α):l.eraseIdx (l.length - 1)=l.dropLast:=by
  induction l with
  | nil=>rfl
  | cons a r ih=>
    cases r with
    | nil=>rfl
    | cons b r=>
      have e:(a::b::r).length - 1=((b::r).length - 1)+1:=by
        have h1:(a::b::r).length=r.length+2:=rfl
        have h2:(b::r).length=r.length+1:=rfl
        omega
      rw [e,List.eraseIdx_cons_succ,ih]
      all_goals rfl
section
variable {X:Cx} {pins:List (Addr × Obj)} {σ:St} {H:Hp} {s:Shared} {l b:Addr} {xs ys zs:List V}
theorem Inv.lset {its its':List Value} {n:Nat} {f:Array Value->Array Value} {t':Nat} (I:Inv X pins σ H s) (hH:H l=some (.lst xs))
    (e:s.heap.get? l=some { cls:=.type "list", data:=.seq its.toArray n }) (hf:f its.toArray=its'.toArray) (hv:Vals ys its') (hz:ys.length<=sizeLine) :
    Inv X pins σ (upd H l (.lst ys)) { s with heap:=s.heap.update l (Obj.mapSeq f),toks:=t' }:=by
  have q:=PySem.IsL.update e f
  rw [hf] at q
  refine I.write (x:=l) (e:=l) (by rw [hH];exact trivial) (.inl rfl) (λ b' u hb hu=>(Heap.get?_update_other s.heap (Obj.mapSeq f) (Ne.symm hb)).trans hu) ⟨_,q⟩ ?_
  exact ⟨hz,its',_,hv,q⟩
theorem Inv.lnew {its:List Value} {t':Nat} (I:Inv X pins σ H s) (hv:Vals ys its) (hz:ys.length<=sizeLine) :
    Inv X pins σ (upd H s.heap.objs.size (.lst ys)) { s with heap:=s.heap.push { cls:=.type "list", data:=.seq its.toArray },toks:=t' }:=
  I.laid (λ _ _ q=>Heap.get?_push_of_some _ q) (Nat.le_refl _) ⟨hz,its,0,hv,Heap.get?_push_size _ rfl⟩
theorem Inv.fresh (I:Inv X pins σ H s):H s.heap.objs.size=none:=I.hok.fresh (Nat.le_refl _)
theorem Inv.lstM (I:Inv X pins σ H s) (hH:H l=some (.lst xs)):xs.length<=sizeLine/\∃ (its:List Value) (n:Nat),Vals xs its/\xs.length=its.length/\s.heap.get? l=some { cls:=.type "list", data:=.seq its.toArray n }:=by
  obtain ⟨z,its,n,r,e⟩:=I.hok l _ hH
  exact ⟨z,its,n,r,r.length,e⟩
theorem kMq {n:Nat} (h:n<=sizeLine):Builtin.List.listTooLong n=false:=by
  unfold Builtin.List.listTooLong
  exact decide_eq_false (by omega)
end
section
variable {X:Cx}
def tJq:V->List V->Hp->VK->Prop:=λ x vs H Q=>∃ l xs y,x=.ref l/\vs=[y]/\H l=some (.lst xs)/\xs.length < sizeLine/\Q .non (upd H l (.lst (xs++[y])))
theorem d7q:MtM X "list.append" tJq:=by
  intro pins s σ H x vs v us Q I rx rv h
  obtain ⟨l,xs,y,rfl,rfl,hH,hz,q⟩:=h
  cases rx
  obtain ⟨u,rfl,ru⟩:=rv.one
  obtain ⟨z,its,n,r,hl,e⟩:=I.lstM hH
  refine call_meets F.slot_list_append ⟨_,e,rfl⟩ F.entry_list_append (F.args_list_append_2 _ _) (PySem.list_append l its.toArray n u (by rw [List.size_toArray];omega)) ⟨e,?_⟩
  refine ⟨.non,_,I.lset (its':=its++[u]) hH e (by simp) (r.append (.cons ru .nil)) ?_,rfl,q⟩
  rw [List.length_append,List.length_singleton]
  omega
def u5q:V->List V->Hp->VK->Prop:=λ x vs H Q=>∃ l b xs zs,x=.ref l/\vs=[.ref b]/\H l=some (.lst xs)/\H b=some (.lst zs)/\xs.length+zs.length<=sizeLine/\Q .non (upd H l (.lst (xs++zs)))
theorem o9q:MtM X "list.extend" u5q:=by
  intro pins s σ H x vs v us Q I rx rv h
  obtain ⟨l,b,xs,zs,rfl,rfl,hH,hB,hz,q⟩:=h
  cases rx
  obtain ⟨u,rfl,ru⟩:=rv.one
  cases ru
  obtain ⟨z,its,n,r,hl,e⟩:=I.lstM hH
  obtain ⟨z2,its2,n2,r2,hl2,e2⟩:=I.lstM hB
  have hsz:its.toArray.size+its2.toArray.size<=sizeLine:=by rw [List.size_toArray,List.size_toArray];omega
  have hlong:¬ (!its.toArray.isEmpty&&Builtin.List.listTooLong (its.toArray.size+its2.toArray.size))=true:=by
    rw [kMq hsz,Bool.and_false]
    exact Bool.false_ne_true
  refine call_meets F.slot_list_extend ⟨_,e,rfl⟩ F.entry_list_extend (F.args_list_extend_2 _ _)
    (AutoSeq1.list_extend_list_list_0 l its.toArray n b its2.toArray n2 hlong (by rw [List.size_toArray];omega) (by omega)) ⟨e,e2,?_⟩
  refine ⟨.non,_,I.lset (its':=its++its2) hH e (by simp) (r.append r2) ?_,rfl,q⟩
  rw [List.length_append]
  omega
def rPop:V->List V->Hp->VK->Prop:=λ x vs H Q=>∃ l xs y,x=.ref l/\vs=[]/\H l=some (.lst xs)/\xs[xs.length - 1]?=some y/\Q y (upd H l (.lst xs.dropLast))
theorem wGq:MtM X "list.pop" rPop:=by
  intro pins s σ H x vs v us Q I rx rv h
  obtain ⟨l,xs,y,rfl,rfl,hH,hy,q⟩:=h
  cases rx
  have hus:=rv.zero
  subst hus
  obtain ⟨z,its,n,r,hl,e⟩:=I.lstM hH
  obtain ⟨u,hu,ru⟩:=r.get hy
  have hy':its.toArray[its.toArray.size - 1]?=some u:=by
    show its.toArray[its.length - 1]?=some u
    rw [<- Array.getElem?_toList,<- hl]
    exact hu
  refine call_meets F.slot_list_pop ⟨_,e,rfl⟩ F.entry_list_pop (F.args_list_pop_1 _) (MeetsSeq.list_pop_last l its.toArray n u hy' (by rw [List.size_toArray];omega)) ⟨e,?_⟩
  refine ⟨y,_,I.lset (its':=its.dropLast) hH e ?_ r.dropLast ?_,ru,q⟩
  . show its.toArray.eraseIdxIfInBounds (its.toArray.size - 1)=its.dropLast.toArray
    rw [List.size_toArray,List.eraseIdxIfInBounds_toArray,lQq]
  . rw [List.length_dropLast]
    omega
def rCat:R2:=λ x y H Q=>∃ l b xs zs,x=.ref l/\y=.ref b/\H l=some (.lst xs)/\H b=some (.lst zs)/\xs.length+zs.length<=sizeLine/\∀ p,H p=none->Q (.ref p) (upd H p (.lst (xs++zs)))
theorem yCq:OpR X (binaryOp .Add) rCat:=by
  intro pins s σ H x y v u Q I rx ry h
  obtain ⟨l,b,xs,zs,rfl,rfl,hH,hB,hz,q⟩:=h
  cases rx
  cases ry
  obtain ⟨z,its,n,r,hl,e⟩:=I.lstM hH
  obtain ⟨z2,its2,n2,r2,hl2,e2⟩:=I.lstM hB
  refine PySem.P.add_list e e2 ?_ (by rw [List.size_toArray,List.size_toArray];omega)
  have ea:its.toArray++its2.toArray=(its++its2).toArray:=by simp
  rw [ea]
  exact ⟨.ref _,_,I.lnew (t':=s.toks) (r.append r2) (by rw [List.length_append];omega),rfl,q _ I.fresh⟩
end
section
variable {prog:Program} {w:World} {A:Around} {E:Value->Shared->Prop} {s:Shared}
end
section
variable {X:Cx}
end
end L2
namespace Att
open PySem PySem.W PySem.Calls PyProof.Rows
theorem eTq {P:Params} {h:Heap}:∀ (ns:List Int) (vs:List Value),WellAll P h vs (ns.map WData.int)->IntsAre vs ns:=by
  intro ns
  induction ns with
  | nil=>
    intro vs w
    rw [List.map_nil] at w
    cases w
    exact .nil
  | cons n ns ih=>
    intro vs w
    rw [List.map_cons] at w
    cases w with
    | cons a b=>
      cases a
      exact .cons _ _ (ih _ b)
theorem o7q {l:OpenLaw} {n:Nat} (hn:l.most=some n) {P:Params} {h:Heap} {args:List WData} {vals:List Value}
    (hpre:l.row.toRowW.claim.pre args=true) (hwl:WellAll P h vals args) :
    ∃ a vs ns,vals=[Value.ref a]/\args=[WData.list (ns.map WData.int)]/\h.get? a=some { cls:=.type "list", data:=.seq vs.toArray }/\IntsAre vs ns/\ns.length<=n:=by
  have hsh:WShape.hasAll [] args [.list .int]=true:=(pre_splitW hpre).1
  have hc:l.pre.holds [] { args:=args }=true:=(pre_splitW hpre).2
  obtain ⟨d,r,rfl,h1,h2⟩:=hasAllW_cons hsh
  obtain rfl:=hasAllW_nil h2
  obtain ⟨xs,rfl,h3⟩:=hasW_list h1
  obtain ⟨ns,rfl⟩:=items_int h3
  have hlen:ns.length<=n:=by
    unfold OpenLaw.pre at hc
    have h4:(WTm.not (.lt (.lit (.int (n:Int))) (.len (.arg 0)))).holds [] { args:=[.list (ns.map .int)] }=true:=by
      have h4:=(holds_andW hc).1
      rw [hn] at h4
      exact h4
    have h5:=condW_of h4 (w_not (w_lt w_lit (w_len_list (w_arg rfl))))
    rw [List.length_map] at h5
    refine Nat.le_of_not_lt λ q=>?_
    have q':(n:Int) < ((ns.length:Nat):Int):=by omega
    first
      | (rw [decide_eq_true q'] at h5;exact absurd h5 (by decide))
      | (simp at h5;omega)
  cases hwl with
  | cons w1 w2=>
    cases w2
    cases w1 with
    | list ho hall=>exact ⟨_,_,ns,rfl,rfl,ho,eTq ns _ hall,hlen⟩
theorem o2q (l:OpenLaw) (args:List WData):l.row.toRowW.claim.post args (.bool true) args=true:=
  postW_of (r:=l.row.toRowW) (X:=(true==true))
    (show WShape.has [] (.bool true) .bool=true by first | rfl | decide | simp [WShape.has,WShape.arms,WShape.armsAll])
    (show (WTm.eq .res (.lit (.bool true))).value [] { args:=args,res:=some (.bool true),after:=args }=some (.bool (true==true)) from w_eq_bool (w_res rfl) w_lit) rfl
theorem attach_call {l:OpenLaw} {n:Nat} {q:Program} {loose:List Str} {XP:(Str->Option Value)->Heap->Prop} {YP:World->Heap->Prop} {d:DefRec}
    (hn:l.most=some n) (hdf:d.params.defaults=[])
    (call:∀ (w:World) (s₀ s₁:Shared) (mg mb:Str->Option Value) (fa:Addr) (o:Obj) (pm cd doc:Value) (a:Addr) (vs:List Value) (ns:List Int),
      Ground q loose [] XP w s₀ mg mb s₁.heap->YP w s₁.heap →
      s₁.heap.get? fa=some o->o.data=.func (docDef d.name d.params d.body d.scope pm cd doc)->s₁.heap.CodeRec cd d.name->mg d.name=some (.ref fa) →
      s₁.heap.get? a=some { cls:=.type "list", data:=.seq vs.toArray }->IntsAre vs ns->ns.length<=n->s₁.gens=#[] →
      codeAny (model l.prog w) callerA (.call (.ref fa) ⟨[.ref a],[]⟩) (λ r s'=>r=.ok (.ret (.bool true))/\OldK s₁.heap s'.heap/\s'.os=s₁.os/\AllBare s'.gens) s₁) :
    WalkO q loose XP YP l.row.toRowW d [] (λ f vs=>PySem.call f vs):=by
  intro w s₀ s₁ mg mb G Y fa o pm cd doc dV kV ho hd hcd hD hmg hg args vals as hpre hlay hrd hwl hlo
  obtain rfl:dV=.none:=Dflts.none hD hdf
  obtain rfl:kV=.none:=Dflts.noKw hD
  obtain ⟨a,vs,ns,rfl,rfl,hobj,hints,hlen⟩:=o7q hn hpre hwl
  refine enter_call (codeAny_mono (call w s₀ s₁ mg mb fa o pm cd doc a vs ns G Y ho (fd_plain hd) hcd hmg hobj hints hlen hg) λ r s' hq=>?_)
  obtain ⟨rfl,h2,h3,h4⟩:=hq
  exact ⟨.inl ⟨.bool true,.bool true,[],rfl,λ _=>rfl,.bool true,o2q l _,λ _=>⟨List.Pairwise.nil,λ _ hm=>(nomatch hm)⟩⟩,h2,h3,h4⟩
section
variable {prog:Program} {w:World} {A:Around} {E:Value->Shared->Prop} {s:Shared} {K:Frag}
end
end Att
namespace L2
open PySem PySem.Spec PyProof.Rows
theorem fIq:∀ {vs:List Value} {ns:List Int},IntsAre vs ns->Vals (ns.map V.int) vs
  | _,_,.nil=>.nil
  | _,_,.cons n t h=>.cons ⟨t,rfl⟩ (fIq h)
def bGq (s:Stmt):Arguments:=match s with
  | .FunctionDef _ a _ _ _ _ _ _ _ _=>a
  | _=>{ posonlyargs:=[],args:=[],vararg:=none,kwonlyargs:=[],kw_defaults:=[],kwarg:=none,defaults:=[] }
def b2q (s:Stmt):List Stmt:=match s with
  | .FunctionDef _ _ b _ _ _ _ _ _ _=>b
  | _=>[]
def a5q (s:Stmt):Scope:=match s with
  | .FunctionDef _ _ _ _ _ _ sc _ _ _=>sc
  | _=>{ kind:=.function,names:=[],isGenerator:=false,isCoroutine:=false }
abbrev CX0:CXT:=λ _ _ _ _ _ _=>False
abbrev E0:XK:=λ _ _ _=>False
theorem aB7q {X:Cx}:o4q CX0 X E0:=λ _ _ _ _ _ _ _ h=>h.elim
structure Fun (K:PySem.W.Frag) (x qual:Str) (st:Stmt) (f:Addr) (fd:FuncData):Prop where
  ex:∃ (oc:Value) (od:Option Addr) (kV doc pm:Value) (an:Option Addr) (cdv ct:Value) (osl:Array (Option Value)),
    fd=PySem.W.fnOf x qual (bGq st) (b2q st) (a5q st) .none kV doc pm an cdv ct/\K.lookup f=some ⟨oc,od,.func fd,osl⟩/\PySem.W.codeIn K cdv qual=true
  kp:PySem.W.keepIn K (.ref f)=true
section
variable {P:Program} {w:World} {K:PySem.W.Frag} {mg:Str->Option Value} {base:Heap}
theorem Fun.ok {x qual:Str} {st:Stmt} {f:Addr} {fd:FuncData} {N ps:List Str} {k:Nat} {sp:Sp} (F:Fun K x qual st f fd) (S:FnScope N ps (a5q st)) (len:∀ vs H Q E,sp vs H Q E->vs.length=ps.length)
    (hbody:∀ (cdv:Value) (A:Around) (outer:List Env) (s:Shared) (H:Hp) (vs:List V) (Q:VK) (E:XK),Room k (A.deeper (envOfC qual (a5q st) s.heap.objs.size f cdv))->sp vs H Q E →
      ∃ t,PSs (kYq CX0 P w K mg base N qual (a5q st) f cdv A outer s H E).nox (b2q st) t/\t { nx:=λ _ H'=>Q .non H',rt:=Q } (cVq N vs) H):FnOk P w K mg base CX0 (k+1) f fd ps sp:=by
  obtain ⟨oc,od,kV,doc,pm,an,cdv,ct,osl,rfl,lk,hcd⟩:=F.ex
  refine rWq lk hcd S len λ A outer s H vs Q E hr hsp=>?_
  obtain ⟨t,h,q⟩:=hbody cdv A outer s H vs Q E hr hsp
  exact ⟨t,h.nox,q⟩
theorem Fun.binds {x qual:Str} {st:Stmt} {f:Addr} {fd:FuncData} {ps:List Str} (F:Fun K x qual st f fd)
    (h:∀ (kV doc pm:Value) (an:Option Addr) (cdv ct:Value) (us:List Value),us.length=ps.length->bindArgs (PySem.W.fnOf x qual (bGq st) (b2q st) (a5q st) .none kV doc pm an cdv ct) ⟨us,[]⟩=pure (ps.zip us)):Binds K fd ps []:=by
  obtain ⟨oc,od,kV,doc,pm,an,cdv,ct,osl,rfl,lk,hcd⟩:=F.ex
  exact .all (h kV doc pm an cdv ct)
theorem x0q {x qual:Str} {st:Stmt} {f:Addr} {oc:Value} {od an:Option Addr} {osl:Array (Option Value)} {kV doc pm cdv ct:Value} (l:K.lookup f=some ⟨oc,od,.func (PySem.W.fnOf x qual (bGq st) (b2q st) (a5q st) .none kV doc pm an cdv ct),osl⟩)
 (c:PySem.W.codeIn K cdv qual=true) (k:PySem.W.keepIn K (.ref f)=true):Fun K x qual st f (PySem.W.fnOf x qual (bGq st) (b2q st) (a5q st) .none kV doc pm an cdv ct):=⟨⟨oc,od,kV,doc,pm,an,cdv,ct,osl,rfl,l,c⟩,k⟩
end
section
variable {X:Cx}
end
def Same (H H':Hp):Prop:=∀ b o,H b=some o->H' b=some o
theorem Same.refl (H:Hp):Same H H:=λ _ _ h=>h
def bTq (cells:List (Str × Addr)):List (Str × NameKind)->List (Str × Addr)->List (Str × Addr)
  | [],acc=>acc
  | (n,k)::r,acc=>bTq cells r (if k=.free then (n,(cells.lookup n).getD 0)::acc else acc)
theorem gBq {α β:Type} {f:α->β->Sem (ForInStep β)} (g:β->α->β):∀ (l:List α) (c:β),(∀ x∈l,∀ c,f x c=pure (.yield (g c x)))->forIn l c f=pure (l.foldl g c)
  | [],_,_=>rfl
  | x::l,c,h=>by
    rw [List.forIn_cons,h x List.mem_cons_self,pure_bind]
    exact gBq g l _ λ y hy=>h y (List.mem_cons_of_mem _ hy)
theorem gXq (cells:List (Str × Addr)):∀ (names:List (Str × NameKind)) (acc:List (Str × Addr)),
    names.foldl (λ c y=>if y.2=.free then (y.1,(cells.lookup y.1).getD 0)::c else c) acc=bTq cells names acc
  | [],_=>rfl
  | (n,k)::r,acc=>by
    rw [List.foldl_cons,bTq]
    exact gXq cells r _
theorem jSq {scope:Scope} {env:Env} (h:∀ y∈scope.names,y.2=.free->∃ c,env.cells.lookup y.1=some c):closureFor scope env=pure (bTq env.cells scope.names []):=by
  rw [<- gXq]
  simp only [closureFor]
  rw [gBq (λ c y=>if y.2=.free then (y.1,(env.cells.lookup y.1).getD 0)::c else c) scope.names [] λ x hx c=>?_]
  . rfl
  . obtain ⟨n,k⟩:=x
    by_cases hk:k=.free
    . subst hk
      obtain ⟨a,e⟩:=h _ hx rfl
      have e':env.cells.lookup n=some a:=e
      simp [cellOf,e']
    . have hb:(k==NameKind.free)=false:=by simpa using hk
      simp [hb,hk]
theorem kFq {cells:List (Str × Addr)}:∀ (names:List (Str × NameKind)) (acc:List (Str × Addr)),(∀ y∈names,y.2=.free->∃ c,cells.lookup y.1=some c)->(∀ x c,acc.lookup x=some c->cells.lookup x=some c) →
    ∀ x c,(bTq cells names acc).lookup x=some c->cells.lookup x=some c
  | [],_,_,ha=>ha
  | (n,k)::r,acc,h,ha=>by
    rw [bTq]
    refine kFq r _ (λ y hy=>h y (List.mem_cons_of_mem _ hy)) λ x c e=>?_
    by_cases hk:k=.free
    . rw [if_pos hk] at e
      obtain ⟨a,ea⟩:=h (n,k) List.mem_cons_self hk
      have ea':cells.lookup n=some a:=ea
      rw [List.lookup_cons] at e
      cases hx:x==n with
      | true=>
        rw [hx] at e
        have e2:some ((cells.lookup n).getD 0)=some c:=e
        rw [ea'] at e2
        have e3:a=c:=Option.some.inj e2
        rw [eq_of_beq hx,ea',e3]
      | false=>
        rw [hx] at e
        exact ha x c e
    . rw [if_neg hk] at e
      exact ha x c e
theorem iEq {cells:List (Str × Addr)} {x:Str}:∀ (names:List (Str × NameKind)) (acc:List (Str × Addr)),(acc.lookup x).isSome=true->((bTq cells names acc).lookup x).isSome=true
  | [],_,h=>h
  | (n,k)::r,acc,h=>by
    rw [bTq]
    refine iEq r _ ?_
    by_cases hk:k=.free
    . rw [if_pos hk,List.lookup_cons]
      cases hx:x==n with
      | true=>rfl
      | false=>exact h
    . rw [if_neg hk];exact h
theorem fRq {cells:List (Str × Addr)} {x:Str}:∀ (names:List (Str × NameKind)) (acc:List (Str × Addr)),(x,NameKind.free)∈names->((bTq cells names acc).lookup x).isSome=true
  | [],_,h=>nomatch h
  | (n,k)::r,acc,h=>by
    rw [bTq]
    rcases List.mem_cons.mp h with e | h
    . cases e
      refine iEq r _ ?_
      rw [if_pos rfl,List.lookup_cons,beq_self_eq_true];rfl
    . exact fRq r _ h
theorem gTq {g:Str->NameKind->NameKind} {x:Str}:∀ names:List (Str × NameKind),(names.map λ y=>(y.1,g y.1 y.2)).lookup x=(names.lookup x).map (g x)
  | []=>rfl
  | (n,k)::r=>by
    rw [List.map_cons,List.lookup_cons,List.lookup_cons]
    cases hx:x==n with
    | true=>
      have e:=eq_of_beq hx
      subst e;rfl
    | false=>exact gTq r
theorem h9q (scope:Scope) (env:Env):(relabel scope env).names=scope.names.map λ y=>(y.1,if (y.2==.free&&env.scope.kind==.function&&env.kindOf y.1==some .cell)=true then NameKind.cell else y.2):=by
  unfold relabel
  refine List.map_congr_left λ y _=>?_
  obtain ⟨n,k⟩:=y
  show (if (k==.free&&env.scope.kind==.function&&env.kindOf n==some .cell)=true then (n,NameKind.cell) else (n,k))=_
  split<;>simp_all
theorem e3q (scope:Scope) (env:Env) (x:Str):(relabel scope env).names.lookup x=(scope.names.lookup x).map λ k=>if (k==.free&&env.scope.kind==.function&&env.kindOf x==some .cell)=true then NameKind.cell else k:=by
  rw [h9q]
  exact gTq (g:=λ n k=>if (k==.free&&env.scope.kind==.function&&env.kindOf n==some .cell)=true then NameKind.cell else k) scope.names
def aLq (X:Cx) (scope:Scope) (N':List Str) (C:Addr) (ex:List Addr) (s:Shared) (H:Hp):Cx:=
  { X with N:=N',s₀:=s,H₀:=H,env:=compEnvC scope (bTq X.env.cells scope.names []) C X.env,outer:=X.stack,stack:=X.stack,ex:=ex,fn:=λ _=>false,pn:=[],xe:=λ _ _=>False }
def cRq (nt:Nat) (cap:List Nat) (σ:St):St:=List.replicate nt none++cap.map λ i=>(σ[i]?).join
structure CompOk (X:Cx) (scope:Scope) (N':List Str) (nt:Nat) (cap:List Nat):Prop where
  kind:scope.kind=.function
  nocell:∀ y∈scope.names,y.2≠.cell
  locs:∀ y∈scope.names,y.2=.local->scope.names.lookup y.1=some .local
  frees:∀ y∈scope.names,y.2=.free->X.env.scope.names.lookup y.1=some .cell\/X.env.scope.names.lookup y.1=some .free
  len:N'.length=nt+cap.length
  caps:∀ (j i:Nat) (x:Str),cap[j]?=some i->N'[nt+j]?=some x->X.N[i]?=some x/\scope.names.lookup x=some .free
section
variable {X:Cx} {scope:Scope} {N':List Str} {nt:Nat} {cap:List Nat} {pins:List (Addr × Obj)} {σ:St} {H:Hp} {s:Shared}
theorem CompOk.has (c:CompOk X scope N' nt cap) (ok:X.Ok):∀ y∈scope.names,y.2=.free->∃ a,X.env.cells.lookup y.1=some a:=λ y hy hk=>ok.has y.1 (c.frees y hy hk)
theorem CompOk.cells (c:CompOk X scope N' nt cap) (ok:X.Ok) {x:Str} {a:Addr} (e:(bTq X.env.cells scope.names []).lookup x=some a):X.env.cells.lookup x=some a:=
  kFq scope.names [] (c.has ok) (λ _ _ z=>by simp at z) x a e
theorem CompOk.free_of (c:CompOk X scope N' nt cap) {x:Str} (h:(relabel scope X.env).names.lookup x=some .cell\/(relabel scope X.env).names.lookup x=some .free):(x,NameKind.free)∈scope.names:=by
  rw [e3q] at h
  cases q:scope.names.lookup x with
  | none=>rw [q] at h;simp at h
  | some k=>
    have hm:=PySem.mem_of_lookup q
    have nc:k≠.cell:=c.nocell _ hm
    rw [q] at h
    by_cases hk:k=.free
    . subst hk;exact hm
    . have hb:(k==NameKind.free)=false:=by simpa using hk
      simp only [Option.map_some,hb,Bool.false_and,Bool.false_eq_true,if_false,Option.some.injEq] at h
      rcases h with h | h
      . exact absurd h nc
      . exact absurd h hk
theorem Inv.comp (I:Inv X pins σ H s) (c:CompOk X scope N' nt cap) {fp:List Addr} (hf:∀ b∈fp,hYq X pins H b) (hfs:∀ b∈fp,b < s.heap.objs.size) {h':Heap} {m:Str->Option Value} {t':Nat}
    (hk:∀ b o,s.heap.get? b=some o->h'.get? b=some o) (hn:h'.Ns s.heap.objs.size m) :
    Inv (aLq X scope N' s.heap.objs.size fp s H) [] (cRq nt cap σ) H { s with heap:=h',toks:=t' }:=by
  have cl:=λ{x:Str} {a:Addr} (e:(bTq X.env.cells scope.names []).lookup x=some a)=>c.cells I.ok e
  have cellLt:∀ x a,X.env.cells.lookup x=some a->a < s.heap.objs.size:=λ x a e=>by
    obtain ⟨v,q⟩:=I.cell x a e
    exact q.lt
  refine ⟨⟨I.ok.mod,c.kind,I.ok.glob,I.ok.blt,Nat.le_refl _,λ x y a e1 e2=>I.ok.inj x y a (cl e1) (cl e2),λ x hx=>?_,λ x a hx=>absurd hx Bool.false_ne_true,I.ok.hd,I.ok.frames,.inl rfl,λ b hb=>⟨?_,λ x a e=>?_⟩,
      λ b o e=>I.bs b o e,Nat.le_trans I.ok.bsz I.sz,λ b o e hb=>?_,λ b hb hbf=>?_,I.stack,λ b hb=>I.stkFree b hb⟩,
    rfl,I.bare,Un.kept hk,⟨m,hn,λ i x v e1 e2 e3=>?_⟩,λ x a e=>?_,I.hok.fresh (Nat.le_refl _),λ x a e=>I.freeC x a (cl e),λ p hp=>absurd (show p∈([]:List (Addr × Obj)) from hp) (by simp),I.hok.kept hk,?_⟩
  . exact Option.isSome_iff_exists.mp (fRq scope.names [] (c.free_of hx))
  . exact Nat.ne_of_lt (hfs b hb)
  . exact (hf b hb).2.2.2.2.1 x a (cl e)
  . obtain ⟨f0,f1,f2,f3,_⟩:=hf b hb
    rcases f3 with z | z
    . exact I.ok.noex b o e z
    . exact absurd (Nat.lt_of_lt_of_le (Heap.lt_size e) (Nat.le_trans I.ok.bsz z)) (Nat.lt_irrefl _)
  . obtain ⟨f0,f1,f2,_⟩:=hf b hb
    rcases List.mem_cons.mp (I.stkSub b hbf) with z | z
    . exact f1 z
    . exact f2 z
  .
    have e1':N'[i]?=some x:=e1
    have hi:nt<=i:=by
      refine Nat.le_of_not_lt λ q=>?_
      unfold cRq at e2
      rw [List.getElem?_append_left (by simpa using q),List.getElem?_replicate,if_pos q] at e2
      cases e2
    obtain ⟨j,rfl⟩:=Nat.exists_eq_add_of_le hi
    unfold cRq at e2
    rw [List.getElem?_append_right (by simp),List.length_replicate,Nat.add_sub_cancel_left,List.getElem?_map] at e2
    cases q:cap[j]? with
    | none=>rw [q] at e2;cases e2
    | some k=>
      rw [q] at e2
      have e2':(σ[k]?).join=some v:=Option.some.inj e2
      have e4:σ[k]?=some (some v):=by
        cases z:σ[k]? with
        | none=>rw [z] at e2';cases e2'
        | some w'=>rw [z] at e2';exact congrArg some e2'
      obtain ⟨n1,n2⟩:=c.caps j k x q e1'
      have hmem:=PySem.mem_of_lookup n2
      have hkind:=c.frees _ hmem rfl
      obtain ⟨m0,_,hl⟩:=I.loc
      obtain ⟨u,r,lk⟩:=hl k x v n1 e4 (.inr hkind)
      refine ⟨u,r,.inr ⟨?_,?_⟩⟩
      . show (relabel scope X.env).names.lookup x=some .cell\/(relabel scope X.env).names.lookup x=some .free
        rw [e3q,n2]
        by_cases z:((NameKind.free==.free&&X.env.scope.kind==.function&&X.env.kindOf x==some .cell)=true)
        . exact .inl (by rw [Option.map_some,if_pos z])
        . exact .inr (by rw [Option.map_some,if_neg z])
      . rcases lk with ⟨k1,_⟩ | ⟨_,a,e,z⟩
        . have k1':X.env.scope.names.lookup x=some .local:=k1
          rcases hkind with y | y<;>(rw [k1'] at y;cases y)
        . obtain ⟨a',ea⟩:=Option.isSome_iff_exists.mp (fRq (cells:=X.env.cells) scope.names [] hmem)
          have e':=cl ea
          rw [e] at e';cases e'
          obtain ⟨o,ho,hd⟩:=z
          exact ⟨a,ea,o,hk _ _ ho,hd⟩
  . obtain ⟨v,o,ho,hd⟩:=I.cell x a (cl e)
    exact ⟨v,o,hk _ _ ho,hd⟩
  . show (cRq nt cap σ).length=N'.length
    unfold cRq
    rw [List.length_append,List.length_replicate,List.length_map,c.len]
theorem Inv.uncomp {C:Addr} {fp:List Addr} {σ':St} {H':Hp} {s':Shared} (I:Inv X pins σ H s) (hC:C=s.heap.objs.size) (hf:∀ b∈fp,hYq X pins H b) {N':List Str} (J:Inv (aLq X scope N' C fp s H) [] σ' H' s') :
    ∃ m,s'.heap.Ns C m/\∀ h',Heap.SameBut C s'.heap h'->Inv X pins σ H' { s' with heap:=h' }:=by
  subst hC
  obtain ⟨m,hn,_⟩:=J.loc
  refine ⟨m,hn,λ h' hs=>?_⟩
  have ne:∀ b o,s.heap.get? b=some o->b≠s.heap.objs.size:=λ b o e=>Nat.ne_of_lt (Heap.lt_size e)
  have B:=J.base
  refine I.call' (ch:=fp) J.os ⟨λ b o e n hb hx=>?_,λ b o e n hb hx=>?_,B.free,λ b o e hx=>?_,B.tups,B.frzs,B.tbls⟩ (λ b u e=>?_) J.bare λ b hb=>?_
  . exact (hs.2 b (ne b o e)).trans (B.keep b o e n hb hx)
  . obtain ⟨sl,q⟩:=B.slot b o e n hb hx
    exact ⟨sl,(hs.2 b (ne b o e)).trans q⟩
  . obtain ⟨o',q⟩:=B.there b o e hx
    exact ⟨o',(hs.2 b (ne b o e)).trans q⟩
  . have hCn:H' s.heap.objs.size=none:=J.free
    refine (J.hok b u e).stay (λ d w' hd q=>(hs.2 d ?_).trans q) (λ _ q=>q) λ _ _ q=>q
    intro z
    subst z
    rcases hd with z | z
    . rw [<- z,hCn] at e;cases e
    . rw [hCn] at z;cases z
  . obtain ⟨f0,f1,f2,f3,f4,f5⟩:=hf b hb
    exact ⟨f3,f1,f4,f5⟩
end
def mFq (wi:TI) (g:TG) (te:TE) (nt:Nat) (cap:List Nat):TE:=λ σ H Q=>wi σ H λ J H1=>∀ acc,H1 acc=none →
  ∃ W:Nat->Nat->List V->St->Hp->Prop,(∃ m,W 0 m [] (cRq nt cap σ) (upd H1 acc (.lst [])))/\∀ i m ys σ' H',W i m ys σ' H' →
    (J.stop i H'/\Q (.ref acc) H')\/(J.go i H'/\∀ x H2,J.yld i H' x H2->g x σ' H2 λ σ3 H3=>te σ3 H3 λ y H4=>
      H4 acc=some (.lst ys)/\ys.length < sizeLine/\∃ m',m' < m/\W (i+1) m' (ys++[y]) σ3 (upd H4 acc (.lst (ys++[y]))))
def k1q (wi:TI) (g:TG) (tc:TT) (te:TE) (nt:Nat) (cap:List Nat):TE:=λ σ H Q=>wi σ H λ J H1=>∀ acc,H1 acc=none →
  ∃ W:Nat->Nat->List V->St->Hp->Prop,(∃ m,W 0 m [] (cRq nt cap σ) (upd H1 acc (.lst [])))/\∀ i m ys σ' H',W i m ys σ' H' →
    (J.stop i H'/\Q (.ref acc) H')\/(J.go i H'/\∀ x H2,J.yld i H' x H2->g x σ' H2 λ σ3 H3=>tc σ3 H3 λ b H5=>if b=true then te σ3 H5 λ y H4=>
      H4 acc=some (.lst ys)/\ys.length < sizeLine/\∃ m',m' < m/\W (i+1) m' (ys++[y]) σ3 (upd H4 acc (.lst (ys++[y])))
      else ∃ m',m' < m/\W (i+1) m' ys σ3 H5)
theorem iMq (elt target iter c:Expr) (scope:Scope) (pos:Pos) (it acc:Value) (env:Env) :
    compTurn (.ListComp elt [⟨target,iter,[c],0⟩] scope pos) 0 it acc env=(standAt iter.pos >>= λ _=>pyNext it >>= λ r=>match r with
      | none=>pure (.done .next)
      | some v=>letOwnedTupleGo target it v >>= λ _=>assign target env v >>= λ _=>(forIn [c] true λ c r=>if r=true then do let ok ← isTrue c env (eval c env);pure (ForInStep.yield ok) else pure (ForInStep.yield r)) >>= λ ok=>
        if ok=true then (eval elt env >>= λ x=>call (.builtin "list.append") [acc,x] >>= λ _=>pure ()) >>= λ _=>again (.compLoop (.ListComp elt [⟨target,iter,[c],0⟩] scope pos) 0 it acc env)
        else again (.compLoop (.ListComp elt [⟨target,iter,[c],0⟩] scope pos) 0 it acc env)):=by
  rfl
theorem nXq (c:Expr) (env:Env):(forIn [c] true λ c r=>if r=true then do let ok ← isTrue c env (eval c env);pure (ForInStep.yield ok) else pure (ForInStep.yield r))=isTrue c env (eval c env):=by
  rw [List.forIn_cons,if_pos rfl]
  simp only [bind_assoc,pure_bind,List.forIn_nil,bind_pure]
theorem iHq (elt target iter c:Expr) (scope:Scope) (pos:Pos) (it acc:Value) (env:Env) :
    compTurn (.ListComp elt [⟨target,iter,[c],0⟩] scope pos) 0 it acc env=(standAt iter.pos >>= λ _=>pyNext it >>= λ r=>match r with
      | none=>pure (.done .next)
      | some v=>letOwnedTupleGo target it v >>= λ _=>assign target env v >>= λ _=>isTrue c env (eval c env) >>= λ ok=>
        if ok=true then (eval elt env >>= λ x=>call (.builtin "list.append") [acc,x] >>= λ _=>pure ()) >>= λ _=>again (.compLoop (.ListComp elt [⟨target,iter,[c],0⟩] scope pos) 0 it acc env)
        else again (.compLoop (.ListComp elt [⟨target,iter,[c],0⟩] scope pos) 0 it acc env)):=by
  rw [iMq,nXq]
section
variable {X:Cx} {scope:Scope} {N':List Str} {nt:Nat} {cap:List Nat} {elt iter tg:Expr} {pos:Pos} {wi:TI} {g:TG} {te:TE}
theorem tKq (hc:X.calm=true) (c:CompOk X scope N' nt cap) (hi:PI X tg iter wi) (hg:∀ C ex s H,PG (aLq X scope N' C ex s H) tg g) (he:∀ C ex s H,PE (aLq X scope N' C ex s H) elt te)
    (hs:∀ x,foldedSetIterable iter X.env x=pure x:=by intro _;rfl):PE X (.ListComp elt [⟨tg,iter,[],0⟩] scope pos) (mFq wi g te nt cap):=by
  intro pins s σ H Q I h
  rw [eval_ListComp]
  refine wpAny_comprehension_free (use:=none) rfl hs (jSq (c.has I.ok)) c.kind c.locs (thn (hi pins s σ H _ I h) λ v s1 h1=>thn h1 λ itv s2 h2=>?_)
  obtain ⟨it,fp,tn,J,H2,rfl,I2,T,st2,f2,R⟩:=h2
  have hD:H2 s2.heap.objs.size=none:=I2.hok.fresh (Nat.le_refl _)
  obtain ⟨W,⟨m0,w0⟩,turn⟩:=R _ hD
  have I3:Inv X pins σ (upd H2 s2.heap.objs.size (.lst [])) { s2 with heap:=s2.heap.push { cls:=.type "list", dict:=none,data:=.seq ([]:List Value).toArray } }:=
    I2.laid (t':=s2.toks) (λ b u e=>Heap.get?_push_of_some _ e) (Nat.le_refl _) ⟨Nat.zero_le _,[],0,.nil,Heap.get?_push_size _ rfl⟩
  have fpLt:∀ b∈fp,b < s2.heap.objs.size:=λ b hb=>by
    obtain ⟨o,e,_⟩:=T.obj _ _ st2 b hb
    exact Heap.lt_size e
  have f3:∀ b∈fp,hYq X pins (upd H2 s2.heap.objs.size (.lst [])) b:=λ b hb=>⟨by rw [aEq (Nat.ne_of_lt (fpLt b hb))];exact (f2 b hb).1,(f2 b hb).2⟩
  have st3:tn 0 (s2.heap.push { cls:=.type "list", dict:=none,data:=.seq ([]:List Value).toArray }):=T.keep _ _ _ st2 λ b _ o e=>Heap.get?_push_of_some _ e
  generalize hh3:s2.heap.push { cls:=.type "list", dict:=none,data:=.seq ([]:List Value).toArray }=h3 at I3 st3
  have sz3:s2.heap.objs.size < h3.objs.size:=by rw [<- hh3,Heap.size_push];exact Nat.lt_succ_self _
  generalize hDD:s2.heap.objs.size=D at I3 f3 hD w0 turn sz3 fpLt
  refine wpAny_newObj_type ?_
  rw [hDD,hh3]
  refine wpAny_newFunctionEnv c.nocell (by intro y hy;simp at hy) (λ h4 hns4 hsb4=>?_) c.kind
  dsimp only at hns4 hsb4 ⊢
  have keep4:∀ b o,h3.get? b=some o->h4.get? b=some o:=λ b o e=>(hsb4.2 b (Nat.ne_of_lt (Heap.lt_size e))).trans (Heap.get?_push_of_some _ e)
  have I4:=I3.comp (t':=s2.toks+([]:List (Str × Value)).length) c f3 (λ b hb=>Nat.lt_trans (fpLt b hb) sz3) keep4 hns4
  have st4:tn 0 h4:=T.keep _ _ _ st3 λ b _ o e=>keep4 b o e
  dsimp only at I4
  have fin:∀ {σ':St} {H':Hp} {s':Shared},Inv (aLq X scope N' h3.objs.size fp { s2 with heap:=h3 } (upd H2 D (.lst []))) [] σ' H' s'->Q (.ref D) H' →
      compPost (model X.prog X.w) X.A X.xe none (EP X pins σ Q) (.ref D) h3.objs.size (.ok .next) s':=λ{σ' H' s'} J' q=>by
    obtain ⟨m,hn,hh⟩:=I3.uncomp rfl f3 J'
    exact ⟨m,hn,λ h' hs'=>⟨.ref D,H',hh h' hs',rfl,q⟩⟩
  have stat:∀ {H':Hp},(∀ b∈fp,H' b=none)->∀ b∈fp,hYq (aLq X scope N' h3.objs.size fp { s2 with heap:=h3 } (upd H2 D (.lst []))) [] H' b:=λ{H'} hn b hb=>by
    refine ⟨hn b hb,Nat.ne_of_lt (Nat.lt_trans (fpLt b hb) sz3),λ z=>?_,.inl hb,λ x a e=>(f3 b hb).2.2.2.2.1 x a (c.cells I.ok e),λ p hp=>absurd (show p∈([]:List (Addr × Obj)) from hp) (by simp)⟩
    rcases List.mem_cons.mp (I.stkSub b z) with y | y
    . exact (f3 b hb).2.1 y
    . exact (f3 b hb).2.2.1 y
  have loop:codeAny (model X.prog X.w) X.A (.compLoop (.ListComp elt [⟨tg,iter,[],0⟩] scope pos) 0 (.ref it) (.ref D) (compEnvC scope (bTq X.env.cells scope.names []) h3.objs.size X.env))
      (compPost (model X.prog X.w) X.A X.xe none (EP X pins σ Q) (.ref D) h3.objs.size) { s2 with heap:=h4,toks:=s2.toks+([]:List (Str × Value)).length }:=by
    refine codeAny_loop rfl (λ n s'=>∃ i ys σ' H',Inv (aLq X scope N' h3.objs.size fp { s2 with heap:=h3 } (upd H2 D (.lst []))) [] σ' H' s'/\tn i s'.heap/\(∀ b∈fp,H' b=none)/\W i n ys σ' H') (λ n s5 hI=>?_) m0 ⟨0,[],_,_,I4,st4,λ b hb=>(f3 b hb).1,w0⟩
    obtain ⟨i,ys,σ5,H5,I5,st5,fr5,w5⟩:=hI
    show wpAny _ X.A ((compTurn (.ListComp elt [⟨tg,iter,[],0⟩] scope pos) 0 (.ref it) (.ref D) (compEnvC scope (bTq X.env.cells scope.names []) h3.objs.size X.env)).onRaise (λ x=>do noteFrame x (compEnvC scope (bTq X.env.cells scope.names []) h3.objs.size X.env);theTreesLotGoes x)) _ _ s5
    refine wpAny_noted ?_
    rw [compTurn_list1]
    rcases turn i n ys σ5 H5 w5 with ⟨stop,qn⟩ | ⟨go,step⟩
    . refine wpAny_bind (wpAny_standAt (wpAny_bind (wpAny_mono (T.done (aLq X scope N' h3.objs.size fp { s2 with heap:=h3 } (upd H2 D (.lst []))) rfl rfl rfl hc i [] s5 σ5 H5 (λ _ _=>False) I5 (stat fr5) st5 stop) (λ r s6 ⟨hr,I6⟩=>?_) λ _ _ z=>z.elim)))
      subst hr
      exact wpAny_pure (fin I6 qn)
    . refine wpAny_bind (wpAny_standAt (wpAny_bind (wpAny_mono (T.item (aLq X scope N' h3.objs.size fp { s2 with heap:=h3 } (upd H2 D (.lst []))) rfl rfl rfl hc i [] s5 σ5 H5 (λ _ _=>False) I5 (stat fr5) st5 go) (λ r s6 ⟨u,hr,h6⟩=>?_) λ _ _ z=>z.elim)))
      subst hr
      refine wpAny_bind (wpAny_mono h6 (λ _ s7 ⟨x,H7,I7,r7,y7,st7,fr7⟩=>?_) λ _ _ z=>z.elim)
      have I7':=I7.pinned (stat fr7) (T.obj _ _ st7)
      refine wpAny_bind (wpAny_mono (hg _ _ _ _ _ s7 σ5 H7 x u _ I7' r7 (step x H7 y7)) (λ _ s8 ⟨σ8,H8,I8,q8⟩=>?_) λ _ _ z=>z.elim)
      refine wpAny_bind (wpAny_bind (wpAny_mono (he _ _ _ _ _ s8 σ8 H8 _ I8 q8) (λ yv s9 ⟨y,H9,I9,r9,e9,z9,m',hm',w9⟩=>?_) λ _ _ z=>z.elim))
      refine wpAny_bind (wpAny_mono (d7q (X:=aLq X scope N' h3.objs.size fp { s2 with heap:=h3 } (upd H2 D (.lst []))) _ s9 σ8 H9 (.ref D) [y] (.ref D) [yv] (λ v H10=>v=.non/\H10=upd H9 D (.lst (ys++[y]))) I9 rfl (.cons r9 .nil) ⟨D,ys,y,rfl,rfl,e9,z9,rfl,rfl⟩)
        (λ _ s10 ⟨v10,H10,I10,_,_,e10⟩=>?_) λ _ _ z=>z.elim)
      subst e10
      refine wpAny_pure (wpAny_pure ⟨rfl,m',hm',i+1,ys++[y],σ8,_,I10.unpinned,?_,λ b hb=>?_,w9⟩)
      . exact T.keep _ _ _ st7 λ b hb o e=>(I10.pin (b,o) (List.mem_append_right _ (List.mem_append_right _ (b9q hb e)))).1
      . obtain ⟨o,e,d⟩:=T.obj _ _ st7 b hb
        exact (I10.pin (b,o) (List.mem_append_right _ (List.mem_append_right _ (b9q hb e)))).2.1
  exact codeAny_compStart_list loop (T.self _ 0 _ _ _ st4 loop)
end
structure Got (P:Program) (w:World) (K:PySem.W.Frag) (mg:Str->Option Value) (base:Heap) (k:Nat) (x:Str) (ps:List Str) (sp:Sp):Prop where
  ex:∃ (f:Addr) (fd:FuncData),FnOk P w K mg base CX0 k f fd ps sp/\mg x=some (.ref f)/\PySem.W.keepIn K (.ref f)=true/\Binds K fd ps []
section
variable {X:Cx} {k j:Nat} {x:Str} {ps:List Str} {sp:Sp} {p pos:Pos} {e:Expr} {es:List Expr} {t:TA}
theorem z5q (G:Got X.prog X.w X.K X.mg X.base k x ps sp) (hr:Room j X.A) (hk:k<=j) (hg:Gl X x) (ha:PA X (e::es) t) (hdb:(x==("__debug__" : Str))=false:=by decide)
    (he:starEach (e::es) X.env=(false,eval e X.env)::starEach es X.env:=by rfl) (hpl:(backTo pos (starEach es X.env)).any (·.1)=false:=by rfl) :
    PE X (.Call (.Name x p) (e::es) [] pos) (u0q sp [] E0 t):=by
  obtain ⟨f,fd,F,hm,kp,b⟩:=G.ex
  exact sWq F (hr.mono hk) hg hm kp b .nil aB7q ha hdb he hpl
end
section
variable {X:Cx}
theorem qJq:OpR X (binaryOp .FloorDiv) (rI (λ _ j=>0 < j/\j < 2 ^ 64) λ i j=>.int (i / j)):=opI λ i j t u s E Q hc q=>by
  have h0:j≠0:=by omega
  have h1:j.natAbs.log2 < 9000:=by
    have e1:j.natAbs < 2 ^ 64:=by omega
    exact Nat.lt_trans ((Nat.log2_lt (by omega)).mpr e1) (by decide)
  have e:i.fdiv j=i / j:=Int.fdiv_eq_ediv_of_nonneg i (by omega)
  exact floordiv_int h0 (by rw [e];exact q) (.inl (PyProof.noPylong_of_log2 h1))
theorem sGq (l b:Addr) (items items2:Array Value) (n n2:Nat) (dd2:Option Addr) (sl2:Array (Option Value)) (h0:¬(!items.isEmpty&&Builtin.List.listTooLong (items.size+items2.size))=true) (h1:items.size<=sizeLine) (h2:items.size+items2.size<=sizeLine+1) :
    Meets (Builtin.«list.extend» ⟨[.ref l,.ref b],[]⟩) (λ _ R s=>s.heap.get? l=some { cls:=.type "list", dict:=none,data:=.seq items n,slots:=#[] } ∧
      s.heap.get? b=some { cls:=.type "tuple", dict:=dd2,data:=.seq items2 n2,slots:=sl2 }/\R (.ok (.ret Value.none)) { s with heap:=s.heap.update l (Obj.mapSeq λ x=>x++items2),toks:=s.toks }):=
  .of_wp λ prog w A R s h=>by
    obtain ⟨hp,g,d,tk,os⟩:=s
    obtain ⟨hl,hb,h⟩:=h
    have f1:=AutoSeq1.idx_int
    have f2:=AutoSeq1.sub_tuple_tuple
    have f3:=AutoSeq1.sub_list_list
    have f4:=AutoSeq1.sub_tuple_list
    have f5:=AutoSeq1.sub_list_tuple
    have hz':(items++items2).size<=sizeLine+1:=by rw [Array.size_append];exact h2
    wp_walk using (wpAny_updateSeq hl rfl (hz:=h1) (_hz':=hz')),wpAny_loadPart' hl,wpAny_loadPart' hb
    exact ⟨_,rfl,h⟩
def zRq (K:PySem.W.Frag):V->List V->Hp->VK->Prop:=λ x vs H Q=>∃ l b xs zs,x=.ref l/\vs=[.ref b]/\H l=some (.lst xs)/\SqT K H b zs/\xs.length+zs.length<=sizeLine/\Q .non (upd H l (.lst (xs++zs)))
theorem s0q:MtM X "list.extend" (zRq X.K):=by
  intro pins s σ H x vs v us Q I rx rv h
  obtain ⟨l,b,xs,zs,rfl,rfl,hH,hB,hz,q⟩:=h
  cases rx
  obtain ⟨u,rfl,ru⟩:=rv.one
  cases ru
  obtain ⟨z,its,n,r,hl,e⟩:=I.lstM hH
  obtain ⟨its2,r2,⟨⟨c2,dd2,da2,sl2⟩,e2,hc2,n2,hd2⟩,hz2⟩:=I.tuple hB
  simp only at hc2 hd2
  subst hc2 hd2
  have hl2:=r2.length
  have hsz:its.toArray.size+its2.toArray.size<=sizeLine:=by rw [List.size_toArray,List.size_toArray];omega
  have hlong:¬ (!its.toArray.isEmpty&&Builtin.List.listTooLong (its.toArray.size+its2.toArray.size))=true:=by
    rw [kMq hsz,Bool.and_false]
    exact Bool.false_ne_true
  refine call_meets F.slot_list_extend ⟨_,e,rfl⟩ F.entry_list_extend (F.args_list_extend_2 _ _) (sGq l b its.toArray its2.toArray n n2 dd2 sl2 hlong (by rw [List.size_toArray];omega) (by omega)) ⟨e,e2,?_⟩
  refine ⟨.non,_,I.lset (its':=its++its2) hH e (by simp) (r.append r2) ?_,rfl,q⟩
  rw [List.length_append]
  omega
end
section
variable {X:Cx} {scope:Scope} {N':List Str} {nt:Nat} {cap:List Nat} {elt iter tg:Expr} {pos:Pos} {wi:TI} {g:TG} {te:TE}
theorem nUq {ct:Expr} {tc:TT} (hc:X.calm=true) (c:CompOk X scope N' nt cap) (hi:PI X tg iter wi) (hg:∀ C ex s H,PG (aLq X scope N' C ex s H) tg g) (ht:∀ C ex s H,PT (aLq X scope N' C ex s H) ct tc) (he:∀ C ex s H,PE (aLq X scope N' C ex s H) elt te)
    (hs:∀ x,foldedSetIterable iter X.env x=pure x:=by intro _;rfl):PE X (.ListComp elt [⟨tg,iter,[ct],0⟩] scope pos) (k1q wi g tc te nt cap):=by
  intro pins s σ H Q I h
  rw [eval_ListComp]
  refine wpAny_comprehension_free (use:=none) rfl hs (jSq (c.has I.ok)) c.kind c.locs (thn (hi pins s σ H _ I h) λ v s1 h1=>thn h1 λ itv s2 h2=>?_)
  obtain ⟨it,fp,tn,J,H2,rfl,I2,T,st2,f2,R⟩:=h2
  have hD:H2 s2.heap.objs.size=none:=I2.hok.fresh (Nat.le_refl _)
  obtain ⟨W,⟨m0,w0⟩,turn⟩:=R _ hD
  have I3:Inv X pins σ (upd H2 s2.heap.objs.size (.lst [])) { s2 with heap:=s2.heap.push { cls:=.type "list", dict:=none,data:=.seq ([]:List Value).toArray } }:=
    I2.laid (t':=s2.toks) (λ b u e=>Heap.get?_push_of_some _ e) (Nat.le_refl _) ⟨Nat.zero_le _,[],0,.nil,Heap.get?_push_size _ rfl⟩
  have fpLt:∀ b∈fp,b < s2.heap.objs.size:=λ b hb=>by
    obtain ⟨o,e,_⟩:=T.obj _ _ st2 b hb
    exact Heap.lt_size e
  have f3:∀ b∈fp,hYq X pins (upd H2 s2.heap.objs.size (.lst [])) b:=λ b hb=>⟨by rw [aEq (Nat.ne_of_lt (fpLt b hb))];exact (f2 b hb).1,(f2 b hb).2⟩
  have st3:tn 0 (s2.heap.push { cls:=.type "list", dict:=none,data:=.seq ([]:List Value).toArray }):=T.keep _ _ _ st2 λ b _ o e=>Heap.get?_push_of_some _ e
  generalize hh3:s2.heap.push { cls:=.type "list", dict:=none,data:=.seq ([]:List Value).toArray }=h3 at I3 st3
  have sz3:s2.heap.objs.size < h3.objs.size:=by rw [<- hh3,Heap.size_push];exact Nat.lt_succ_self _
  generalize hDD:s2.heap.objs.size=D at I3 f3 hD w0 turn sz3 fpLt
  refine wpAny_newObj_type ?_
  rw [hDD,hh3]
  refine wpAny_newFunctionEnv c.nocell (by intro y hy;simp at hy) (λ h4 hns4 hsb4=>?_) c.kind
  dsimp only at hns4 hsb4 ⊢
  have keep4:∀ b o,h3.get? b=some o->h4.get? b=some o:=λ b o e=>(hsb4.2 b (Nat.ne_of_lt (Heap.lt_size e))).trans (Heap.get?_push_of_some _ e)
  have I4:=I3.comp (t':=s2.toks+([]:List (Str × Value)).length) c f3 (λ b hb=>Nat.lt_trans (fpLt b hb) sz3) keep4 hns4
  have st4:tn 0 h4:=T.keep _ _ _ st3 λ b _ o e=>keep4 b o e
  dsimp only at I4
  have fin:∀ {σ':St} {H':Hp} {s':Shared},Inv (aLq X scope N' h3.objs.size fp { s2 with heap:=h3 } (upd H2 D (.lst []))) [] σ' H' s'->Q (.ref D) H' →
      compPost (model X.prog X.w) X.A X.xe none (EP X pins σ Q) (.ref D) h3.objs.size (.ok .next) s':=λ{σ' H' s'} J' q=>by
    obtain ⟨m,hn,hh⟩:=I3.uncomp rfl f3 J'
    exact ⟨m,hn,λ h' hs'=>⟨.ref D,H',hh h' hs',rfl,q⟩⟩
  have stat:∀ {H':Hp},(∀ b∈fp,H' b=none)->∀ b∈fp,hYq (aLq X scope N' h3.objs.size fp { s2 with heap:=h3 } (upd H2 D (.lst []))) [] H' b:=λ{H'} hn b hb=>by
    refine ⟨hn b hb,Nat.ne_of_lt (Nat.lt_trans (fpLt b hb) sz3),λ z=>?_,.inl hb,λ x a e=>(f3 b hb).2.2.2.2.1 x a (c.cells I.ok e),λ p hp=>absurd (show p∈([]:List (Addr × Obj)) from hp) (by simp)⟩
    rcases List.mem_cons.mp (I.stkSub b z) with y | y
    . exact (f3 b hb).2.1 y
    . exact (f3 b hb).2.2.1 y
  have loop:codeAny (model X.prog X.w) X.A (.compLoop (.ListComp elt [⟨tg,iter,[ct],0⟩] scope pos) 0 (.ref it) (.ref D) (compEnvC scope (bTq X.env.cells scope.names []) h3.objs.size X.env))
      (compPost (model X.prog X.w) X.A X.xe none (EP X pins σ Q) (.ref D) h3.objs.size) { s2 with heap:=h4,toks:=s2.toks+([]:List (Str × Value)).length }:=by
    refine codeAny_loop rfl (λ n s'=>∃ i ys σ' H',Inv (aLq X scope N' h3.objs.size fp { s2 with heap:=h3 } (upd H2 D (.lst []))) [] σ' H' s'/\tn i s'.heap/\(∀ b∈fp,H' b=none)/\W i n ys σ' H') (λ n s5 hI=>?_) m0 ⟨0,[],_,_,I4,st4,λ b hb=>(f3 b hb).1,w0⟩
    obtain ⟨i,ys,σ5,H5,I5,st5,fr5,w5⟩:=hI
    show wpAny _ X.A ((compTurn (.ListComp elt [⟨tg,iter,[ct],0⟩] scope pos) 0 (.ref it) (.ref D) (compEnvC scope (bTq X.env.cells scope.names []) h3.objs.size X.env)).onRaise (λ x=>do noteFrame x (compEnvC scope (bTq X.env.cells scope.names []) h3.objs.size X.env);theTreesLotGoes x)) _ _ s5
    refine wpAny_noted ?_
    rw [iHq]
    rcases turn i n ys σ5 H5 w5 with ⟨stop,qn⟩ | ⟨go,step⟩
    . refine wpAny_bind (wpAny_standAt (wpAny_bind (wpAny_mono (T.done (aLq X scope N' h3.objs.size fp { s2 with heap:=h3 } (upd H2 D (.lst []))) rfl rfl rfl hc i [] s5 σ5 H5 (λ _ _=>False) I5 (stat fr5) st5 stop) (λ r s6 ⟨hr,I6⟩=>?_) λ _ _ z=>z.elim)))
      subst hr
      exact wpAny_pure (fin I6 qn)
    . refine wpAny_bind (wpAny_standAt (wpAny_bind (wpAny_mono (T.item (aLq X scope N' h3.objs.size fp { s2 with heap:=h3 } (upd H2 D (.lst []))) rfl rfl rfl hc i [] s5 σ5 H5 (λ _ _=>False) I5 (stat fr5) st5 go) (λ r s6 ⟨u,hr,h6⟩=>?_) λ _ _ z=>z.elim)))
      subst hr
      refine wpAny_bind (wpAny_mono h6 (λ _ s7 ⟨x,H7,I7,r7,y7,st7,fr7⟩=>?_) λ _ _ z=>z.elim)
      have I7':=I7.pinned (stat fr7) (T.obj _ _ st7)
      refine wpAny_bind (wpAny_mono (hg _ _ _ _ _ s7 σ5 H7 x u _ I7' r7 (step x H7 y7)) (λ _ s8 ⟨σ8,H8,I8,q8⟩=>?_) λ _ _ z=>z.elim)
      refine wpAny_bind (wpAny_mono (ht _ _ _ _ _ s8 σ8 H8 _ I8 q8) (λ bb s9 ⟨H9,I9,q9⟩=>?_) λ _ _ z=>z.elim)
      cases bb with
      | true=>
        rw [if_pos rfl]
        rw [if_pos rfl] at q9
        refine wpAny_bind (wpAny_bind (wpAny_mono (he _ _ _ _ _ s9 σ8 H9 _ I9 q9) (λ yv sA ⟨y,HA,IA,rA,eA,zA,m',hm',wA⟩=>?_) λ _ _ z=>z.elim))
        refine wpAny_bind (wpAny_mono (d7q (X:=aLq X scope N' h3.objs.size fp { s2 with heap:=h3 } (upd H2 D (.lst []))) _ sA σ8 HA (.ref D) [y] (.ref D) [yv] (λ v H10=>v=.non/\H10=upd HA D (.lst (ys++[y]))) IA rfl (.cons rA .nil) ⟨D,ys,y,rfl,rfl,eA,zA,rfl,rfl⟩)
          (λ _ s10 ⟨v10,H10,I10,_,_,e10⟩=>?_) λ _ _ z=>z.elim)
        subst e10
        refine wpAny_pure (wpAny_pure ⟨rfl,m',hm',i+1,ys++[y],σ8,_,I10.unpinned,?_,λ b hb=>?_,wA⟩)
        . exact T.keep _ _ _ st7 λ b hb o e=>(I10.pin (b,o) (List.mem_append_right _ (List.mem_append_right _ (b9q hb e)))).1
        . obtain ⟨o,e,d⟩:=T.obj _ _ st7 b hb
          exact (I10.pin (b,o) (List.mem_append_right _ (List.mem_append_right _ (b9q hb e)))).2.1
      | false=>
        rw [if_neg Bool.false_ne_true]
        rw [if_neg Bool.false_ne_true] at q9
        obtain ⟨m',hm',w9⟩:=q9
        refine wpAny_pure ⟨rfl,m',hm',i+1,ys,σ8,_,I9.unpinned,?_,λ b hb=>?_,w9⟩
        . exact T.keep _ _ _ st7 λ b hb o e=>(I9.pin (b,o) (List.mem_append_right _ (List.mem_append_right _ (b9q hb e)))).1
        . obtain ⟨o,e,d⟩:=T.obj _ _ st7 b hb
          exact (I9.pin (b,o) (List.mem_append_right _ (List.mem_append_right _ (b9q hb e)))).2.1
  exact codeAny_compStart_list loop (T.self _ 0 _ _ _ st4 loop)
end
def aSq:Expr->Bool
  | .Starred ..=>false
  | _=>true
theorem a9q {e:Expr} {es:List Expr} {env:Env} (h:aSq e=true):starEach (e::es) env=(false,eval e env)::starEach es env:=by
  cases e<;>first | rfl | cases h
section
variable {κ:Type} [DecidableEq κ]
def jCq (kvs:List (κ × V)) (k:κ):Option V:=(kvs.find? λ kv=>decide (kv.1=k)).map (·.2)
def i3q (kvs:List (κ × V)) (k:κ) (v:V):List (κ × V):=
  if (kvs.any λ kv=>decide (kv.1=k))=true then kvs.map (λ kv=>if kv.1=k then (kv.1,v) else kv) else kvs++[(k,v)]
theorem eKq {p:κ × V} {r:List (κ × V)} {k:κ} (e:p.1=k):jCq (p::r) k=some p.2:=by simp [jCq,List.find?_cons,e]
theorem eQq {p:κ × V} {r:List (κ × V)} {k:κ} (e:¬ p.1=k):jCq (p::r) k=jCq r k:=by simp [jCq,List.find?_cons,e]
theorem kCq (k:κ):∀ kvs:List (κ × V),(kvs.any λ kv=>decide (kv.1=k))=(jCq kvs k).isSome
  | []=>rfl
  | p::r=>by
    rw [List.any_cons]
    by_cases e:p.1=k
    . simp only [eKq e,decide_eq_true e,Bool.true_or,Option.isSome_some]
    . rw [eQq e,decide_eq_false e,Bool.false_or];exact kCq k r
theorem cTq (kvs:List (κ × V)) (k:κ) (v:V):(i3q kvs k v).length<=kvs.length+1:=by
  unfold i3q
  split
  . rw [List.length_map];omega
  . rw [List.length_append,List.length_cons,List.length_nil];omega
theorem RelO.isSome_eq {o:Option V} {u:Option Value} (r:RelO o u):o.isSome=u.isSome:=by
  cases o with
  | none=>cases u with
    | none=>rfl
    | some _=>exact (show False from r).elim
  | some _=>cases u with
    | none=>exact (show False from r).elim
    | some _=>rfl
theorem KV.val {kvs:List (κ × V)} {vs:List (κ × Value)} (r:KV kvs vs) (k:κ):RelO (jCq kvs k) (valueAt vs k):=by
  unfold KV at r
  induction r with
  | nil=>exact True.intro
  | @cons p q ps qs h t ih=>
    obtain ⟨h1,h2⟩:=h
    by_cases e:p.1=k
    . have e':q.1=k:=h1.symm.trans e
      have b:valueAt (q::qs) k=some q.2:=by simp [valueAt,List.find?_cons,e']
      rw [eKq e,b];exact h2
    . have e':¬ q.1=k:=λ z=>e (h1.trans z)
      have b:valueAt (q::qs) k=valueAt qs k:=by simp [valueAt,List.find?_cons,e']
      rw [eQq e,b];exact ih
theorem KV.any {kvs:List (κ × V)} {vs:List (κ × Value)} (r:KV kvs vs) (k:κ):(kvs.any λ kv=>decide (kv.1=k))=vs.any λ kv=>decide (kv.1=k):=by
  unfold KV at r
  induction r with
  | nil=>rfl
  | cons h t ih=>rw [List.any_cons,List.any_cons,ih,h.1]
theorem KV.repl {kvs:List (κ × V)} {vs:List (κ × Value)} (r:KV kvs vs) (k:κ) {y:V} {u:Value} (ry:RelV y u) :
    KV (kvs.map λ kv=>if kv.1=k then (kv.1,y) else kv) (vs.map λ kv=>if kv.1=k then (kv.1,u) else kv):=by
  unfold KV at r ⊢
  induction r with
  | nil=>exact .nil
  | @cons p q ps qs h t ih=>
    rw [List.map_cons,List.map_cons]
    refine .cons ?_ ih
    obtain ⟨h1,h2⟩:=h
    by_cases e:p.1=k
    . rw [if_pos e,if_pos (h1.symm.trans e)];exact ⟨h1,ry⟩
    . rw [if_neg e,if_neg (λ z=>e (h1.trans z))];exact ⟨h1,h2⟩
theorem KV.put {kvs:List (κ × V)} {vs:List (κ × Value)} (r:KV kvs vs) (k:κ) {y:V} {u:Value} (ry:RelV y u):KV (i3q kvs k y) (stored vs k u):=by
  unfold i3q stored
  rw [r.any k]
  by_cases e:(vs.any λ kv=>decide (kv.1=k))=true
  . rw [if_pos e,if_pos e];exact r.repl k ry
  . rw [if_neg e,if_neg e];exact Paired.snoc r ⟨rfl,ry⟩
theorem KV.length {kvs:List (κ × V)} {vs:List (κ × Value)} (r:KV kvs vs):kvs.length=vs.length:=Paired.length r
end
theorem q9q {P:Program} {w:World} {k:Key} {u:Value} (r:RelV (kV k) u):(bBq P w).is k u=true:=by
  cases k with
  | inl i=>obtain ⟨t,e⟩:=(show ∃ t,u=Value.int i t from r);subst e;exact jNq P w i t
  | inr x=>obtain ⟨t,e⟩:=(show ∃ t,u=Value.str x t from r);subst e;exact jQq P w x t
theorem jAq {P:Program} {w:World}:∀ {ks:List Key} {us:List Value},Vals (ks.map kV) us->ItemsAre (bBq P w) ks us
  | [],_,r=>by rw [List.map_nil] at r;cases r;exact .nil
  | k::ks,_,r=>by
    rw [List.map_cons] at r
    cases r with
    | cons h t=>exact .cons (q9q h) (jAq t)
abbrev KT (H:Hp):List (List Key × V)->List (List Key × Addr × Value)->Prop:=Paired λ p q=>p.1=q.1/\H q.2.1=some (.tup (p.1.map kV))/\RelV p.2 q.2.2
theorem KT.val {H:Hp} {kvs:List (List Key × V)} {xs:List (List Key × Addr × Value)} (r:KT H kvs xs) (k:List Key):RelO (jCq kvs k) ((atKey xs k).map (·.2)):=by
  induction r with
  | nil=>exact True.intro
  | @cons p q ps qs h t ih=>
    obtain ⟨h1,_,h2⟩:=h
    by_cases e:p.1=k
    . have e':q.1=k:=h1.symm.trans e
      have b:atKey (q::qs) k=some q.2:=by simp [atKey,List.find?_cons,e']
      rw [eKq e,b];exact h2
    . have e':¬ q.1=k:=λ z=>e (h1.trans z)
      have b:atKey (q::qs) k=atKey qs k:=by simp [atKey,List.find?_cons,e']
      rw [eQq e,b];exact ih
theorem KT.repl {H:Hp} {kvs:List (List Key × V)} {xs:List (List Key × Addr × Value)} (r:KT H kvs xs) (k:List Key) {y:V} {u:Value} (ry:RelV y u) :
    KT H (kvs.map λ kv=>if kv.1=k then (kv.1,y) else kv) (xs.map (putAt k u)):=by
  induction r with
  | nil=>exact .nil
  | @cons p q ps qs h t ih=>
    rw [List.map_cons,List.map_cons]
    refine .cons ?_ ih
    obtain ⟨h1,h2,h3⟩:=h
    unfold putAt
    by_cases e:p.1=k
    . rw [if_pos e,if_pos (h1.symm.trans e)];exact ⟨h1,h2,ry⟩
    . rw [if_neg e,if_neg (λ z=>e (h1.trans z))];exact ⟨h1,h2,h3⟩
theorem KT.put {H:Hp} {kvs:List (List Key × V)} {xs:List (List Key × Addr × Value)} (r:KT H kvs xs) (k:List Key) {b:Addr} {y:V} {u:Value} (hb:H b=some (.tup (k.map kV))) (ry:RelV y u) :
    KT H (i3q kvs k y) (storedH xs k b u):=by
  have e:(kvs.any λ kv=>decide (kv.1=k))=(atKey xs k).isSome:=by
    rw [kCq,(r.val k).isSome_eq,Option.isSome_map]
  unfold i3q storedH
  rw [e]
  by_cases q:(atKey xs k).isSome=true
  . rw [if_pos q,if_pos q];exact r.repl k ry
  . rw [if_neg q,if_neg q];exact Paired.snoc r ⟨rfl,hb,ry⟩
theorem KT.keeps {H H':Hp} {kvs:List (List Key × V)} {xs:List (List Key × Addr × Value)} (r:KT H kvs xs) (ht:∀ b ys,H b=some (.tup ys)->H' b=some (.tup ys)):KT H' kvs xs:=
  Paired.mapP r λ _ _ z=>⟨z.1,ht _ _ z.2.1,z.2.2⟩
section
variable {P:Program} {w:World} {H:Hp} {h:Heap} {a:Addr}
theorem y6q {u:HO} (ok:HOk P w H h) (e:Rd H a u):ObjOk P w H h a u:=e.ok ok
theorem rSq {kvs:List (Key × V)} (ok:HOk P w H h) (e:Rd H a (.dK kvs)):kvs.length<=sizeLine/\(a==sysModules)=false/\∃ vs,KV kvs vs/\h.DictOf (bBq P w) a vs:=
  show ObjOk P w H h a (.dK kvs) from y6q ok e
theorem vMq {kvs:List (Key × V)} (ok:HOk P w H h) (e:H a=some (.dK kvs)):kvs.length<=sizeLine/\(a==sysModules)=false/\∃ vs,KV kvs vs/\h.DictOf (bBq P w) a vs:=rSq ok (.inl e)
theorem mDq {ks:List Key} (ok:HOk P w H h) (e:H a=some (.tup (ks.map kV))):(tupleKind (bBq P w)).is h ks a:=by
  obtain ⟨_,its,r,o,h1,h2,n,h3⟩:=(show ObjOk P w H h a (.tup (ks.map kV)) from ok a _ e)
  exact ⟨o,its.toArray,n,h1,h2,h3,by simpa using jAq r⟩
theorem tSq {kvs:List (List Key × V)} (ok:HOk P w H h) (e:Rd H a (.dT kvs)):kvs.length<=sizeLine/\(a==sysModules)=false ∧
    ∃ xs,KT H kvs xs/\h.DictOfH (tupleKind (bBq P w)) a xs:=by
  obtain ⟨z,y,xs,r,o,es,ep,h1,h2,h3,h4,h5⟩:=(show ObjOk P w H h a (.dT kvs) from y6q ok e)
  refine ⟨z,y,xs,r,o,es,ep,h1,h2,h3,h4,λ x hx=>?_,h5⟩
  have all:∀ {l:List (List Key × V)} {m:List (List Key × Addr × Value)},KT H l m->∀ x∈m,(tupleKind (bBq P w)).is h x.1 x.2.1:=by
    intro l m q
    induction q with
    | nil=>intro x hx;exact nomatch hx
    | @cons p q ps qs hq t ih=>
      intro x hx
      rcases List.mem_cons.mp hx with e | hx
      . subst e
        exact mDq ok (by rw [<- hq.1];exact hq.2.1)
      . exact ih x hx
  exact all r x hx
theorem aC9q {kvs:List (List Key × V)} (ok:HOk P w H h) (e:H a=some (.dT kvs)):kvs.length<=sizeLine/\(a==sysModules)=false ∧
    ∃ xs,KT H kvs xs/\h.DictOfH (tupleKind (bBq P w)) a xs:=tSq ok (.inl e)
end
def DGet (H:Hp) (a:Addr) (y:V) (r:Option V):Prop:=
  (∃ kvs k,Rd H a (.dK kvs)/\y=kV k/\r=jCq kvs k)\/∃ kvs k b,Rd H a (.dT kvs)/\y=.ref b/\H b=some (.tup (k.map kV))/\r=jCq kvs k
def DPut (H:Hp) (a:Addr) (y v:V) (H':Hp):Prop:=
  (∃ kvs k,H a=some (.dK kvs)/\y=kV k/\kvs.length < sizeLine/\H'=upd H a (.dK (i3q kvs k v))) ∨
  ∃ kvs k b,H a=some (.dT kvs)/\y=.ref b/\H b=some (.tup (k.map kV))/\kvs.length < sizeLine/\H'=upd H a (.dT (i3q kvs k v))
theorem DGet.k {H:Hp} {a:Addr} {kvs:List (Key × V)} {k:Key} (e:H a=some (.dK kvs)):DGet H a (kV k) (jCq kvs k):=.inl ⟨kvs,k,.inl e,rfl,rfl⟩
theorem DPut.k {H:Hp} {a:Addr} {kvs:List (Key × V)} {k:Key} {v:V} (e:H a=some (.dK kvs)) (hl:kvs.length < sizeLine):DPut H a (kV k) v (upd H a (.dK (i3q kvs k v))):=.inl ⟨kvs,k,e,rfl,hl,rfl⟩
section
variable {X:Cx} {pins:List (Addr × Obj)} {σ:St} {H:Hp} {s:Shared} {a:Addr} {y v:V} {u r:Value} {o:Option V} {A:Around} {E:Value->Shared->Prop}
theorem Inv.big (I:Inv X pins σ H s):sysModules < s.heap.objs.size:=by
  have h:mainGlobals < s.heap.objs.size:=(I.mod.glob.keeps I.bk).lt
  exact Nat.lt_trans (by decide) h
theorem mHq {Q:Value->Shared->Prop} (hu:A.units+1 < cLine) (I:Inv X pins σ H s) (g:DGet H a y (some v)) (ry:RelV y u) (h:∀ w' s',Inv X pins σ H s'->RelV v w'->Q w' s') :
    wpAny (model X.prog X.w) A (getItem (.ref a) u) Q E s:=by
  rcases g with ⟨kvs,k,e,ey,l⟩ | ⟨kvs,k,b,e,ey,eb,l⟩
  . subst ey
    obtain ⟨z,hd,vs,rel,dd⟩:=rSq I.hok e
    obtain ⟨w',hw,rw'⟩:=RelO.some_of (v:=v) (o:=valueAt vs k) (by rw [l];exact rel.val k)
    exact wpAny_getItem_of (q9q ry) dd.mapOf hw (h w' _ (I.tok _) rw')
  . subst ey
    cases (show u=Value.ref b from ry)
    obtain ⟨z,hd,xs,rel,dd⟩:=tSq I.hok e
    obtain ⟨w',hw,rw'⟩:=RelO.some_of (v:=v) (o:=(atKey xs k).map (·.2)) (by rw [l];exact rel.val k)
    obtain ⟨p,hp,hp2⟩:=Option.map_eq_some_iff.mp hw
    refine wpAny_getItem_heap (tupleKind_room_in1 hu) (mDq I.hok eb) dd hp ?_
    rw [hp2]
    exact h w' _ (I.tok _) rw'
theorem jJq {h':Heap} {t':Nat} {ob:HO} (I:Inv X pins σ H s) (mu:Mut (H a)) (hs:Heap.SameBut a s.heap h') (he:∃ q,h'.get? a=some q) (new:ObjOk X.prog X.w (upd H a ob) h' a ob) :
    Inv X pins σ (upd H a ob) { s with heap:=h',toks:=t' }:=
  I.write (x:=a) (e:=a) mu (.inl rfl) (λ b q hb z=>(hs.2 b hb).trans z) he new
theorem r6q {P:Program} {w:World} {H':Hp} {h':Heap} {kvs:List (Key × V)} {vs:List (Key × Value)} (z:kvs.length<=sizeLine) (hd:(a==sysModules)=false) (rel:KV kvs vs) (dd:h'.DictOf (bBq P w) a vs) :
    ObjOk P w H' h' a (.dK kvs):=⟨z,hd,vs,rel,dd⟩
theorem nJq {H':Hp} {Q:Unit->Shared->Prop} (hu:A.units+1 < cLine) (I:Inv X pins σ H s) (g:DPut H a y v H') (ry:RelV y u) (rv:RelV v r) (h:∀ s',Inv X pins σ H' s'->Q () s') :
    wpAny (model X.prog X.w) A (setItem (.ref a) u r) Q E s:=by
  rcases g with ⟨kvs,k,e,ey,l,eH⟩ | ⟨kvs,k,b,e,ey,eb,l,eH⟩
  . subst ey eH
    obtain ⟨z,hd,vs,rel,dd⟩:=vMq I.hok e
    have hz:vs.length<=sizeLine:=by rw [<- rel.length];exact z
    have hl:(i3q kvs k v).length<=sizeLine:=by have:=cTq kvs k v;omega
    refine wpAny_setItem_pairs (hsz:=hz) (q9q ry) dd λ h' dd' hs=>h _ ?_
    have he:∃ q,h'.get? a=some q:=let ⟨q,_,_,hq,_⟩:=dd';⟨q,hq⟩
    exact jJq I (by rw [e];exact True.intro) hs he (r6q hl hd (rel.put k rv) dd')
  . subst ey eH
    cases (show u=Value.ref b from ry)
    obtain ⟨z,hd,xs,rel,dd⟩:=aC9q I.hok e
    have hz:xs.length<=sizeLine:=by rw [<- Paired.length rel];exact z
    have hl:(i3q kvs k v).length<=sizeLine:=by have:=cTq kvs k v;omega
    refine wpAny_setItem_heap (hsz:=hz) (tupleKind_room_in1 hu) (mDq I.hok eb) dd λ h' dd' hs=>h _ ?_
    obtain ⟨q,es,ep,hq,h2,h3,h4,_,h5⟩:=dd'
    refine jJq I (by rw [e];exact True.intro) hs ⟨q,hq⟩ ⟨hl,hd,_,(rel.put k eb rv).keeps λ c ys ec=>?_,q,es,ep,hq,h2,h3,h4,h5⟩
    rw [aEq (zPq ec e (λ z=>nomatch z))]
    exact ec
end
section
variable {X:Cx} {pins:List (Addr × Obj)} {σ:St} {H:Hp} {s:Shared} {a:Addr} {kvs:List (Key × V)} {k:Key} {u:Value} {A:Around} {E:Value->Shared->Prop}
end
def yYq (i:Expr):Prop:=∀ ov iv,subscripted i false ov iv=operate [ov,iv] (getItem ov iv)
theorem s5q {prog:Program} {w:World} {A:Around} {E:Value->Shared->Prop} {s:Shared} {env:Env} {value slice:Expr} {pos:Pos} {T id:String} {Q:Value->Shared->Prop}
    (hl:typeLookup (.type T) "__getitem__" = pure (some (.builtin id))) (hs:yYq slice)
    (h:wpAny (model prog w) A (eval value env) (λ o s₁=>wpAny (model prog w) A (eval slice env) (λ i s₂=>s₂.TypeIs o T/\wpAny (model prog w) A (getItem o i) Q E s₂) E s₁) E s) :
    wpAny (model prog w) A (eval (.Subscript value slice pos) env) Q E s:=by
  refine Subscript_ (wpAny_mono h (λ o s₁ h₁=>wpAny_mono h₁ (λ i s₂ h₂=>?_) λ _ _ x=>x) λ _ _ x=>x)
  obtain ⟨hT,h₂⟩:=h₂
  unfold subscriptTail
  refine wpAny_bind ?_
  rw [getitemInPython_of_ne hT.not_modules]
  refine wpAny_bind (wpAny_specialOf hT hl ?_)
  have fin:wpAny (model prog w) A (subscripted slice false o i) (λ r s₃=>wpAny (model prog w) A (letTemporaryGo value o r >>= λ _=>pure r) Q E s₃) E s₂:=by
    rw [hs o i]
    exact wpAny_operating (wpAny_mono h₂ (λ r s₃ h₃=>wpAny_bind (wpAny_letTemporaryGo (wpAny_pure h₃))) λ _ _ x=>x)
  first
    | exact wpAny_pure (wpAny_bind fin)
    | exact wpAny_bind (wpAny_pure (wpAny_bind fin))
    | exact wpAny_bind fin
theorem jPq {X:Cx} {pins:List (Addr × Obj)} {σ:St} {H:Hp} {s:Shared} {a:Addr} {y:V} {o:Option V} (I:Inv X pins σ H s) (g:DGet H a y o):s.TypeIs (.ref a) "dict":=by
  rcases g with ⟨kvs,k,e,_,_⟩ | ⟨kvs,k,b,e,_,_,_⟩
  . obtain ⟨_,_,vs,_,dd⟩:=rSq I.hok e
    exact dd.typeIs
  . obtain ⟨_,_,xs,_,dd⟩:=tSq I.hok e
    exact dd.typeIs
def aD6q (td ty:TE):TE:=λ σ H Q=>td σ H λ x H1=>ty σ H1 λ y H2=>∃ a v,x=.ref a/\DGet H2 a y (some v)/\Q v H2
def yRq (td ty tv:TE):TS:=λ D σ H=>tv σ H λ v H1=>td σ H1 λ x H2=>ty σ H2 λ y H3=>∃ a H4,x=.ref a/\DPut H3 a y v H4/\D.nx σ H4
section
variable {X:Cx} {o i e value:Expr} {pos pos' tpos:Pos} {td ty tv:TE}
theorem t9q (hu:X.A.units+1 < cLine) (ho:PE X o td) (hi:PE X i ty) (hs:yYq i):PE X (.Subscript o i pos) (aD6q td ty):=by
  intro pins s σ H Q I h
  refine s5q PySem.F.slot_dict_getitem.lookup hs (thn (ho pins s σ H _ I h) λ u s1 ⟨x,H1,I1,rx,q1⟩=>thn (hi pins s1 σ H1 _ I1 q1) λ iv s2 ⟨y,H2,I2,ry,a,v,ex,g,q2⟩=>?_)
  subst ex
  obtain rfl:u=Value.ref a:=rx
  exact ⟨jPq I2 g,mHq hu I2 g ry λ w' s3 I3 rw'=>⟨v,H2,I3,rw',q2⟩⟩
theorem tFq (hu:X.A.units+1 < cLine) (ho:PE X o td) (hi:PE X i ty) (hv:PE X value tv) (hs:swapsWith value (some (.Subscript o i pos')) pos.line X.env=pure false) :
    PS X (.Assign [.Subscript o i pos'] value pos) (yRq td ty tv):=by
  intro pins s σ H D I h
  refine wpAny_Assign_Subscript (thn (hv pins s σ H _ I h) λ r s1 ⟨v,H1,I1,rv,q1⟩=>thn (ho pins s1 σ H1 _ I1 q1) λ u s2 ⟨x,H2,I2,rx,q2⟩=>thn (hi pins s2 σ H2 _ I2 q2) λ iv s3 ⟨y,H3,I3,ry,a,H4,ex,g,q3⟩=>?_) hs
  subst ex
  obtain rfl:u=Value.ref a:=rx
  exact nJq hu I3 g ry rv λ s4 I4=>⟨σ,H4,I4,q3⟩
end
theorem pPq {P:Program} {w:World} {H:Hp} (h:Heap) (hb:sysModules < h.objs.size):ObjOk P w H (h.push { cls:=.type "dict", data:=.dict #[] }) h.objs.size (.dK []):=
  ⟨Nat.zero_le _,beq_eq_false_iff_ne.mpr (Ne.symm (Nat.ne_of_lt hb)),[],.nil,Heap.DictOf.new h⟩
section
variable {X:Cx} {pos:Pos}
end
def mZq:List (TE × TE)->St->Hp->(List (V × V)->Hp->Prop)->Prop
  | [],_,H,Q=>Q [] H
  | (tk,tv)::r,σ,H,Q=>tk σ H λ x H1=>tv σ H1 λ y H2=>mZq r σ H2 λ ps H3=>Q ((x,y)::ps) H3
abbrev VV:List (V × V)->List (Value × Value)->Prop:=Paired λ p q=>RelV p.1 q.1/\RelV p.2 q.2
def PPs (X:Cx) (pos:Pos) (keys:List (Option Expr)) (values:List Expr) (trs:List (TE × TE)):Prop:=
  ∀ (pins:List (Addr × Obj)) (s:Shared) (σ:St) (H:Hp) (Q:List (V × V)->Hp->Prop),Inv X pins σ H s->mZq trs σ H Q →
    wpAny (model X.prog X.w) X.A (evalPairs (pairTrees keys values X.env pos)) (λ vs s'=>∃ ps H',Inv X pins σ H' s'/\VV ps vs/\Q ps H') X.xe s
theorem u6q {X:Cx} {pos:Pos}:PPs X pos [] [] []:=λ pins s σ H Q I h=>pairTrees_nil_walk ⟨[],H,I,.nil,h⟩
theorem p9q {X:Cx} {pos:Pos} {k v:Expr} {ks:List (Option Expr)} {vs:List Expr} {tk tv:TE} {trs:List (TE × TE)} (hk:PE X k tk) (hv:PE X v tv) (hr:PPs X pos ks vs trs) :
    PPs X pos (some k::ks) (v::vs) ((tk,tv)::trs):=λ pins s σ H Q I h=>
  pairTrees_cons_walk (thn (hk pins s σ H _ I h) λ u s1 ⟨x,H1,I1,rx,q1⟩=>thn (hv pins s1 σ H1 _ I1 q1) λ w2 s2 ⟨y,H2,I2,ry,q2⟩=>
    thn (hr pins s2 σ H2 _ I2 q2) λ ws s3 ⟨ps,H3,I3,rel,q3⟩=>⟨(x,y)::ps,H3,I3,.cons ⟨rx,ry⟩ rel,q3⟩)
def j2q (kvs more:List (Key × V)):List (Key × V):=more.foldl (λ acc kv=>i3q acc kv.1 kv.2) kvs
theorem KV.merge:∀ {more:List (Key × V)} {rs:List (Key × Value)} {kvs:List (Key × V)} {vs:List (Key × Value)},KV more rs->KV kvs vs->KV (j2q kvs more) (merged vs rs):=by
  intro more rs kvs vs r
  unfold KV at r
  induction r generalizing kvs vs with
  | nil=>intro q;exact q
  | @cons p q ps qs h t ih=>
    intro r0
    have e:KV (i3q kvs p.1 p.2) (stored vs q.1 q.2):=by
      have:=r0.put p.1 h.2
      rw [<- h.1];exact this
    exact ih e
theorem dBq:∀ (more kvs:List (Key × V)),(j2q kvs more).length<=kvs.length+more.length
  | [],kvs=>by show kvs.length<=kvs.length+0;omega
  | p::r,kvs=>by
    have h1:=dBq r (i3q kvs p.1 p.2)
    have h2:=cTq kvs p.1 p.2
    show (j2q (i3q kvs p.1 p.2) r).length<=_
    rw [List.length_cons];omega
theorem gEq {P:Program} {w:World}:∀ {kvs:List (Key × V)} {ws:List (Value × Value)},VV (kvs.map λ kv=>(kV kv.1,kv.2)) ws->∃ rs,Carries (bBq P w) ws rs/\KV kvs rs
  | [],_,r=>by rw [List.map_nil] at r;cases r;exact ⟨[],True.intro,.nil⟩
  | p::kvs,_,r=>by
    rw [List.map_cons] at r
    cases r with
    | @cons a b as bs h t=>
      obtain ⟨rs,c,q⟩:=gEq (P:=P) (w:=w) t
      obtain ⟨b1,b2⟩:=b
      exact ⟨(p.1,b2)::rs,⟨q9q h.1,rfl,c⟩,.cons ⟨rfl,h.2⟩ q⟩
def aB2q (trs:List (TE × TE)):TE:=λ σ H Q=>∀ p,H p=none->mZq trs σ (upd H p (.dK [])) λ ps H2=>H2 p=some (.dK [])/\∃ kvs:List (Key × V),ps=kvs.map (λ kv=>(kV kv.1,kv.2))/\kvs.length<=15/\Q (.ref p) (upd H2 p (.dK (j2q [] kvs)))
theorem u7q {X:Cx} {pos:Pos} {keys:List (Option Expr)} {values:List Expr} {trs:List (TE × TE)} (h:PPs X pos keys values trs) (hall:keys.all (·.isSome)=true) (hl:keys.length=values.length) (h0:keys≠[])
    (h15:keys.length<=15):PE X (.Dict keys values pos) (aB2q trs):=by
  intro pins s σ H Q I q
  have hn:=I.hok.fresh (Nat.le_refl s.heap.objs.size)
  have I1:=I.laid (a:=s.heap.objs.size) (o:=.dK []) (h':=s.heap.push { cls:=.type "dict", data:=.dict #[] }) (t':=s.toks) (λ _ _ q=>Heap.get?_push_of_some _ q) (Nat.le_refl _) (pPq s.heap I.big)
  refine wpAny_Dict_walk (knd:=bBq X.prog X.w) hall hl h0 h15 (thn (h pins _ σ _ _ I1 (q _ hn)) λ ws s2 ⟨ps,H2,I2,rel,e,kvs,ep,lk,q2⟩=>?_)
  subst ep
  obtain ⟨rs,c,rk⟩:=gEq (P:=X.prog) (w:=X.w) rel
  obtain ⟨z,hd,vs0,r0,dd⟩:=vMq I2.hok e
  cases r0
  refine ⟨rs,c,dd,λ h' dd' hs=>⟨.ref s.heap.objs.size,_,?_,rfl,q2⟩⟩
  have hz:(j2q [] kvs).length<=sizeLine:=by
    have h1:=dBq kvs []
    rw [List.length_nil] at h1
    rw [sizeLine_eq];omega
  have he:∃ q,h'.get? s.heap.objs.size=some q:=let ⟨q,_,_,hq,_⟩:=dd';⟨q,hq⟩
  exact jJq I2 (by rw [e];exact True.intro) hs he (r6q hz hd (rk.merge .nil) dd')
section
variable {X:Cx} {pins:List (Addr × Obj)} {σ:St} {H:Hp} {s:Shared} {a:Addr} {y d:V} {u r:Value} {o:Option V} {A:Around} {E:Value->Shared->Prop}
end
section
variable {X:Cx} {o e f:Expr} {apos cpos:Pos} {td ty tx:TE}
end
section
variable {X:Cx} {pins:List (Addr × Obj)} {σ:St} {H:Hp} {s:Shared} {a:Addr} {kvs:List (Key × V)} {A:Around} {E:Value->Shared->Prop}
end
section
variable {X:Cx} {pins:List (Addr × Obj)} {σ:St} {H:Hp} {s:Shared} {a:Addr} {y:V} {u:Value} {A:Around} {E:Value->Shared->Prop}
end
section
variable {κ:Type} [DecidableEq κ]
end
section
variable {prog:Program} {w:World} {A:Around} {E:Value->Shared->Prop} {s:Shared}
theorem dCq {t sl:Addr} {items:Array Value} {vl vu:Value} {lo hi:Option Int} {Q:Value->Shared->Prop} (ht:IsTup s.heap t items) (hs:s.heap.IsSliceOf sl vl vu .none) (pl:IsPart vl lo) (pu:IsPart vu hi)
    (hw:HT.sIx items.size 0 lo=0/\HT.sIx items.size items.size hi=items.size) (h:Q (.ref t) s):wpAny (model prog w) A (getItem (.ref t) (.ref sl)) Q E s:=by
  obtain ⟨os,hos,hcs,hds⟩:=id hs
  have hTs:s.TypeIs (.ref sl) "slice":=⟨os,hos,hcs⟩
  unfold getItem
  try with_reducible refine wpAny_holding ?_
  first | refine wpAny_bind (wpAny_pure ?_) | skip
  refine wpAny_bind (wpAny_sequenceKey ht.typeIs (by decide) ?_)
  refine wpAny_bind (wpAny_callSpecial?_slot (name:=Str.ofString "__getitem__") ht.typeIs PyProof.Rows.slot_tuple_getitem (wpAny_call_entry PyProof.Rows.slot_tuple_getitem ht.typeIs entry_tuple_getitem ?_ (args_tuple_getitem _ _)))
  show wpAny _ _ (Builtin.Tuple.tupleItemsOf (.ref t) >>= _) _ _ s
  refine wpAny_bind (tupleItemsOf_ ht ?_)
  refine wpAny_bind (wpAny_typeOf hTs ?_)
  rw [if_pos (by decide)]
  refine wpAny_bind (HT.sliceApplied_gen hs pl pu ?_)
  have hyes:(((HT.sIx items.size 0 lo:Nat):Int)==0&&(1:Int)==1&&(HT.sIx items.size items.size hi - HT.sIx items.size 0 lo)==items.size)=true:=by
    rw [hw.1,hw.2];simp
  show wpAny _ _ (if (((HT.sIx items.size 0 lo:Nat):Int)==0&&(1:Int)==1&&(HT.sIx items.size items.size hi - HT.sIx items.size 0 lo)==items.size)=true then _ else _) _ _ s
  rw [if_pos hyes]
  have ex:∀ {Q':Bool->Shared->Prop},Q' true s->wpAny (model prog w) A.in1 (Builtin.Tuple.tupleIsExact (.ref t)) Q' E s:=λ{Q'} q=>by
    unfold Builtin.Tuple.tupleIsExact
    refine wpAny_bind (wpAny_typeOf ht.typeIs (wpAny_pure ?_))
    have e:(Value.type "tuple"==Value.type "tuple")=true:=beq_self_eq_true _
    rw [e];exact q
  first
    | exact wpAny_bind (ex (wpAny_bind (wpAny_rule (wpAny_pure ⟨_,rfl,wpAny_pure h⟩))))
    | (unfold Builtin.Tuple.tupleIsExact
       refine wpAny_bind (wpAny_bind (wpAny_typeOf ht.typeIs (wpAny_pure ?_)))
       have e:(Value.type "tuple"==Value.type "tuple")=true:=beq_self_eq_true _
       rw [e,if_pos rfl]
       first
         | exact wpAny_bind (wpAny_rule (wpAny_pure ⟨_,rfl,wpAny_pure h⟩))
         | exact wpAny_bind (wpAny_rule (wpAny_bind (wpAny_pure (wpAny_pure ⟨_,rfl,wpAny_pure h⟩))))
         | exact wpAny_bind (wpAny_rule (wpAny_bind (wpAny_bind (wpAny_pure (wpAny_pure ⟨_,rfl,wpAny_pure h⟩))))))
end
section
variable {X:Cx}
def zHq (K:PySem.W.Frag):V->Option Int->Option Int->Hp->VK->Prop:=λ x lo hi H Q=>∃ a xs,x=.ref a/\SqT K H a xs ∧
  ((HT.sIx xs.length 0 lo=0/\HT.sIx xs.length xs.length hi=xs.length)->Q (.ref a) H)/\(¬ (HT.sIx xs.length 0 lo=0/\HT.sIx xs.length xs.length hi=xs.length)->∀ p,H p=none->Q (.ref p) (upd H p (.tup (lWq xs lo hi))))
theorem tAq:SlR X (zHq X.K):=by
  intro pins s σ H x v vl vu lo hi sl Q I rx hs pl pu h
  obtain ⟨a,xs,rfl,hx,q1,q2⟩:=h
  by_cases hw:HT.sIx xs.length 0 lo=0/\HT.sIx xs.length xs.length hi=xs.length
  . cases rx
    obtain ⟨its,r,ht,hz⟩:=I.tuple hx
    have hlen:its.toArray.size=xs.length:=by rw [List.size_toArray];exact r.length.symm
    refine ⟨"tuple", _,PyProof.Rows.slot_tuple_getitem.lookup,ht.typeIs,?_⟩
    exact dCq ht hs pl pu (by rw [hlen];exact hw) ⟨.ref a,H,I,rfl,q1 hw⟩
  . exact wKq pins s σ H _ v vl vu lo hi sl Q I rx hs pl pu ⟨a,xs,rfl,hx,hw,q2 hw⟩
def aB3q (K:PySem.W.Frag):R2:=λ x y H Q=>∃ a b xs ys,x=.ref a/\y=.ref b/\SqT K H a xs/\SqT K H b ys/\xs.length+ys.length<=sizeLine ∧
  (xs=[]->Q (.ref b) H)/\(xs≠[]->ys=[]->Q (.ref a) H)/\(xs≠[]->ys≠[]->∀ p,H p=none->Q (.ref p) (upd H p (.tup (xs++ys))))
theorem op_catW:OpR X (binaryOp .Add) (aB3q X.K):=by
  intro pins s σ H x y v u Q I rx ry h
  obtain ⟨a,b,xs,ys,rfl,rfl,ha,hb,hz,q0,q1,q2⟩:=h
  by_cases hx:xs=[]
  . cases rx;cases ry
    obtain ⟨its,r,ht,_⟩:=I.tuple ha
    obtain ⟨its2,r2,ht2,_⟩:=I.tuple hb
    subst hx
    cases r
    obtain ⟨⟨cls,dd,data,sl⟩,ho,hc,n,hd⟩:=id ht
    obtain ⟨⟨cls2,dd2,data2,sl2⟩,ho2,hc2,n2,hd2⟩:=id ht2
    simp only at hc hd hc2 hd2
    subst hc hd hc2 hd2
    refine concat_meets ⟨_,ho,rfl⟩ ⟨_,ho2,rfl⟩ noFill_tuple_add seq_tuple_add PySem.F.slot_tuple_add PySem.F.entry_tuple_add (PySem.F.args_tuple_add_2 _ _) (tuple_addW0 a b _ its2.toArray n n2 dd dd2 sl sl2 (by simp)) ⟨ho,ho2,?_⟩
    exact ⟨.ref b,H,I,rfl,q0 rfl⟩
  . exact sVq pins s σ H _ _ v u Q I rx ry ⟨a,b,xs,ys,rfl,rfl,ha,hb,hx,hz,q1 hx,q2 hx⟩
end
section
variable {X:Cx}
def aA0q (K:PySem.W.Frag):V->Option Int->Option Int->Hp->VK->Prop:=λ x lo hi H Q=>∃ a xs,x=.ref a/\SqT K H a xs/\∀ t H2,Same H H2->SqT K H2 t (lWq xs lo hi)->Q (.ref t) H2
theorem q3q {xs:List V} {lo hi:Option Int} (h:HT.sIx xs.length 0 lo=0/\HT.sIx xs.length xs.length hi=xs.length):lWq xs lo hi=xs:=by
  unfold lWq
  rw [h.1,h.2,List.drop_zero,Nat.sub_zero,List.take_length]
theorem sl_tupU:SlR X (aA0q X.K):=by
  intro pins s σ H x v vl vu lo hi sl Q I rx hs pl pu h
  obtain ⟨a,xs,rfl,hx,q⟩:=h
  refine tAq pins s σ H _ v vl vu lo hi sl Q I rx hs pl pu ⟨a,xs,rfl,hx,λ w=>q a H (Same.refl _) (by rw [q3q w];exact hx),λ _ p hp=>q p _ (λ b u e=>by rw [aEq (aTq e hp)];exact e) (SqT.of aNq)⟩
end
structure JE (X:Cx) (e:Expr) (t:TE):Prop where
  run:PE X e t
structure JT (X:Cx) (e:Expr) (t:TT):Prop where
  run:PT X e t
structure JW (X:Cx) (e:Expr) (t:TT):Prop where
  run:PW X e t
structure JA (X:Cx) (es:List Expr) (t:TA):Prop where
  run:PA X es t
structure JS (X:Cx) (st:Stmt) (t:TS):Prop where
  run:PS X st t
structure JB (X:Cx) (st:List Stmt) (t:TS):Prop where
  run:PSs X st t
structure JG (X:Cx) (e:Expr) (t:TG):Prop where
  run:PG X e t
structure JGs (X:Cx) (es:List Expr) (t:TGs):Prop where
  run:PGs X es t
structure JI (X:Cx) (tg iter:Expr) (wi:TI):Prop where
  run:PI X tg iter wi
structure JO (X:Cx) (e:Option Expr) (t:TO):Prop where
  run:PO X e t
structure JOp (X:Cx) (f:Value->Value->Sem Value) (r:R2):Prop where
  run:OpR X f r
structure JUn (X:Cx) (f:Value->Sem Value) (r:V->Hp->VK->Prop):Prop where
  run:UnR X f r
structure JCall (X:Cx) (f:Value) (r:List V->Hp->VK->Prop):Prop where
  run:CallR X f r
structure JIx (X:Cx) (r:R2):Prop where
  run:IxR X r
structure JSl (X:Cx) (r:V->Option Int->Option Int->Hp->VK->Prop):Prop where
  run:SlR X r
structure JMt (X:Cx) (id:String) (r:V->List V->Hp->VK->Prop):Prop where
  run:MtR X id r
structure JSet (X:Cx) (t:x5q):Prop where
  run:z6q X t
section
variable {X:Cx} {a b c e o i:Expr} {es:List Expr} {ta tb te to ti:TE} {t tr:TA} {pos p apos cpos:Pos}
theorem y4q {n:Int} {j}:JE X (.Constant (.int n) j pos) (tC (.int n)):=⟨uUq⟩
theorem aB8q {n:Bool} {j}:JE X (.Constant (.bool n) j pos) (tC (.bl n)):=⟨z1q⟩
theorem wFq {j}:JE X (.Constant .none j pos) (tC .non):=⟨wAq⟩
theorem xXq {x:Str} {j}:JE X (.Constant (.str x) j pos) (tC (.str x)):=⟨uXq⟩
theorem jv (k:Nat) {x:Str} (hN:X.N[k]?=some x:=by rfl) (hv:Vis X.env.scope x:=by first | exact Or.inl rfl | exact Or.inr (Or.inl rfl) | exact Or.inr (Or.inr rfl)) (hd:(x==("__debug__" : Str))=false:=by decide)
    (hcd:(x==("__classdict__" : Str))=false:=by decide):JE X (.Name x pos) (tVar k):=⟨rKq hN hv hd hcd⟩
theorem rQq {x:Str} {v:V} {u:Value} (hg:Gl X x) (hm:X.mg x=none) (hv:bootBuiltins x=some u) (r:RelV v u) (hn:x≠"__name__":=by decide) (hd:(x==("__debug__" : Str))=false:=by decide):JE X (.Name x pos) (tC v):=⟨tNq hg hm hv r hn hd⟩
theorem tTq {x:Str} {v:V} {u:Value} (hg:Gl X x) (hm:X.mg x=some u) (r:RelV v u) (hd:(x==("__debug__" : Str))=false:=by decide):JE X (.Name x pos) (tC v):=⟨sZq hg hm r hd⟩
theorem y7q:JA X [] tNil:=⟨vBq⟩
theorem rUq (ha:JE X e te) (hr:JA X es t) (hs:aSq e=true:=by rfl):JA X (e::es) (xBq te t):=⟨tEq ha.run hr.run (a9q hs)⟩
theorem wVq {x1} (h:JA X es t):JE X (.Tuple es x1 pos) (tTup t):=⟨vJq h.run⟩
theorem r4q (h:JA X es t):JE X (.List es pos) (tLst t):=⟨xFq h.run⟩
theorem z7q {op:Operator} {r:R2} (ho:JOp X (binaryOp op) r) (ha:JE X a ta) (hb:JE X b tb):JE X (.BinOp a op b pos) (tOp r ta tb):=⟨zOq ho.run ha.run hb.run⟩
theorem zTq {op:UnaryOp} {r:V->Hp->VK->Prop} (ho:JUn X (unaryOp op) r) (ha:JE X a ta):JE X (.UnaryOp op a pos) (tUn r ta):=⟨zMq ho.run ha.run⟩
theorem vYq (ha:JE X a ta):JE X (.UnaryOp .Not a pos) (wRq ta):=⟨xZq ha.run⟩
theorem rYq {op:CmpOp} {r:R2} (ho:JOp X (compareOp op) r) (ha:JE X a ta) (hb:JE X b tb) (hm:behindInMarks op b=false):JE X (.Compare a [op] [b] pos) (tOp r ta tb):=⟨tMq ho.run ha.run hb.run hm⟩
theorem y5q {op} (h:JE X a ta):JE X (.BoolOp op [a] pos) ta:=⟨yAq h.run⟩
theorem vUq {rest:List Expr} (ha:JE X a ta) (hb:JE X (.BoolOp .And (b::rest) pos) tb):JE X (.BoolOp .And (a::b::rest) pos) (wUq ta tb):=⟨xGq ha.run hb.run⟩
theorem pAq {tc:TT} (hc:JT X c tc) (ha:JE X a ta) (hb:JE X b tb):JE X (.IfExp c a b pos) (tIf tc ta tb):=⟨pJq hc.run ha.run hb.run⟩
theorem sQq:JO X none mWq:=⟨rPq⟩
theorem t8q (h:JE X e te):JO X (some e) (x9q te):=⟨sFq h.run⟩
theorem pTq {r:V->Option Int->Option Int->Hp->VK->Prop} {lo hi:Option Expr} {tl th:TO} {p2:Pos} (hr:JSl X r) (he:JE X e te) (hl:JO X lo tl) (hu:JO X hi th):JE X (.Subscript e (.Slice lo hi none p2) pos) (tSl r te tl th):=⟨pKq hr.run he.run hl.run hu.run⟩
theorem wSq {r:R2} (hr:JIx X r) (ha:JE X a ta) (hb:JE X b tb) (hs:h0q b):JE X (.Subscript a b pos) (tOp r ta tb):=⟨zEq hr.run ha.run hb.run hs⟩
theorem bOq {es:List Expr} {env:Env} (h:es.all aSq=true):(backTo pos (starEach es env)).any (·.1)=false:=by
  induction es with
  | nil=>rfl
  | cons x r ih=>
    rw [List.all_cons,Bool.and_eq_true] at h
    rw [a9q h.1]
    exact ih h.2
theorem ySq {k j:Nat} {x:Str} {ps:List Str} {sp:Sp} (G:Got X.prog X.w X.K X.mg X.base k x ps sp) (hr:Room j X.A) (hk:k<=j) (hg:Gl X x) (ha:JA X (e::es) t) (hdb:(x==("__debug__" : Str))=false:=by decide)
    (hs:(e::es).all aSq=true:=by rfl):JE X (.Call (.Name x p) (e::es) [] pos) (u0q sp [] E0 t):=by
  have h:=hs
  rw [List.all_cons,Bool.and_eq_true] at h
  exact ⟨z5q G hr hk hg ha.run hdb (a9q h.1) (bOq h.2)⟩
theorem qIq {x:Str} {id:String} {r:List V->Hp->VK->Prop} (hc:JCall X (.builtin id) r) (hg:Gl X x) (hm:X.mg x=none) (hv:bootBuiltins x=some (.builtin id)) (ha:JA X (e::es) t) (hn:x≠"__name__":=by decide) (hdb:(x==("__debug__" : Str))=false:=by decide)
    (hs:(e::es).all aSq=true:=by rfl):JE X (.Call (.Name x p) (e::es) [] pos) (tCB r t):=by
  have h:=hs
  rw [List.all_cons,Bool.and_eq_true] at h
  exact ⟨oWq hc.run hg hm hv ha.run hn hdb (a9q h.1) (bOq h.2)⟩
theorem nWq {x:Str} {T:String} {r:List V->Hp->VK->Prop} (hc:JCall X (.type T) r) (hg:Gl X x) (hm:X.mg x=none) (hv:bootBuiltins x=some (.type T)) (ha:JA X (e::es) t) (hn:x≠"__name__":=by decide) (hdb:(x==("__debug__" : Str))=false:=by decide)
    (hs:(e::es).all aSq=true:=by rfl):JE X (.Call (.Name x p) (e::es) [] pos) (tCB r t):=by
  have h:=hs
  rw [List.all_cons,Bool.and_eq_true] at h
  exact ⟨m6q hc.run hg hm hv ha.run hn hdb (a9q h.1) (bOq h.2)⟩
theorem aC8q {name:Str} {T id:String} {r:V->List V->Hp->VK->Prop} (pa:PlainAttrs T) (slot:Slot T name id) (hty:typeOf (.builtin id)=pure (.type "method_descriptor")) (hm:JMt X id r) (ho:JE X o to) (ha:JA X [e] t)
    (hbase:attributeBase o name X.env (eval o X.env)=eval o X.env:=by rfl) (hline:(apos.endLine==cpos.line)=true:=by rfl) (hs:aSq e=true:=by rfl):JE X (.Call (.Attribute o name apos) [e] [] cpos) (tBM X.K T r to t):=
  ⟨zDq pa slot hty hm.run ho.run ha.run hbase (by rw [a9q hs];rfl) hline (a9q hs) rfl⟩
theorem wHq {name:Str} {T id:String} {r:V->List V->Hp->VK->Prop} (pa:PlainAttrs T) (slot:Slot T name id) (hty:typeOf (.builtin id)=pure (.type "method_descriptor")) (hm:JMt X id r) (ho:JE X o to)
    (hbase:attributeBase o name X.env (eval o X.env)=eval o X.env:=by rfl) (hline:(apos.endLine==cpos.line)=true:=by rfl):JE X (.Call (.Attribute o name apos) [] [] cpos) (tBM0 X.K T r to):=⟨uVq pa slot hty hm.run ho.run hbase hline⟩
theorem tGq {op:CmpOp} {r:R2} (ho:JOp X (compareOp op) r) (ha:JE X a ta) (hb:JE X b tb) (hm:behindInMarks op b=false):JT X (.Compare a [op] [b] pos) (xEq (tOp r ta tb)):=⟨t5q ho.run ha.run hb.run hm⟩
theorem w7q {tc:TT} (ha:JT X a tc):JT X (.UnaryOp .Not a pos) (tNot tc):=⟨vOq ha.run⟩
theorem qEq (ha:JE X a ta) (he:∀ whole,isTrue a X.env whole=(do let v ← whole;standAt a.pos;holding [v] (truthy v))):JT X a (λ σ H Q=>ta σ H λ x H'=>∃ k,yIq X.K x H' k/\Q k H'):=⟨qSq ha.run he⟩
theorem wYq {tA:TT} (ha:JT X a tA):JW X (.BoolOp .Or [a] pos) tA:=⟨wWq ha.run⟩
theorem aA1q {tA tB':TT} {rest:List Expr} (ha:JT X a tA) (hb:JW X (.BoolOp .Or (b::rest) pos) tB'):JW X (.BoolOp .Or (a::b::rest) pos) (tOr tA tB'):=⟨yNq ha.run hb.run⟩
theorem JW.pt {tA:TT} (h:JW X e tA):JT X e tA:=⟨PW.pt h.run⟩
theorem sTq {k:Nat} {x:Str} (hN:X.N.Nodup) (hi:X.N[k]?=some x) (hx:Loc X.env.scope x) (hf:X.fn x=true\/X.env.scope.names.lookup x=some .local:=by first | exact .inl rfl | exact .inr rfl | assumption):JG X (.Name x pos) (lAq k):=⟨sJq hN hi hx hf⟩
theorem t2q:JGs X [] gNil:=⟨sXq⟩
theorem pEq {tg:TG} {u:TGs} (h1:JG X e tg) (h2:JGs X es u) (hs:(assignEach (e::es) X.env).map (·.2)=assign e X.env::(assignEach es X.env).map (·.2):=by rfl):JGs X (e::es) (wCq tg u):=⟨oYq h1.run h2.run hs⟩
theorem uMq {k n:Nat} {tg:TGs} (hc:X.calm=true) (h:JGs X es tg) (hn:(assignEach es X.env).length=n:=by rfl) (hst:(assignEach es X.env).findIdx? (·.1)=none:=by rfl):JG X (.Tuple es k pos) (gTup X.K n tg):=⟨x6q hc h.run hn hst⟩
theorem uTq {tset:x5q} (ho:JE X o to) (hi:JE X i ti) (hs:JSet X tset) (ha:∀ v,assign (.Subscript o i pos) X.env v=(do
      let ov ← holding [v] (eval o X.env)
      let iv ← holding [v,ov] (eval i X.env)
      standAt pos
      holding [v,ov,iv] (setItem ov iv v)
      release [v,ov,iv] []):=by intro _;rfl):JG X (.Subscript o i pos) (gSub to ti tset):=⟨w0q ho.run hi.run hs.run ha⟩
theorem nEq {tg:Expr} (hg:Gl X "range") (hm:X.mg "range" = none) (ha:JA X [a] t) (hs:aSq a=true:=by rfl):JI X tg (.Call (.Name "range" p) [a] [] pos) (xJq t):=⟨mTq hg hm ha.run (a9q hs)⟩
theorem uPq:JB X [] wLq:=⟨mXq⟩
theorem rXq {st:Stmt} {rest:List Stmt} {ts us:TS} (h1:JS X st ts) (h2:JB X rest us):JB X (st::rest) (tSeq ts us):=⟨kIq h1.run h2.run⟩
theorem w4q {st:Stmt} {ts:TS} (h1:JS X st ts):JB X [st] ts:=⟨mYq h1.run⟩
theorem sMq (he:JE X e te) (hs:swapsWith e none pos.line X.env=pure false:=by rfl):JS X (.Expr e pos) (uKq te):=⟨t6q he.run hs⟩
theorem xOq (he:JE X e te):JS X (.Return (some e) pos) (tRet te):=⟨vPq he.run⟩
theorem aD5q {ss us:List Stmt} {tc:TT} {ts tu:TS} (hc:JT X c tc) (ha:JB X ss ts) (hb:JB X us tu):JS X (.If c ss us pos) (tIfS tc ts tu):=⟨v5q hc.run ha.run hb.run⟩
theorem yBq {k:Nat} {x:Str} {pos':Pos} (hN:X.N.Nodup) (hi:X.N[k]?=some x) (hx:Loc X.env.scope x) (he:JE X e te) (hs:swapsWith e (some (.Name x pos')) pos.line X.env=pure false:=by rfl) (hf:X.fn x=true\/X.env.scope.names.lookup x=some .local:=by first | exact .inl rfl | exact .inr rfl | assumption) :
    JS X (.Assign [.Name x pos'] e pos) (uBq te (lAq k)):=⟨uLq hN hi hx he.run hs hf⟩
theorem v9q {tg:Expr} {g:TG} (he:JE X e te) (hg:JG X tg g) (hs:swapsWithSole [tg] e pos.line X.env=pure false:=by rfl) (hw:swappedStores [tg] e X.env=pure none:=by rfl) (h1:(assignEach [tg] X.env).map (·.2)=[assign tg X.env]:=by rfl):JS X (.Assign [tg] e pos) (uBq te g):=⟨w2q he.run hg.run hs hw h1⟩
theorem p3q {body:List Stmt} {tc:TT} {tb':TS} (hp:PassesOwn (model X.prog X.w) X.A X.env X.xe) (hc:JT X c tc) (hb:JB X body tb'):JS X (.While c body [] pos) (r0q tc tb'):=⟨q0q hp hc.run hb.run⟩
theorem vEq {tg iter:Expr} {body:List Stmt} {wi:TI} {g:TG} {tb':TS} (hp:PassesOwn (model X.prog X.w) X.A X.env X.xe) (hc:X.calm=true) (hi:JI X tg iter wi) (hg:JG X tg g) (hb:JB X body tb') (hs:∀ x,foldedSetIterable iter X.env x=pure x:=by intro _;rfl) :
    JS X (.For tg iter body [] pos) (tFor wi g tb'):=⟨vCq hp hc hi.run hg.run hb.run hs⟩
theorem s8q {scope:Scope} {N':List Str} {nt:Nat} {cap:List Nat} {elt iter tg:Expr} {wi:TI} {g:TG} (hc:X.calm=true) (ok:CompOk X scope N' nt cap) (hi:JI X tg iter wi) (hg:∀ C ex s H,JG (aLq X scope N' C ex s H) tg g) (he:∀ C ex s H,JE (aLq X scope N' C ex s H) elt te)
    (hs:∀ x,foldedSetIterable iter X.env x=pure x:=by intro _;rfl):JE X (.ListComp elt [⟨tg,iter,[],0⟩] scope pos) (mFq wi g te nt cap):=⟨tKq hc ok hi.run (λ C ex s H=>(hg C ex s H).run) (λ C ex s H=>(he C ex s H).run) hs⟩
theorem oKq {ct:Expr} {tc:TT} {scope:Scope} {N':List Str} {nt:Nat} {cap:List Nat} {elt iter tg:Expr} {wi:TI} {g:TG} (hc:X.calm=true) (ok:CompOk X scope N' nt cap) (hi:JI X tg iter wi) (hg:∀ C ex s H,JG (aLq X scope N' C ex s H) tg g)
    (ht:∀ C ex s H,JT (aLq X scope N' C ex s H) ct tc) (he:∀ C ex s H,JE (aLq X scope N' C ex s H) elt te) (hs:∀ x,foldedSetIterable iter X.env x=pure x:=by intro _;rfl):JE X (.ListComp elt [⟨tg,iter,[ct],0⟩] scope pos) (k1q wi g tc te nt cap):=
  ⟨nUq hc ok hi.run (λ C ex s H=>(hg C ex s H).run) (λ C ex s H=>(ht C ex s H).run) (λ C ex s H=>(he C ex s H).run) hs⟩
end
theorem Fun.okJ {P:Program} {w:World} {K:PySem.W.Frag} {mg:Str->Option Value} {base:Heap} {x qual:Str} {st:Stmt} {f:Addr} {fd:FuncData} {N ps:List Str} {k:Nat} {sp:Sp} (F:Fun K x qual st f fd) (S:FnScope N ps (a5q st)) (len:∀ vs H Q E,sp vs H Q E->vs.length=ps.length)
    (hbody:∀ (cdv:Value) (A:Around) (outer:List Env) (s:Shared) (H:Hp) (vs:List V) (Q:VK) (E:XK),Room k (A.deeper (envOfC qual (a5q st) s.heap.objs.size f cdv))->sp vs H Q E →
      ∃ t,JB (kYq CX0 P w K mg base N qual (a5q st) f cdv A outer s H E).nox (b2q st) t/\t { nx:=λ _ H'=>Q .non H',rt:=Q } (cVq N vs) H):FnOk P w K mg base CX0 (k+1) f fd ps sp:=
  F.ok S len λ cdv A outer s H vs Q E hr h=>let ⟨t,j,q⟩:=hbody cdv A outer s H vs Q E hr h;⟨t,j.run,q⟩
section
variable {X:Cx} {scope:Scope} {N':List Str} {nt:Nat} {cap:List Nat} {elt iter tg:Expr} {pos:Pos} {wi:TI} {g:TG} {te:TE}
theorem lSq {y:Str} {py spos:Pos} {k:Nat} (hc:X.calm=true) (hN:X.N.Nodup) (hk:X.N[k]?=some y) (hy:Loc X.env.scope y) (c:CompOk X scope N' nt cap) (hi:PI X tg iter wi) (hg:∀ C ex s H,PG (aLq X scope N' C ex s H) tg g) (he:∀ C ex s H,PE (aLq X scope N' C ex s H) elt te)
    (hs:∀ x,foldedSetIterable iter X.env x=pure x:=by intro _;rfl) (hsw:swapsWith (.ListComp elt [⟨tg,iter,[],0⟩] scope pos) (some (.Name y py)) spos.line X.env=pure true:=by rfl) (hf:X.fn y=true\/X.env.scope.names.lookup y=some .local:=by first | exact .inl rfl | exact .inr rfl | assumption) :
    PS X (.Assign [.Name y py] (.ListComp elt [⟨tg,iter,[],0⟩] scope pos) spos) (uBq (mFq wi g te nt cap) (lAq k)):=by
  intro pins s σ H D0 I h
  rw [exec_Assign_Name_used _ _ _ _ hsw]
  refine wpAny_bind (wpAny_standAt (wpAny_bind ?_))
  show wpAny _ X.A (do let _ ← comprehension (.ListComp elt [⟨tg,iter,[],0⟩] scope pos) scope X.env _ (newList []) false (eval iter X.env) (some (assign (.Name y py) X.env))) _ _ s
  refine wpAny_bind (wpAny_mono (wpAny_comprehension_free (use:=some (assign (.Name y py) X.env)) (Q:=λ _ s'=>SP X pins D0 .next s') rfl hs (jSq (c.has I.ok)) c.kind c.locs (thn (hi pins s σ H _ I h) λ v s1 h1=>thn h1 λ itv s2 h2=>?_)) (λ _ s' hq=>wpAny_pure (wpAny_pure hq)) λ _ _ e=>e)
  obtain ⟨it,fp,tn,J,H2,rfl,I2,T,st2,f2,R⟩:=h2
  have hD:H2 s2.heap.objs.size=none:=I2.hok.fresh (Nat.le_refl _)
  obtain ⟨W,⟨m0,w0⟩,turn⟩:=R _ hD
  have I3:Inv X pins σ (upd H2 s2.heap.objs.size (.lst [])) { s2 with heap:=s2.heap.push { cls:=.type "list", dict:=none,data:=.seq ([]:List Value).toArray } }:=
    I2.laid (t':=s2.toks) (λ b u e=>Heap.get?_push_of_some _ e) (Nat.le_refl _) ⟨Nat.zero_le _,[],0,.nil,Heap.get?_push_size _ rfl⟩
  have fpLt:∀ b∈fp,b < s2.heap.objs.size:=λ b hb=>by
    obtain ⟨o,e,_⟩:=T.obj _ _ st2 b hb
    exact Heap.lt_size e
  have f3:∀ b∈fp,hYq X pins (upd H2 s2.heap.objs.size (.lst [])) b:=λ b hb=>⟨by rw [aEq (Nat.ne_of_lt (fpLt b hb))];exact (f2 b hb).1,(f2 b hb).2⟩
  have st3:tn 0 (s2.heap.push { cls:=.type "list", dict:=none,data:=.seq ([]:List Value).toArray }):=T.keep _ _ _ st2 λ b _ o e=>Heap.get?_push_of_some _ e
  generalize hh3:s2.heap.push { cls:=.type "list", dict:=none,data:=.seq ([]:List Value).toArray }=h3 at I3 st3
  have sz3:s2.heap.objs.size < h3.objs.size:=by rw [<- hh3,Heap.size_push];exact Nat.lt_succ_self _
  generalize hDD:s2.heap.objs.size=D at I3 f3 hD w0 turn sz3 fpLt
  refine wpAny_newObj_type ?_
  rw [hDD,hh3]
  refine wpAny_newFunctionEnv c.nocell (by intro y hy;simp at hy) (λ h4 hns4 hsb4=>?_) c.kind
  dsimp only at hns4 hsb4 ⊢
  have keep4:∀ b o,h3.get? b=some o->h4.get? b=some o:=λ b o e=>(hsb4.2 b (Nat.ne_of_lt (Heap.lt_size e))).trans (Heap.get?_push_of_some _ e)
  have I4:=I3.comp (t':=s2.toks+([]:List (Str × Value)).length) c f3 (λ b hb=>Nat.lt_trans (fpLt b hb) sz3) keep4 hns4
  have st4:tn 0 h4:=T.keep _ _ _ st3 λ b _ o e=>keep4 b o e
  dsimp only at I4
  have fin:∀ {σ':St} {H':Hp} {s':Shared},Inv (aLq X scope N' h3.objs.size fp { s2 with heap:=h3 } (upd H2 D (.lst []))) [] σ' H' s'->D0.nx (σ.set k (some (.ref D))) H' →
      compPost (model X.prog X.w) X.A X.xe (some (assign (.Name y py) X.env)) (λ _ s'=>SP X pins D0 .next s') (.ref D) h3.objs.size (.ok .next) s':=λ{σ' H' s'} J' q=>by
    obtain ⟨m,hn,hh⟩:=I3.uncomp rfl f3 J'
    have IX:Inv X pins σ H' s':=hh s'.heap (Heap.SameBut.refl ..)
    have hCL:h3.objs.size≠X.env.locals:=Nat.ne_of_gt I3.lt
    have hCc:∀ x a,X.env.cells.lookup x=some a->a≠h3.objs.size:=λ x a e=>by
      obtain ⟨v,z⟩:=I3.cell x a e
      exact Nat.ne_of_lt z.lt
    show wpAny _ X.A (assign (.Name y py) X.env (.ref D)) _ _ s'
    refine wpAny_assign_Name (j1q IX hN hk hy (v:=.ref D) rfl (λ s'' I'' hch=>?_) hf)
    obtain ⟨a,sb,ha⟩:=hch
    have hCa:h3.objs.size≠a:=by
      rcases ha with z | z
      . rw [z];exact hCL
      . exact (hCc _ _ z).symm
    refine ⟨m,hn.sameBut sb hCa,λ h' hs'=>⟨_,H',?_,q⟩⟩
    exact I''.turned (t':=s''.toks) (λ b o hb e=>(hs'.2 b hb).trans e) J'.free hCL (.inr I3.sz) hCc λ p hp z=>by
      have e:=(I3.pin p hp).1
      rw [z] at e
      exact absurd (Heap.lt_size e) (Nat.lt_irrefl _)
  have stat:∀ {H':Hp},(∀ b∈fp,H' b=none)->∀ b∈fp,hYq (aLq X scope N' h3.objs.size fp { s2 with heap:=h3 } (upd H2 D (.lst []))) [] H' b:=λ{H'} hn b hb=>by
    refine ⟨hn b hb,Nat.ne_of_lt (Nat.lt_trans (fpLt b hb) sz3),λ z=>?_,.inl hb,λ x a e=>(f3 b hb).2.2.2.2.1 x a (c.cells I.ok e),λ p hp=>absurd (show p∈([]:List (Addr × Obj)) from hp) (by simp)⟩
    rcases List.mem_cons.mp (I.stkSub b z) with y | y
    . exact (f3 b hb).2.1 y
    . exact (f3 b hb).2.2.1 y
  have loop:codeAny (model X.prog X.w) X.A (.compLoop (.ListComp elt [⟨tg,iter,[],0⟩] scope pos) 0 (.ref it) (.ref D) (compEnvC scope (bTq X.env.cells scope.names []) h3.objs.size X.env))
      (compPost (model X.prog X.w) X.A X.xe (some (assign (.Name y py) X.env)) (λ _ s'=>SP X pins D0 .next s') (.ref D) h3.objs.size) { s2 with heap:=h4,toks:=s2.toks+([]:List (Str × Value)).length }:=by
    refine codeAny_loop rfl (λ n s'=>∃ i ys σ' H',Inv (aLq X scope N' h3.objs.size fp { s2 with heap:=h3 } (upd H2 D (.lst []))) [] σ' H' s'/\tn i s'.heap/\(∀ b∈fp,H' b=none)/\W i n ys σ' H') (λ n s5 hI=>?_) m0 ⟨0,[],_,_,I4,st4,λ b hb=>(f3 b hb).1,w0⟩
    obtain ⟨i,ys,σ5,H5,I5,st5,fr5,w5⟩:=hI
    show wpAny _ X.A ((compTurn (.ListComp elt [⟨tg,iter,[],0⟩] scope pos) 0 (.ref it) (.ref D) (compEnvC scope (bTq X.env.cells scope.names []) h3.objs.size X.env)).onRaise (λ x=>do noteFrame x (compEnvC scope (bTq X.env.cells scope.names []) h3.objs.size X.env);theTreesLotGoes x)) _ _ s5
    refine wpAny_noted ?_
    rw [compTurn_list1]
    rcases turn i n ys σ5 H5 w5 with ⟨stop,qn⟩ | ⟨go,step⟩
    . refine wpAny_bind (wpAny_standAt (wpAny_bind (wpAny_mono (T.done (aLq X scope N' h3.objs.size fp { s2 with heap:=h3 } (upd H2 D (.lst []))) rfl rfl rfl hc i [] s5 σ5 H5 (λ _ _=>False) I5 (stat fr5) st5 stop) (λ r s6 ⟨hr,I6⟩=>?_) λ _ _ z=>z.elim)))
      subst hr
      exact wpAny_pure (fin I6 qn)
    . refine wpAny_bind (wpAny_standAt (wpAny_bind (wpAny_mono (T.item (aLq X scope N' h3.objs.size fp { s2 with heap:=h3 } (upd H2 D (.lst []))) rfl rfl rfl hc i [] s5 σ5 H5 (λ _ _=>False) I5 (stat fr5) st5 go) (λ r s6 ⟨u,hr,h6⟩=>?_) λ _ _ z=>z.elim)))
      subst hr
      refine wpAny_bind (wpAny_mono h6 (λ _ s7 ⟨x,H7,I7,r7,y7,st7,fr7⟩=>?_) λ _ _ z=>z.elim)
      have I7':=I7.pinned (stat fr7) (T.obj _ _ st7)
      refine wpAny_bind (wpAny_mono (hg _ _ _ _ _ s7 σ5 H7 x u _ I7' r7 (step x H7 y7)) (λ _ s8 ⟨σ8,H8,I8,q8⟩=>?_) λ _ _ z=>z.elim)
      refine wpAny_bind (wpAny_bind (wpAny_mono (he _ _ _ _ _ s8 σ8 H8 _ I8 q8) (λ yv s9 ⟨y,H9,I9,r9,e9,z9,m',hm',w9⟩=>?_) λ _ _ z=>z.elim))
      refine wpAny_bind (wpAny_mono (d7q (X:=aLq X scope N' h3.objs.size fp { s2 with heap:=h3 } (upd H2 D (.lst []))) _ s9 σ8 H9 (.ref D) [y] (.ref D) [yv] (λ v H10=>v=.non/\H10=upd H9 D (.lst (ys++[y]))) I9 rfl (.cons r9 .nil) ⟨D,ys,y,rfl,rfl,e9,z9,rfl,rfl⟩)
        (λ _ s10 ⟨v10,H10,I10,_,_,e10⟩=>?_) λ _ _ z=>z.elim)
      subst e10
      refine wpAny_pure (wpAny_pure ⟨rfl,m',hm',i+1,ys++[y],σ8,_,I10.unpinned,?_,λ b hb=>?_,w9⟩)
      . exact T.keep _ _ _ st7 λ b hb o e=>(I10.pin (b,o) (List.mem_append_right _ (List.mem_append_right _ (b9q hb e)))).1
      . obtain ⟨o,e,d⟩:=T.obj _ _ st7 b hb
        exact (I10.pin (b,o) (List.mem_append_right _ (List.mem_append_right _ (b9q hb e)))).2.1
  exact codeAny_compStart_list loop (T.self _ 0 _ _ _ st4 loop)
end
def Itd (hi:Int) (n:Nat):It:=⟨λ i _=>i < n,λ i H x H'=>H'=H/\x=.int (hi - i),λ i _=>n<=i⟩
theorem n9q {P:Program} {w:World} {K:PySem.W.Frag} {tg:Expr} (it:Addr) (hi:Int) (n:Nat):Turn P w K tg (Itd hi n) [it] it (λ i h=>IsRangeIter h it (hi+(i:Nat) * (-1)) ((n:Int) - (i:Nat)) (-1)) where
  mem:=by simp
  obj:=λ i h st b hb=>by
    have e:b=it:=by simpa using hb
    subst e
    exact ⟨_,st,λ v z=>by
      have z':Data.fields _=Data.cell v:=z
      cases z'⟩
  keep:=λ i h h' st k=>k it (by simp) _ st
  item:=by
    intro X hP hw hK hc i pins s σ H E I hf st hg
    subst hP hw hK
    obtain ⟨f0,f1,f2,f3,f4,f5⟩:=hf it (by simp)
    have W:=Walks.range (prog:=X.prog) (w:=X.w) (I.ok.hd hc) it hi (-1) n
    refine W.item i s _ _ hg st λ v h' tk hv st' kk=>?_
    obtain ⟨t,rfl⟩:=hv
    have I1:Inv X pins σ H { s with heap:=h',toks:=tk }:=I.turned (λ b o hb e=>kk b o (by simpa using hb) e) f0 f1 f3 f4 f5
    refine ⟨_,rfl,pWq (s:={ s with heap:=h',toks:=tk }) (n:="range_iterator") st' rfl rfl (by decide) ⟨.int (hi - i),H,I1,⟨t,?_⟩,⟨rfl,rfl⟩,st',λ b hb=>(hf b hb).1⟩⟩
    rw [show hi - (i:Int)=hi+(i:Int) * (-1) by omega]
  done:=by
    intro X hP hw hK hc i pins s σ H E I hf st hg
    subst hP hw hK
    obtain ⟨f0,f1,f2,f3,f4,f5⟩:=hf it (by simp)
    exact wpAny_pyNext_range_end (I.ok.hd hc) st (by have:n<=i:=hg;omega) λ h' eb=>⟨rfl,I.turned (t':=s.toks) (λ b o hb e=>eb b o hb e) f0 f1 f3 f4 f5⟩
  self:=λ _ _ _ _ _ st h=>wpAny_pyIter_rangeiter st h
theorem cPq (a b:Int):Builtin.Range.rangeSize a b (-1)=if a > b then a - b else 0:=by
  unfold Builtin.Range.rangeSize
  rw [if_neg (by decide)]
  split
  . rw [show -(-1:Int)=1 by decide,Int.ediv_one];omega
  . rfl
theorem lFq {a b:Int} (ha:-(2 ^ 62)<=a) (ha':a < 2 ^ 62) (hb:-(2 ^ 62)<=b) (hb':b < 2 ^ 62):Builtin.Range.small a b (-1)=true:=by
  unfold Builtin.Range.small
  rw [cPq]
  rw [if_neg (show ¬ ((-1:Int) > 0) by decide)]
  simp only [Builtin.Range.rangeFitsLong,Bool.and_eq_true,Bool.or_eq_true,decide_eq_true_eq,beq_iff_eq]
  split<;>omega
section
variable {X:Cx} {tg:Expr}
def uYq (ta:TA):TI:=λ σ H R=>ta σ H λ vs H1=>∃ i:Int,vs=[.int i,.int (-1),.int (-1)]/\(-(2 ^ 62)<=i/\i < 2 ^ 62)/\R (Itd i (i+1).toNat) H1
theorem n1q {a b c:Expr} {ta:TA} {p pos:Pos} (hg:Gl X "range") (hm:X.mg "range" = none) (ha:PA X [a,b,c] ta) (h1:aSq a=true:=by rfl) (h2:aSq b=true:=by rfl) (h3:aSq c=true:=by rfl) :
    PI X tg (.Call (.Name "range" p) [a,b,c] [] pos) (uYq ta):=by
  intro pins s σ H R I h
  have hs:starEach [a,b,c] X.env=(false,eval a X.env)::starEach [b,c] X.env:=a9q h1
  have hp:(backTo pos (starEach [b,c] X.env)).any (·.1)=false:=by rw [a9q h2,a9q h3];rfl
  refine Call_ (c3q I hg hm boot_range (PyProof.Rows.callWith_type1 (thn (ha pos pins s σ H _ I h) λ us s1 ⟨vs,H1,I1,r1,q1⟩=>?_) hs hp))
  obtain ⟨i,e,⟨q1,q2⟩,q⟩:=q1
  subst e
  cases r1 with
  | cons r rr=>
    cases rr with
    | cons r' rr=>
      cases rr with
      | cons r'' rr=>
        cases rr
        obtain ⟨t,rfl⟩:=r
        obtain ⟨t',rfl⟩:=r'
        obtain ⟨t'',rfl⟩:=r''
        refine call_range_3 (by decide) ?_ (.inl (PyProof.noPylong_of_log2 (by decide +kernel)))
        refine wpAny_pyIter_range (IsRange.new ..) (lFq q1 q2 (by decide) (by decide)) ?_
        have I2:Inv X pins σ H1 { s1 with heap:=s1.heap.push { cls:=.type "range", data:=.fields #[.int i t,.int (-1) t',.int (-1) t''] },toks:=s1.toks }:=I1.kept λ b o e=>Heap.get?_push_of_some _ e
        refine ⟨(s1.heap.push { cls:=.type "range", data:=.fields #[.int i t,.int (-1) t',.int (-1) t''] }).objs.size,[(s1.heap.push { cls:=.type "range", data:=.fields #[.int i t,.int (-1) t',.int (-1) t''] }).objs.size],_,_,H1,rfl,
          I2.kept (t':=s1.toks) λ b o e=>Heap.get?_push_of_some _ e,n9q _ i (i+1).toNat,?_,λ b hb=>?_,q⟩
        . have e1:i+((0:Nat):Int) * (-1)=i:=by simp
          have e2:(((i+1).toNat:Nat):Int) - ((0:Nat):Int)=Builtin.Range.rangeSize i (-1) (-1):=by rw [cPq];split<;>omega
          show IsRangeIter _ _ (i+((0:Nat):Int) * (-1)) ((((i+1).toNat:Nat):Int) - ((0:Nat):Int)) (-1)
          rw [e1,e2]
          exact Heap.get?_push_size _ rfl
        . have e:b=(s1.heap.push { cls:=.type "range", data:=.fields #[.int i t,.int (-1) t',.int (-1) t''] }).objs.size:=by simpa using hb
          subst e
          exact I2.fpOk (Nat.le_refl _) (I2.hok.fresh (Nat.le_refl _))
end
end L2
namespace L2
open PySem PySem.Spec PyProof.Rows Builtin
section
variable {X:Cx}
end
section
variable {X:Cx} {a b c e:Expr} {t:TA} {te:TE} {pos p:Pos}
theorem o3q {tg:Expr} (hg:Gl X "range") (hm:X.mg "range" = none) (ha:JA X [a,b,c] t) (h1:aSq a=true:=by rfl) (h2:aSq b=true:=by rfl) (h3:aSq c=true:=by rfl):JI X tg (.Call (.Name "range" p) [a,b,c] [] pos) (uYq t):=
  ⟨n1q hg hm ha.run h1 h2 h3⟩
variable {scope:Scope} {N':List Str} {nt:Nat} {cap:List Nat} {elt iter tg:Expr} {wi:TI} {g:TG}
theorem l0q {y:Str} {py spos:Pos} {k:Nat} (hc:X.calm=true) (hN:X.N.Nodup) (hk:X.N[k]?=some y) (hy:Loc X.env.scope y) (ok:CompOk X scope N' nt cap) (hi:JI X tg iter wi) (hg:∀ C ex s H,JG (aLq X scope N' C ex s H) tg g) (he:∀ C ex s H,JE (aLq X scope N' C ex s H) elt te)
    (hs:∀ x,foldedSetIterable iter X.env x=pure x:=by intro _;rfl) (hsw:swapsWith (.ListComp elt [⟨tg,iter,[],0⟩] scope pos) (some (.Name y py)) spos.line X.env=pure true:=by rfl) (hf:X.fn y=true\/X.env.scope.names.lookup y=some .local:=by first | exact .inl rfl | exact .inr rfl | assumption) :
    JS X (.Assign [.Name y py] (.ListComp elt [⟨tg,iter,[],0⟩] scope pos) spos) (uBq (mFq wi g te nt cap) (lAq k)):=⟨lSq hc hN hk hy ok hi.run (λ C ex s H=>(hg C ex s H).run) (λ C ex s H=>(he C ex s H).run) hs hsw hf⟩
end
section
variable {X:Cx} {k j:Nat} {f:Addr} {x:Str} {sp:Sp} {p pos:Pos} {e:Expr} {es:List Expr} {t:TA}
end
end L2
namespace KRv
open PySem PyProof.Rows
theorem yOq:Slot "reversed" "__init__" "object.__init__":=.of (owner:="object") (n:="__init__") (by rw [typeLookup_type,builtinLookup_eq_fast];kernel_rfl) (by decide +kernel) (by decide +kernel) (by decide +kernel) (by first | exact .inl (by decide +kernel) | exact .inr (by decide +kernel)) (by rw [isSubtype_type];kernel_rfl)
theorem y9q:TypeCalled "reversed" "reversed.__new__" "object.__init__":=⟨by decide +kernel,by decide +kernel,⟨_,_,F.mro_reversed⟩,F.made_reversed,by decide +kernel,by rw [isSubtype_type];kernel_rfl,yOq⟩
theorem aC0q:typeLookup (.type "tuple") "__reversed__" = pure none:=by rw [typeLookup_type,builtinLookup_eq_fast];kernel_rfl
theorem x1q:isSubtype (.type "tuple") (.type "dict")=pure false:=by rw [isSubtype_type];kernel_rfl
abbrev IsRev (h:Heap) (it t:Addr) (k:Int):Prop:=h.get? it=some { cls:=.type "reversed", dict:=none,data:=.fields #[.ref t,rawInt k],slots:=#[] }
section
variable {prog:Program} {w:World} {A:Around} {E:Value->Shared->Prop} {s:Shared} {it t:Addr}
theorem stops {α:Type} {Q:α->Shared->Prop} (hh:A.handled=none) (h:∀ h' e,(∀ b o,s.heap.get? b=some o->h'.get? b=some o)->Shared.TypeIs { s with heap:=h' } (.ref e) "StopIteration"->E (.ref e) { s with heap:=h' }):wpAny (model prog w) A (Builtin.SmallTypes.stopIteration:Sem α) Q E s:=by
  unfold Builtin.SmallTypes.stopIteration
  refine wpAny_bind ?_
  unfold newExc newTuple
  refine wpAny_bind (wpAny_newObj_type ?_ (by size_fits))
  rw [show firstArgMember (.type "StopIteration") []=pure Value.none from by unfold firstArgMember;rfl,pure_bind]
  refine wpAny_newObj_type ?_ (by size_fits)
  unfold raiseNew
  refine wpAny_bind (wpAny_handled ?_)
  rw [hh]
  exact wpAny_throw (h _ _ (λ b o e=>Heap.get?_push_of_some _ (Heap.get?_push_of_some _ e)) ⟨_,Heap.get?_push_size _ rfl,rfl⟩)
end
theorem newT (t:Addr) (items:Array Value) (hz:(items.size:Int) < 2 ^ 63) :
    Meets (Builtin.«reversed.__new__» ⟨[.type "reversed", .ref t],[]⟩) (λ _ R s=>IsTup s.heap t items ∧
      ∀ tk,R (.ok (.ret (.ref s.heap.objs.size))) { s with heap:=s.heap.push { cls:=.type "reversed", data:=.fields #[.ref t,rawInt ((items.size:Int) - 1)] },toks:=tk }):=
  .of_wp λ prog w A R s ⟨ht,h⟩=>by
    unfold Builtin.«reversed.__new__»
    refine wpAny_bind (wpAny_of_eq (newClass_reversed _) (wpAny_bind (m:=Builtin.SmallTypes.refuseKeywords _ _ _) (wpAny_pure ?_)))
    refine wpAny_bind (wpAny_of_eq (a:=()) (by rfl) (wpAny_bind (wpAny_specialOf ht.typeIs aC0q (wpAny_bind ?_))))
    refine (show wpAny (model prog w) A.in1 (isInstance (Value.ref t) (.type "dict") >>= _) _ _ s from wpAny_bind (wpAny_isInstance (T:="tuple") (b:=false) ht.typeIs x1q ?_))
    rw [if_neg (by decide)]
    refine wpAny_bind (wpAny_specialOf ht.typeIs slot_tuple_getitem.lookup ?_)
    refine (show wpAny (model prog w) A.in1 (if (["tuple.__getitem__", "str.__getitem__", "bytes.__getitem__", "bytearray.__getitem__", "memoryview.__getitem__", "numpy.ndarray.__getitem__", "sqlite3.Row.__getitem__"].contains "tuple.__getitem__")=true then _ else _) _ _ s from ?_)
    rw [if_pos (by decide)]
    refine wpAny_pure ?_
    rw [if_neg (by decide)]
    refine (show wpAny (model prog w) A.in1 (call (.builtin "len") [.ref t] >>= _) _ _ s from wpAny_bind (len_tuple ht hz ?_))
    refine wpAny_bind (m:=asInt? (.int (items.size:Int) _)) (wpAny_pure ?_)
    refine (show wpAny (model prog w) A.in1 (newObj (.type "reversed") (.fields #[.ref t,rawInt ((items.size:Int) - 1)]) >>= _) _ _ _ from wpAny_bind (wpAny_newObj_type ?_ (by size_fits)))
    exact wpAny_pure ⟨_,rfl,h _⟩
theorem callT {prog:Program} {w:World} {A:Around} {E:Value->Shared->Prop} {s:Shared} {t:Addr} {items:Array Value} {Q:Value->Shared->Prop} (ht:IsTup s.heap t items) (hz:(items.size:Int) < 2 ^ 63)
    (h:∀ tk,Q (.ref s.heap.objs.size) { s with heap:=s.heap.push { cls:=.type "reversed", data:=.fields #[.ref t,rawInt ((items.size:Int) - 1)] },toks:=tk }):wpAny (model prog w) A (call (.type "reversed") [.ref t]) Q E s:=
  callType_new y9q (by decide) (F.typeCall_reversed_1 _) (F.newCall_reversed_1 _) (λ obj=>F.args_object_init_2 obj _) F.entry_reversed_new (newT t items hz) ⟨ht,λ tk=>⟨⟨_,Heap.get?_push_size _ rfl,rfl⟩,h tk⟩⟩
section
variable {prog:Program} {w:World} {A:Around} {E:Value->Shared->Prop} {s:Shared} {R:Result->Shared->Prop} {I S:Addr} {fp wr:List Addr} {n:Nat} {P:Nat->Value->Prop} {St:Nat->Shared->Prop}
abbrev listAt (acc:Array Value) (c:Nat):Obj:={ cls:=.type "list", dict:=none,data:=.seq acc c,slots:=#[] }
end
theorem moved_eq {wr:List Addr} {s s':Shared} (hm:Moved wr (λ a b=>b=a) s s'):s'={ s with heap:=s'.heap,toks:=s'.toks }:=by
  obtain ⟨h',g',d',tk',os'⟩:=s'
  cases (show g'=s.gens from hm.gens)
  cases (show d'=s.drawn from hm.drawn)
  cases (show os'=s.os from hm.os)
  rfl
end KRv
namespace L2
open PySem PySem.Spec PyProof.Rows
section
variable {X:Cx} {e:Expr} {te:TE} {p p2 pos pos2:Pos}
def RevT (X:Cx) (pins:List (Addr × Obj)) (σ:St) (R:Addr->List V->Hp->Prop) (v:Value) (s:Shared):Prop:=
  ∃ (a it:Addr) (xs:List V) (its:List Value) (H:Hp),v=.ref it/\Inv X pins σ H s/\KRv.IsRev s.heap it a ((its.toArray.size:Int) - 1)/\IsTup s.heap a its.toArray/\a≠it/\Vals xs its/\its.toArray.size<=sizeLine/\SqT X.K H a xs/\hYq X pins H it/\R a xs H
def RevL (X:Cx) (pins:List (Addr × Obj)) (σ:St) (R:Addr->List V->Hp->Prop) (v:Value) (s:Shared):Prop:=
  ∃ (a it:Addr) (xs:List V) (its:List Value) (H:Hp),v=.ref it/\Inv X pins σ H s/\s.heap.IsRevIter it a ((its.toArray.size:Int) - 1)/\s.heap.IsList a its.toArray/\a≠it/\Vals xs its/\its.toArray.size<=sizeLine/\SqL X.K H a xs/\hYq X pins H it/\R a xs H
theorem zUq {pins:List (Addr × Obj)} {s:Shared} {σ:St} {H:Hp} {R:Addr->List V->Hp->Prop} (hg:Gl X "reversed") (hm:X.mg "reversed" = none) (he:PE X e te) (hs:aSq e=true) (I:Inv X pins σ H s)
    (h:te σ H λ x H1=>∃ a xs,x=.ref a/\SqT X.K H1 a xs/\R a xs H1):wpAny (model X.prog X.w) X.A (eval (.Call (.Name "reversed" p2) [e] [] pos2) X.env) (RevT X pins σ R) X.xe s:=by
  refine wpAny_Call_Name_kw (c3q I hg hm PyProof.Rows.boot_reversed ?_)
  refine PyProof.Rows.callWith_type1 ?_ (a9q hs) rfl
  rw [a9q hs]
  show wpAny _ _ (spliced ((false,eval e X.env)::backTo pos2 (starEach [] X.env))) _ _ s
  refine Calls.spliced_cons (thn (he pins s σ H _ I h) λ u s1 ⟨x,H1,I1,r1,a,xs,ex,hq,q⟩=>Calls.spliced_nil ?_)
  subst ex
  cases r1
  obtain ⟨its,rv,pl,hz⟩:=I1.tuple hq
  have hl:=rv.length
  have h63:=e6q
  refine KRv.callT pl (by rw [List.size_toArray];omega) λ tk=>?_
  exact ⟨a,s1.heap.objs.size,xs,its,H1,rfl,I1.kept λ b o e=>Heap.get?_push_of_some _ e,Heap.get?_push_size _ rfl,pl.push _,Nat.ne_of_lt pl.lt,rv,by rw [List.size_toArray];omega,hq,I1.fpOk (Nat.le_refl _) (I1.hok.fresh (Nat.le_refl _)),q⟩
theorem aD4q {pins:List (Addr × Obj)} {s:Shared} {σ:St} {H:Hp} {R:Addr->List V->Hp->Prop} (hg:Gl X "reversed") (hm:X.mg "reversed" = none) (he:PE X e te) (hs:aSq e=true) (I:Inv X pins σ H s)
    (h:te σ H λ x H1=>∃ a xs,x=.ref a/\SqL X.K H1 a xs/\R a xs H1):wpAny (model X.prog X.w) X.A (eval (.Call (.Name "reversed" p2) [e] [] pos2) X.env) (RevL X pins σ R) X.xe s:=by
  refine wpAny_Call_Name_kw (c3q I hg hm PyProof.Rows.boot_reversed ?_)
  refine PyProof.Rows.callWith_type1 ?_ (a9q hs) rfl
  rw [a9q hs]
  show wpAny _ _ (spliced ((false,eval e X.env)::backTo pos2 (starEach [] X.env))) _ _ s
  refine Calls.spliced_cons (thn (he pins s σ H _ I h) λ u s1 ⟨x,H1,I1,r1,a,xs,ex,hq,q⟩=>Calls.spliced_nil ?_)
  subst ex
  cases r1
  obtain ⟨its,rv,pl,hz⟩:=I1.list hq
  have hl:=rv.length
  have hlt:a < s1.heap.objs.size:=by obtain ⟨o,ho,_⟩:=pl.isList;exact Heap.lt_size ho
  refine call_reversed_list pl.isList ?_
  exact ⟨a,s1.heap.objs.size,xs,its,H1,rfl,I1.kept (t':=s1.toks) λ b o e=>Heap.get?_push_of_some _ e,⟨_,Heap.get?_push_size _ rfl,rfl,rfl⟩,let ⟨o,ho,r⟩:=pl.isList;⟨o,Heap.get?_push_of_some _ ho,r⟩,Nat.ne_of_lt hlt,rv,by rw [List.size_toArray];omega,hq,I1.fpOk (Nat.le_refl _) (I1.hok.fresh (Nat.le_refl _)),q⟩
theorem zAq {pins:List (Addr × Obj)} {σ:St} {H:Hp} {s s':Shared} {it:Addr} {acc:Array Value} {c:Nat} {ys:List V} {Q:VK} (I:Inv X pins σ H s) (fp:hYq X pins H it) (hit:it < s.heap.objs.size)
    (hm:Moved (s.heap.objs.size::[it]) (λ a b=>b=a) { s with heap:=s.heap.push (KRv.listAt #[] 0) } s') (hS:s'.heap.get? s.heap.objs.size=some (KRv.listAt acc c))
    (rv:Vals ys acc.toList) (hz:ys.length<=sizeLine) (q:∀ l,H l=none->Q (.ref l) (upd H l (.lst ys))):EP X pins σ Q (.ref s.heap.objs.size) s':=by
  have I2:Inv X pins σ (upd H s.heap.objs.size (.lst ys)) { s with heap:=s.heap.push { cls:=.type "list", dict:=none,data:=.seq acc c,slots:=#[] } }:=
    I.laid (t':=s.toks) (λ b o e=>Heap.get?_push_of_some _ e) (Nat.le_refl _) (show ObjOk X.prog X.w _ _ _ (.lst ys) from ⟨hz,acc.toList,c,rv,by simpa using Heap.get?_push_size s.heap (o:={ cls:=.type "list", dict:=none,data:=.seq acc c,slots:=#[] }) rfl⟩)
  obtain ⟨f0,f1,f2,f3,f4,f5⟩:=fp
  have I3:=I2.turned (h':=s'.heap) (t':=s'.toks) (it:=it) (λ b o hb e=>?_) (by rw [aEq (Nat.ne_of_lt hit)];exact f0) f1 f3 f4 f5
  . rw [KRv.moved_eq hm]
    exact ⟨.ref s.heap.objs.size,_,I3,rfl,q _ (I.hok.fresh (Nat.le_refl _))⟩
  . rcases Heap.get?_push_cases e with ⟨z1,z2⟩ | e
    . rw [z1,z2];exact hS
    . refine hm.heap b o (λ z=>?_) (Heap.get?_push_of_some _ e)
      simp only [List.mem_cons,List.not_mem_nil,or_false] at z
      rcases z with z | z
      . rw [z] at e;exact absurd (Heap.lt_size e) (Nat.lt_irrefl _)
      . exact hb z
theorem mBq:∀ (bs:List Bool),(List.range bs.length).all (λ i=>bs.getD i true)=bs.all id:=by
  intro bs
  rw [Bool.eq_iff_iff,List.all_eq_true,List.all_eq_true]
  constructor
  . intro h x hx
    obtain ⟨i,hi,e⟩:=List.getElem_of_mem hx
    have:=h i (List.mem_range.mpr hi)
    rw [List.getD_eq_getElem?_getD,List.getElem?_eq_getElem hi,Option.getD_some,e] at this
    exact this
  . intro h i hi
    have hi':=List.mem_range.mp hi
    rw [List.getD_eq_getElem?_getD,List.getElem?_eq_getElem hi',Option.getD_some]
    exact h _ (List.getElem_mem hi')
def yLq (K:PySem.W.Frag):List V->Hp->VK->Prop:=λ xs H Q=>∃ (p:Addr) (bs:List Bool),xs=[.ref p]/\SqL K H p (bs.map V.bl)/\Q (.bl (bs.all id)) H
theorem oJq (hc:X.calm=true):CallR X (.builtin "all") (yLq X.K):=by
  intro pins s σ H xs us Q I r h
  obtain ⟨p,bs,rfl,hp,hQ⟩:=h
  obtain ⟨u,rfl,ru⟩:=r.one
  cases ru
  obtain ⟨its,rv,pl,hz⟩:=I.list hp
  have hlen:=rv.length
  rw [List.length_map] at hlen
  have hlt:p < s.heap.objs.size:=by obtain ⟨o,ho,_⟩:=pl.isList;exact Heap.lt_size ho
  refine call_all_walk (wpAny_pyIter_list pl.isList ?_)
  refine ⟨s.heap.objs.size,[s.heap.objs.size,p],[s.heap.objs.size],its.toArray.size,_,_,λ i=>bs.getD i true,rfl,Walks.list (A:=X.A.in1) (I.ok.hd hc) _ p (Nat.ne_of_lt hlt) its.toArray,⟨⟨_,Heap.get?_push_size _ rfl,rfl,rfl⟩,let ⟨o,ho,r⟩:=pl.isList;⟨o,Heap.get?_push_of_some _ ho,r⟩⟩,?_,λ h' tk kk=>?_⟩
  . intro i v s' Q' E' hv hq
    have hi:i < its.length:=by
      have:=(Array.getElem?_eq_some_iff.mp hv).1
      simpa using this
    obtain ⟨v1,e1,e2⟩:=rv.get (i:=i) (x:=V.bl bs[i]) (by rw [List.getElem?_map,List.getElem?_eq_getElem (by omega)];rfl)
    have e3:its[i]?=some v:=by simpa using hv
    rw [e1] at e3
    cases e3
    have e4:v=Value.bool bs[i]:=e2
    subst e4
    refine wpAny_truthy_bool ?_
    have e5:bs.getD i true=bs[i]:=by rw [List.getD_eq_getElem?_getD,List.getElem?_eq_getElem (by omega)];rfl
    rw [<- e5]
    exact hq
  . refine ⟨.bl (bs.all id),H,I.kept λ b o e=>kk b o ?_ (Heap.get?_push_of_some _ e),?_,hQ⟩
    . simp only [List.mem_cons,List.not_mem_nil,or_false]
      exact Nat.ne_of_lt (Heap.lt_size e)
    . show Value.bool _=Value.bool _
      rw [List.size_toArray,<- hlen,mBq]
end
section
variable {X:Cx} {e:Expr} {te:TE} {p p2 pos pos2:Pos}
end
end L2
namespace KZp
open PySem PyProof.Rows
section
variable {prog:Program} {w:World} {A:Around} {E:Value->Shared->Prop} {s:Shared}
theorem oneT {it t:Addr} {i:Nat} {items:Array Value} {x:Value} {Q:Value->Shared->Prop} (hit:s.heap.IsTupleIter it t i) (ht:s.heap.IsTuple t items) (hx:items[i]?=some x)
    (hQ:∀ h',h'.IsTupleIter it t (i+1)->Heap.SameBut it s.heap h'->Q x { s with heap:=h' }):wpAny (model prog w) A (Builtin.SmallTypes.nextOf (.ref it)) Q E s:=by
  obtain ⟨o,ho,hc,hd⟩:=id hit
  obtain ⟨ol,hol,_,nl,hdl⟩:=ht
  unfold Builtin.SmallTypes.nextOf
  refine wpAny_bind (wpAny_callSpecial?_slot hit.typeIs F.slot_tuple_iterator_next (wpAny_call_entry F.slot_tuple_iterator_next hit.typeIs F.entry_tuple_iterator_next ?_ (F.args_tuple_iterator_next_1 _)))
  refine (show wpAny (model prog w) A.in1 (field (.ref it) 0 >>= _) _ _ s from wpAny_bind (wpAny_field ho hd (x:=.ref t) rfl ?_))
  refine (show wpAny (model prog w) A.in1 (if (Value.ref t==Value.none)=true then _ else _) _ _ s from ?_)
  rw [if_neg (show ¬ ((Value.ref t==Value.none)=true) from Bool.false_ne_true)]
  refine (show wpAny (model prog w) A.in1 (field (.ref it) 1 >>= _) _ _ s from wpAny_bind (wpAny_field ho hd (x:=.int i 0) rfl ?_))
  refine (show wpAny (model prog w) A.in1 (seqItems? (.ref t) >>= _) _ _ s from wpAny_bind (wpAny_seqItems hol hdl ?_))
  simp only [Int.toNat_natCast,hx]
  refine wpAny_bind (wpAny_setField ho hd (by simp) (wpAny_pure ⟨x,rfl,wpAny_pure (hQ _ ⟨_,Heap.get?_update_self _ ho (Obj.isFreed_of_fields (Obj.data_mapFields hd _)),(Obj.cls_mapFields ..).trans hc,?_⟩ (Heap.SameBut.update ..))⟩))
  rw [Obj.data_mapFields hd]
  simp [rawInt]
theorem yMq {it t:Addr} {i:Nat} {items:Array Value} {Q:Value->Shared->Prop} (hh:A.handled=none) (hit:s.heap.IsTupleIter it t i) (ht:s.heap.IsTuple t items) (hx:items[i]?=none)
    (hE:∀ h' e,Heap.ExtBut it s.heap h'->Shared.TypeIs { s with heap:=h' } (.ref e) "StopIteration"->E (.ref e) { s with heap:=h' }):wpAny (model prog w) A (Builtin.SmallTypes.nextOf (.ref it)) Q E s:=by
  obtain ⟨o,ho,hc,hd⟩:=id hit
  obtain ⟨ol,hol,_,nl,hdl⟩:=ht
  unfold Builtin.SmallTypes.nextOf
  refine wpAny_bind (wpAny_callSpecial?_slot hit.typeIs F.slot_tuple_iterator_next (wpAny_call_entry F.slot_tuple_iterator_next hit.typeIs F.entry_tuple_iterator_next ?_ (F.args_tuple_iterator_next_1 _)))
  refine (show wpAny (model prog w) A.in1 (field (.ref it) 0 >>= _) _ _ s from wpAny_bind (wpAny_field ho hd (x:=.ref t) rfl ?_))
  refine (show wpAny (model prog w) A.in1 (if (Value.ref t==Value.none)=true then _ else _) _ _ s from ?_)
  rw [if_neg (show ¬ ((Value.ref t==Value.none)=true) from Bool.false_ne_true)]
  refine (show wpAny (model prog w) A.in1 (field (.ref it) 1 >>= _) _ _ s from wpAny_bind (wpAny_field ho hd (x:=.int i 0) rfl ?_))
  refine (show wpAny (model prog w) A.in1 (seqItems? (.ref t) >>= _) _ _ s from wpAny_bind (wpAny_seqItems hol hdl ?_))
  simp only [Int.toNat_natCast,hx]
  refine wpAny_bind (wpAny_rule (wpAny_bind (wpAny_setField ho hd (by simp) ?_)))
  exact KRv.stops (A:=A.in1) hh λ h' e kk hs=>hE _ e (λ b o' hb e'=>kk b o' ((Heap.SameBut.update ..).extBut b o' hb e')) hs
structure St (z TI TO i1 i2 l1 l2:Addr) (f0:Value) (i:Nat) (h:Heap):Prop where
  zip:IsZip h z TI TO f0
  ti:IsPair h TI (.ref i1) (.ref i2)
  to:∃ a b,IsPair h TO a b
  it1:h.IsTupleIter i1 l1 i
  it2:h.IsTupleIter i2 l2 i
variable {z TI TO i1 i2 l1 l2:Addr} {i:Nat} {xs ys:Array Value}
theorem nextZ {x y:Value} {Q:Option Value->Shared->Prop} (D:ZipApart z TI TO i1 i2 l1 l2) (st:St z TI TO i1 i2 l1 l2 .none i s.heap) (hl1:s.heap.IsTuple l1 xs) (hl2:s.heap.IsTuple l2 ys) (hx:xs[i]?=some x) (hy:ys[i]?=some y)
    (hQ:∀ h',St z TI TO i1 i2 l1 l2 (rawInt s.heap.objs.size) (i+1) h'->IsPair h' s.heap.objs.size x y->(∀ c o,c≠z->c≠TO->c≠i1->c≠i2->s.heap.get? c=some o->h'.get? c=some o)->Q (some (.ref s.heap.objs.size)) { s with heap:=h' }) :
    wpAny (model prog w) A (pyNext (.ref z)) Q E s:=by
  obtain ⟨hz,hTI,⟨a,b,hTO⟩,h1,h2⟩:=st
  have hT:s.TypeIs (.ref z) "zip":=⟨_,hz,rfl⟩
  unfold pyNext
  refine wpAny_bind (wpAny_attempt (wpAny_callSpecial?_slot hT F.slot_zip_next (wpAny_call_entry F.slot_zip_next hT F.entry_zip_next ?_ (F.args_zip_next_1 _))))
  refine (show wpAny (model prog w) A.in1 (field (.ref z) 2 >>= _) _ _ _ from wpAny_bind (wpAny_field hz rfl (x:=.bool false) rfl ?_))
  refine (show wpAny (model prog w) A.in1 (field (.ref z) 3 >>= _) _ _ _ from wpAny_bind (wpAny_field hz rfl (x:=.ref TI) rfl (wpAny_bind (wpAny_seqItems hTI rfl ?_))))
  refine (show wpAny (model prog w) A.in1 (Builtin.SmallTypes.ownedTupleIsFree (.ref z) >>= _) _ _ _ from wpAny_bind ?_)
  unfold Builtin.SmallTypes.ownedTupleIsFree
  refine wpAny_bind (wpAny_field hz rfl (x:=.none) rfl (wpAny_pure ?_))
  simp only [if_true]
  refine wpAny_bind (wpAny_rule (wpAny_bind (wpAny_field hz rfl (x:=.ref TO) rfl (wpAny_bind (wpAny_setField_rec hz (by simp) λ g1 hz1 k1=>wpAny_bind ?_)))))
  replace hz1:IsZip g1 z TI TO .ellipsis:=hz1
  simp only [List.zipIdx_cons,List.zipIdx_nil,List.forIn_cons,List.forIn_nil]
  refine wpAny_bind (wpAny_bind (wpAny_onRaise ?_))
  refine (show wpAny (model prog w) A.in1 (Builtin.SmallTypes.nextOf (.ref i1) >>= _) _ _ _ from wpAny_bind (oneT (h1.extBut k1.extBut D.i1z) (hl1.extBut k1.extBut D.l1z) hx λ g2 j1 k2=>wpAny_pure ?_))
  have hTO2:IsPair g2 TO a b:=k2.extBut _ _ D.TOi1 (k1.extBut _ _ D.TOz hTO)
  refine wpAny_bind (wpAny_seqItems hTO2 rfl (wpAny_bind (wpAny_updateSeq_pair hTO2 λ g3 hTO3 k3=>wpAny_bind (wpAny_letGo (wpAny_pure ?_)))))
  replace hTO3:IsPair g3 TO x b:=hTO3
  refine wpAny_bind (wpAny_bind (wpAny_onRaise ?_))
  refine (show wpAny (model prog w) A.in1 (Builtin.SmallTypes.nextOf (.ref i2) >>= _) _ _ _ from wpAny_bind (oneT (((h2.extBut k1.extBut D.i2z).extBut k2.extBut D.i12.symm).extBut k3.extBut D.TOi2.symm) (((hl2.extBut k1.extBut D.l2z).extBut k2.extBut D.l2i1).extBut k3.extBut D.l2TO) hy λ g4 j2 k4=>wpAny_pure ?_))
  have hTO4:IsPair g4 TO x b:=k4.extBut _ _ D.TOi2 hTO3
  refine wpAny_bind (wpAny_seqItems hTO4 rfl (wpAny_bind (wpAny_updateSeq_pair hTO4 λ g5 hTO5 k5=>wpAny_bind (wpAny_letGo (wpAny_pure (wpAny_pure ?_))))))
  replace hTO5:IsPair g5 TO x y:=hTO5
  refine wpAny_bind (wpAny_seqItems hTO5 rfl (wpAny_bind (wpAny_newTuple ?_)))
  have hsz:g5.objs.size=s.heap.objs.size:=by rw [k5.1,k4.1,k3.1,k2.1,k1.1]
  have hz5:IsZip g5 z TI TO .ellipsis:=k5.extBut _ _ D.TOz.symm (k4.extBut _ _ D.i2z.symm (k3.extBut _ _ D.TOz.symm (k2.extBut _ _ D.i1z.symm hz1)))
  have keep:∀ c o,c≠z->c≠TO->c≠i1->c≠i2->s.heap.get? c=some o->g5.get? c=some o:=λ c o c1 c2 c3 c4 e=>k5.extBut _ _ c2 (k4.extBut _ _ c4 (k3.extBut _ _ c2 (k2.extBut _ _ c3 (k1.extBut _ _ c1 e))))
  have J1:g5.IsTupleIter i1 l1 (i+1):=((j1.extBut k3.extBut D.TOi1.symm).extBut k4.extBut D.i12).extBut k5.extBut D.TOi1.symm
  have J2:g5.IsTupleIter i2 l2 (i+1):=j2.extBut k5.extBut D.TOi2.symm
  refine (show wpAny (model prog w) A.in1 (Builtin.SmallTypes.ownedTupleHandOut (.ref z) (.ref g5.objs.size) >>= _) _ _ _ from wpAny_bind ?_)
  unfold Builtin.SmallTypes.ownedTupleHandOut
  have hz6:IsZip (g5.push { cls:=.type "tuple", data:=.seq #[x,y] }) z TI TO .ellipsis:=Heap.get?_push_of_some _ hz5
  refine wpAny_bind (wpAny_setField_rec hz6 (by simp) λ g7 hz7 k7=>?_)
  replace hz7:IsZip g7 z TI TO (rawInt g5.objs.size):=hz7
  refine wpAny_setField_rec hz7 (by simp) λ g8 hz8 k8=>?_
  replace hz8:IsZip g8 z TI TO (rawInt g5.objs.size):=hz8
  have up:∀ c o,c≠z->g5.get? c=some o->g8.get? c=some o:=λ c o c1 e=>k8.extBut _ _ c1 (k7.extBut _ _ c1 (Heap.get?_push_of_some _ e))
  have hzl:g5.objs.size≠z:=Nat.ne_of_gt (Heap.lt_size hz5)
  have hT8:IsPair g8 g5.objs.size x y:=k8.extBut _ _ hzl (k7.extBut _ _ hzl (Heap.get?_push_size _ rfl))
  rw [hsz] at hz8 hT8
  refine wpAny_pure ⟨_,rfl,wpAny_pure ?_⟩
  rw [hsz]
  exact hQ g8 ⟨hz8,up _ _ D.TIz (keep _ _ D.TIz D.TITO D.TIi1 D.TIi2 hTI),⟨x,y,up _ _ D.TOz hTO5⟩,let ⟨o,ho,r⟩:=J1;⟨o,up _ _ D.i1z ho,r⟩,let ⟨o,ho,r⟩:=J2;⟨o,up _ _ D.i2z ho,r⟩⟩ hT8 λ c o c1 c2 c3 c4 e=>up c o c1 (keep c o c1 c2 c3 c4 e)
theorem endZ {Q:Option Value->Shared->Prop} (hh:A.handled=none) (D:ZipApart z TI TO i1 i2 l1 l2) (st:St z TI TO i1 i2 l1 l2 .none i s.heap) (hl1:s.heap.IsTuple l1 xs) (hx:xs[i]?=none)
    (hQ:∀ h',(∀ c o,c≠z->c≠TO->c≠i1->c≠i2->s.heap.get? c=some o->h'.get? c=some o)->Q none { s with heap:=h' }):wpAny (model prog w) A (pyNext (.ref z)) Q E s:=by
  obtain ⟨hz,hTI,⟨a,b,hTO⟩,h1,h2⟩:=st
  have hT:s.TypeIs (.ref z) "zip":=⟨_,hz,rfl⟩
  unfold pyNext
  refine wpAny_bind (wpAny_attempt (wpAny_callSpecial?_slot hT F.slot_zip_next (wpAny_call_entry F.slot_zip_next hT F.entry_zip_next ?_ (F.args_zip_next_1 _))))
  refine (show wpAny (model prog w) A.in1 (field (.ref z) 2 >>= _) _ _ _ from wpAny_bind (wpAny_field hz rfl (x:=.bool false) rfl ?_))
  refine (show wpAny (model prog w) A.in1 (field (.ref z) 3 >>= _) _ _ _ from wpAny_bind (wpAny_field hz rfl (x:=.ref TI) rfl (wpAny_bind (wpAny_seqItems hTI rfl ?_))))
  refine (show wpAny (model prog w) A.in1 (Builtin.SmallTypes.ownedTupleIsFree (.ref z) >>= _) _ _ _ from wpAny_bind ?_)
  unfold Builtin.SmallTypes.ownedTupleIsFree
  refine wpAny_bind (wpAny_field hz rfl (x:=.none) rfl (wpAny_pure ?_))
  simp only [if_true]
  refine wpAny_bind (wpAny_rule (wpAny_bind (wpAny_field hz rfl (x:=.ref TO) rfl (wpAny_bind (wpAny_setField_rec hz (by simp) λ g1 hz1 k1=>wpAny_bind ?_)))))
  replace hz1:IsZip g1 z TI TO .ellipsis:=hz1
  simp only [List.zipIdx_cons,List.zipIdx_nil,List.forIn_cons,List.forIn_nil]
  refine wpAny_bind (wpAny_bind (wpAny_onRaise ?_))
  refine (show wpAny (model prog w) A.in1 (Builtin.SmallTypes.nextOf (.ref i1) >>= _) _ _ _ from wpAny_bind (yMq (A:=A.in1) hh (h1.extBut k1.extBut D.i1z) (hl1.extBut k1.extBut D.l1z) hx λ g2 e k2 he=>?_))
  obtain ⟨oe,hoe,hce⟩:=he
  have hz2:IsZip g2 z TI TO .ellipsis:=k2 _ _ D.i1z.symm hz1
  have hez:e≠z:=λ q=>by
    subst q
    have q2:some _=some oe:=Eq.trans (Eq.symm hz2) hoe
    cases q2
    simp at hce
  refine wpAny_setField_rec hz2 (by simp) λ g3 _ k3=>?_
  refine wpAny_bind (wpAny_isInstance (T:="StopIteration") (b:=true) ⟨oe,k3.extBut _ _ hez hoe,hce⟩ isSubtype_stop (wpAny_pure (hQ _ λ c o c1 _ c3 _ q=>?_)))
  exact k3.extBut _ _ c1 (k2 _ _ c3 (k1.extBut _ _ c1 q))
end
abbrev g1 (h:Heap) (l1:Addr):Heap:=h.push { cls:=.type "tuple_iterator", data:=.fields #[.ref l1,.int 0 0] }
abbrev g2 (h:Heap) (l1 l2:Addr):Heap:=(g1 h l1).push { cls:=.type "tuple_iterator", data:=.fields #[.ref l2,.int 0 0] }
abbrev g3 (h:Heap) (l1 l2:Addr):Heap:=(g2 h l1 l2).push { cls:=.type "tuple", data:=.seq #[.ref h.objs.size,.ref (g1 h l1).objs.size] }
abbrev g4 (h:Heap) (l1 l2:Addr):Heap:=(g3 h l1 l2).push { cls:=.type "tuple", data:=.seq #[.none,.none] }
abbrev g5 (h:Heap) (l1 l2:Addr):Heap:=(g4 h l1 l2).push { cls:=.type "zip", data:=.fields #[.none,.bool false,.bool false,.ref (g2 h l1 l2).objs.size,.ref (g3 h l1 l2).objs.size] }
theorem newZ (l1 l2:Addr) (xs ys:Array Value) :
    Meets (Builtin.«zip.__new__» ⟨[.type "zip", .ref l1,.ref l2],[]⟩) (λ _ R s=>s.heap.IsTuple l1 xs/\s.heap.IsTuple l2 ys/\R (.ok (.ret (.ref (g4 s.heap l1 l2).objs.size))) { s with heap:=g5 s.heap l1 l2 }):=
  .of_wp λ prog w A R s h=>by
    obtain ⟨hp,g,d,tk,os⟩:=s
    obtain ⟨hl1,hl2,h⟩:=h
    have hsub:=sub_zip
    have hL1:Heap.IsTuple (Shared.heap ⟨hp,g,d,tk,os⟩) l1 xs:=hl1
    have hL2:Heap.IsTuple (Shared.heap ⟨g1 hp l1,g,d,tk,os⟩) l2 ys:=Heap.IsTuple.push hl2 _
    wp_walk using wpAny_pyIter_tuple hL1,wpAny_pyIter_tuple hL2
    exact ⟨_,rfl,h⟩
theorem callZ {prog:Program} {w:World} {A:Around} {E:Value->Shared->Prop} {s:Shared} {l1 l2:Addr} {xs ys:Array Value} {Q:Value->Shared->Prop} (hl1:s.heap.IsTuple l1 xs) (hl2:s.heap.IsTuple l2 ys)
    (h:∀ h',St (s.heap.objs.size+4) (s.heap.objs.size+2) (s.heap.objs.size+3) s.heap.objs.size (s.heap.objs.size+1) l1 l2 .none 0 h'->(∀ c o,s.heap.get? c=some o->h'.get? c=some o)->Q (.ref (s.heap.objs.size+4)) { s with heap:=h' }) :
    wpAny (model prog w) A (call (.type "zip") [.ref l1,.ref l2]) Q E s:=by
  refine callType_new F.called_zip (by decide) (F.typeCall_zip_2 _ _) (F.newCall_zip_2 _ _) (λ obj=>F.args_object_init_3 obj _ _) F.entry_zip_new (newZ l1 l2 xs ys) ⟨hl1,hl2,?_⟩
  have z1:(g1 s.heap l1).objs.size=s.heap.objs.size+1:=Heap.size_push ..
  have z2:(g2 s.heap l1 l2).objs.size=s.heap.objs.size+2:=by rw [Heap.size_push,z1]
  have z3:(g3 s.heap l1 l2).objs.size=s.heap.objs.size+3:=by rw [Heap.size_push,z2]
  have z4:(g4 s.heap l1 l2).objs.size=s.heap.objs.size+4:=by rw [Heap.size_push,z3]
  have e5:(g5 s.heap l1 l2).get? (g4 s.heap l1 l2).objs.size=some _:=Heap.get?_push_size _ rfl
  have e4:(g5 s.heap l1 l2).get? (g3 s.heap l1 l2).objs.size=some _:=Heap.get?_push_of_some _ (Heap.get?_push_size _ rfl)
  have e3:(g5 s.heap l1 l2).get? (g2 s.heap l1 l2).objs.size=some _:=Heap.get?_push_of_some _ (Heap.get?_push_of_some _ (Heap.get?_push_size _ rfl))
  have e2:(g5 s.heap l1 l2).get? (g1 s.heap l1).objs.size=some _:=Heap.get?_push_of_some _ (Heap.get?_push_of_some _ (Heap.get?_push_of_some _ (Heap.get?_push_size _ rfl)))
  have e1:(g5 s.heap l1 l2).get? s.heap.objs.size=some _:=Heap.get?_push_of_some _ (Heap.get?_push_of_some _ (Heap.get?_push_of_some _ (Heap.get?_push_of_some _ (Heap.get?_push_size _ rfl))))
  rw [z2,z3,z4] at e5
  rw [z1,z2] at e3
  rw [z3] at e4
  rw [z1] at e2
  show _/\_
  rw [z4]
  exact ⟨⟨_,e5,rfl⟩,h _ ⟨e5,e3,⟨_,_,e4⟩,⟨_,e1,rfl,rfl⟩,⟨_,e2,rfl,rfl⟩⟩ λ c o x=>Heap.get?_push_of_some _ (Heap.get?_push_of_some _ (Heap.get?_push_of_some _ (Heap.get?_push_of_some _ (Heap.get?_push_of_some _ x))))⟩
end KZp
namespace L2
open PySem PySem.Spec PyProof.Rows
theorem Inv.turnedL {X:Cx} {pins:List (Addr × Obj)} {σ:St} {H:Hp} {s:Shared} {h':Heap} {t':Nat} {fp:List Addr} (I:Inv X pins σ H s) (hf:∀ b∈fp,hYq X pins H b) (k:∀ b o,b ∉ fp->s.heap.get? b=some o->h'.get? b=some o):Inv X pins σ H { s with heap:=h',toks:=t' }:=by
  have nit:∀ b u,H b=some u->b ∉ fp:=λ b u e z=>by rw [(hf b z).1] at e;cases e
  refine I.step (g':=s.gens) (d':=s.drawn) (ch:=fp) (λ b hb=>?_) (λ b o _ _ hc e _=>k b o hc e) (λ b o _ _ hc e _=>⟨o.slots,k b o hc e⟩) (λ _ _ _ _ n=>n)
    (λ b o hc e=>⟨o,k b o hc e⟩) (λ _ _ e=>e) (λ _ _ _ e=>e) (λ b ps e=>⟨#[],by rw [e];simp⟩) (λ m hm=>?_) (λ b u e=>?_) I.bare
  . obtain ⟨f0,f1,f2,f3,f4,f5⟩:=hf b hb
    exact ⟨f3,f1,f4,f5⟩
  . obtain ⟨o,es,ep,ho,r⟩:=hm
    exact ⟨o,es,ep,k _ o (λ z=>(hf _ z).2.1 rfl) ho,r⟩
  . refine (I.hok b u e).stay (λ c v hc q=>k c v ?_ q) (λ _ q=>q) λ _ _ q=>q
    rcases hc with z | z
    . rw [z];exact nit b u e
    . exact nit c _ z
theorem apart (n a b:Nat) (h1:a < n) (h2:b < n):ZipApart (n+4) (n+2) (n+3) n (n+1) a b:=by
  constructor<;>(intro e;have e':(@Eq Nat _ _):=e;omega)
def Itz (K:PySem.W.Frag) (a b:Addr):It:=
  ⟨λ i H=>∃ xs ys x y,SqT K H a xs/\SqT K H b ys/\xs[i]?=some x/\ys[i]?=some y,λ i H v H'=>∃ T x y,v=.ref T/\H T=none/\H'=upd H T (.tup [x,y])/\(∀ xs,SqT K H a xs->xs[i]?=some x)/\∀ ys,SqT K H b ys->ys[i]?=some y,λ i H=>∃ xs,SqT K H a xs/\xs.length<=i⟩
theorem pBq {P:Program} {w:World} {K:PySem.W.Frag} {es:List Expr} {k:Nat} {pos:Pos} {z TI TO i1 i2 l1 l2:Addr} (D:ZipApart z TI TO i1 i2 l1 l2) :
    Turn P w K (.Tuple es k pos) (Itz K l1 l2) [z,TI,TO,i1,i2] z (λ i h=>KZp.St z TI TO i1 i2 l1 l2 .none i h) where
  mem:=by simp
  obj:=λ i h st b hb=>by
    simp only [List.mem_cons,List.not_mem_nil,or_false] at hb
    obtain ⟨a1,a2,⟨p,q,a3⟩,⟨o4,a4,_,d4⟩,⟨o5,a5,_,d5⟩⟩:=st
    rcases hb with rfl | rfl | rfl | rfl | rfl
    . exact ⟨_,a1,λ v e=>by cases (show Data.fields _=Data.cell v from e)⟩
    . exact ⟨_,a2,λ v e=>by cases (show Data.seq _ _=Data.cell v from e)⟩
    . exact ⟨_,a3,λ v e=>by cases (show Data.seq _ _=Data.cell v from e)⟩
    . exact ⟨_,a4,λ v e=>by rw [d4] at e;cases e⟩
    . exact ⟨_,a5,λ v e=>by rw [d5] at e;cases e⟩
  keep:=λ i h h' st kk=>by
    obtain ⟨a1,a2,⟨p,q,a3⟩,⟨o4,a4,r4⟩,⟨o5,a5,r5⟩⟩:=st
    exact ⟨kk _ (by simp) _ a1,kk _ (by simp) _ a2,⟨p,q,kk _ (by simp) _ a3⟩,⟨o4,kk _ (by simp) _ a4,r4⟩,⟨o5,kk _ (by simp) _ a5,r5⟩⟩
  item:=by
    intro X hP hw hK hc i pins s σ H E I hf st hg
    subst hP hw hK
    obtain ⟨xs,ys,x,y,hq1,hq2,hx,hy⟩:=hg
    obtain ⟨its1,rv1,p1,_⟩:=I.tuple hq1
    obtain ⟨its2,rv2,p2,_⟩:=I.tuple hq2
    obtain ⟨u1,hu1,ru1⟩:=rv1.get hx
    obtain ⟨u2,hu2,ru2⟩:=rv2.get hy
    refine KZp.nextZ D st (show s.heap.IsTuple l1 its1.toArray from p1) (show s.heap.IsTuple l2 its2.toArray from p2) (x:=u1) (y:=u2) (by simpa using hu1) (by simpa using hu2) λ h' st' hT kk=>?_
    refine ⟨_,rfl,wpAny_letOwnedTupleGo_zip st'.zip λ h2 hz2 k2=>?_⟩
    have kk2:∀ b o,b ∉ [z,TI,TO,i1,i2]->s.heap.get? b=some o->h2.get? b=some o:=λ b o hb e=>by
      simp only [List.mem_cons,List.not_mem_nil,or_false,not_or] at hb
      exact k2.extBut _ _ hb.1 (kk b o hb.1 hb.2.2.1 hb.2.2.2.1 hb.2.2.2.2 e)
    have I1:Inv X pins σ (upd H s.heap.objs.size (.tup [x,y])) { s with heap:=s.heap.push { cls:=.type "tuple", data:=.seq #[u1,u2] } }:=
      I.laid (t':=s.toks) (λ b o e=>Heap.get?_push_of_some _ e) (Nat.le_refl _) (show ObjOk X.prog X.w _ _ _ (.tup [x,y]) from ⟨by show 2<=sizeLine;decide,[u1,u2],.cons ru1 (.cons ru2 .nil),IsTup.new _ _⟩)
    have hzT:s.heap.objs.size≠z:=Nat.ne_of_gt (Heap.lt_size st.zip)
    have lts:∀ b∈[z,TI,TO,i1,i2],b < s.heap.objs.size:=λ b hb=>by
      obtain ⟨a1,a2,⟨p,q,a3⟩,⟨o4,a4,_⟩,⟨o5,a5,_⟩⟩:=st
      simp only [List.mem_cons,List.not_mem_nil,or_false] at hb
      rcases hb with rfl | rfl | rfl | rfl | rfl
      . exact Heap.lt_size a1
      . exact Heap.lt_size a2
      . exact Heap.lt_size a3
      . exact Heap.lt_size a4
      . exact Heap.lt_size a5
    have I2:Inv X pins σ (upd H s.heap.objs.size (.tup [x,y])) { s with heap:=h2 }:=
      Inv.turnedL (s:={ s with heap:=s.heap.push { cls:=.type "tuple", data:=.seq #[u1,u2] } }) (h':=h2) (t':=s.toks) (fp:=[z,TI,TO,i1,i2]) I1 (λ b hb=>by
        obtain ⟨f0,fr⟩:=hf b hb
        exact ⟨by rw [aEq (Nat.ne_of_lt (lts b hb))];exact f0,fr⟩) (λ b o hb e=>by
        rcases Heap.get?_push_cases e with ⟨e1,e2⟩ | e
        . rw [e1,e2];exact k2.extBut _ _ hzT hT
        . exact kk2 b o hb e)
    refine ⟨.ref s.heap.objs.size,_,I2,rfl,⟨_,x,y,rfl,I.hok.fresh (Nat.le_refl _),rfl,λ xs' h=>by rw [I.tuple_inj h hq1];exact hx,λ ys' h=>by rw [I.tuple_inj h hq2];exact hy⟩,?_,λ b hb=>by rw [aEq (Nat.ne_of_lt (lts b hb))];exact (hf b hb).1⟩
    obtain ⟨a1,a2,⟨p,q,a3⟩,⟨o4,a4,r4⟩,⟨o5,a5,r5⟩⟩:=st'
    exact ⟨hz2,k2.extBut _ _ D.TIz a2,⟨p,q,k2.extBut _ _ D.TOz a3⟩,⟨o4,k2.extBut _ _ D.i1z a4,r4⟩,⟨o5,k2.extBut _ _ D.i2z a5,r5⟩⟩
  done:=by
    intro X hP hw hK hc i pins s σ H E I hf st hg
    subst hP hw hK
    obtain ⟨xs,hq1,hx⟩:=hg
    obtain ⟨its1,rv1,p1,_⟩:=I.tuple hq1
    have hl:=rv1.length
    refine KZp.endZ (I.ok.hd hc) D st (show s.heap.IsTuple l1 its1.toArray from p1) (by simp;omega) λ h' kk=>⟨rfl,?_⟩
    exact I.turnedL (t':=s.toks) (fp:=[z,TI,TO,i1,i2]) hf λ b o hb e=>by
      simp only [List.mem_cons,List.not_mem_nil,or_false,not_or] at hb
      exact kk b o hb.1 hb.2.2.1 hb.2.2.2.1 hb.2.2.2.2 e
  self:=λ _ _ _ _ _ st h=>wpAny_pyIter_zip st.zip h
section
variable {X:Cx}
def iZip (K:PySem.W.Frag) (t:TA):TI:=λ σ H R=>t σ H λ vs H1=>∃ a b,vs=[.ref a,.ref b]/\(∃ xs,SqT K H1 a xs)/\(∃ ys,SqT K H1 b ys)/\R (Itz K a b) H1
theorem wDq {es:List Expr} {k:Nat} {tp:Pos} {a b:Expr} {t:TA} {p pos:Pos} (hg:Gl X "zip") (hm:X.mg "zip" = none) (ha:PA X [a,b] t) (h1:aSq a=true) (h2:aSq b=true):PI X (.Tuple es k tp) (.Call (.Name "zip" p) [a,b] [] pos) (iZip X.K t):=by
  intro pins s σ H R I h
  have hs:starEach [a,b] X.env=(false,eval a X.env)::starEach [b] X.env:=a9q h1
  have hp:(backTo pos (starEach [b] X.env)).any (·.1)=false:=by rw [a9q h2];rfl
  refine Call_ (c3q I hg hm PyProof.Rows.boot_zip (PyProof.Rows.callWith_type1 (thn (ha pos pins s σ H _ I h) λ us s1 ⟨vs,H1,I1,r1,l1,l2,ev,⟨xs,q1⟩,⟨ys,q2⟩,q⟩=>?_) hs hp))
  subst ev
  cases r1 with
  | cons r rr=>
    cases rr with
    | cons r' rr=>
      cases rr
      cases r
      cases r'
      obtain ⟨its1,rv1,p1,_⟩:=I1.tuple q1
      obtain ⟨its2,rv2,p2,_⟩:=I1.tuple q2
      refine KZp.callZ (show s1.heap.IsTuple l1 its1.toArray from p1) (show s1.heap.IsTuple l2 its2.toArray from p2) λ h' st kk=>wpAny_pyIter_zip st.zip ?_
      have b1:=p1.lt
      have b2:=p2.lt
      have D:ZipApart (s1.heap.objs.size+4) (s1.heap.objs.size+2) (s1.heap.objs.size+3) s1.heap.objs.size (s1.heap.objs.size+1) l1 l2:=apart _ _ _ b1 b2
      refine ⟨s1.heap.objs.size+4,_,_,_,H1,rfl,I1.kept (t':=s1.toks) kk,pBq D,st,λ b hb=>?_,q⟩
      have hb':s1.heap.objs.size<=b:=by
        simp only [List.mem_cons,List.not_mem_nil,or_false] at hb
        rcases hb with e | e | e | e | e<;>(rw [e];first | exact Nat.le_refl _ | exact Nat.le_add_right _ _)
      exact I1.fpOk hb' (I1.hok.fresh hb')
theorem uIq {es:List Expr} {k:Nat} {tp:Pos} {a b:Expr} {t:TA} {p pos:Pos} (hg:Gl X "zip") (hm:X.mg "zip" = none) (ha:JA X [a,b] t) (h1:aSq a=true:=by rfl) (h2:aSq b=true:=by rfl):JI X (.Tuple es k tp) (.Call (.Name "zip" p) [a,b] [] pos) (iZip X.K t):=⟨wDq hg hm ha.run h1 h2⟩
end
def fzn (o:Obj):HO:=.frz o (.ext λ _=>True)
def less (H:Hp) (as:List Addr):Hp:=λ b=>if b∈as then none else H b
def more (H:Hp) (as:List Addr) (H0:Hp):Hp:=λ b=>if b∈as then H0 b else H b
theorem fFq {H:Hp} {as:List Addr} {b:Addr} (h:b∈as):less H as b=none:=by unfold less;rw [if_pos h]
theorem aYq {H:Hp} {as:List Addr} {b:Addr} (h:b ∉ as):less H as b=H b:=by unfold less;rw [if_neg h]
theorem eXq {H H0:Hp} {as:List Addr} {b:Addr} (h:b∈as):more H as H0 b=H0 b:=by unfold more;rw [if_pos h]
theorem bIq {H H0:Hp} {as:List Addr} {b:Addr} (h:b ∉ as):more H as H0 b=H b:=by unfold more;rw [if_neg h]
theorem bRq {H:Hp} {as:List Addr} {b:Addr} (h:H b=none):less H as b=none:=by unfold less;split<;>first | rfl | exact h
section
variable {P:Program} {w:World} {H H':Hp} {h h':Heap} {as:List Addr}
def Frz (H:Hp) (as:List Addr):Prop:=∀ a∈as,∃ o,H a=some (fzn o)
theorem c7q {a:Addr} {o:Obj} (ok:HOk P w H h) (e:H a=some (fzn o)):h.get? a=some o:=(ok a _ e).1
theorem iIq {a:Addr} {o:Obj} (e:h.get? a=some o):ObjOk P w H h a (fzn o):=⟨e,trivial,⟨o,e⟩,λ _ _ _ _=>trivial⟩
theorem HOk.less (ok:HOk P w H h) (fz:Frz H as):HOk P w (less H as) h:=λ b u e=>by
  have hb:b ∉ as:=λ z=>by rw [fFq z] at e;cases e
  rw [aYq hb] at e
  refine (ok b u e).stay (λ c v _ q=>q) (λ c q=>?_) λ c xs q=>?_
  . rw [aYq λ z=>?_];exact q
    obtain ⟨o,z⟩:=fz c z;rw [q] at z;cases z
  . rw [aYq λ z=>?_];exact q
    obtain ⟨o,z⟩:=fz c z;rw [q] at z;cases z
theorem HOk.more {H0:Hp} (ok:HOk P w H' h') (no:∀ a∈as,H' a=none) (fz:∀ a∈as,∃ o,H0 a=some (fzn o)/\h'.get? a=some o):HOk P w (more H' as H0) h':=λ b u e=>by
  by_cases hb:b∈as
  . obtain ⟨o,e1,e2⟩:=fz b hb
    rw [eXq hb,e1] at e
    cases e
    exact iIq e2
  . rw [bIq hb] at e
    refine (ok b u e).stay (λ c v _ q=>q) (λ c q=>?_) λ c xs q=>?_
    . rw [bIq λ z=>?_];exact q
      rw [no c z] at q;cases q
    . rw [bIq λ z=>?_];exact q
      rw [no c z] at q;cases q
theorem Un.more {fs:List Addr} (u:Un fs [] (less H as) H' h h') (ok:HOk P w H h) (fz:Frz H as) (nf:∀ a∈as,a ∉ fs):Un fs [] H (more H' as H) h h' where
  keep:=λ b o e n hb hx=>by
    exact u.keep b o e (bRq n) hb hx
  slot:=λ b o e n hb hx=>u.slot b o e (bRq n) hb hx
  free:=λ b o e n hx=>by
    have hb:b ∉ as:=λ z=>by obtain ⟨o',z⟩:=fz b z;rw [n] at z;cases z
    rw [bIq hb];exact u.free b o e (bRq n) hx
  there:=λ b o e hx=>u.there b o e hx
  tups:=λ b xs e=>by
    have hb:b ∉ as:=λ z=>by obtain ⟨o',z⟩:=fz b z;rw [e] at z;cases z
    rw [bIq hb];exact u.tups b xs (by rw [aYq hb];exact e)
  frzs:=λ b o v e=>by
    by_cases hb:b∈as
    . rw [eXq hb];exact e
    . rw [bIq hb];exact u.frzs b o v (by rw [aYq hb];exact e)
  tbls:=λ b ps e=>by
    have hb:b ∉ as:=λ z=>by obtain ⟨o',z⟩:=fz b z;rw [e] at z;cases z
    rw [bIq hb];exact u.tbls b ps (by rw [aYq hb];exact e)
end
structure CloScope (N ps fr:List Str) (sc:Scope):Prop where
  kind:sc.kind=.function
  co:sc.isCoroutine=false
  gen:sc.isGenerator=false
  nd:N.Nodup
  pre:N.take ps.length=ps
  suf:N.drop (N.length - fr.length)=fr
  len:ps.length+fr.length<=N.length
  par:∀ x∈ps,sc.names.lookup x=some .local
  nocell:∀ y∈sc.names,y.2≠.cell
  free:∀ y∈sc.names,y.2=.free->y.1∈fr
  fvis:∀ x∈fr,sc.names.lookup x=some .free
structure CloAt (H:Hp) (f:Addr) (name qual:Str) (st:Stmt) (cl:List (Str × Addr)) (fvs:List V):Prop where
  fn:∃ (oc:Value) (od:Option Addr) (doc pm cdv ct:Value) (sl:Array (Option Value)),H f=some (fzn ⟨oc,od,.func (PySem.W.fnX name qual (bGq st) (b2q st) (a5q st) cl .none .none doc pm none cdv ct),sl⟩) ∧
    ∃ c o vs t,cdv=.ref c/\H c=some (fzn o)/\o.data=.fields vs/\vs[1]?=some (.str qual t)
  cells:∀ (i:Nat) (x:Str) (c:Addr),cl[i]?=some (x,c)->∃ v u o,fvs[i]?=some v/\RelV v u/\H c=some (fzn o)/\o.data=.cell (some u)
  len:cl.length=fvs.length
  nda:(cl.map (·.2)).Nodup
structure CloOk (P:Program) (w:World) (K:PySem.W.Frag) (mg:Str->Option Value) (base:Heap) (k:Nat) (name qual:Str) (st:Stmt) (fr:List Str) (fvs:List V) (ps:List Str) (sp:Sp):Prop where
  len:∀ vs H Q E,sp vs H Q E->vs.length=ps.length
  run:∀ (A:Around) (outer:List Env) (s:Shared) (H:Hp) (f:Addr) (cl:List (Str × Addr)) (us:List Value) (vs:List V) (Q:VK) (E:XK),Room k A->Env0 P w K mg base A outer s H->CloAt H f name qual st cl fvs->cl.map (·.1)=fr->Vals vs us->sp vs H Q E →
    codeAny (model P w) A (.call (.ref f) ⟨us,[]⟩) (CR CX0 outer P w H s Q E) s
def jGq (P:Program) (w:World) (K:PySem.W.Frag) (mg:Str->Option Value) (base:Heap) (N:List Str) (qual:Str) (scope:Scope) (f:Addr) (cd:Value) (cl:List (Str × Addr)) (A:Around) (outer:List Env) (s:Shared) (H:Hp):Cx where
  prog:=P
  w:=w
  K:=K
  mg:=mg
  base:=base
  A:=A.deeper (PySem.W.envX qual scope s.heap.objs.size f cd cl)
  N:=N
  s₀:=s
  H₀:=H
  env:=PySem.W.envX qual scope s.heap.objs.size f cd cl
  outer:=outer
  stack:=PySem.W.envX qual scope s.heap.objs.size f cd cl::outer
  ex:=[]
  calm:=true
  fn:=λ _=>false
  pn:=[]
  xe:=λ _ _=>False
def cGq (N:List Str) (vs fvs:List V):St:=vs.map some++List.replicate (N.length - vs.length - fvs.length) none++fvs.map some
theorem g3q {l:List (Str × Value)} (nd:(l.map (·.1)).Nodup) {x:Str} {u:Value} (h:(x,u)∈l):l.reverse.lookup x=some u:=by
  have nd':(l.reverse.map (·.1)).Nodup:=by rw [List.map_reverse];exact List.pairwise_reverse.mpr (List.Pairwise.imp (λ h=>Ne.symm h) nd)
  have h':(x,u)∈l.reverse:=List.mem_reverse.mpr h
  generalize l.reverse=m at nd' h'
  induction m with
  | nil=>cases h'
  | cons y r ih=>
    rw [List.map_cons,List.nodup_cons] at nd'
    rcases List.mem_cons.mp h' with e | e
    . subst e;simp
    . have ne:x≠y.1:=λ z=>nd'.1 (by rw [<- z];exact List.mem_map_of_mem e)
      rw [List.lookup_cons,beq_false_of_ne ne]
      exact ih nd'.2 e
section
variable {P:Program} {w:World} {K:PySem.W.Frag} {mg:Str->Option Value} {base:Heap} {k:Nat} {name qual:Str} {st:Stmt} {fr:List Str} {fvs:List V} {N ps:List Str} {sp:Sp}
theorem CloAt.frz {H:Hp} {f:Addr} {cl:List (Str × Addr)} (C:CloAt H f name qual st cl fvs):Frz H (cl.map (·.2)):=λ a ha=>by
  obtain ⟨⟨x,c⟩,hm,rfl⟩:=List.mem_map.mp ha
  obtain ⟨i,hi,e⟩:=List.getElem_of_mem hm
  obtain ⟨_,_,o,_,_,z,_⟩:=C.cells i x c (by rw [List.getElem?_eq_getElem hi,e])
  exact ⟨o,z⟩
theorem k8q:∀ {l:List (Str × Addr)} {x y:Str} {c:Addr},(l.map (·.2)).Nodup->(x,c)∈l->(y,c)∈l->x=y
  | q::l,x,y,c,nd,h1,h2=>by
    rw [List.map_cons,List.nodup_cons] at nd
    rcases List.mem_cons.mp h1 with e1 | e1<;>rcases List.mem_cons.mp h2 with e2 | e2
    . rw [<- e1] at e2;cases e2;rfl
    . exact absurd (List.mem_map_of_mem (f:=(·.2)) e2) (by rw [<- e1] at nd;exact nd.1)
    . exact absurd (List.mem_map_of_mem (f:=(·.2)) e1) (by rw [<- e2] at nd;exact nd.1)
    . exact k8q nd.2 e1 e2
theorem tYq {f:Addr} {cd:Value} {cl:List (Str × Addr)} {A:Around} {outer:List Env} {s:Shared} {H:Hp} {us:List Value} {vs:List V} {h₁:Heap} {tk:Nat} (S:CloScope N ps fr (a5q st)) (hd:A.handled=none) (e0:Env0 P w K mg base A outer s H) (C:CloAt H f name qual st cl fvs)
    (hcl:cl.map (·.1)=fr) (hl:vs.length=ps.length) (r:Vals vs us) (hns:h₁.Ns s.heap.objs.size (λ x=>(ps.zip us).reverse.lookup x)) (hk:∀ b o,s.heap.get? b=some o->h₁.get? b=some o) :
    Inv (jGq P w K mg base N qual (a5q st) f cd cl A outer s (less H (cl.map (·.2)))) [] (cGq N vs fvs) (less H (cl.map (·.2))) { s with heap:=h₁,toks:=tk }:=by
  have noA:∀ b:Addr,b ∉ ([]:List Addr):=λ b=>by simp
  have frl:fr.length=fvs.length:=by rw [<- hcl,List.length_map];exact C.len
  have ndN:(cl.map (·.1)).Nodup:=by rw [hcl,<- S.suf];exact S.nd.sublist (List.drop_sublist _ _)
  have lk:∀ {x:Str} {c:Addr},(x,c)∈cl->cl.lookup x=some c:=λ hm=>lookup_of_mem_nodup ndN hm
  have mem:∀ {x:Str} {c:Addr},cl.lookup x=some c->(x,c)∈cl:=λ h=>PySem.mem_of_lookup h
  have cellAt:∀ {x:Str} {c:Addr},(x,c)∈cl->∃ i v u o,cl[i]?=some (x,c)/\fvs[i]?=some v/\RelV v u/\H c=some (fzn o)/\o.data=.cell (some u):=λ{x c} hm=>by
    obtain ⟨i,hi,e⟩:=List.getElem_of_mem hm
    have e':cl[i]?=some (x,c):=by rw [List.getElem?_eq_getElem hi,e]
    obtain ⟨v,u,o,z⟩:=C.cells i x c e'
    exact ⟨i,v,u,o,e',z⟩
  have isCell:∀ {x:Str} {c:Addr},(x,c)∈cl->∃ u,h₁.IsCell c (some u):=λ hm=>by
    obtain ⟨i,v,u,o,_,_,_,z1,z2⟩:=cellAt hm
    exact ⟨u,o,hk _ _ (c7q e0.hok z1),z2⟩
  refine ⟨⟨e0.mod,S.kind,rfl,rfl,Nat.le_refl _,λ y z c h1 h2=>?_,λ y hy=>?_,λ y c h _=>?_,λ _=>hd,Around.frames_deeper e0.frames,.inr ⟨rfl,rfl⟩,λ b z=>absurd z (noA b),λ b o e=>⟨(e0.bs b o e).1,bRq (e0.bs b o e).2⟩,e0.bsz,λ b _ _=>noA b,λ b z=>absurd z (noA b),e0.funs,λ b hb=>bRq (e0.frf b hb)⟩,
    rfl,e0.bare,Un.kept hk,⟨_,hns,λ i y v h1 h2 h3=>?_⟩,λ y c h=>?_,bRq (e0.hok.fresh (Nat.le_refl _)),λ y c h=>fFq (List.mem_map_of_mem (mem h)),λ p hp=>absurd (show p∈([]:List (Addr × Obj)) from hp) (by simp),(e0.hok.less C.frz).kept hk,?_⟩
  . exact k8q C.nda (mem h1) (mem h2)
  . have hy:(a5q st).names.lookup y=some .cell\/(a5q st).names.lookup y=some .free:=hy
    rcases hy with hy | hy
    . exact absurd rfl (S.nocell _ (PySem.mem_of_lookup hy))
    . have hf:=S.free _ (PySem.mem_of_lookup hy) rfl
      rw [<- hcl] at hf
      obtain ⟨⟨x,c⟩,hm,e⟩:=List.mem_map.mp hf
      cases e
      exact ⟨c,lk hm⟩
  . exact absurd h (by simp [jGq])
  . have h1:N[i]?=some y:=h1
    have sl:=S.len
    by_cases hi:i < vs.length
    . have ha:vs[i]?=some v:=by
        unfold cGq at h2
        rw [List.append_assoc,List.getElem?_append_left (by simpa using hi),List.getElem?_map] at h2
        cases e:vs[i]? with
        | none=>rw [e] at h2;cases h2
        | some a=>rw [e] at h2;cases h2;rfl
      obtain ⟨u,hu,rv⟩:=r.get ha
      have hp:ps[i]?=some y:=by rw [<- S.pre,List.getElem?_take_of_lt (by omega)];exact h1
      have ndP:ps.Nodup:=by rw [<- S.pre];exact S.nd.sublist (List.take_sublist _ _)
      refine ⟨u,rv,.inl ⟨S.par y (List.mem_of_getElem? hp),?_⟩⟩
      have hul:us.length=ps.length:=by rw [<- r.length];exact hl
      refine g3q (l:=ps.zip us) ?_ ?_
      . rw [List.map_fst_zip (by omega)];exact ndP
      . refine List.mem_of_getElem? (i:=i) ?_
        rw [List.getElem?_zip_eq_some];exact ⟨hp,hu⟩
    . have hi2:N.length - fvs.length<=i:=by
        unfold cGq at h2
        rcases Nat.lt_or_ge i (N.length - fvs.length) with z | z
        . rw [List.getElem?_append_left (by simp;omega),List.getElem?_append_right (by simpa using hi),List.getElem?_replicate] at h2
          split at h2<;>cases h2
        . exact z
      have hf:fvs[i - (N.length - fvs.length)]?=some v:=by
        unfold cGq at h2
        rw [List.getElem?_append_right (by simp;omega),List.getElem?_map] at h2
        have e1:i - (List.map some vs++List.replicate (N.length - vs.length - fvs.length) none).length=i - (N.length - fvs.length):=by simp;omega
        rw [e1] at h2
        cases e:fvs[i - (N.length - fvs.length)]? with
        | none=>rw [e] at h2;cases h2
        | some a=>rw [e] at h2;cases h2;rfl
      have hy:fr[i - (N.length - fvs.length)]?=some y:=by
        rw [<- S.suf,List.getElem?_drop,frl,show N.length - fvs.length+(i - (N.length - fvs.length))=i by omega]
        exact h1
      rw [<- hcl,List.getElem?_map] at hy
      cases e:cl[i - (N.length - fvs.length)]? with
      | none=>rw [e] at hy;cases hy
      | some q=>
        obtain ⟨x,c⟩:=q
        rw [e] at hy;cases hy
        obtain ⟨v',u,o,z1,z2,z3,z4⟩:=C.cells _ _ _ e
        rw [hf] at z1;cases z1
        have hm:=List.mem_of_getElem? e
        refine ⟨u,z2,.inr ⟨.inr (S.fvis _ (by rw [<- hcl];exact List.mem_map_of_mem hm)),c,lk hm,o,hk _ _ (c7q e0.hok z3),z4⟩⟩
  . obtain ⟨u,z⟩:=isCell (mem h)
    exact ⟨_,z⟩
  . have:=S.len
    show (cGq N vs fvs).length=N.length
    simp only [cGq,List.length_append,List.length_map,List.length_replicate];omega
theorem uRq (S:CloScope N ps fr (a5q st)) (len:∀ vs H Q E,sp vs H Q E->vs.length=ps.length)
    (hbind:∀ (cl:List (Str × Addr)) (doc pm cdv ct:Value) (us:List Value),us.length=ps.length->bindArgs (PySem.W.fnX name qual (bGq st) (b2q st) (a5q st) cl .none .none doc pm none cdv ct) ⟨us,[]⟩=pure (ps.zip us))
    (hbody:∀ (f:Addr) (cdv:Value) (cl:List (Str × Addr)) (A:Around) (outer:List Env) (s:Shared) (H:Hp) (vs:List V) (Q:VK) (E:XK),Room k (A.deeper (PySem.W.envX qual (a5q st) s.heap.objs.size f cdv cl))->cl.map (·.1)=fr->Frz H (cl.map (·.2))->sp vs H Q E →
      ∃ t,PSs (jGq P w K mg base N qual (a5q st) f cdv cl A outer s (less H (cl.map (·.2)))) (b2q st) t ∧
        t { nx:=λ _ H'=>(∀ a∈cl.map (·.2),H' a=none)->Q .non (more H' (cl.map (·.2)) H),rt:=λ v H'=>(∀ a∈cl.map (·.2),H' a=none)->Q v (more H' (cl.map (·.2)) H) } (cGq N vs fvs) (less H (cl.map (·.2)))) :
    CloOk P w K mg base (k+1) name qual st fr fvs ps sp:=by
  refine ⟨len,λ A outer s H f cl us vs Q E hr e0 C hcl r hsp=>?_⟩
  have hl:=len _ _ _ _ hsp
  have lim:s.heap.NoLimit:=e0.mod.nolimit.keeps λ b o e=>(e0.bs b o e).1
  obtain ⟨oc,od,doc,pm,cdv,ct,sl,hf,c,o,vs',t',hcd,hc,hd,hv⟩:=C.fn
  have hul:us.length=ps.length:=by rw [<- r.length];exact hl
  have fz:=C.frz
  refine codeAny_call_def (binds:=ps.zip us) hr.depth (c7q e0.hok hf) rfl lim ⟨c,o,vs',t',hcd,c7q e0.hok hc,hd,hv⟩ rfl (.of_eq (hbind cl doc pm cdv ct us hul)) S.nocell (λ y hy=>S.par y.1 (List.of_mem_zip (show (y.1,y.2)∈ps.zip us from hy)).1) (λ h₀ hns hk=>?_) S.co S.gen S.kind
  obtain ⟨t,ht,hq⟩:=hbody f cdv cl A outer s H vs Q E (hr.deeper _) hcl fz hsp
  have I:=tYq (h₁:=h₀) (tk:=s.toks+(ps.zip us).length) (cd:=cdv) S hr.hd e0 C hcl hl r hns hk
  refine wpAny_mono (ht [] _ _ _ _ I hq) (λ fl s' hs=>?_) λ e s' hs=>False.elim hs
  have nofs:∀ a∈cl.map (·.2),a ∉ frs outer:=λ a ha z=>by
    obtain ⟨o',z'⟩:=fz a ha
    rw [e0.frf a z] at z';cases z'
  have fin:∀ {σ':St} {H':Hp} {v:V} {u:Value},Inv (jGq P w K mg base N qual (a5q st) f cdv cl A outer s (less H (cl.map (·.2)))) [] σ' H' s'->RelV v u->((∀ a∈cl.map (·.2),H' a=none)->Q v (more H' (cl.map (·.2)) H))->CE outer P w H s Q u s':=
    λ{σ' H' v u} J rv q=>by
      have no:∀ a∈cl.map (·.2),H' a=none:=λ a ha=>by
        obtain ⟨o',z⟩:=fz a ha
        exact J.base.free a o' (c7q e0.hok z) (fFq ha) (by simp [jGq])
      refine ⟨v,_,J.os,J.bare,J.base.more e0.hok fz nofs,J.hok.more no λ a ha=>?_,rv,q no⟩
      obtain ⟨o',z⟩:=fz a ha
      exact ⟨o',z,J.base.keep a o' (c7q e0.hok z) (fFq ha) (nofs a ha) (by simp [jGq])⟩
  cases fl with
  | ret u=>
    obtain ⟨v,σ',H',J,rv,q⟩:=hs
    exact fin J rv q
  | next=>
    obtain ⟨σ',H',J,q⟩:=hs
    exact fin (v:=V.non) (u:=Value.none) J rfl q
  | brk=>
    obtain ⟨_,_,_,q⟩:=hs
    exact False.elim q
  | cont=>
    obtain ⟨_,_,_,q⟩:=hs
    exact False.elim q
def rBq (i:Nat) (name qual:Str) (st:Stmt) (fr:List Str) (fvs:List V) (sp:Sp) (t:TA):TE:=λ σ H Q=>∃ f cl,σ[i]?=some (some (.ref f))/\CloAt H f name qual st cl fvs/\cl.map (·.1)=fr/\t σ H λ vs H1=>CloAt H1 f name qual st cl fvs/\sp vs H1 Q E0
end
section
variable {X:Cx} {k j:Nat} {name qual:Str} {st:Stmt} {fr:List Str} {fvs:List V} {ps:List Str} {x:Str} {sp:Sp} {p pos:Pos} {e:Expr} {es:List Expr} {t:TA}
theorem CloAt.at' {H:Hp} {f:Addr} {cl:List (Str × Addr)} {P:Program} {w:World} {h:Heap} (C:CloAt H f name qual st cl fvs) (ok:HOk P w H h):PySem.W.FnAt f h:=by
  obtain ⟨oc,od,doc,pm,cdv,ct,sl,hf,_⟩:=C.fn
  exact ⟨oc,od,_,sl,c7q ok hf⟩
theorem aA8q {i:Nat} (G:CloOk X.prog X.w X.K X.mg X.base k name qual st fr fvs ps sp) (hr:Room j X.A) (hk:k<=j) (hN:X.N[i]?=some x) (hv:Vis X.env.scope x) (ha:PA X (e::es) t) (hd:(x==("__debug__" : Str))=false) (hcd:(x==("__classdict__" : Str))=false)
    (he:starEach (e::es) X.env=(false,eval e X.env)::starEach es X.env) (hpl:(backTo pos (starEach es X.env)).any (·.1)=false) :
    PE X (.Call (.Name x p) (e::es) [] pos) (rBq i name qual st fr fvs sp t):=by
  intro pins s σ H Q I h
  obtain ⟨f,cl,e1,C,hcl,h⟩:=h
  refine wpAny_Call_Name_kw (thn (rKq (pos:=p) hN hv hd hcd pins s σ H (λ v H1=>v=.ref f/\H1=H) I ⟨_,e1,rfl,rfl⟩) λ u s1 ⟨v,H1,I1,r1,ev,eH⟩=>?_)
  subst ev eH
  obtain rfl:u=Value.ref f:=r1
  refine PySem.W.callWith_F (C.at' I1.hok) (thn (ha pos pins s1 σ H1 _ I1 h) λ us s2 ⟨vs,H2,I2,r,C2,q⟩=>⟨C2.at' I2.hok,?_⟩) he hpl
  refine wpAny_call (codeAny_mono (G.run X.A X.stack s2 H2 f cl us vs Q E0 (hr.mono hk) I2.env0 C2 hcl r q) λ r s' hq=>?_)
  cases r with
  | error e=>exact False.elim hq
  | ok fl=>
    cases fl with
    | ret u=>exact I2.after hq
    | next=>exact False.elim hq
    | brk=>exact False.elim hq
    | cont=>exact False.elim hq
end
def dLq (env:Env) (fr:List Str):List (Str × Addr):=fr.map λ x=>(x,(env.cells.lookup x).getD 0)
structure MadeAt (env:Env) (H:Hp) (f:Addr) (name qual:Str) (st:Stmt) (fr:List Str):Prop where
  fn:∃ (oc:Value) (od:Option Addr) (doc pm cdv ct:Value) (sl:Array (Option Value)),H f=some (fzn ⟨oc,od,.func (PySem.W.fnX name qual (bGq st) (b2q st) (a5q st) (dLq env fr) .none .none doc pm none cdv ct),sl⟩) ∧
    ∃ c o vs t,cdv=.ref c/\H c=some (fzn o)/\o.data=.fields vs/\vs[1]?=some (.str qual t)
section
variable {X:Cx} {pins:List (Addr × Obj)} {σ:St} {H H2:Hp} {s s':Shared} {as:List Addr}
structure Plus (X:Cx) (H H2:Hp) (as:List Addr) (h:Heap):Prop where
  out:∀ b,b ∉ as->H2 b=H b
  no:∀ a∈as,H a=none
  at':∀ a∈as,∃ o,H2 a=some (fzn o)/\h.get? a=some o
  nob:∀ a∈as,X.base.get? a=none
  nof:∀ a∈as,a ∉ frs X.stack
theorem Plus.ok (p:Plus X H H2 as s.heap) (ok:HOk X.prog X.w H s.heap):HOk X.prog X.w H2 s.heap:=λ b u e=>by
  by_cases hb:b∈as
  . obtain ⟨o,e1,e2⟩:=p.at' b hb
    rw [e1] at e;cases e
    exact iIq e2
  . rw [p.out b hb] at e
    refine (ok b u e).stay (λ c v _ q=>q) (λ c q=>?_) λ c xs q=>?_
    . rw [p.out c λ z=>?_];exact q
      rw [p.no c z] at q;cases q
    . rw [p.out c λ z=>?_];exact q
      rw [p.no c z] at q;cases q
theorem Plus.env0 (p:Plus X H H2 as s.heap) (I:Inv X pins σ H s):Env0 X.prog X.w X.K X.mg X.base X.A X.stack s H2:=by
  have e0:=I.env0
  refine ⟨e0.frames,e0.mod,λ b o e=>⟨(e0.bs b o e).1,?_⟩,e0.bsz,e0.funs,λ b hb=>?_,p.ok e0.hok,e0.bare⟩
  . rw [p.out b λ z=>?_];exact (e0.bs b o e).2
    rw [p.nob b z] at e;cases e
  . rw [p.out b λ z=>p.nof b z hb];exact e0.frf b hb
theorem Plus.after {Q:VK} {u:Value} (p:Plus X H H2 as s.heap) (I:Inv X pins σ H s) (h:CE X.stack X.prog X.w H2 s (λ v H'=>Q v (less H' as)) u s'):EP X pins σ Q u s':=by
  obtain ⟨v,H',os,bare,un,hok,r,q⟩:=h
  have fz:∀ a∈as,∃ o,H' a=some (fzn o)/\s.heap.get? a=some o:=λ a ha=>by
    obtain ⟨o,e1,e2⟩:=p.at' a ha
    exact ⟨o,un.frzs a o _ e1,e2⟩
  refine I.after ⟨v,less H' as,os,bare,⟨λ b o e n hb hx=>?_,λ b o e n hb hx=>?_,λ b o e n hx=>?_,λ b o e hx=>un.there b o e hx,λ b xs e=>?_,λ b o x e=>?_,λ b ps e=>?_⟩,hok.less λ a ha=>let ⟨o,e,_⟩:=fz a ha;⟨o,e⟩,r,q⟩
  . by_cases z:b∈as
    . obtain ⟨o',e1,e2⟩:=fz b z
      rw [e] at e2;cases e2
      exact c7q hok e1
    . exact un.keep b o e (by rw [p.out b z];exact n) hb hx
  . have z:b ∉ as:=λ z=>p.nof b z hb
    exact un.slot b o e (by rw [p.out b z];exact n) hb hx
  . by_cases z:b∈as
    . exact fFq z
    . exact bRq (un.free b o e (by rw [p.out b z];exact n) hx)
  . have z:b ∉ as:=λ z=>by rw [p.no b z] at e;cases e
    rw [aYq z];exact un.tups b xs (by rw [p.out b z];exact e)
  . have z:b ∉ as:=λ z=>by rw [p.no b z] at e;cases e
    rw [aYq z];exact un.frzs b o x (by rw [p.out b z];exact e)
  . have z:b ∉ as:=λ z=>by rw [p.no b z] at e;cases e
    rw [aYq z];exact un.tbls b ps (by rw [p.out b z];exact e)
end
def x3q (X:Cx) (name qual:Str) (st:Stmt) (fr:List Str) (ix:List Nat) (sp:Sp) (t:TA):TE:=λ σ H Q=>t σ H λ vs H1=>∃ (f:Addr) (fvs:List V),MadeAt X.env H1 f name qual st fr/\(∀ (i j:Nat),ix[i]?=some j->∃ v,σ[j]?=some (some v)/\fvs[i]?=some v)/\fvs.length=fr.length ∧
  ∀ H2,(∀ b,b ∉ (dLq X.env fr).map (·.2)->H2 b=H1 b)->(∀ b∈(dLq X.env fr).map (·.2),H1 b=none)->CloAt H2 f name qual st (dLq X.env fr) fvs->sp vs H2 (λ v H'=>Q v (less H' ((dLq X.env fr).map (·.2)))) E0
section
variable {X:Cx} {k j:Nat} {g:Addr} {fd:FuncData} {name qual:Str} {st:Stmt} {fr:List Str} {ix:List Nat} {ps:List Str} {x:Str} {sp:Sp} {p pos:Pos} {e:Expr} {es:List Expr} {t:TA}
theorem qWq (G:Got X.prog X.w X.K X.mg X.base k x ps sp) (hr:Room j X.A) (hk:k<=j) (hg:Gl X x) (ha:PA X (e::es) t) (hdb:(x==("__debug__" : Str))=false) (ndf:fr.Nodup) (hix:ix.length=fr.length)
    (hfr:∀ (i:Nat) (y:Str),fr[i]?=some y->∃ j,ix[i]?=some j/\X.N[j]?=some y/\X.env.scope.names.lookup y=some .cell/\X.fn y=true)
    (he:starEach (e::es) X.env=(false,eval e X.env)::starEach es X.env) (hpl:(backTo pos (starEach es X.env)).any (·.1)=false) :
    PE X (.Call (.Name x p) (e::es) [] pos) (x3q X name qual st fr ix sp t):=by
  intro pins s σ H Q I h
  obtain ⟨f,fd,F,hm,kp,b⟩:=G.ex
  refine wpAny_Call_Name_kw (dYq I hg hm ?_ hdb)
  refine PySem.W.callWith_K (h₀:=X.base) I.ok.mod.kin kp (thn (ha pos pins s σ H _ I h) λ us s1 ⟨vs,H1,I1,r,f',fvs,M,hv,hfl,q⟩=>⟨I1.kIn,?_⟩) he hpl
  have cells:∀ (i:Nat) (y:Str),fr[i]?=some y->∃ v u c o,fvs[i]?=some v/\RelV v u/\X.env.cells.lookup y=some c/\s1.heap.get? c=some o/\o.data=.cell (some u)/\H1 c=none/\X.s₀.heap.objs.size<=c:=λ i y hy=>by
    obtain ⟨j,h1,h2,h3,h4⟩:=hfr i y hy
    obtain ⟨v,h5,h6⟩:=hv i j h1
    obtain ⟨m,_,hl⟩:=I1.loc
    obtain ⟨u,rv,lk⟩:=hl j y v h2 h5 (.inr (.inl h3))
    rcases lk with ⟨z,_⟩ | ⟨_,c,z1,o,z2,z3⟩
    . have z':X.env.scope.names.lookup y=some .local:=z
      rw [h3] at z';cases z'
    . exact ⟨v,u,c,o,h6,rv,z1,z2,z3,I1.freeC y c z1,I1.ok.cab y c h4 z1⟩
  have mem:∀ a∈(dLq X.env fr).map (·.2),∃ i y,fr[i]?=some y/\X.env.cells.lookup y=some a:=λ a ha=>by
    obtain ⟨q,hq,rfl⟩:=List.mem_map.mp ha
    obtain ⟨y,hy,rfl⟩:=List.mem_map.mp hq
    obtain ⟨i,hi,e1⟩:=List.getElem_of_mem hy
    have e2:fr[i]?=some y:=by rw [List.getElem?_eq_getElem hi,e1]
    obtain ⟨v,u,c,o,_,_,z1,_⟩:=cells i y e2
    exact ⟨i,y,e2,by rw [z1];rfl⟩
  have atc:∀ a∈(dLq X.env fr).map (·.2),∃ o,s1.heap.get? a=some o/\H1 a=none/\X.s₀.heap.objs.size<=a:=λ a ha=>by
    obtain ⟨i,y,h1,h2⟩:=mem a ha
    obtain ⟨v,u,c,o,_,_,z1,z2,_,z3,z4⟩:=cells i y h1
    rw [h2] at z1;cases z1
    exact ⟨o,z2,z3,z4⟩
  let H2:Hp:=λ b=>if b∈(dLq X.env fr).map (·.2) then (s1.heap.get? b).map fzn else H1 b
  have h2in:∀ a∈(dLq X.env fr).map (·.2),∀ o,s1.heap.get? a=some o->H2 a=some (fzn o):=λ a ha o e=>by
    show (if a∈(dLq X.env fr).map (·.2) then (s1.heap.get? a).map fzn else H1 a)=_
    rw [if_pos ha,e];rfl
  have h2out:∀ b,b ∉ (dLq X.env fr).map (·.2)->H2 b=H1 b:=λ b hb=>if_neg hb
  have hno:∀ b∈(dLq X.env fr).map (·.2),H1 b=none:=λ b hb=>let ⟨_,_,z,_⟩:=atc b hb;z
  have h2some:∀ b u,H1 b=some u->H2 b=some u:=λ b u e=>by
    rw [h2out b λ z=>?_];exact e
    rw [hno b z] at e;cases e
  have p2:Plus X H1 H2 ((dLq X.env fr).map (·.2)) s1.heap:=by
    refine ⟨h2out,hno,λ a ha=>?_,λ a ha=>?_,λ a ha z=>?_⟩
    . obtain ⟨o,e,_⟩:=atc a ha
      exact ⟨o,h2in a ha o e,e⟩
    . obtain ⟨o,_,_,z⟩:=atc a ha
      exact Heap.get?_none_of_le (Nat.le_trans I1.ok.bsz z)
    . obtain ⟨o,_,_,z4⟩:=atc a ha
      obtain ⟨i,y,_,h2⟩:=mem a ha
      rcases List.mem_cons.mp (I1.stkSub a z) with e | e
      . exact I1.cne y a h2 e
      . obtain ⟨_,o',ho,_⟩:=I1.ok.funs.mem e
        exact absurd (Nat.lt_of_lt_of_le (Heap.lt_size ho) z4) (Nat.lt_irrefl _)
  have C:CloAt H2 f' name qual st (dLq X.env fr) fvs:=by
    obtain ⟨oc,od,doc,pm,cdv,ct,sl,m1,c,o,vs',t',m2,m3,m4⟩:=M.fn
    refine ⟨⟨oc,od,doc,pm,cdv,ct,sl,h2some _ _ m1,c,o,vs',t',m2,h2some _ _ m3,m4⟩,λ i y c hi=>?_,?_,?_⟩
    . unfold dLq at hi
      rw [List.getElem?_map] at hi
      cases e1:fr[i]? with
      | none=>rw [e1] at hi;cases hi
      | some y'=>
        rw [e1] at hi;cases hi
        obtain ⟨v,u,c,o,z0,z1,z2,z3,z4,_⟩:=cells i _ e1
        refine ⟨v,u,o,z0,z1,?_,z4⟩
        have e3:(X.env.cells.lookup y).getD 0=c:=by rw [z2];rfl
        refine h2in _ (List.mem_map_of_mem (f:=(·.2)) (List.mem_map_of_mem (f:=λ x=>(x,(X.env.cells.lookup x).getD 0)) (List.mem_of_getElem? e1))) o ?_
        show s1.heap.get? ((X.env.cells.lookup y).getD 0)=some o
        rw [e3];exact z3
    . rw [dLq,List.length_map];exact hfl.symm
    . rw [dLq,List.map_map]
      refine List.pairwise_map.mpr (List.Pairwise.imp_of_mem (λ{a b} ha hb hab e=>?_) ndf)
      obtain ⟨i,hi,ea⟩:=List.getElem_of_mem ha
      obtain ⟨j',hj,eb⟩:=List.getElem_of_mem hb
      obtain ⟨_,_,ca,_,_,_,za,_⟩:=cells i a (by rw [List.getElem?_eq_getElem hi,ea])
      obtain ⟨_,_,cb,_,_,_,zb,_⟩:=cells j' b (by rw [List.getElem?_eq_getElem hj,eb])
      have e':ca=cb:=by
        have e2:(X.env.cells.lookup a).getD 0=(X.env.cells.lookup b).getD 0:=e
        rw [za,zb] at e2;exact e2
      exact hab (I1.ok.inj a b ca za (by rw [e'];exact zb))
  have hsp:=q H2 h2out hno C
  have hl:us.length=ps.length:=by rw [<- r.length];exact F.len _ _ _ _ hsp
  have hb:=b s1 us I1.kIn (by rw [List.append_nil];exact hl)
  rw [List.append_nil] at hb
  refine wpAny_call (codeAny_mono (F.run X.A X.stack s1 H2 ⟨us,[]⟩ us vs _ E0 (hr.mono hk) (p2.env0 I1) hb r hsp) λ rr s' hq=>?_)
  cases rr with
  | error e=>exact False.elim hq
  | ok fl=>
    cases fl with
    | ret u=>exact p2.after I1 hq
    | next=>exact False.elim hq
    | brk=>exact False.elim hq
    | cont=>exact False.elim hq
end
def Tab (H:Hp) (T:Addr) (pos:Pos) (qual:Str):Prop:=∃ ps,H T=some (.tbl ps)/\TriplesOk ps.toList/\(codeAmong pos ps.toList=none\/∃ c o vs t,codeAmong pos ps.toList=some (.ref c)/\H c=some (fzn o)/\o.data=.fields vs/\vs[1]?=some (.str qual t))
def fJq (mg:Str->Option Value) (h:Heap):Prop:=∃ bm ob,mg "__builtins__" = some (.ref bm)/\bm≠builtinsNs/\bm≠mainGlobals/\h.get? bm=some ob/\ob.cls=.type "module"/\ob.dict=some builtinsNs/\ob.data=.plain
section
variable {P:Program} {w:World} {H:Hp} {h h':Heap} {T c:Addr} {ps mo:Array Value} {oc:Obj} {fs ex:List Addr}
theorem Un.tab (hT:H T=some (.tbl ps)) (hc:H c=none) (hge:h.objs.size<=c) (hx:Heap.ExtBut T h h') (ht:h'.get? T=some (PySem.W.tabObj (ps++mo))):Un fs ex H (upd (upd H T (.tbl (ps++mo))) c (fzn oc)) h h':=by
  have nT:∀ b u,H b=some u->u≠.tbl ps->b≠T:=λ b u e n z=>by rw [z,hT] at e;exact n (Option.some.inj e).symm
  have nT0:∀ b,H b=none->b≠T:=λ b e z=>by rw [z,hT] at e;cases e
  have nc:∀ b u,H b=some u->b≠c:=λ b u e z=>by rw [z,hc] at e;cases e
  have nc0:∀ b o,h.get? b=some o->b≠c:=λ b o e=>Nat.ne_of_lt (Nat.lt_of_lt_of_le (Heap.lt_size e) hge)
  refine ⟨λ b o e n _ _=>hx b o (nT0 b n) e,λ b o e n _ _=>⟨o.slots,hx b o (nT0 b n) e⟩,λ b o e n _=>?_,λ b o e _=>?_,λ b xs e=>?_,λ b o u e=>?_,λ b qs e=>?_⟩
  . rw [aEq (nc0 b o e),aEq (nT0 b n)];exact n
  . by_cases z:b=T
    . subst z;exact ⟨_,ht⟩
    . exact ⟨o,hx b o z e⟩
  . rw [aEq (nc b _ e),aEq (nT b _ e λ z=>nomatch z)];exact e
  . rw [aEq (nc b _ e),aEq (nT b _ e λ z=>nomatch z)];exact e
  . by_cases z:b=T
    . subst z
      rw [hT] at e;cases e
      exact ⟨mo,by rw [aEq (nc b _ hT),aNq]⟩
    . exact ⟨#[],by rw [aEq (nc b _ e),aEq z,e];simp⟩
theorem HOk.tab (ok:HOk P w H h) (hT:H T=some (.tbl ps)) (hge:h.objs.size<=c) (hx:Heap.ExtBut T h h') (ht:h'.get? T=some (PySem.W.tabObj (ps++mo))) (hoc:h'.get? c=some oc):HOk P w (upd (upd H T (.tbl (ps++mo))) c (fzn oc)) h':=λ b u e=>by
  have hc:H c=none:=ok.fresh hge
  have nT:∀ b u,H b=some u->u≠.tbl ps->b≠T:=λ b u e n z=>by rw [z,hT] at e;exact n (Option.some.inj e).symm
  have nc:∀ b u,H b=some u->b≠c:=λ b u e z=>by rw [z,hc] at e;cases e
  by_cases h1:b=c
  . subst h1;rw [aNq] at e;cases e;exact iIq hoc
  . rw [aEq h1] at e
    by_cases h2:b=T
    . subst h2;rw [aNq] at e;cases e;exact ht
    . rw [aEq h2] at e
      refine (ok b u e).stay (λ d v hd q=>hx d v ?_ q) (λ d q=>?_) λ d xs q=>?_
      . rcases hd with rfl | hd
        . exact h2
        . exact nT d _ hd λ z=>nomatch z
      . rw [aEq (nc d _ q),aEq (nT d _ q λ z=>nomatch z)];exact q
      . rw [aEq (nc d _ q),aEq (nT d _ q λ z=>nomatch z)];exact q
end
def tDef (X:Cx) (i:Nat) (T:Addr) (name qual:Str) (st:Stmt) (fr:List Str) (pos:Pos):TS:=λ D σ H=>Tab H T pos qual/\∀ f H',H f=none->MadeAt X.env H' f name qual st fr->Tab H' T pos qual->(∀ b u,b≠T->H b=some u->H' b=some u)->D.nx (σ.set i (some (.ref f))) H'
section
variable {X:Cx} {i:Nat} {T c:Addr} {name:Str} {params:Arguments} {body:List Stmt} {scope:Scope} {pos:Pos} {fr:List Str}
theorem v4q (hN:X.N.Nodup) (hi:X.N[i]?=some name) (hl:Loc X.env.scope name) (hcode:X.env.code=.ref c) (hC:PySem.W.CodeHd X.base c T) (hB:fJq X.mg X.base)
    (hcl:closureFor scope X.env=pure (dLq X.env fr)) (hd0:params.defaults=[]) (hk0:params.kw_defaults=[]) (ha:annTrees params none X.env=[])
    (hf:X.fn name=true\/X.env.scope.names.lookup name=some .local) :
    PS X (.FunctionDef name params body [] none [] scope none name pos) (tDef X i T name (qualnameIn X.env name name) (.FunctionDef name params body [] none [] scope none name pos) fr pos):=by
  intro pins s σ H D I h
  obtain ⟨⟨ps,hT,ht,hcase⟩,h⟩:=h
  have hTh:s.heap.get? T=some (PySem.W.tabObj ps):=I.hok T _ hT
  have C:=hC.keeps I.bk
  have hg:s.heap.Ns mainGlobals X.mg:=I.ok.mod.glob.keeps I.bk
  obtain ⟨bm,ob,b1,b2,b3,b4,b5,b6,b7⟩:=hB
  have hbm:bm≠T:=λ z=>by
    have e:=I.bk _ _ b4
    rw [z,hTh] at e;cases e;cases b5
  have hgT:mainGlobals≠T:=λ z=>by
    obtain ⟨o,es,ep,e,hd,_⟩:=hg
    rw [z,hTh] at e;cases e;cases hd
  have BA:s.heap.BuiltinsAt X.mg T:=⟨bm,ob,b1,b2,b3,hbm,I.bk _ _ b4,b5,b6,b7⟩
  refine PySem.W.nestDef_K hd0 hk0 ha ?_
  rcases hcase with hn | ⟨c',o,vs,t,hc',hHc,hd,hv⟩
  . refine PySem.W.makeFunction_K (mg:=X.mg) hcl I.ok.glob hg hcode C hTh ht hn hgT BA λ c' ctv doc h' tk hx hge hlt hrec htb=>?_
    obtain ⟨c2,oc,vs,t,e2,hoc,hd,hv⟩:=hrec
    cases e2
    have I1:Inv X pins σ (upd (upd H T (.tbl (ps++#[rawInt pos.line,rawInt pos.col,.ref c']))) c' (fzn oc)) { s with heap:=h',toks:=tk }:=
      I.un (Un.tab hT (I.hok.fresh hge) hge hx htb) (I.hok.tab hT hge hx htb hoc)
    have I2:=I1.laid (a:=h'.objs.size) (o:=fzn (PySem.W.fnMade name (qualnameIn X.env name name) params body scope (dLq X.env fr) doc ((X.mg "__name__").getD .none) c' ctv)) (t':=tk) (h':=h'.push (PySem.W.fnMade name (qualnameIn X.env name name) params body scope (dLq X.env fr) doc ((X.mg "__name__").getD .none) c' ctv)) (λ b u e=>Heap.get?_push_of_some _ e) (Nat.le_refl _) (iIq (Heap.get?_push_size _ rfl))
    have hfn:H h'.objs.size=none:=I.hok.fresh (Nat.le_of_lt (Nat.lt_of_le_of_lt hge hlt))
    have ncf:c'≠h'.objs.size:=Nat.ne_of_lt hlt
    have nTf:T≠h'.objs.size:=λ z=>by rw [z,hfn] at hT;cases hT
    have nTc:T≠c':=λ z=>by rw [z,I.hok.fresh hge] at hT;cases hT
    refine dGq (v:=.ref h'.objs.size) I2 hN hi hl rfl (λ s' I3=>⟨_,_,I3,h _ _ hfn ⟨⟨_,_,doc,_,_,ctv,_,aNq,c',oc,vs,t,rfl,?_,hd,hv⟩⟩ ⟨ps++#[rawInt pos.line,rawInt pos.col,.ref c'],?_,?_,.inr ⟨c',oc,vs,t,by rw [Array.toList_append];exact codeAmong_snoc _ ht hn,?_,hd,hv⟩⟩ λ b u hb e=>?_⟩) hf
    . rw [aEq ncf,aNq]
    . rw [aEq nTf,aEq nTc,aNq]
    . rw [Array.toList_append];exact TriplesOk_snoc _ _ _ _ ht
    . rw [aEq ncf,aNq]
    . rw [aEq (λ z=>by rw [z,hfn] at e;cases e),aEq (λ z=>by rw [z,I.hok.fresh hge] at e;cases e),aEq hb];exact e
  . refine PySem.W.makeFunction_hit (mg:=X.mg) hcl I.ok.glob hg hcode C hTh ht hc' BA λ ctv doc h' tk hk hsz=>?_
    have hfn:H h'.objs.size=none:=I.hok.fresh hsz
    have I2:=I.laid (a:=h'.objs.size) (o:=fzn (PySem.W.fnMade name (qualnameIn X.env name name) params body scope (dLq X.env fr) doc ((X.mg "__name__").getD .none) c' ctv)) (t':=tk) (h':=h'.push (PySem.W.fnMade name (qualnameIn X.env name name) params body scope (dLq X.env fr) doc ((X.mg "__name__").getD .none) c' ctv)) (λ b u e=>Heap.get?_push_of_some _ (hk b u e)) hsz (iIq (Heap.get?_push_size _ rfl))
    have keep:∀ b u,H b=some u->upd H h'.objs.size (fzn (PySem.W.fnMade name (qualnameIn X.env name name) params body scope (dLq X.env fr) doc ((X.mg "__name__").getD .none) c' ctv)) b=some u:=λ b u e=>by
      rw [aEq (λ z=>by rw [z,hfn] at e;cases e)];exact e
    exact dGq (v:=.ref h'.objs.size) I2 hN hi hl rfl (λ s' I3=>⟨_,_,I3,h _ _ hfn ⟨⟨_,_,doc,_,_,ctv,_,aNq,c',o,vs,t,rfl,keep _ _ hHc,hd,hv⟩⟩ ⟨ps,keep _ _ hT,ht,.inr ⟨c',o,vs,t,hc',keep _ _ hHc,hd,hv⟩⟩ λ b u _ e=>keep b u e⟩) hf
end
structure EntryT (tabs:List (Addr × Addr)) (K:PySem.W.Frag) (a:Addr) (H:Hp):Prop where
  only:∀ b,H b=none\/(∃ o xs,H b=some (.frz o (.lst xs)))\/(b∈tabs.map (·.2)/\H b=some (.tbl #[]))
  tab:∀ q∈tabs,H q.2=some (.tbl #[])
def n2q (tabs:List (Addr × Addr)) (K:PySem.W.Frag) (a:Addr) (o:Obj) (xs:List V):Hp:=λ b=>
  if b∈tabs.map (·.2) then some (.tbl #[]) else if b=a then (if (K.lookup a).isSome then none else some (.frz o (.lst xs))) else none
section
variable {P:Program} {w:World} {K:PySem.W.Frag} {mg mb:Str->Option Value} {k:Nat} {fa a:Addr} {fd:FuncData} {x:Str} {sp:Sp} {s₁:Shared} {vs:List Value} {ns:List Int} {tabs:List (Addr × Addr)}
theorem n0q (KX:K.In s₁.heap) (hns:s₁.heap.Ns mainGlobals mg) (hb:s₁.heap.Ns builtinsNs mb) (hbb:∀ x:Str,x≠"__name__"->mb x=bootBuiltins x) (hlim:s₁.heap.NoLimit) (hg:s₁.gens=#[])
    (ha:s₁.heap.get? a=some { cls:=.type "list", data:=.seq vs.toArray }) (hi:IntsAre vs ns) (hl:ns.length<=sizeLine) (hr:Room k callerA)
 (hT:PySem.W.TabsAt tabs s₁.heap) (hK:PySem.W.noTabs K=true) (hB:fJq mg s₁.heap)
    (F:∀ base:Heap,K.In base->base.Ns mainGlobals mg->(∀ q∈tabs,PySem.W.CodeHd base q.1 q.2)->fJq mg base->FnOk P w K mg base CX0 k fa fd [x] sp) (hbind:∀ (s:Shared) (u:Value),BindsTo s fd ⟨[u],[]⟩ [(x,u)])
    (hsp:∀ H:Hp,EntryT tabs K a H->SqL K H a (ns.map V.int)->sp [.ref a] H (λ v _=>v=.bl true) λ _ _ _=>False) :
    codeAny (model P w) callerA (.call (.ref fa) ⟨[.ref a],[]⟩) (λ r s'=>r=.ok (.ret (.bool true))/\OldK s₁.heap s'.heap/\s'.os=s₁.os/\AllBare s'.gens) s₁:=by
  generalize hO:({ cls:=.type "list", data:=.seq vs.toArray }:Obj)=oA at ha
  have dA:oA.data=.seq vs.toArray 0/\oA.cls=.type "list"/\oA.dict=none:=by rw [<- hO];exact ⟨rfl,rfl,rfl⟩
  have rv:=fIq hi
  have tabAt:∀ b∈tabs.map (·.2),s₁.heap.get? b=some (PySem.W.tabObj #[]):=λ b hb=>by
    obtain ⟨q,hq,rfl⟩:=List.mem_map.mp hb
    exact (hT q hq).2
  have aT:a ∉ tabs.map (·.2):=λ z=>by
    have e:=tabAt a z
    rw [ha] at e
    have:=dA.2.1
    rw [Option.some.inj e] at this;cases this
  obtain ⟨H,eH⟩:∃ H,H=n2q tabs K a oA (ns.map V.int):=⟨_,rfl⟩
  have inT:∀ b∈tabs.map (·.2),H b=some (.tbl #[]):=λ b hb=>by rw [eH];exact if_pos hb
  have atA:H a=if (K.lookup a).isSome then none else some (.frz oA (.lst (ns.map V.int))):=by
    rw [eH];unfold n2q;rw [if_neg aT,if_pos rfl]
  have off:∀ b,b ∉ tabs.map (·.2)->b≠a->H b=none:=λ b h1 h2=>by rw [eH];unfold n2q;rw [if_neg h1,if_neg h2]
  have free:∀ {b:Addr} {o:Obj},s₁.heap.get? b=some o->o≠PySem.W.tabObj #[]->(b=a->(K.lookup a).isSome=true)->H b=none:=λ{b o} e h1 h2=>by
    by_cases z:b∈tabs.map (·.2)
    . rw [tabAt b z] at e;exact absurd (Option.some.inj e).symm h1
    . by_cases y:b=a
      . subst y;rw [atA,if_pos (h2 rfl)]
      . exact off b z y
  have notA:∀ {b:Addr} {o:Obj},s₁.heap.get? b=some o->o.cls≠.type "list"->b≠a:=λ{b o} e h1 z=>by
    rw [z,ha] at e;exact h1 (by rw [<- Option.some.inj e];exact dA.2.1)
  have get:∀ {b:Addr} {o:Obj},s₁.heap.get? b=some o->H b=none->(oVq s₁.heap H).get? b=some o:=λ e n=>pRq e n
  have nsK:∀ {b:Addr} {m:Str->Option Value},s₁.heap.Ns b m->(oVq s₁.heap H).Ns b m:=λ{b m} ⟨o,es,ep,e,d,r⟩=>
    ⟨o,es,ep,get e (free e (λ z=>by rw [z] at d;cases d) λ z=>by
      rw [z,ha] at e
      have d':=dA.1
      rw [Option.some.inj e,d] at d';cases d'),d,r⟩
  have kb:K.In (oVq s₁.heap H):=λ b o e=>get (KX b o e) (free (KX b o e) (λ z=>by
      have h2:=List.all_eq_true.mp hK (b,o) (PySem.W.mem_of_lookupK e)
      subst z
      exact absurd (show false=true from h2) Bool.false_ne_true) λ z=>by rw [<- z,e];rfl)
  have cds:∀ q∈tabs,PySem.W.CodeHd (oVq s₁.heap H) q.1 q.2:=λ q hq=>by
    obtain ⟨o,us,file,tf,flags,tg,inF,oUq,tt,e1,r1,r2⟩:=(hT q hq).1
    refine ⟨o,us,file,tf,flags,tg,inF,oUq,tt,get e1 (free e1 (λ z=>by rw [z] at r1;cases r1) λ z=>absurd z (notA e1 (by rw [r1];decide))),r1,r2⟩
  have bl:fJq mg (oVq s₁.heap H):=by
    obtain ⟨bm,ob,b1,b2,b3,b4,b5,b6⟩:=hB
    exact ⟨bm,ob,b1,b2,b3,get b4 (free b4 (λ z=>by rw [z] at b5;cases b5) λ z=>absurd z (notA b4 (by rw [b5];decide))),b5,b6⟩
  have hok:HOk P w H s₁.heap:=λ b u e=>by
    by_cases z:b∈tabs.map (·.2)
    . rw [inT b z] at e;cases e;exact tabAt b z
    . by_cases y:b=a
      . subst y
        rw [atA] at e
        split at e
        . cases e
        . cases e
          refine ⟨ha,?_⟩
          subst hO
          exact ⟨by rw [List.length_map];exact hl,vs,_,rv,ha⟩
      . rw [off b z y] at e;cases e
  have ent:EntryT tabs K a H:=⟨λ b=>by
    by_cases z:b∈tabs.map (·.2)
    . exact .inr (.inr ⟨z,inT b z⟩)
    . by_cases y:b=a
      . subst y
        cases hk:(K.lookup b).isSome with
        | true=>exact .inl (by rw [atA,hk];rfl)
        | false=>exact .inr (.inl ⟨_,_,by rw [atA,hk];rfl⟩)
      . exact .inl (off b z y),λ q hq=>inT _ (List.mem_map_of_mem hq)⟩
  have sq:SqL K H a (ns.map V.int):=by
    cases hk:K.lookup a with
    | some o=>
      have e:=KX a o hk
      rw [ha] at e
      obtain rfl:=Option.some.inj e
      exact .inr ⟨_,vs.toArray,0,hk,dA.2.1,dA.2.2,dA.1,by rw [List.size_toArray,hi.length];exact hl,by simpa using rv⟩
    | none=>exact .inl (.inr ⟨oA,by rw [atA,hk];rfl⟩)
  have e0:Env0 P w K mg (oVq s₁.heap H) callerA [] s₁ H:=⟨rfl,⟨kb,nsK hns,⟨mb,nsK hb,hbb⟩,let ⟨mc,h1,h2⟩:=hlim;⟨mc,nsK h1,h2⟩⟩,λ b o e=>t4q e,Nat.le_of_eq (nYq _ _),trivial,λ b hb=>absurd (show b∈([]:List Addr) from hb) (by simp),hok,.of_eq hg⟩
  refine codeAny_mono ((F _ kb (nsK hns) cds bl).run callerA [] s₁ H ⟨[.ref a],[]⟩ [.ref a] [.ref a] _ _ hr e0 (hbind s₁ (.ref a)) (.cons rfl .nil) (hsp H ent sq)) λ r s' h=>?_
  match r,h with
  | .ok (.ret u),⟨v,H',os,bare,un,hok',r',q⟩=>
    obtain rfl:v=.bl true:=q
    obtain rfl:u=Value.bool true:=r'
    have no:∀ b:Addr,b ∉ frs ([]:List Env):=λ b z=>absurd (show b∈([]:List Addr) from z) (by simp)
    refine ⟨rfl,⟨λ b o e=>?_,λ b o e=>un.there b o e (by simp)⟩,os,bare⟩
    rcases ent.only b with z | ⟨ob,xs,z⟩ | ⟨z,y⟩
    . exact .inl (un.keep b o e z (no b) (by simp))
    . refine .inl ?_
      have z2:=un.frzs b ob _ z
      obtain ⟨e1,_⟩:=hok b _ z
      rw [e] at e1;cases e1
      exact (hok' b _ z2).1
    . obtain ⟨mo,z2⟩:=un.tbls b _ y
      have e3:=tabAt b z
      rw [e] at e3
      obtain rfl:=Option.some.inj e3
      obtain ⟨p,hp,rfl⟩:=List.mem_map.mp z
      exact .inr (.inl ⟨((hT p hp).1.tab (hT p hp).2).isCodeTable,rfl,#[],mo,rfl,hok' p.2 _ z2⟩)
end
theorem qFq {p:Program} {loose:List Str} {mean:ExcName->Option Value} {mg mb:Str->Option Value} {h:Heap} (T:Top p loose mean mg mb h):fJq mg h:=by
  obtain ⟨bm,ob,b1,b2,b3,b4,b5,b6⟩:=T.bmain
  refine ⟨bm,ob,b1,b2,λ z=>?_,b3,b4,b5,b6⟩
  obtain ⟨o,es,ep,e,hd,_⟩:=T.g
  rw [z,e] at b3;cases b3;rw [hd] at b6;cases b6
end L2
namespace L3
open PySem PySem.Spec L2
inductive D where
  | non | bl (b:Bool) | int (i:Int) | str (x:Str) | ref (a:Addr) | ty (n:String) | tup (ds:List D) | frl (ds:List D)
def FrL (K:PySem.W.Frag) (H:Hp) (a:Addr) (xs:List V):Prop:=
  (∃ o,H a=some (.frz o (.lst xs)))\/∃ (o:Obj) (its:Array Value) (n:Nat),K.lookup a=some o/\o.cls=.type "list"/\o.dict=none/\o.data=.seq its n/\its.size<=sizeLine/\Vals xs its.toList
theorem FrL.sq {K:PySem.W.Frag} {H:Hp} {a:Addr} {xs:List V} (h:FrL K H a xs):SqL K H a xs:=by
  rcases h with h | h
  . exact .inl (.inr h)
  . exact .inr h
mutual
def Abs (K:PySem.W.Frag) (H:Hp):D->V->Prop
  | .non,v=>v=.non
  | .bl b,v=>v=.bl b
  | .int i,v=>v=.int i
  | .str x,v=>v=.str x
  | .ref a,v=>v=.ref a
  | .ty n,v=>v=.ty n
  | .tup ds,v=>∃ a vs,v=.ref a/\SqT K H a vs/\AbsL K H ds vs
  | .frl ds,v=>∃ a vs,v=.ref a/\FrL K H a vs/\AbsL K H ds vs
def AbsL (K:PySem.W.Frag) (H:Hp):List D->List V->Prop
  | [],vs=>vs=[]
  | d::ds,vs=>∃ v r,vs=v::r/\Abs K H d v/\AbsL K H ds r
end
structure Mono (K:PySem.W.Frag) (H H':Hp):Prop where
  tp:∀ a xs,SqT K H a xs->SqT K H' a xs
  fr:∀ a xs,FrL K H a xs->FrL K H' a xs
  fz:∀ a o,H a=some (fzn o)->H' a=some (fzn o)
section
variable {K:PySem.W.Frag} {H H':Hp}
mutual
theorem Abs.mono (h:Mono K H H'):∀ {d:D} {v:V},Abs K H d v->Abs K H' d v
  | .non,_,r=>r
  | .bl _,_,r=>r
  | .int _,_,r=>r
  | .str _,_,r=>r
  | .ref _,_,r=>r
  | .ty _,_,r=>r
  | .tup _,_,⟨a,vs,e,q,l⟩=>⟨a,vs,e,h.tp a vs q,AbsL.mono h l⟩
  | .frl _,_,⟨a,vs,e,q,l⟩=>⟨a,vs,e,h.fr a vs q,AbsL.mono h l⟩
theorem AbsL.mono (h:Mono K H H'):∀ {ds:List D} {vs:List V},AbsL K H ds vs->AbsL K H' ds vs
  | [],_,r=>r
  | _::_,_,⟨v,r,e,q,l⟩=>⟨v,r,e,Abs.mono h q,AbsL.mono h l⟩
end
theorem AbsL.len:∀ {ds:List D} {vs:List V},AbsL K H ds vs->vs.length=ds.length
  | [],_,r=>by cases r;rfl
  | _::_,_,⟨v,r,e,_,l⟩=>by subst e;simp [l.len]
theorem AbsL.append:∀ {ds es:List D} {vs us:List V},AbsL K H ds vs->AbsL K H es us->AbsL K H (ds++es) (vs++us)
  | [],_,_,_,r,s=>by cases r;exact s
  | _::_,_,_,_,⟨v,r,e,q,l⟩,s=>by subst e;exact ⟨v,_,rfl,q,l.append s⟩
theorem AbsL.one {d:D} {v:V} (h:Abs K H d v):AbsL K H [d] [v]:=⟨v,[],rfl,h,rfl⟩
theorem AbsL.get:∀ {ds:List D} {vs:List V} {i:Nat} {d:D},AbsL K H ds vs->ds[i]?=some d->∃ v,vs[i]?=some v/\Abs K H d v
  | [],_,_,_,_,e=>by simp at e
  | _::_,_,0,_,⟨v,r,e',q,l⟩,e=>by simp at e;subst e e';exact ⟨v,rfl,q⟩
  | _::_,_,i+1,d,⟨v,r,e',q,l⟩,e=>by
    subst e'
    obtain ⟨u,h1,h2⟩:=AbsL.get (i:=i) (d:=d) l (by simpa using e)
    exact ⟨u,by simpa using h1,h2⟩
theorem AbsL.take:∀ {ds:List D} {vs:List V} (n:Nat),AbsL K H ds vs->AbsL K H (ds.take n) (vs.take n)
  | _,_,0,_=>by simp [AbsL]
  | [],_,n+1,r=>by cases r;simp [AbsL]
  | _::_,_,n+1,⟨v,r,e,q,l⟩=>by subst e;exact ⟨v,_,rfl,q,l.take n⟩
theorem AbsL.drop:∀ {ds:List D} {vs:List V} (n:Nat),AbsL K H ds vs->AbsL K H (ds.drop n) (vs.drop n)
  | _,_,0,r=>r
  | [],_,n+1,r=>by cases r;simp [AbsL]
  | _::_,_,n+1,⟨v,r,e,q,l⟩=>by subst e;exact l.drop n
theorem AbsL.set {d:D} {v:V} (h:Abs K H d v):∀ {ds:List D} {vs:List V} (i:Nat),AbsL K H ds vs->AbsL K H (ds.set i d) (vs.set i v)
  | [],_,_,r=>by cases r;simp [AbsL]
  | _::_,_,0,⟨u,r,e,q,l⟩=>by subst e;exact ⟨v,r,rfl,h,l⟩
  | _::_,_,i+1,⟨u,r,e,q,l⟩=>by subst e;exact ⟨u,_,rfl,q,l.set h i⟩
theorem AbsL.ints {ns:List Int}:∀ {vs:List V},AbsL K H (ns.map D.int) vs->vs=ns.map V.int:=by
  induction ns with
  | nil=>intro vs h;exact h
  | cons n ns ih=>rintro vs ⟨v,r,e,q,l⟩;subst e;rw [ih l,show v=V.int n from q];rfl
theorem AbsL.of_ints:∀ (ns:List Int),AbsL K H (ns.map D.int) (ns.map V.int)
  | []=>rfl
  | n::ns=>⟨_,_,rfl,rfl,AbsL.of_ints ns⟩
end
def cut {α:Type} (xs:List α) (lo hi:Option Int):List α:=(xs.drop (HT.sIx xs.length 0 lo)).take (HT.sIx xs.length xs.length hi - HT.sIx xs.length 0 lo)
theorem AbsL.cut {K:PySem.W.Frag} {H:Hp} {ds:List D} {vs:List V} (h:AbsL K H ds vs) (lo hi:Option Int):AbsL K H (L3.cut ds lo hi) (lWq vs lo hi):=by
  have e:=h.len
  rw [L3.cut,lWq,e]
  exact (h.drop _).take _
inductive DO where
  | lst (ds:List D)
  | ins (C:Addr) (fs:List (Str × D))
  | dK (kvs:List (Key × D))
  | dT (kvs:List (List Key × D))
  | frT (kvs:List (List Key × D))
  | tab (pos:Pos) (qual:Str) | made (env:Env) (name qual:Str) (st:Stmt) (fr:List Str) | clo (name qual:Str) (st:Stmt) (fr:List Str) (vals:List D)
abbrev DV:=Addr->Option DO
abbrev DSt:=List (Option D)
def up (G:DV) (a:Addr) (o:DO):DV:=λ b=>if b=a then some o else G b
theorem a8q {G:DV} {a:Addr} {o:DO}:up G a o a=some o:=by unfold up;rw [if_pos rfl]
theorem aZq {G:DV} {a b:Addr} {o:DO} (h:b≠a):up G a o b=G b:=by unfold up;rw [if_neg h]
theorem g5q {G:DV} {a:Addr} {o u:DO}:up (up G a o) a u=up G a u:=by funext b;unfold up;split<;>rfl
theorem o1q {G:DV} {a b:Addr} {o u:DO} (h:a≠b):up (up G a o) b u=up (up G b u) a o:=by
  funext c;unfold up;split<;>split<;>simp_all
def AbsF {κ:Type} (K:PySem.W.Frag) (H:Hp) (fs:List (κ × D)) (gs:List (κ × V)):Prop:=fs.map (·.1)=gs.map (·.1)/\AbsL K H (fs.map (·.2)) (gs.map (·.2))
def BearO (K:PySem.W.Frag) (H:Hp) (a:Addr):DO->Prop
  | .lst ds=>∃ vs,H a=some (.lst vs)/\AbsL K H ds vs
  | .ins C fs=>∃ dx gs,H a=some (.ins C dx gs)/\AbsF K H fs gs
  | .dK kvs=>∃ gs,H a=some (.dK gs)/\AbsF K H kvs gs
  | .dT kvs=>∃ gs,H a=some (.dT gs)/\AbsF K H kvs gs
  | .frT kvs=>∃ o gs,H a=some (.frz o (.dT gs))/\AbsF K H kvs gs
  | .tab pos qual=>Tab H a pos qual
  | .made env name qual st fr=>MadeAt env H a name qual st fr
  | .clo name qual st fr vals=>∃ cl fvs,CloAt H a name qual st cl fvs/\cl.map (·.1)=fr/\AbsL K H vals fvs
def Vw (K:PySem.W.Frag) (G:DV) (H:Hp):Prop:=∀ a o,G a=some o->BearO K H a o
theorem BearO.some {K:PySem.W.Frag} {H:Hp} {a:Addr} {o:DO} (h:BearO K H a o):∃ u,H a=.some u:=by
  cases o with
  | lst ds=>obtain ⟨_,e,_⟩:=h;exact ⟨_,e⟩
  | ins C fs=>obtain ⟨_,_,e,_⟩:=h;exact ⟨_,e⟩
  | dK kvs=>obtain ⟨_,e,_⟩:=h;exact ⟨_,e⟩
  | dT kvs=>obtain ⟨_,e,_⟩:=h;exact ⟨_,e⟩
  | frT kvs=>obtain ⟨_,_,e,_⟩:=h;exact ⟨_,e⟩
  | tab pos qual=>obtain ⟨_,e,_⟩:=h;exact ⟨_,e⟩
  | made env name qual st fr=>obtain ⟨_,_,_,_,_,_,_,e,_⟩:=h.fn;exact ⟨_,e⟩
  | clo name qual st fr vals=>obtain ⟨_,_,h,_⟩:=h;obtain ⟨_,_,_,_,_,_,_,e,_⟩:=h.fn;exact ⟨_,e⟩
theorem Vw.none {K:PySem.W.Frag} {G:DV} {H:Hp} (h:Vw K G H) {a:Addr} (e:H a=.none):G a=.none:=by
  cases q:G a with
  | none=>rfl
  | some o=>obtain ⟨u,z⟩:=(h a o q).some;rw [e] at z;cases z
theorem BearO.mono {K:PySem.W.Frag} {H H':Hp} {a:Addr} {o:DO} (ht:Mono K H H') (e:H' a=H a) (h:BearO K H a o):BearO K H' a o:=by
  cases o with
  | lst ds=>obtain ⟨vs,q,l⟩:=h;exact ⟨vs,by rw [e];exact q,l.mono ht⟩
  | ins C fs=>obtain ⟨dx,gs,q,l⟩:=h;exact ⟨dx,gs,by rw [e];exact q,l.1,l.2.mono ht⟩
  | dK kvs=>obtain ⟨gs,q,l⟩:=h;exact ⟨gs,by rw [e];exact q,l.1,l.2.mono ht⟩
  | dT kvs=>obtain ⟨gs,q,l⟩:=h;exact ⟨gs,by rw [e];exact q,l.1,l.2.mono ht⟩
  | frT kvs=>obtain ⟨o,gs,q,l⟩:=h;exact ⟨o,gs,by rw [e];exact q,l.1,l.2.mono ht⟩
  | tab pos qual=>
    obtain ⟨ps,h1,h2,h3⟩:=h
    refine ⟨ps,by rw [e];exact h1,h2,?_⟩
    rcases h3 with h3 | ⟨c,o,vs,t,h3,h4,h5⟩
    . exact .inl h3
    . exact .inr ⟨c,o,vs,t,h3,ht.fz _ _ h4,h5⟩
  | made env name qual st fr=>
    obtain ⟨oc,od,doc,pm,cdv,ct,sl,h1,c,o,vs,t,h2,h3,h4⟩:=h.fn
    exact ⟨oc,od,doc,pm,cdv,ct,sl,ht.fz _ _ h1,c,o,vs,t,h2,ht.fz _ _ h3,h4⟩
  | clo name qual st fr vals=>
    obtain ⟨cl,fvs,C,h1,h2⟩:=h
    obtain ⟨oc,od,doc,pm,cdv,ct,sl,h3,c,o,vs,t,h4,h5,h6⟩:=C.fn
    exact ⟨cl,fvs,⟨⟨oc,od,doc,pm,cdv,ct,sl,ht.fz _ _ h3,c,o,vs,t,h4,ht.fz _ _ h5,h6⟩,λ i x c hi=>let ⟨v,u,o,z1,z2,z3,z4⟩:=C.cells i x c hi;⟨v,u,o,z1,z2,ht.fz _ _ z3,z4⟩,C.len,C.nda⟩,h1,h2.mono ht⟩
structure Go (K:PySem.W.Frag) (G:DV) (H:Hp) (G':DV) (H':Hp):Prop where
  tup:Mono K H H'
  dom:∀ a o,H a=some o->∃ o',H' a=some o'
  same:∀ a o,H a=some o->G a=none->H' a=some o
  new:∀ a o,H a=some o->G a=none->G' a=none
  vw:Vw K G' H'
section
variable {K:PySem.W.Frag} {G G1 G2 G':DV} {H H1 H2 H':Hp}
theorem Go.refl (v:Vw K G H):Go K G H G H:=⟨⟨λ _ _ h=>h,λ _ _ h=>h,λ _ _ h=>h⟩,λ _ o e=>⟨o,e⟩,λ _ _ e _=>e,λ _ _ _ e=>e,v⟩
theorem Go.trans (a:Go K G H G1 H1) (b:Go K G1 H1 G2 H2):Go K G H G2 H2:=
  ⟨⟨λ x xs h=>b.tup.tp x xs (a.tup.tp x xs h),λ x xs h=>b.tup.fr x xs (a.tup.fr x xs h),λ x o h=>b.tup.fz x o (a.tup.fz x o h)⟩,λ x o e=>let ⟨o',e'⟩:=a.dom x o e;b.dom x o' e',λ x o e n=>b.same x o (a.same x o e n) (a.new x o e n),
   λ x o e n=>b.new x o (a.same x o e n) (a.new x o e n),b.vw⟩
def Sub (G G':DV):Prop:=∀ a o,G a=some o->G' a=some o
theorem Sub.refl (G:DV):Sub G G:=λ _ _ e=>e
theorem Sub.trans {G G1 G2:DV} (a:Sub G G1) (b:Sub G1 G2):Sub G G2:=λ x o e=>b x o (a x o e)
theorem Sub.none {G G':DV} (h:Sub G G') {a:Addr} (e:G' a=.none):G a=.none:=by
  cases q:G a with
  | none=>rfl
  | some o=>rw [h a o q] at e;cases e
theorem Vw.sub (v:Vw K G' H) (h:Sub G G'):Vw K G H:=λ a o e=>v a o (h a o e)
theorem Go.sub (g:Go K G H G1 H1) (h:Sub G2 G1):Go K G H G2 H1:=⟨g.tup,g.dom,g.same,λ x o e n=>h.none (g.new x o e n),g.vw.sub h⟩
theorem tLq {a p:Addr} {o:HO} {xs:List V} (hp:∀ ys,¬ Rd H p (.tup ys)) (h:SqT K H a xs):SqT K (upd H p o) a xs:=by
  rcases h with h | h
  . have ne:a≠p:=by rintro rfl;exact hp _ h
    refine .inl ?_
    unfold Rd at h ⊢
    rw [aEq ne];exact h
  . exact .inr h
theorem tVq {p:Addr} {ys:List V} (h:H p=none):¬ Rd H p (.tup ys):=by
  rintro (e | ⟨o,e⟩)<;>rw [h] at e<;>cases e
theorem uQq {p:Addr} {xs ys:List V} (h:H p=some (.lst xs)):¬ Rd H p (.tup ys):=by
  rintro (e | ⟨o,e⟩)<;>rw [h] at e<;>cases e
theorem h6q {p:Addr} {o:HO} (hp:∀ ys,¬ Rd H p (.tup ys)) (hl:∀ o ys,H p≠some (.frz o ys)):Mono K H (upd H p o) where
  tp:=λ _ _ q=>tLq hp q
  fr:=λ a xs q=>by
    rcases q with ⟨z,q⟩ | q
    . exact .inl ⟨z,by rw [aEq (by rintro rfl;exact hl _ _ q)];exact q⟩
    . exact .inr q
  fz:=λ a u q=>by rw [aEq (by rintro rfl;exact hl _ _ q)];exact q
theorem bUq {p:Addr} {o:HO} (h:H p=none):Mono K H (upd H p o):=h6q (λ _=>tVq h) λ _ _ e=>by rw [h] at e;cases e
theorem bJq {p:Addr} {o:HO} {xs:List V} (h:H p=some (.lst xs)):Mono K H (upd H p o):=h6q (λ _=>uQq h) λ _ _ e=>by rw [h] at e;cases e
theorem Go.newT (v:Vw K G H) {p:Addr} {o:HO} (h:H p=none):Go K G H G (upd H p o) where
  tup:=bUq h
  dom:=λ a u e=>⟨u,by rw [aEq (aTq e h)];exact e⟩
  same:=λ a u e _=>by rw [aEq (aTq e h)];exact e
  new:=λ _ _ _ e=>e
  vw:=λ a u e=>(v a u e).mono (bUq h) (aEq (by rintro rfl;obtain ⟨z,q⟩:=(v _ _ e).some;rw [h] at q;cases q))
theorem Go.newL (v:Vw K G H) {p:Addr} {ds:List D} {vs:List V} (h:H p=none) (r:AbsL K H ds vs):Go K G H (up G p (.lst ds)) (upd H p (.lst vs)) where
  tup:=bUq h
  dom:=λ a u e=>⟨u,by rw [aEq (aTq e h)];exact e⟩
  same:=λ a u e _=>by rw [aEq (aTq e h)];exact e
  new:=λ a u e n=>by rw [aZq (aTq e h)];exact n
  vw:=λ a u e=>by
    by_cases c:a=p
    . subst c;rw [a8q] at e;cases e
      exact ⟨vs,aNq,r.mono (bUq h)⟩
    . rw [aZq c] at e
      exact (v a u e).mono (bUq h) (aEq c)
theorem Go.setL (v:Vw K G H) {p:Addr} {ds0 ds:List D} {vs:List V} (h:G p=some (.lst ds0)) (r:AbsL K H ds vs):Go K G H (up G p (.lst ds)) (upd H p (.lst vs)):=by
  obtain ⟨us,hp,_⟩:=v p _ h
  exact {
    tup:=bJq hp
    dom:=λ a u e=>by
      by_cases c:a=p
      . subst c;exact ⟨_,aNq⟩
      . exact ⟨u,by rw [aEq c];exact e⟩
    same:=λ a u e n=>by
      have c:a≠p:=by rintro rfl;rw [h] at n;cases n
      rw [aEq c];exact e
    new:=λ a u e n=>by
      have c:a≠p:=by rintro rfl;rw [h] at n;cases n
      rw [aZq c];exact n
    vw:=λ a u e=>by
      by_cases c:a=p
      . subst c;rw [a8q] at e;cases e
        exact ⟨vs,aNq,r.mono (bJq hp)⟩
      . rw [aZq c] at e
        exact (v a u e).mono (bJq hp) (aEq c) }
theorem Go.grow (v:Vw K G H) (h:Same H H'):Go K G H G H':=by
  have ht:Mono K H H':=⟨λ b xs q=>by
    rcases q with q | q
    . rcases q with q | ⟨o,q⟩
      . exact .inl (.inl (h _ _ q))
      . exact .inl (.inr ⟨o,h _ _ q⟩)
    . exact .inr q,λ b xs q=>by
    rcases q with ⟨o,q⟩ | q
    . exact .inl ⟨o,h _ _ q⟩
    . exact .inr q,λ b o q=>h _ _ q⟩
  exact ⟨ht,λ a o e=>⟨o,h a o e⟩,λ a o e _=>h a o e,λ _ _ _ e=>e,λ a u e=>by
    obtain ⟨z,q⟩:=(v a u e).some
    exact (v a u e).mono ht (by rw [q];exact h _ _ q)⟩
end
structure Bears (K:PySem.W.Frag) (ρ:DSt) (G:DV) (σ:St) (H:Hp):Prop where
  len:ρ.length=σ.length
  st:∀ (i:Nat) (d:D),ρ[i]?=some (some d)->∃ v,σ[i]?=some (some v)/\Abs K H d v
  vw:Vw K G H
theorem Bears.go {K:PySem.W.Frag} {ρ:DSt} {G G':DV} {σ:St} {H H':Hp} (b:Bears K ρ G σ H) (g:Go K G H G' H'):Bears K ρ G' σ H':=
  ⟨b.len,λ i d e=>let ⟨v,h1,h2⟩:=b.st i d e;⟨v,h1,h2.mono g.tup⟩,g.vw⟩
theorem Bears.set {K:PySem.W.Frag} {ρ:DSt} {G:DV} {σ:St} {H:Hp} {d:D} {v:V} (b:Bears K ρ G σ H) (h:Abs K H d v) (i:Nat):Bears K (ρ.set i (some d)) G (σ.set i (some v)) H where
  len:=by simp [b.len]
  vw:=b.vw
  st:=λ j e he=>by
    by_cases c:j=i
    . subst c
      rw [List.getElem?_set] at he ⊢
      have l:=b.len
      simp only [if_true] at he ⊢
      split at he
      . next q=>rw [if_pos (by omega)];simp at he;subst he;exact ⟨v,rfl,h⟩
      . cases he
    . rw [List.getElem?_set_ne (by omega)] at he ⊢
      exact b.st j e he
def StSub (ρ ρ':DSt):Prop:=ρ.length=ρ'.length/\∀ (i:Nat) (d:D),ρ[i]?=some (some d)->ρ'[i]?=some (some d)
theorem StSub.refl (ρ:DSt):StSub ρ ρ:=⟨rfl,λ _ _ e=>e⟩
theorem Bears.weak {K:PySem.W.Frag} {ρ ρ':DSt} {G G':DV} {σ:St} {H:Hp} (b:Bears K ρ' G' σ H) (s:StSub ρ ρ') (g:Sub G G'):Bears K ρ G σ H:=
  ⟨s.1.trans b.len,λ i d e=>b.st i d (s.2 i d e),b.vw.sub g⟩
abbrev DK:=D->DV->Prop
abbrev DTE:=DSt->DV->DK->Prop
abbrev DTT:=DSt->DV->(Bool->DV->Prop)->Prop
abbrev DTA:=DSt->DV->(List D->DV->Prop)->Prop
abbrev DTO:=DSt->DV->(Option Int->DV->Prop)->Prop
structure DEnds where
  nx:DSt->DV->Prop
  rt:DK
  bk:DSt->DV->Prop:=λ _ _=>False
  ct:DSt->DV->Prop:=λ _ _=>False
abbrev DTS:=DEnds->DSt->DV->Prop
abbrev Fin (K:PySem.W.Frag) (G:DV) (H:Hp) (DQ:DK) (Q:VK):Prop:=∀ d G' v H',Go K G H G' H'->Abs K H' d v->DQ d G'->Q v H'
abbrev FinB (K:PySem.W.Frag) (G:DV) (H:Hp) (DQ:Bool->DV->Prop) (Q:Bool->Hp->Prop):Prop:=∀ b G' H',Go K G H G' H'->DQ b G'->Q b H'
abbrev FinO (K:PySem.W.Frag) (G:DV) (H:Hp) (DQ:Option Int->DV->Prop) (Q:Option Int->Hp->Prop):Prop:=∀ b G' H',Go K G H G' H'->DQ b G'->Q b H'
abbrev FinL (K:PySem.W.Frag) (n:Nat) (G:DV) (H:Hp) (DQ:List D->DV->Prop) (Q:List V->Hp->Prop):Prop:=∀ ds G' vs H',Go K G H G' H'->AbsL K H' ds vs->ds.length=n->DQ ds G'->Q vs H'
structure AE (X:Cx) (e:Expr) (t:DTE):Prop where
  run:∃ tc:TE,JE X e tc/\∀ ρ G DQ σ H Q,Bears X.K ρ G σ H->t ρ G DQ->Fin X.K G H DQ Q->tc σ H Q
structure AT (X:Cx) (e:Expr) (t:DTT):Prop where
  run:∃ tc:TT,JT X e tc/\∀ ρ G DQ σ H Q,Bears X.K ρ G σ H->t ρ G DQ->FinB X.K G H DQ Q->tc σ H Q
structure AW (X:Cx) (e:Expr) (t:DTT):Prop where
  run:∃ tc:TT,JW X e tc/\∀ ρ G DQ σ H Q,Bears X.K ρ G σ H->t ρ G DQ->FinB X.K G H DQ Q->tc σ H Q
structure AA (X:Cx) (es:List Expr) (t:DTA):Prop where
  run:∃ tc:TA,JA X es tc/\∀ ρ G DQ σ H Q,Bears X.K ρ G σ H->t ρ G DQ->FinL X.K es.length G H DQ Q->tc σ H Q
structure AO (X:Cx) (e:Option Expr) (t:DTO):Prop where
  run:∃ tc:TO,JO X e tc/\∀ ρ G DQ σ H Q,Bears X.K ρ G σ H->t ρ G DQ->FinO X.K G H DQ Q->tc σ H Q
structure EndsOk (K:PySem.W.Frag) (G:DV) (H:Hp) (DD:DEnds) (Dc:Ends):Prop where
  nx:∀ ρ G' σ H',Go K G H G' H'->Bears K ρ G' σ H'->DD.nx ρ G'->Dc.nx σ H'
  rt:Fin K G H DD.rt Dc.rt
  bk:∀ ρ G' σ H',Go K G H G' H'->Bears K ρ G' σ H'->DD.bk ρ G'->Dc.bk σ H'
  ct:∀ ρ G' σ H',Go K G H G' H'->Bears K ρ G' σ H'->DD.ct ρ G'->Dc.ct σ H'
structure AS (X:Cx) (st:Stmt) (t:DTS):Prop where
  run:∃ tc:TS,JS X st tc/\∀ DD Dc ρ G σ H,Bears X.K ρ G σ H->t DD ρ G->EndsOk X.K G H DD Dc->tc Dc σ H
structure AB (X:Cx) (st:List Stmt) (t:DTS):Prop where
  run:∃ tc:TS,JB X st tc/\∀ DD Dc ρ G σ H,Bears X.K ρ G σ H->t DD ρ G->EndsOk X.K G H DD Dc->tc Dc σ H
abbrev DTG:=D->DSt->DV->(DSt->DV->Prop)->Prop
abbrev lXq:=List D->DSt->DV->(DSt->DV->Prop)->Prop
abbrev FinS (K:PySem.W.Frag) (G:DV) (H:Hp) (DQ:DSt->DV->Prop) (Q:St->Hp->Prop):Prop:=∀ ρ G' σ H',Go K G H G' H'->Bears K ρ G' σ H'->DQ ρ G'->Q σ H'
structure AG (X:Cx) (tg:Expr) (t:DTG):Prop where
  run:∃ tc:TG,JG X tg tc/\∀ d v ρ G DQ σ H Q,Bears X.K ρ G σ H->Abs X.K H d v->t d ρ G DQ->FinS X.K G H DQ Q->tc v σ H Q
structure AGs (X:Cx) (tgs:List Expr) (t:lXq):Prop where
  run:∃ tc:TGs,JGs X tgs tc/\∀ ds vs ρ G DQ σ H Q,Bears X.K ρ G σ H->AbsL X.K H ds vs->t ds ρ G DQ->FinS X.K G H DQ Q->tc vs σ H Q
abbrev DR1:=D->DV->DK->Prop
abbrev DR2:=D->D->DV->DK->Prop
abbrev DRL:=List D->DV->DK->Prop
structure AOp (X:Cx) (f:Value->Value->Sem Value) (r:DR2):Prop where
  run:∃ rc:R2,JOp X f rc/\∀ x y vx vy G H DQ Q,Vw X.K G H->Abs X.K H x vx->Abs X.K H y vy->r x y G DQ->Fin X.K G H DQ Q->rc vx vy H Q
structure AUn (X:Cx) (f:Value->Sem Value) (r:DR1):Prop where
  run:∃ rc:V->Hp->VK->Prop,JUn X f rc/\∀ x vx G H DQ Q,Vw X.K G H->Abs X.K H x vx->r x G DQ->Fin X.K G H DQ Q->rc vx H Q
structure ACall (X:Cx) (f:Value) (r:DRL):Prop where
  run:∃ rc:List V->Hp->VK->Prop,JCall X f rc/\∀ xs vs G H DQ Q,Vw X.K G H->AbsL X.K H xs vs->r xs G DQ->Fin X.K G H DQ Q->rc vs H Q
structure AIx (X:Cx) (r:DR2):Prop where
  run:∃ rc:R2,JIx X rc/\∀ x y vx vy G H DQ Q,Vw X.K G H->Abs X.K H x vx->Abs X.K H y vy->r x y G DQ->Fin X.K G H DQ Q->rc vx vy H Q
structure ASl (X:Cx) (r:D->Option Int->Option Int->DV->DK->Prop):Prop where
  run:∃ rc,JSl X rc/\∀ x vx lo hi G H DQ Q,Vw X.K G H->Abs X.K H x vx->r x lo hi G DQ->Fin X.K G H DQ Q->rc vx lo hi H Q
theorem Fin.after {K:PySem.W.Frag} {G G1:DV} {H H1:Hp} {DQ:DK} {Q:VK} (F:Fin K G H DQ Q) (g:Go K G H G1 H1):Fin K G1 H1 DQ Q:=λ d G' v H' g' a q=>F d G' v H' (g.trans g') a q
theorem EndsOk.after {K:PySem.W.Frag} {G G1:DV} {H H1:Hp} {DD:DEnds} {Dc:Ends} (F:EndsOk K G H DD Dc) (g:Go K G H G1 H1):EndsOk K G1 H1 DD Dc:=
  ⟨λ ρ G' σ H' g' b q=>F.nx ρ G' σ H' (g.trans g') b q,λ d G' v H' g' a q=>F.rt d G' v H' (g.trans g') a q,λ ρ G' σ H' g' b q=>F.bk ρ G' σ H' (g.trans g') b q,λ ρ G' σ H' g' b q=>F.ct ρ G' σ H' (g.trans g') b q⟩
end L3
namespace L3
open PySem PySem.Spec L2
section
variable {X:Cx} {a b c e o i:Expr} {es:List Expr} {ta tb te to ti:DTE} {t:DTA} {pos p apos cpos:Pos}
abbrev dC (d:D):DTE:=λ _ G Q=>Q d G
abbrev dVar (k:Nat):DTE:=λ ρ G Q=>match ρ[k]? with
  | some (some d)=>Q d G
  | _=>False
theorem uAq {v:V} {d:D} (h:JE X e (tC v)) (r:∀ H,Abs X.K H d v):AE X e (dC d):=⟨_,h,λ ρ G DQ σ H Q B q F=>F d G v H (.refl B.vw) (r H) q⟩
theorem a2q {n:Int} {j}:AE X (.Constant (.int n) j pos) (dC (.int n)):=uAq y4q λ _=>rfl
theorem fLq {n:Bool} {j}:AE X (.Constant (.bool n) j pos) (dC (.bl n)):=uAq aB8q λ _=>rfl
theorem r8q {j}:AE X (.Constant .none j pos) (dC .non):=uAq wFq λ _=>rfl
theorem aCq {x:Str} {j}:AE X (.Constant (.str x) j pos) (dC (.str x)):=uAq xXq λ _=>rfl
theorem a1q (k:Nat) {x:Str} (hN:X.N[k]?=some x:=by rfl) (hv:Vis X.env.scope x:=by first | exact Or.inl rfl | exact Or.inr (Or.inl rfl) | exact Or.inr (Or.inr rfl)) (hd:(x==("__debug__" : Str))=false:=by decide)
    (hcd:(x==("__classdict__" : Str))=false:=by decide):AE X (.Name x pos) (dVar k):=⟨_,jv k hN hv hd hcd,λ ρ G DQ σ H Q B q F=>by
  unfold dVar at q
  split at q
  . next d h=>
    obtain ⟨v,h1,h2⟩:=B.st k d h
    exact ⟨v,h1,F d G v H (.refl B.vw) h2 q⟩
  . exact q.elim⟩
theorem c0q {x:Str} {n:String} (hg:Gl X x) (hm:X.mg x=none) (hv:bootBuiltins x=some (.type n)) (hn:x≠"__name__":=by decide) (hd:(x==("__debug__" : Str))=false:=by decide):AE X (.Name x pos) (dC (.ty n)):=
  uAq (rQq (v:=.ty n) hg hm hv rfl hn hd) λ _=>rfl
theorem cEq {x:Str} {v:V} {u:Value} {d:D} (hg:Gl X x) (hm:X.mg x=some u) (r:RelV v u) (ha:∀ H,Abs X.K H d v) (hd:(x==("__debug__" : Str))=false:=by decide):AE X (.Name x pos) (dC d):=uAq (tTq hg hm r hd) ha
abbrev dNil:DTA:=λ _ G Q=>Q [] G
abbrev zZq (ta:DTE) (tr:DTA):DTA:=λ ρ G Q=>ta ρ G λ x G1=>tr ρ G1 λ xs G2=>Q (x::xs) G2
theorem a3q:AA X [] dNil:=⟨_,y7q,λ ρ G DQ σ H Q B q F=>F [] G [] H (.refl B.vw) rfl rfl q⟩
theorem a0q (ha:AE X e te) (hr:AA X es t) (hs:aSq e=true:=by rfl):AA X (e::es) (zZq te t):=by
  obtain ⟨ca,ja,ra⟩:=ha.run
  obtain ⟨cr,jr,rr⟩:=hr.run
  refine ⟨_,rUq ja jr hs,λ ρ G DQ σ H Q B q F=>?_⟩
  refine ra ρ G _ σ H _ B q λ x G1 v H1 g1 ax q1=>rr ρ G1 _ σ H1 _ (B.go g1) q1 λ xs G2 vs H2 g2 axs hl q2=>?_
  exact F (x::xs) G2 (v::vs) H2 (g1.trans g2) ⟨v,vs,rfl,ax.mono g2.tup,axs⟩ (by simp [hl]) q2
abbrev dTup (t:DTA):DTE:=λ ρ G Q=>t ρ G λ ds G1=>Q (.tup ds) G1
abbrev dLst (t:DTA):DTE:=λ ρ G Q=>t ρ G λ ds G1=>∀ p,G1 p=none->Q (.ref p) (up G1 p (.lst ds))
theorem jEq {n:Nat} (h:Nat.ble n 1000=true):n<=sizeLine:=by
  have:=Nat.le_of_ble_eq_true h
  rw [sizeLine_eq];omega
theorem aMq {x1} (h:AA X es t) (hl:Nat.ble es.length 1000=true:=by rfl):AE X (.Tuple es x1 pos) (dTup t):=by
  obtain ⟨ca,ja,ra⟩:=h.run
  refine ⟨_,wVq ja,λ ρ G DQ σ H Q B q F=>ra ρ G _ σ H _ B q λ ds G1 vs H1 g1 al hn q1=>⟨by rw [al.len,hn];exact jEq hl,λ p hp=>?_⟩⟩
  have g2:=Go.newT (o:=.tup vs) g1.vw hp
  exact F (.tup ds) G1 _ _ (g1.trans g2) ⟨p,vs,rfl,.of aNq,al.mono g2.tup⟩ q1
theorem eBq (h:AA X es t) (hl:Nat.ble es.length 1000=true:=by rfl):AE X (.List es pos) (dLst t):=by
  obtain ⟨ca,ja,ra⟩:=h.run
  refine ⟨_,r4q ja,λ ρ G DQ σ H Q B q F=>ra ρ G _ σ H _ B q λ ds G1 vs H1 g1 al hn q1=>⟨by rw [al.len,hn];exact jEq hl,λ p hp=>?_⟩⟩
  exact F (.ref p) _ _ _ (g1.trans (Go.newL g1.vw hp al)) rfl (q1 p (g1.vw.none hp))
def atN (ds:List D):Int->Option D
  | .ofNat k=>ds[k]?
  | .negSucc k=>atI ds (.negSucc k)
theorem oRq (ds:List D) (i:Int):atN ds i=atI ds i:=by
  cases i with
  | negSucc k=>rfl
  | ofNat k=>
    show ds[k]?=atI ds (k:Int)
    by_cases h:k < ds.length
    . rw [List.getElem?_eq_getElem h]
      exact (bWq (List.getElem?_eq_getElem h)).symm
    . rw [List.getElem?_eq_none (by omega)]
      unfold atI ixN
      rw [if_pos (by omega),if_neg (by omega)];rfl
def atD (ds:List D) (i:Int) (G:DV) (Q:DK):Prop:=match atN ds i with
  | some d=>Q d G
  | none=>False
theorem lYq {ds:List D} {i:Int} {G:DV} {Q:DK} {d:D} (h:atI ds i=some d) (q:Q d G):atD ds i G Q:=by unfold atD;rw [oRq,h];exact q
@[irreducible] def onL (G:DV) (l:Addr) (k:List D->Prop):Prop:=match G l with
  | some (.lst ds)=>k ds
  | _=>False
@[irreducible] def onM (G:DV) (l:Addr) (k:List D->Prop):Prop:=match G l with
  | some (.lst ds)=>k ds
  | _=>False
theorem aRq {G:DV} {l:Addr} {k:List D->Prop} {ds:List D} (h:G l=some (.lst ds)) (q:k ds):onL G l k:=by unfold onL;rw [h];exact q
theorem bEq {G:DV} {l:Addr} {k:List D->Prop} {ds:List D} (h:G l=some (.lst ds)) (q:k ds):onM G l k:=by unfold onM;rw [h];exact q
theorem bDq {K:PySem.W.Frag} {G:DV} {H:Hp} {l:Addr} {k:List D->Prop} (v:Vw K G H) (h:onL G l k):∃ ds vs,k ds/\SqL K H l vs/\AbsL K H ds vs:=by
  unfold onL at h
  split at h
  . next ds e=>obtain ⟨vs,z,r⟩:=v _ _ e;exact ⟨ds,vs,h,.of z,r⟩
  . exact h.elim
theorem cIq {K:PySem.W.Frag} {G:DV} {H:Hp} {l:Addr} {k:List D->Prop} (v:Vw K G H) (h:onM G l k):∃ ds vs,k ds/\G l=some (.lst ds)/\H l=some (.lst vs)/\AbsL K H ds vs:=by
  unfold onM at h
  split at h
  . next ds e=>obtain ⟨vs,z,r⟩:=v _ _ e;exact ⟨ds,vs,h,e,z,r⟩
  . exact h.elim
abbrev dOp (r:DR2) (ta tb:DTE):DTE:=λ ρ G Q=>ta ρ G λ x G1=>tb ρ G1 λ y G2=>r x y G2 Q
abbrev dUn (r:DR1) (ta:DTE):DTE:=λ ρ G Q=>ta ρ G λ x G1=>r x G1 Q
theorem aGq {op:Operator} {r:DR2} (ho:AOp X (binaryOp op) r) (ha:AE X a ta) (hb:AE X b tb):AE X (.BinOp a op b pos) (dOp r ta tb):=by
  obtain ⟨ca,ja,ra⟩:=ha.run
  obtain ⟨cb,jb,rb⟩:=hb.run
  obtain ⟨co,jo,ro⟩:=ho.run
  refine ⟨_,z7q jo ja jb,λ ρ G DQ σ H Q B q F=>?_⟩
  exact ra ρ G _ σ H _ B q λ x G1 v H1 g1 ax q1=>rb ρ G1 _ σ H1 _ (B.go g1) q1 λ y G2 u H2 g2 ay q2=>ro x y v u G2 H2 DQ Q g2.vw (ax.mono g2.tup) ay q2 (F.after (g1.trans g2))
theorem bAq {op:CmpOp} {r:DR2} (ho:AOp X (compareOp op) r) (ha:AE X a ta) (hb:AE X b tb) (hm:behindInMarks op b=false):AE X (.Compare a [op] [b] pos) (dOp r ta tb):=by
  obtain ⟨ca,ja,ra⟩:=ha.run
  obtain ⟨cb,jb,rb⟩:=hb.run
  obtain ⟨co,jo,ro⟩:=ho.run
  refine ⟨_,rYq jo ja jb hm,λ ρ G DQ σ H Q B q F=>?_⟩
  exact ra ρ G _ σ H _ B q λ x G1 v H1 g1 ax q1=>rb ρ G1 _ σ H1 _ (B.go g1) q1 λ y G2 u H2 g2 ay q2=>ro x y v u G2 H2 DQ Q g2.vw (ax.mono g2.tup) ay q2 (F.after (g1.trans g2))
theorem qTq {op:UnaryOp} {r:DR1} (ho:AUn X (unaryOp op) r) (ha:AE X a ta):AE X (.UnaryOp op a pos) (dUn r ta):=by
  obtain ⟨ca,ja,ra⟩:=ha.run
  obtain ⟨co,jo,ro⟩:=ho.run
  refine ⟨_,zTq jo ja,λ ρ G DQ σ H Q B q F=>?_⟩
  exact ra ρ G _ σ H _ B q λ x G1 v H1 g1 ax q1=>ro x v G1 H1 DQ Q g1.vw ax q1 (F.after g1)
theorem aDq {r:DR2} (hr:AIx X r) (ha:AE X a ta) (hb:AE X b tb) (hs:h0q b):AE X (.Subscript a b pos) (dOp r ta tb):=by
  obtain ⟨ca,ja,ra⟩:=ha.run
  obtain ⟨cb,jb,rb⟩:=hb.run
  obtain ⟨co,jo,ro⟩:=hr.run
  refine ⟨_,wSq jo ja jb hs,λ ρ G DQ σ H Q B q F=>?_⟩
  exact ra ρ G _ σ H _ B q λ x G1 v H1 g1 ax q1=>rb ρ G1 _ σ H1 _ (B.go g1) q1 λ y G2 u H2 g2 ay q2=>ro x y v u G2 H2 DQ Q g2.vw (ax.mono g2.tup) ay q2 (F.after (g1.trans g2))
def Br (c:Bool) (A B:Prop):Prop:=(c=true->A)/\(c=false->B)
theorem Br.yes {c:Bool} {A B:Prop} (h:c=true) (q:A):Br c A B:=⟨λ _=>q,λ z=>absurd (h.symm.trans z) (by decide)⟩
theorem Br.no {c:Bool} {A B:Prop} (h:c=false) (q:B):Br c A B:=⟨λ z=>absurd (h.symm.trans z) (by decide),λ _=>q⟩
abbrev blD (x:D) (k:Bool->Prop):Prop:=match x with
  | .bl c=>k c
  | _=>False
theorem jRq {K:PySem.W.Frag} {H:Hp} {x:D} {v:V} {k:Bool->Prop} (h:blD x k) (r:Abs K H x v):∃ c,v=.bl c/\x=.bl c/\k c:=by
  unfold blD at h
  split at h
  . exact ⟨_,r,rfl,h⟩
  . exact h.elim
abbrev zYq (ta tb:DTE):DTE:=λ ρ G Q=>ta ρ G λ x G1=>blD x λ c=>Br c (tb ρ G1 Q) (Q (.bl false) G1)
abbrev aC1q (ta:DTE):DTE:=λ ρ G Q=>ta ρ G λ x G1=>blD x λ c=>Q (.bl (!c)) G1
theorem c2q {op} (h:AE X a ta):AE X (.BoolOp op [a] pos) ta:=by
  obtain ⟨ca,ja,ra⟩:=h.run
  exact ⟨_,y5q ja,ra⟩
theorem bZq {rest:List Expr} (ha:AE X a ta) (hb:AE X (.BoolOp .And (b::rest) pos) tb):AE X (.BoolOp .And (a::b::rest) pos) (zYq ta tb):=by
  obtain ⟨ca,ja,ra⟩:=ha.run
  obtain ⟨cb,jb,rb⟩:=hb.run
  refine ⟨_,vUq ja jb,λ ρ G DQ σ H Q B q F=>ra ρ G _ σ H _ B q λ x G1 v H1 g1 ax q1=>?_⟩
  obtain ⟨c,e1,e2,q2⟩:=jRq q1 ax
  refine ⟨c,e1,?_⟩
  cases c with
  | true=>exact rb ρ G1 _ σ H1 _ (B.go g1) (q2.1 rfl) (F.after g1)
  | false=>exact F (.bl false) _ _ _ g1 rfl (q2.2 rfl)
theorem rOq (ha:AE X a ta):AE X (.UnaryOp .Not a pos) (aC1q ta):=by
  obtain ⟨ca,ja,ra⟩:=ha.run
  refine ⟨_,vYq ja,λ ρ G DQ σ H Q B q F=>ra ρ G _ σ H _ B q λ x G1 v H1 g1 ax q1=>?_⟩
  obtain ⟨c,e1,e2,q2⟩:=jRq q1 ax
  exact ⟨c,e1,F (.bl (!c)) _ _ _ g1 rfl q2⟩
abbrev dIf (tc:DTT) (ta tb:DTE):DTE:=λ ρ G Q=>tc ρ G λ c G1=>Br c (ta ρ G1 Q) (tb ρ G1 Q)
theorem dNq {tc:DTT} (hc:AT X c tc) (ha:AE X a ta) (hb:AE X b tb):AE X (.IfExp c a b pos) (dIf tc ta tb):=by
  obtain ⟨cc,jc,rc⟩:=hc.run
  obtain ⟨ca,ja,ra⟩:=ha.run
  obtain ⟨cb,jb,rb⟩:=hb.run
  refine ⟨_,pAq jc ja jb,λ ρ G DQ σ H Q B q F=>rc ρ G _ σ H _ B q λ c G1 H1 g1 q1=>?_⟩
  cases c with
  | true=>exact ra ρ G1 _ σ H1 _ (B.go g1) (q1.1 rfl) (F.after g1)
  | false=>exact rb ρ G1 _ σ H1 _ (B.go g1) (q1.2 rfl) (F.after g1)
abbrev zCq (t:DTE):DTT:=λ ρ G Q=>t ρ G λ x G1=>blD x λ c=>Q c G1
theorem aHq {op:CmpOp} {r:DR2} (ho:AOp X (compareOp op) r) (ha:AE X a ta) (hb:AE X b tb) (hm:behindInMarks op b=false):AT X (.Compare a [op] [b] pos) (zCq (dOp r ta tb)):=by
  obtain ⟨ca,ja,ra⟩:=ha.run
  obtain ⟨cb,jb,rb⟩:=hb.run
  obtain ⟨co,jo,ro⟩:=ho.run
  refine ⟨_,tGq jo ja jb hm,λ ρ G DQ σ H Q B q F=>?_⟩
  refine ra ρ G _ σ H _ B q λ x G1 v H1 g1 ax q1=>rb ρ G1 _ σ H1 _ (B.go g1) q1 λ y G2 u H2 g2 ay q2=>ro x y v u G2 H2 _ _ g2.vw (ax.mono g2.tup) ay q2 λ z G3 w H3 g3 az q3=>?_
  obtain ⟨c,e1,e2,q4⟩:=jRq q3 az
  exact ⟨c,e1,F c G3 H3 ((g1.trans g2).trans g3) q4⟩
abbrev dNot (tc:DTT):DTT:=λ ρ G Q=>tc ρ G λ c G1=>Q (!c) G1
abbrev dOr (tc td:DTT):DTT:=λ ρ G Q=>tc ρ G λ c G1=>Br c (Q true G1) (td ρ G1 Q)
theorem dKq {tc:DTT} (ha:AT X a tc):AT X (.UnaryOp .Not a pos) (dNot tc):=by
  obtain ⟨ca,ja,ra⟩:=ha.run
  exact ⟨_,w7q ja,λ ρ G DQ σ H Q B q F=>ra ρ G _ σ H _ B q λ c G1 H1 g1 q1=>F _ _ _ g1 q1⟩
theorem g6q {tc:DTT} (ha:AT X a tc):AW X (.BoolOp .Or [a] pos) tc:=by
  obtain ⟨ca,ja,ra⟩:=ha.run
  exact ⟨_,wYq ja,ra⟩
theorem kXq {tc td:DTT} {rest:List Expr} (ha:AT X a tc) (hb:AW X (.BoolOp .Or (b::rest) pos) td):AW X (.BoolOp .Or (a::b::rest) pos) (dOr tc td):=by
  obtain ⟨ca,ja,ra⟩:=ha.run
  obtain ⟨cb,jb,rb⟩:=hb.run
  refine ⟨_,aA1q ja jb,λ ρ G DQ σ H Q B q F=>ra ρ G _ σ H _ B q λ c G1 H1 g1 q1=>?_⟩
  cases c with
  | false=>exact rb ρ G1 _ σ H1 _ (B.go g1) (q1.2 rfl) λ c G' H' g'=>F c G' H' (g1.trans g')
  | true=>exact F _ _ _ g1 (q1.1 rfl)
theorem AW.at {tc:DTT} (h:AW X e tc):AT X e tc:=by
  obtain ⟨ca,ja,ra⟩:=h.run
  exact ⟨_,ja.pt,ra⟩
def truD (x:D) (G:DV) (k:Bool->Prop):Prop:=match x with
  | .non=>k false
  | .bl b=>k b
  | .int i=>k (i !=0)
  | .str y=>y.length<=sizeLine/\k ((y.length:Int) !=0)
  | .tup ds=>k (!ds.isEmpty)
  | .ref p=>onL G p λ ds=>k (!ds.isEmpty)
  | _=>False
theorem AbsL.isEmpty {K:PySem.W.Frag} {H:Hp} {ds:List D} {vs:List V} (h:AbsL K H ds vs):vs.isEmpty=ds.isEmpty:=by
  have:=h.len
  cases ds<;>cases vs<;>simp_all
abbrev w9q (t:DTE):DTT:=λ ρ G Q=>t ρ G λ x G1=>truD x G1 λ c=>Q c G1
theorem b6q (ha:AE X a ta) (he:∀ whole,isTrue a X.env whole=(do let v ← whole;standAt a.pos;holding [v] (truthy v)):=by intro _;rfl):AT X a (w9q ta):=by
  obtain ⟨ca,ja,ra⟩:=ha.run
  refine ⟨_,qEq ja he,λ ρ G DQ σ H Q B q F=>ra ρ G _ σ H _ B q λ x G1 v H1 g1 ax q1=>?_⟩
  cases x with
  | non=>cases ax;exact ⟨_,rfl,F _ _ _ g1 q1⟩
  | bl b=>cases ax;exact ⟨_,rfl,F _ _ _ g1 q1⟩
  | int i=>cases ax;exact ⟨_,rfl,F _ _ _ g1 q1⟩
  | str y=>cases ax;exact ⟨_,⟨q1.1,rfl⟩,F _ _ _ g1 q1.2⟩
  | ref l=>
    cases ax
    obtain ⟨ds,vs,k,s,r⟩:=bDq g1.vw q1
    exact ⟨_,.inl ⟨vs,s,rfl⟩,by rw [r.isEmpty];exact F _ _ _ g1 k⟩
  | tup ds=>
    obtain ⟨l,vs,rfl,s,r⟩:=ax
    exact ⟨_,.inr (.inl ⟨vs,s,rfl⟩),by rw [r.isEmpty];exact F _ _ _ g1 q1⟩
  | ty n=>exact (show False from q1).elim
  | frl ds=>exact (show False from q1).elim
abbrev sYq:DTO:=λ _ G Q=>Q none G
abbrev zQq (t:DTE):DTO:=λ ρ G Q=>t ρ G λ x G1=>match x with
  | .int i=>Q (some i) G1
  | _=>False
theorem c9q:AO X none sYq:=⟨_,sQq,λ ρ G DQ σ H Q B q F=>F none G H (.refl B.vw) q⟩
theorem c8q (h:AE X e te):AO X (some e) (zQq te):=by
  obtain ⟨ca,ja,ra⟩:=h.run
  refine ⟨_,t8q ja,λ ρ G DQ σ H Q B q F=>ra ρ G _ σ H _ B q λ x G1 v H1 g1 ax q1=>?_⟩
  split at q1
  . next i=>exact ⟨i,ax,F _ _ _ g1 q1⟩
  . exact q1.elim
abbrev dSl (r:D->Option Int->Option Int->DV->DK->Prop) (te:DTE) (tl th:DTO):DTE:=λ ρ G Q=>te ρ G λ x G1=>tl ρ G1 λ l G2=>th ρ G2 λ u G3=>r x l u G3 Q
theorem bVq {r:D->Option Int->Option Int->DV->DK->Prop} {lo hi:Option Expr} {tl th:DTO} {p2:Pos} (hr:ASl X r) (he:AE X e te) (hl:AO X lo tl) (hu:AO X hi th):AE X (.Subscript e (.Slice lo hi none p2) pos) (dSl r te tl th):=by
  obtain ⟨ce,je,re⟩:=he.run
  obtain ⟨cl,jl,rl⟩:=hl.run
  obtain ⟨cu,ju,ru⟩:=hu.run
  obtain ⟨cr,jr,rr⟩:=hr.run
  refine ⟨_,pTq jr je jl ju,λ ρ G DQ σ H Q B q F=>re ρ G _ σ H _ B q λ x G1 v H1 g1 ax q1=>rl ρ G1 _ σ H1 _ (B.go g1) q1 λ l G2 H2 g2 q2=>ru ρ G2 _ σ H2 _ ((B.go g1).go g2) q2 λ u G3 H3 g3 q3=>?_⟩
  exact rr x v l u G3 H3 DQ Q g3.vw ((ax.mono g2.tup).mono g3.tup) q3 (F.after ((g1.trans g2).trans g3))
abbrev z8q:DTS:=λ D ρ G=>D.nx ρ G
abbrev dSeq (t u:DTS):DTS:=λ D ρ G=>t { D with nx:=u D } ρ G
abbrev z9q (te:DTE):DTS:=λ D ρ G=>te ρ G λ _ G1=>D.nx ρ G1
abbrev dRet (te:DTE):DTS:=λ D ρ G=>te ρ G D.rt
abbrev dIfS (c:DTT) (t u:DTS):DTS:=λ D ρ G=>c ρ G λ b G1=>Br b (t D ρ G1) (u D ρ G1)
theorem aJq:AB X [] z8q:=⟨_,uPq,λ DD Dc ρ G σ H B q F=>F.nx ρ G σ H (.refl B.vw) B q⟩
theorem a4q {st:Stmt} {rest:List Stmt} {ts us:DTS} (h1:AS X st ts) (h2:AB X rest us):AB X (st::rest) (dSeq ts us):=by
  obtain ⟨c1,j1,r1⟩:=h1.run
  obtain ⟨c2,j2,r2⟩:=h2.run
  refine ⟨_,rXq j1 j2,λ DD Dc ρ G σ H B q F=>r1 _ _ ρ G σ H B q ⟨λ ρ' G' σ' H' g b q=>r2 DD Dc ρ' G' σ' H' b q (F.after g),F.rt,F.bk,F.ct⟩⟩
theorem a7q {st:Stmt} {ts:DTS} (h1:AS X st ts):AB X [st] ts:=by
  obtain ⟨c1,j1,r1⟩:=h1.run
  exact ⟨_,w4q j1,r1⟩
theorem c6q (he:AE X e te) (hs:swapsWith e none pos.line X.env=pure false:=by rfl):AS X (.Expr e pos) (z9q te):=by
  obtain ⟨c1,j1,r1⟩:=he.run
  exact ⟨_,sMq j1 hs,λ DD Dc ρ G σ H B q F=>r1 ρ G _ σ H _ B q λ d G' v H' g _ q=>F.nx ρ G' σ H' g (B.go g) q⟩
theorem aAq (he:AE X e te):AS X (.Return (some e) pos) (dRet te):=by
  obtain ⟨c1,j1,r1⟩:=he.run
  exact ⟨_,xOq j1,λ DD Dc ρ G σ H B q F=>r1 ρ G _ σ H _ B q F.rt⟩
theorem aWq {ss us:List Stmt} {tc:DTT} {ts tu:DTS} (hc:AT X c tc) (ha:AB X ss ts) (hb:AB X us tu):AS X (.If c ss us pos) (dIfS tc ts tu):=by
  obtain ⟨cc,jc,rc⟩:=hc.run
  obtain ⟨ca,ja,ra⟩:=ha.run
  obtain ⟨cb,jb,rb⟩:=hb.run
  refine ⟨_,aD5q jc ja jb,λ DD Dc ρ G σ H B q F=>rc ρ G _ σ H _ B q λ c G1 H1 g1 q1=>?_⟩
  cases c with
  | true=>exact ra DD Dc ρ G1 σ H1 (B.go g1) (q1.1 rfl) (F.after g1)
  | false=>exact rb DD Dc ρ G1 σ H1 (B.go g1) (q1.2 rfl) (F.after g1)
abbrev iCq (k:Nat):DTG:=λ d ρ G Q=>Q (ρ.set k (some d)) G
abbrev sSq:lXq:=λ ds ρ G Q=>match ds with
  | []=>Q ρ G
  | _=>False
abbrev nKq (t:DTG) (u:lXq):lXq:=λ ds ρ G Q=>match ds with
  | d::r=>t d ρ G λ ρ' G'=>u r ρ' G' Q
  | []=>False
abbrev vNq (t:lXq):DTG:=λ d ρ G Q=>match d with
  | .tup ds=>t ds ρ G Q
  | _=>False
theorem b8q {k:Nat} {x:Str} (hN:X.N.Nodup) (hi:X.N[k]?=some x) (hx:Loc X.env.scope x) (hf:X.fn x=true\/X.env.scope.names.lookup x=some .local:=by first | exact .inl rfl | exact .inr rfl | assumption):AG X (.Name x pos) (iCq k):=
  ⟨_,sTq hN hi hx hf,λ d v ρ G DQ σ H Q B a q F=>F _ G _ H (.refl B.vw) (B.set a k) q⟩
abbrev dAsg (te:DTE) (g:DTG):DTS:=λ D ρ G=>te ρ G λ x G1=>g x ρ G1 D.nx
theorem rDq {tg:Expr} {g:DTG} (he:AE X e te) (hg:AG X tg g) (hs:swapsWithSole [tg] e pos.line X.env=pure false:=by rfl) (hw:swappedStores [tg] e X.env=pure none:=by rfl) (h1:(assignEach [tg] X.env).map (·.2)=[assign tg X.env]:=by rfl):AS X (.Assign [tg] e pos) (dAsg te g):=by
  obtain ⟨c1,j1,r1⟩:=he.run
  obtain ⟨c2,j2,r2⟩:=hg.run
  exact ⟨_,v9q j1 j2 hs hw h1,λ DD Dc ρ G σ H B q F=>r1 ρ G _ σ H _ B q λ d G1 v H1 g1 a q1=>r2 d v ρ G1 _ σ H1 _ (B.go g1) a q1 λ ρ' G' σ' H' g' b q'=>F.nx ρ' G' σ' H' (g1.trans g') b q'⟩
theorem aFq {k:Nat} {x:Str} {pos':Pos} (hN:X.N.Nodup) (hi:X.N[k]?=some x) (hx:Loc X.env.scope x) (he:AE X e te) (hs:swapsWith e (some (.Name x pos')) pos.line X.env=pure false:=by rfl) (hf:X.fn x=true\/X.env.scope.names.lookup x=some .local:=by first | exact .inl rfl | exact .inr rfl | assumption) :
    AS X (.Assign [.Name x pos'] e pos) (dAsg te (iCq k)):=by
  obtain ⟨c1,j1,r1⟩:=he.run
  exact ⟨_,yBq hN hi hx j1 hs hf,λ DD Dc ρ G σ H B q F=>r1 ρ G _ σ H _ B q λ d G1 v H1 g1 a q1=>F.nx _ G1 _ H1 g1 ((B.go g1).set a k) q1⟩
theorem jXq:AGs X [] sSq:=⟨_,t2q,λ ds vs ρ G DQ σ H Q B a q F=>by
  cases ds with
  | nil=>cases a;exact ⟨rfl,F ρ G σ H (.refl B.vw) B q⟩
  | cons d r=>exact (show False from q).elim⟩
theorem cKq {tg:DTG} {u:lXq} (h1:AG X e tg) (h2:AGs X es u) (hs:(assignEach (e::es) X.env).map (·.2)=assign e X.env::(assignEach es X.env).map (·.2):=by rfl):AGs X (e::es) (nKq tg u):=by
  obtain ⟨c1,j1,r1⟩:=h1.run
  obtain ⟨c2,j2,r2⟩:=h2.run
  refine ⟨_,pEq j1 j2 hs,λ ds vs ρ G DQ σ H Q B a q F=>?_⟩
  cases ds with
  | nil=>exact (show False from q).elim
  | cons d r=>
    obtain ⟨v,us,rfl,ad,ar⟩:=a
    exact ⟨v,us,rfl,r1 d v ρ G _ σ H _ B ad q λ ρ' G' σ' H' g b q'=>r2 r us ρ' G' _ σ' H' _ b (ar.mono g.tup) q' λ ρ2 G2 σ2 H2 g2 b2 q2=>F ρ2 G2 σ2 H2 (g.trans g2) b2 q2⟩
theorem lZq {k n:Nat} {tg:lXq} (hc:X.calm=true) (h:AGs X es tg) (hl:es.length=n:=by rfl) (hn:(assignEach es X.env).length=n:=by rfl) (hst:(assignEach es X.env).findIdx? (·.1)=none:=by rfl)
    (hlen:∀ ds ρ G Q,tg ds ρ G Q->ds.length=n:=by intro ds ρ G Q h;match ds,h with | [],h=>(first | rfl | exact (show False from h).elim) | [_],h=>(first | rfl | exact (show False from h).elim) | [_,_],h=>(first | rfl | exact (show False from h).elim) | [_,_,_],h=>(first | rfl | exact (show False from h).elim) | _::_::_::_::_,h=>exact (show False from h).elim):AG X (.Tuple es k pos) (vNq tg):=by
  obtain ⟨c1,j1,r1⟩:=h.run
  refine ⟨_,uMq (n:=n) hc j1 hn hst,λ d v ρ G DQ σ H Q B a q F=>?_⟩
  cases d with
  | tup ds=>
    obtain ⟨l,vs,rfl,s,r⟩:=a
    exact ⟨l,vs,rfl,s,by rw [r.len];exact hlen _ _ _ _ q,r1 ds vs ρ G DQ σ H Q B r q F⟩
  | _=>exact (show False from q).elim
end
end L3
namespace L3
open PySem PySem.Spec L2
section
variable {X:Cx}
def addD:DR2:=λ x y G Q=>match x,y with
  | .int i,.int j=>Q (.int (i+j)) G
  | .str i,.str j=>i.length+j.length<=sizeLine/\Q (.str (i++j)) G
  | .tup xs,.tup ys=>xs.length+ys.length<=sizeLine/\Q (.tup (xs++ys)) G
  | .ref l,.ref m=>onM G l λ xs=>onM G m λ ys=>xs.length+ys.length<=sizeLine/\∀ p,G p=none->Q (.ref p) (up G p (.lst (xs++ys)))
  | _,_=>False
theorem aKq:AOp X (binaryOp .Add) addD:=by
  refine ⟨_,⟨op_add.or (op_add_str.or (op_catW.or yCq))⟩,λ x y vx vy G H DQ Q v ax ay r F=>?_⟩
  cases x with
  | int i=>
    cases y with
    | int j=>cases ax;cases ay;exact .inl ⟨i,j,rfl,rfl,F (.int (i+j)) G _ H (.refl v) rfl r⟩
    | _=>exact (show False from r).elim
  | str i=>
    cases y with
    | str j=>cases ax;cases ay;exact .inr (.inl ⟨i,j,rfl,rfl,r.1,F (.str (i++j)) G _ H (.refl v) rfl r.2⟩)
    | _=>exact (show False from r).elim
  | tup xs=>
    cases y with
    | tup ys=>
      obtain ⟨l,vs,rfl,s1,r1⟩:=ax
      obtain ⟨m,us,rfl,s2,r2⟩:=ay
      have l1:=r1.len
      have l2:=r2.len
      refine .inr (.inr (.inl ⟨l,m,vs,us,rfl,rfl,s1,s2,by rw [l1,l2];exact r.1,λ e=>?_,λ e e2=>?_,λ e e2 p hp=>?_⟩))
      . subst e
        have e':xs=[]:=by cases xs<;>simp_all
        subst e'
        exact F (.tup ys) G _ H (.refl v) ⟨m,us,rfl,s2,r2⟩ (by simpa using r.2)
      . subst e2
        have e':ys=[]:=by cases ys<;>simp_all
        subst e'
        exact F (.tup xs) G _ H (.refl v) ⟨l,vs,rfl,s1,r1⟩ (by simpa using r.2)
      . have g:=Go.newT (o:=.tup (vs++us)) v hp
        exact F (.tup (xs++ys)) G _ _ g ⟨p,_,rfl,.of aNq,(r1.append r2).mono g.tup⟩ r.2
    | _=>exact (show False from r).elim
  | ref l=>
    cases y with
    | ref m=>
      cases ax;cases ay
      obtain ⟨xs,vs,k1,e1,h1,r1⟩:=cIq v r
      obtain ⟨ys,us,k2,e2,h2,r2⟩:=cIq v k1
      have l1:=r1.len
      have l2:=r2.len
      exact .inr (.inr (.inr ⟨l,m,vs,us,rfl,rfl,h1,h2,by rw [l1,l2];exact k2.1,λ p hp=>F (.ref p) _ _ _ (Go.newL v hp (r1.append r2)) rfl (k2.2 p (v.none hp))⟩))
    | _=>exact (show False from r).elim
  | _=>exact (show False from r).elim
def wEq (C:Int->Int->Prop) (g:Int->Int->D):DR2:=λ x y G Q=>match x,y with
  | .int i,.int j=>C i j/\Q (g i j) G
  | _,_=>False
def lCq (g:Int->Int->D):DR2:=λ x y G Q=>match x,y with
  | .int i,.int j=>Q (g i j) G
  | _,_=>False
theorem q1q {f:Value->Value->Sem Value} {C:Int->Int->Prop} {g:Int->Int->Int} (h:OpR X f (rI C λ i j=>.int (g i j))):AOp X f (wEq C λ i j=>.int (g i j)):=by
  refine ⟨_,⟨h⟩,λ x y vx vy G H DQ Q v ax ay r F=>?_⟩
  cases x with
  | int i=>
    cases y with
    | int j=>cases ax;cases ay;exact ⟨i,j,rfl,rfl,r.1,F (.int (g i j)) G _ H (.refl v) rfl r.2⟩
    | _=>exact (show False from r).elim
  | _=>exact (show False from r).elim
theorem wPq {f:Value->Value->Sem Value} {g:Int->Int->Int} (h:OpR X f (rI0 λ i j=>.int (g i j))):AOp X f (lCq λ i j=>.int (g i j)):=by
  refine ⟨_,⟨h⟩,λ x y vx vy G H DQ Q v ax ay r F=>?_⟩
  cases x with
  | int i=>
    cases y with
    | int j=>cases ax;cases ay;exact ⟨i,j,rfl,rfl,F (.int (g i j)) G _ H (.refl v) rfl r⟩
    | _=>exact (show False from r).elim
  | _=>exact (show False from r).elim
theorem mQq {f:Value->Value->Sem Value} {g:Int->Int->Bool} (h:OpR X f (rI0 λ i j=>.bl (g i j))):AOp X f (lCq λ i j=>.bl (g i j)):=by
  refine ⟨_,⟨h⟩,λ x y vx vy G H DQ Q v ax ay r F=>?_⟩
  cases x with
  | int i=>
    cases y with
    | int j=>cases ax;cases ay;exact ⟨i,j,rfl,rfl,F (.bl (g i j)) G _ H (.refl v) rfl r⟩
    | _=>exact (show False from r).elim
  | _=>exact (show False from r).elim
theorem aOq:AOp X (binaryOp .Sub) (lCq λ i j=>.int (i - j)):=wPq uJq
theorem c1q:AOp X (binaryOp .Mult) (wEq CMul λ i j=>.int (i * j)):=q1q y8q
theorem cLq:AOp X (binaryOp .FloorDiv) (wEq (λ _ j=>0 < j/\j < 2 ^ 64) λ i j=>.int (i / j)):=q1q qJq
theorem cBq:AOp X (binaryOp .Mod) (wEq (λ _ j=>0 < j) λ i j=>.int (i % j)):=q1q vXq
theorem s1q:AOp X (binaryOp .Pow) (wEq CPow λ i j=>.int (i ^ j.toNat)):=q1q vWq
theorem c4q:AOp X (compareOp .Lt) (lCq λ i j=>.bl (decide (i < j))):=mQq yPq
theorem j3q:AOp X (compareOp .Gt) (lCq λ i j=>.bl (decide (j < i))):=mQq z2q
theorem iBq:AOp X (compareOp .GtE) (lCq λ i j=>.bl (decide (j<=i))):=mQq zGq
def negD:DR1:=λ x G Q=>match x with
  | .int i=>Q (.int (-i)) G
  | _=>False
theorem hSq:AUn X (unaryOp .USub) negD:=by
  refine ⟨_,⟨w5q⟩,λ x vx G H DQ Q v ax r F=>?_⟩
  cases x with
  | int i=>cases ax;exact ⟨i,rfl,F (.int (-i)) G _ H (.refl v) rfl r⟩
  | _=>exact (show False from r).elim
def xYq:D->Bool
  | .non=>true
  | _=>false
def isN (neg:Bool):DR2:=λ x y G Q=>match y with
  | .non=>Q (.bl (neg ^^ xYq x)) G
  | _=>False
theorem u4q {K:PySem.W.Frag} {H:Hp} {x:D} {v:V} (a:Abs K H x v):decide (v=.non)=xYq x:=by
  cases x with
  | tup ds=>obtain ⟨_,_,rfl,_⟩:=a;rfl
  | frl ds=>obtain ⟨_,_,rfl,_⟩:=a;rfl
  | _=>cases a;rfl
theorem mRq:AOp X (compareOp .IsNot) (isN true):=by
  refine ⟨_,⟨sBq⟩,λ x y vx vy G H DQ Q v ax ay r F=>?_⟩
  cases y with
  | non=>cases ay;exact ⟨rfl,by rw [u4q ax];exact F (.bl _) G _ H (.refl v) rfl (by simpa [isN] using r)⟩
  | _=>exact (show False from r).elim
theorem hOq {K:PySem.W.Frag} {H:Hp} {ds:List D} {vs:List V} {i:Int} {d:D} (r:AbsL K H ds vs) (h:atI ds i=some d):∃ v,atI vs i=some v/\Abs K H d v:=by
  unfold atI at h ⊢
  rw [r.len]
  cases e:ixN ds.length i with
  | none=>rw [e] at h;cases h
  | some j=>
    rw [e] at h
    exact r.get h
theorem hXq {ds:List D} {i:Int} {G:DV} {Q:DK} (h:atD ds i G Q):∃ d,atI ds i=some d/\Q d G:=by
  unfold atD at h
  rw [oRq] at h
  split at h
  . next d e=>exact ⟨d,e,h⟩
  . exact h.elim
def ixD:DR2:=λ x y G Q=>match x,y with
  | .tup ds,.int i=>atD ds i G Q
  | .ref l,.int i=>onL G l λ ds=>atD ds i G Q
  | .frl ds,.int i=>atD ds i G Q
  | .str z,.int i=>z.length<=sizeLine/\∃ c,atI z.cps.toList i=some c/\Q (.str ⟨#[c]⟩) G
  | _,_=>False
theorem cQq {ds:List D} {i:Int} {G:DV} {Q:DK} {d:D} (h:atI ds i=some d) (q:Q d G):ixD (.tup ds) (.int i) G Q:=lYq h q
theorem rLq {ds:List D} {i:Int} {G:DV} {Q:DK} {d:D} (h:atI ds i=some d) (q:Q d G):ixD (.frl ds) (.int i) G Q:=lYq h q
theorem r7q {l:Addr} {ds:List D} {i:Int} {G:DV} {Q:DK} {d:D} (hl:G l=some (.lst ds)) (h:atI ds i=some d) (q:Q d G):ixD (.ref l) (.int i) G Q:=aRq hl (lYq h q)
theorem aix:AIx X ixD:=by
  refine ⟨_,⟨rIq⟩,λ x y vx vy G H DQ Q v ax ay r F=>?_⟩
  cases x with
  | tup ds=>
    cases y with
    | int i=>
      cases ay
      obtain ⟨l,vs,rfl,s,rl⟩:=ax
      obtain ⟨d,hd,q⟩:=hXq r
      obtain ⟨u,hu,ad⟩:=hOq rl hd
      exact .inr (.inl ⟨l,vs,i,u,rfl,rfl,s,hu,F d G u H (.refl v) ad q⟩)
    | _=>exact (show False from r).elim
  | ref l=>
    cases y with
    | int i=>
      cases ax;cases ay
      obtain ⟨ds,vs,k,s,rl⟩:=bDq v r
      obtain ⟨d,hd,q⟩:=hXq k
      obtain ⟨u,hu,ad⟩:=hOq rl hd
      exact .inl ⟨l,vs,i,u,rfl,rfl,s,hu,F d G u H (.refl v) ad q⟩
    | _=>exact (show False from r).elim
  | frl ds=>
    cases y with
    | int i=>
      cases ay
      obtain ⟨l,vs,rfl,s,rl⟩:=ax
      obtain ⟨d,hd,q⟩:=hXq r
      obtain ⟨u,hu,ad⟩:=hOq rl hd
      exact .inl ⟨l,vs,i,u,rfl,rfl,s.sq,hu,F d G u H (.refl v) ad q⟩
    | _=>exact (show False from r).elim
  | str z=>
    cases y with
    | int i=>
      cases ax;cases ay
      obtain ⟨hz,c,hc,q⟩:=r
      exact .inr (.inr ⟨z,i,c,rfl,rfl,hz,hc,F (.str ⟨#[c]⟩) G _ H (.refl v) rfl q⟩)
    | _=>exact (show False from r).elim
  | _=>exact (show False from r).elim
def slD:D->Option Int->Option Int->DV->DK->Prop:=λ x lo hi G Q=>match x with
  | .tup ds=>Q (.tup (cut ds lo hi)) G
  | .ref l=>onL G l λ ds=>∀ p,G p=none->Q (.ref p) (up G p (.lst (cut ds lo hi)))
  | .frl ds=>∀ p,G p=none->Q (.ref p) (up G p (.lst (cut ds lo hi)))
  | _=>False
theorem asl:ASl X slD:=by
  refine ⟨_,⟨sl_tupU.or tZq⟩,λ x vx lo hi G H DQ Q v ax r F=>?_⟩
  cases x with
  | tup ds=>
    obtain ⟨l,vs,rfl,s,rl⟩:=ax
    refine .inl ⟨l,vs,rfl,s,λ t H2 sm st=>?_⟩
    have g:=Go.grow v sm
    exact F (.tup (cut ds lo hi)) G _ _ g ⟨t,_,rfl,st,(rl.cut lo hi).mono g.tup⟩ r
  | ref l=>
    cases ax
    obtain ⟨ds,vs,k,s,rl⟩:=bDq v r
    exact .inr ⟨l,vs,rfl,s,λ p hp=>F (.ref p) _ _ _ (Go.newL v hp (rl.cut lo hi)) rfl (k p (v.none hp))⟩
  | frl ds=>
    obtain ⟨l,vs,rfl,s,rl⟩:=ax
    exact .inr ⟨l,vs,rfl,s.sq,λ p hp=>F (.ref p) _ _ _ (Go.newL v hp (rl.cut lo hi)) rfl (r p (v.none hp))⟩
  | _=>exact (show False from r).elim
def dVq:D->Bool
  | .non=>true
  | .bl _=>true
  | .int _=>true
  | .str _=>true
  | _=>false
def toV:D->V
  | .non=>.non
  | .bl b=>.bl b
  | .int i=>.int i
  | .str x=>.str x
  | _=>.non
theorem mSq {K:PySem.W.Frag} {H:Hp} {d:D} {v:V} (a:Abs K H d v) (h:dVq d=true):v=toV d/\g1q v=true:=by
  cases d with
  | non=>cases a;exact ⟨rfl,rfl⟩
  | bl b=>cases a;exact ⟨rfl,rfl⟩
  | int b=>cases a;exact ⟨rfl,rfl⟩
  | str b=>cases a;exact ⟨rfl,rfl⟩
  | _=>exact absurd h (by simp [dVq])
theorem toVs {K:PySem.W.Frag} {H:Hp}:∀ {ds:List D} {vs:List V},AbsL K H ds vs->ds.all dVq=true->vs=ds.map toV/\vs.all g1q=true
  | [],_,r,_=>by cases r;exact ⟨rfl,rfl⟩
  | _::_,_,⟨v,r,e,q,l⟩,h=>by
    subst e
    rw [List.all_cons,Bool.and_eq_true] at h
    obtain ⟨h1,h2⟩:=mSq q h.1
    obtain ⟨h3,h4⟩:=toVs l h.2
    exact ⟨by rw [List.map_cons,<- h1,<- h3],by rw [List.all_cons,h2,h4];rfl⟩
def eqF:D->D->Bool
  | .non,.non=>true
  | .bl a,.bl b=>a==b
  | .bl a,.int b=>(if a then 1 else 0)==b
  | .int a,.bl b=>a==(if b then 1 else 0)
  | .int a,.int b=>a==b
  | .str a,.str b=>a==b
  | _,_=>false
theorem yZq {x y:D} (hx:dVq x=true) (hy:dVq y=true):eqV (toV x) (toV y)=eqF x y:=by
  cases x<;>cases y<;>first | rfl | (simp [dVq] at hx;done) | (simp [dVq] at hy;done)
def inL (x:D) (ds:List D):Bool:=ds.any λ y=>eqF y x
theorem s3q {x:D} (hx:dVq x=true):∀ {ds:List D},ds.all dVq=true->inV (toV x) (ds.map toV)=inL x ds
  | [],_=>rfl
  | d::ds,h=>by
    rw [List.all_cons,Bool.and_eq_true] at h
    have ih:=s3q hx h.2
    unfold inV inL at *
    rw [List.map_cons,List.any_cons,List.any_cons,ih,yZq h.1 hx]
def inD (neg:Bool):DR2:=λ x y G Q=>match y with
  | .tup ds=>dVq x=true/\ds.all dVq=true/\Q (.bl (neg ^^ inL x ds)) G
  | .ref l=>onL G l λ ds=>dVq x=true/\ds.all dVq=true/\Q (.bl (neg ^^ inL x ds)) G
  | .str j=>(match x with
      | .str i=>Q (.bl (neg ^^ !(Builtin.Str.occurrences j i 0 j.length 1).isEmpty)) G
      | _=>False)
  | _=>False
theorem vZq:AOp X (compareOp .In) (inD false):=by
  refine ⟨_,⟨op_in_seq.or oEq⟩,λ x y vx vy G H DQ Q v ax ay r F=>?_⟩
  cases y with
  | tup ds=>
    obtain ⟨h1,h2,q⟩:=r
    obtain ⟨l,vs,rfl,s,rl⟩:=ay
    obtain ⟨e1,f1⟩:=mSq ax h1
    obtain ⟨e2,f2⟩:=toVs rl h2
    refine .inl ⟨l,vs,rfl,.inr s,f1,f2,?_⟩
    rw [e1,e2,s3q h1 h2]
    exact F (.bl _) G _ H (.refl v) rfl (by simpa using q)
  | ref l=>
    cases ay
    obtain ⟨ds,vs,⟨h1,h2,q⟩,s,rl⟩:=bDq v r
    obtain ⟨e1,f1⟩:=mSq ax h1
    obtain ⟨e2,f2⟩:=toVs rl h2
    refine .inl ⟨l,vs,rfl,.inl s,f1,f2,?_⟩
    rw [e1,e2,s3q h1 h2]
    exact F (.bl _) G _ H (.refl v) rfl (by simpa using q)
  | str j=>
    cases x with
    | str i=>cases ax;cases ay;exact .inr ⟨i,j,rfl,rfl,F (.bl _) G _ H (.refl v) rfl (by simpa [inD] using r)⟩
    | _=>exact (show False from r).elim
  | _=>exact (show False from r).elim
variable {e o:Expr} {es:List Expr} {te to:DTE} {t:DTA} {pos p apos cpos:Pos}
abbrev dCB (r:DRL) (t:DTA):DTE:=λ ρ G Q=>t ρ G λ ds G1=>r ds G1 Q
theorem aXq {x:Str} {id:String} {r:DRL} (hc:ACall X (.builtin id) r) (hg:Gl X x) (hm:X.mg x=none) (hv:bootBuiltins x=some (.builtin id)) (ha:AA X (e::es) t) (hn:x≠"__name__":=by decide) (hdb:(x==("__debug__" : Str))=false:=by decide)
    (hs:(e::es).all aSq=true:=by rfl):AE X (.Call (.Name x p) (e::es) [] pos) (dCB r t):=by
  obtain ⟨ca,ja,ra⟩:=ha.run
  obtain ⟨cc,jc,rc⟩:=hc.run
  exact ⟨_,qIq jc hg hm hv ja hn hdb hs,λ ρ G DQ σ H Q B q F=>ra ρ G _ σ H _ B q λ ds G1 vs H1 g1 al _ q1=>rc ds vs G1 H1 DQ Q g1.vw al q1 (F.after g1)⟩
theorem bLq {x:Str} {T:String} {r:DRL} (hc:ACall X (.type T) r) (hg:Gl X x) (hm:X.mg x=none) (hv:bootBuiltins x=some (.type T)) (ha:AA X (e::es) t) (hn:x≠"__name__":=by decide) (hdb:(x==("__debug__" : Str))=false:=by decide)
    (hs:(e::es).all aSq=true:=by rfl):AE X (.Call (.Name x p) (e::es) [] pos) (dCB r t):=by
  obtain ⟨ca,ja,ra⟩:=ha.run
  obtain ⟨cc,jc,rc⟩:=hc.run
  exact ⟨_,nWq jc hg hm hv ja hn hdb hs,λ ρ G DQ σ H Q B q F=>ra ρ G _ σ H _ B q λ ds G1 vs H1 g1 al _ q1=>rc ds vs G1 H1 DQ Q g1.vw al q1 (F.after g1)⟩
abbrev uCq (r:D->DV->DK->Prop):DRL:=λ xs G Q=>match xs with
  | [x]=>r x G Q
  | _=>False
abbrev yHq (r:D->D->DV->DK->Prop):DRL:=λ xs G Q=>match xs with
  | [x,y]=>r x y G Q
  | _=>False
theorem eLq {K:PySem.W.Frag} {H:Hp} {r:D->DV->DK->Prop} {xs:List D} {vs:List V} {G:DV} {Q:DK} (h:uCq r xs G Q) (a:AbsL K H xs vs):∃ x v,xs=[x]/\vs=[v]/\Abs K H x v/\r x G Q:=by
  unfold uCq at h
  split at h
  . obtain ⟨v,r,rfl,q,l⟩:=a;cases l;exact ⟨_,v,rfl,rfl,q,h⟩
  . exact h.elim
theorem k6q {K:PySem.W.Frag} {H:Hp} {r:D->D->DV->DK->Prop} {xs:List D} {vs:List V} {G:DV} {Q:DK} (h:yHq r xs G Q) (a:AbsL K H xs vs):∃ x y v u,xs=[x,y]/\vs=[v,u]/\Abs K H x v/\Abs K H y u/\r x y G Q:=by
  unfold yHq at h
  split at h
  . obtain ⟨v,r,rfl,q,u,r2,rfl,q2,l⟩:=a;cases l;exact ⟨_,_,v,u,rfl,rfl,q,q2,h⟩
  . exact h.elim
def lenD:D->DV->DK->Prop:=λ x G Q=>match x with
  | .tup ds=>Q (.int ds.length) G
  | .ref l=>onL G l λ ds=>Q (.int ds.length) G
  | .frl ds=>Q (.int ds.length) G
  | .str z=>z.length<=sizeLine/\Q (.int z.length) G
  | _=>False
theorem bFq:ACall X (.builtin "len") (uCq lenD):=by
  refine ⟨_,⟨call_len_seq.or iPq⟩,λ xs vs G H DQ Q v a r F=>?_⟩
  obtain ⟨x,u,rfl,rfl,ax,r⟩:=eLq r a
  cases x with
  | tup ds=>
    obtain ⟨l,ws,rfl,s,rl⟩:=ax
    exact .inl ⟨l,ws,rfl,.inr s,by rw [rl.len];exact F (.int ds.length) G _ H (.refl v) rfl r⟩
  | ref l=>
    cases ax
    obtain ⟨ds,ws,k,s,rl⟩:=bDq v r
    exact .inl ⟨l,ws,rfl,.inl s,by rw [rl.len];exact F (.int ds.length) G _ H (.refl v) rfl k⟩
  | frl ds=>
    obtain ⟨l,ws,rfl,s,rl⟩:=ax
    exact .inl ⟨l,ws,rfl,.inl s.sq,by rw [rl.len];exact F (.int ds.length) G _ H (.refl v) rfl r⟩
  | str z=>cases ax;exact .inr ⟨z,rfl,r.1,F (.int z.length) G _ H (.refl v) rfl r.2⟩
  | _=>exact (show False from r).elim
def intD:D->DV->DK->Prop:=λ x G Q=>match x with
  | .int i=>Q (.int i) G
  | .bl k=>Q (.int (if k then 1 else 0)) G
  | _=>False
theorem cDq:ACall X (.type "int") (uCq intD):=by
  refine ⟨_,⟨nBq⟩,λ xs vs G H DQ Q v a r F=>?_⟩
  obtain ⟨x,u,rfl,rfl,ax,r⟩:=eLq r a
  cases x with
  | int i=>cases ax;exact .inl ⟨i,rfl,F (.int i) G _ H (.refl v) rfl r⟩
  | bl k=>cases ax;exact .inr ⟨k,rfl,F (.int (if k then 1 else 0)) G _ H (.refl v) rfl r⟩
  | _=>exact (show False from r).elim
def tupD:D->DV->DK->Prop:=λ x G Q=>match x with
  | .tup ds=>Q (.tup ds) G
  | .ref l=>onL G l λ ds=>Q (.tup ds) G
  | _=>False
theorem cWq:ACall X (.type "tuple") (uCq tupD):=by
  refine ⟨_,⟨hUq⟩,λ xs vs G H DQ Q v a r F=>?_⟩
  obtain ⟨x,u,rfl,rfl,ax,r⟩:=eLq r a
  cases x with
  | tup ds=>
    obtain ⟨l,ws,rfl,s,rl⟩:=ax
    exact ⟨l,ws,rfl,.inr ⟨s,F (.tup ds) G _ H (.refl v) ⟨l,ws,rfl,s,rl⟩ r⟩⟩
  | ref l=>
    cases ax
    obtain ⟨ds,ws,k,s,rl⟩:=bDq v r
    refine ⟨l,ws,rfl,.inl ⟨s,λ p hp=>?_⟩⟩
    have g:=Go.newT (o:=.tup ws) v hp
    exact F (.tup ds) G _ _ g ⟨p,ws,rfl,.of aNq,rl.mono g.tup⟩ k
  | _=>exact (show False from r).elim
def e9q:List D->Option (List Int)
  | []=>some []
  | .int i::r=>(e9q r).map (i::·)
  | _::_=>none
theorem fAq:∀ {ds:List D} {ns:List Int},e9q ds=some ns->ds=ns.map D.int
  | [],ns,h=>by cases h;rfl
  | d::r,ns,h=>by
    cases d with
    | int i=>
      simp only [e9q,Option.map_eq_some_iff] at h
      obtain ⟨ms,h1,rfl⟩:=h
      rw [fAq h1];rfl
    | _=>simp [e9q] at h
theorem dRq:∀ ns:List Int,e9q (ns.map D.int)=some ns
  | []=>rfl
  | n::ns=>by simp [e9q,dRq ns]
end
end L3
namespace L2
open PySem PySem.Spec PyProof.Rows
def iSeq (K:PySem.W.Frag) (tl:TE):TI:=λ σ H R=>tl σ H λ x H1=>∃ a,x=.ref a/\(((∃ xs,SqL K H1 a xs)/\R (Itl K a) H1)\/((∃ xs,SqT K H1 a xs)/\R (Itt K a) H1))
theorem v6q {X:Cx} {tg l:Expr} {tl:TE} (hl:PE X l tl):PI X tg l (iSeq X.K tl):=by
  intro pins s σ H R I h
  refine thn (hl pins s σ H _ I h) λ v s1 ⟨x,H1,I1,r1,q1⟩=>?_
  obtain ⟨a,e,q1⟩:=q1
  subst e
  cases r1
  rcases q1 with ⟨⟨xs,hq⟩,q⟩ | ⟨⟨xs,hq⟩,q⟩
  . obtain ⟨its,rv,p,hz⟩:=I1.list hq
    refine wpAny_pyIter_list p.isList ?_
    refine ⟨s1.heap.objs.size,[s1.heap.objs.size],_,_,H1,rfl,I1.kept (t':=s1.toks) λ b o e=>Heap.get?_push_of_some _ e,m3q a _,⟨_,Heap.get?_push_size _ rfl,rfl,rfl⟩,λ b hb=>?_,q⟩
    have e:b=s1.heap.objs.size:=by simpa using hb
    subst e
    exact I1.fpOk (Nat.le_refl _) (I1.hok.fresh (Nat.le_refl _))
  . obtain ⟨its,rv,p,hz⟩:=I1.tuple hq
    refine wpAny_pyIter_tuple (show s1.heap.IsTuple a its.toArray from p) ?_
    refine ⟨s1.heap.objs.size,[s1.heap.objs.size],_,_,H1,rfl,I1.kept (t':=s1.toks) λ b o e=>Heap.get?_push_of_some _ e,lEq a _,⟨_,Heap.get?_push_size _ rfl,rfl,rfl⟩,λ b hb=>?_,q⟩
    have e:b=s1.heap.objs.size:=by simpa using hb
    subst e
    exact I1.fpOk (Nat.le_refl _) (I1.hok.fresh (Nat.le_refl _))
end L2
namespace L3
open PySem PySem.Spec L2
section
variable {X:Cx} {a b c e o i tg iter:Expr} {es:List Expr} {ta tb te to ti:DTE} {t:DTA} {pos p apos cpos:Pos}
structure DIt where
  items:List D
  held:DV->Prop
abbrev DTI:=DSt->DV->(DIt->DV->Prop)->Prop
def z4q (K:PySem.W.Frag) (J:DIt) (Jc:It) (G:DV) (H:Hp):Prop:=∀ G1 H1,Go K G H G1 H1->J.held G1 →
  (∀ (i:Nat) (d:D),J.items[i]?=some d->Jc.go i H1/\∀ x H',Jc.yld i H1 x H'->Go K G1 H1 G1 H'/\Abs K H' d x)/\∀ i,J.items.length<=i->Jc.stop i H1
structure AI (X:Cx) (tg iter:Expr) (wi:DTI):Prop where
  run:∃ wc:TI,JI X tg iter wc/\∀ ρ G DR σ H R,Bears X.K ρ G σ H->wi ρ G DR->(∀ J Jc G' H',Go X.K G H G' H'->z4q X.K J Jc G' H'->DR J G'->R Jc H')->wc σ H R
@[irreducible] def v3q (G:DV) (l:Addr) (k:DIt->Prop):Prop:=match G l with
  | some (.lst ds)=>k ⟨ds,λ G=>G l=some (.lst ds)⟩
  | _=>False
abbrev yWq (ta:DTE):DTI:=λ ρ G R=>ta ρ G λ x G1=>match x with
  | .tup ds=>R ⟨ds,λ _=>True⟩ G1
  | .ref l=>v3q G1 l λ J=>R J G1
  | .frl ds=>R ⟨ds,λ _=>True⟩ G1
  | _=>False
theorem dQq {G:DV} {l:Addr} {k:DIt->Prop} {ds:List D} (h:G l=some (.lst ds)) (q:k ⟨ds,λ G=>G l=some (.lst ds)⟩):v3q G l k:=by unfold v3q;rw [h];exact q
theorem w3q {K:PySem.W.Frag} {ds:List D} {vs:List V} {l:Addr} {G1:DV} {H1:Hp} (v:Vw K G1 H1) (s:SqT K H1 l vs) (r:AbsL K H1 ds vs) :
    (∀ (i:Nat) (d:D),ds[i]?=some d->(Itt K l).go i H1/\∀ x H',(Itt K l).yld i H1 x H'->Go K G1 H1 G1 H'/\Abs K H' d x)/\∀ i,ds.length<=i->(Itt K l).stop i H1:=by
  refine ⟨λ i d hd=>?_,λ i hi=>⟨vs,s,by rw [r.len];exact hi⟩⟩
  obtain ⟨w,hw,aw⟩:=r.get hd
  refine ⟨⟨vs,w,s,hw⟩,λ x H' y=>?_⟩
  obtain ⟨rfl,y⟩:=y
  have z:=y vs s
  rw [hw] at z
  cases z
  exact ⟨.refl v,aw⟩
theorem nSq {K:PySem.W.Frag} {ds:List D} {vs:List V} {l:Addr} {G1:DV} {H1:Hp} (v:Vw K G1 H1) (s:SqL K H1 l vs) (r:AbsL K H1 ds vs) :
    (∀ (i:Nat) (d:D),ds[i]?=some d->(Itl K l).go i H1/\∀ x H',(Itl K l).yld i H1 x H'->Go K G1 H1 G1 H'/\Abs K H' d x)/\∀ i,ds.length<=i->(Itl K l).stop i H1:=by
  refine ⟨λ i d hd=>?_,λ i hi=>⟨vs,s,by rw [r.len];exact hi⟩⟩
  obtain ⟨w,hw,aw⟩:=r.get hd
  refine ⟨⟨vs,w,s,hw⟩,λ x H' y=>?_⟩
  obtain ⟨rfl,y⟩:=y
  have z:=y vs s
  rw [hw] at z
  cases z
  exact ⟨.refl v,aw⟩
theorem xHq {tc:TE} (hl:JE X a tc):JI X tg a (iSeq X.K tc):=⟨v6q hl.run⟩
theorem bYq (ha:AE X a ta):AI X tg a (yWq ta):=by
  obtain ⟨ca,ja,ra⟩:=ha.run
  refine ⟨_,xHq ja,λ ρ G DR σ H R B q F=>ra ρ G _ σ H _ B q λ x G1 v H1 g1 ax q1=>?_⟩
  cases x with
  | tup ds=>
    obtain ⟨l,vs,rfl,s,r⟩:=ax
    exact ⟨l,rfl,.inr ⟨⟨vs,s⟩,F ⟨ds,λ _=>True⟩ _ G1 H1 g1 (λ G2 H2 g2 _=>w3q g2.vw (g2.tup.tp _ _ s) (r.mono g2.tup)) q1⟩⟩
  | ref l=>
    cases ax
    refine ⟨l,rfl,.inl ?_⟩
    replace q1:v3q G1 l λ J=>DR J G1:=q1
    unfold v3q at q1
    split at q1
    . next ds hd=>
      obtain ⟨vs,z,r⟩:=g1.vw _ _ hd
      refine ⟨⟨vs,.of z⟩,F ⟨ds,λ G=>G l=some (.lst ds)⟩ _ G1 H1 g1 (λ G2 H2 g2 h2=>?_) q1⟩
      obtain ⟨us,z2,r2⟩:=g2.vw _ _ h2
      exact nSq g2.vw (.of z2) r2
    . exact q1.elim
  | frl ds=>
    obtain ⟨l,vs,rfl,s,r⟩:=ax
    exact ⟨l,rfl,.inl ⟨⟨vs,s.sq⟩,F ⟨ds,λ _=>True⟩ _ G1 H1 g1 (λ G2 H2 g2 _=>nSq g2.vw (g2.tup.fr _ _ s).sq (r.mono g2.tup)) q1⟩⟩
  | _=>exact (show False from q1).elim
def cSq (lo:Int) (n:Nat):List D:=(List.range n).map λ(i:Nat)=>D.int (lo+(i:Int))
theorem gIq {lo:Int} {n i:Nat} {d:D} (h:(cSq lo n)[i]?=some d):i < n/\d=.int (lo+i):=by
  unfold cSq at h
  rw [List.getElem?_map] at h
  by_cases c:i < n
  . rw [List.getElem?_range c] at h
    simp at h
    exact ⟨c,h.symm⟩
  . rw [List.getElem?_eq_none (by simpa using c)] at h
    cases h
theorem gUq {lo:Int} {n:Nat}:(cSq lo n).length=n:=by simp [cSq]
@[irreducible] def onR (r:List D->Option (Int × Nat)) (ds:List D) (k:Int->Nat->Prop):Prop:=match r ds with
  | some (lo,n)=>k lo n
  | none=>False
abbrev s7q (r:List D->Option (Int × Nat)) (t:DTA):DTI:=λ ρ G R=>t ρ G λ ds G1=>onR r ds λ lo n=>R ⟨cSq lo n,λ _=>True⟩ G1
def hDq (i:Int):Bool:=decide (-(2 ^ 62)<=i)&&decide (i < 2 ^ 62)
def wXq:List D->Option (Int × Nat)
  | [.int j]=>if hDq j=true then some (0,j.toNat) else none
  | _=>none
theorem small62_iff {i:Int}:hDq i=true ↔ -(2 ^ 62)<=i/\i < 2 ^ 62:=by unfold hDq;simp
theorem w1q {K:PySem.W.Frag} {lo:Int} {n:Nat} {G1:DV} {H1:Hp} (v:Vw K G1 H1) :
    (∀ (i:Nat) (d:D),(cSq lo n)[i]?=some d->(Itr lo n).go i H1/\∀ x H',(Itr lo n).yld i H1 x H'->Go K G1 H1 G1 H'/\Abs K H' d x)/\∀ i,(cSq lo n).length<=i->(Itr lo n).stop i H1:=by
  refine ⟨λ i d hd=>?_,λ i hi=>by rw [gUq] at hi;exact hi⟩
  obtain ⟨h1,rfl⟩:=gIq hd
  refine ⟨h1,λ x H' y=>?_⟩
  obtain ⟨rfl,rfl⟩:=y
  exact ⟨.refl v,rfl⟩
theorem q8q {ds:List D} {lo:Int} {n:Nat} (h:wXq ds=some (lo,n)):∃ j,ds=[.int j]/\(-(2 ^ 62)<=j/\j < 2 ^ 62)/\lo=0/\n=j.toNat:=by
  unfold wXq at h
  split at h
  . next j=>
    split at h
    . next c=>cases h;exact ⟨j,rfl,small62_iff.mp c,rfl,rfl⟩
    . cases h
  . cases h
theorem rZq {j:Int} {k:Int->Nat->Prop} (h:-(2 ^ 62)<=j/\j < 2 ^ 62) (q:k 0 j.toNat):onR wXq [.int j] k:=by
  have e:wXq [.int j]=some (0,j.toNat):=if_pos (small62_iff.mpr h)
  unfold onR;rw [e];exact q
theorem jKq {r:List D->Option (Int × Nat)} {ds:List D} {R:DIt->DV->Prop} {G:DV} (h:onR r ds λ lo n=>R ⟨cSq lo n,λ _=>True⟩ G):∃ lo n,r ds=some (lo,n)/\R ⟨cSq lo n,λ _=>True⟩ G:=by
  unfold onR at h
  split at h
  . next lo n e=>exact ⟨lo,n,e,h⟩
  . exact h.elim
theorem m2q (hg:Gl X "range") (hm:X.mg "range" = none) (ha:AA X [a] t) (hs:aSq a=true:=by rfl):AI X tg (.Call (.Name "range" p) [a] [] pos) (s7q wXq t):=by
  obtain ⟨ca,ja,ra⟩:=ha.run
  refine ⟨_,nEq hg hm ja hs,λ ρ G DR σ H R B q F=>ra ρ G _ σ H _ B q λ ds G1 vs H1 g1 al hl q1=>?_⟩
  obtain ⟨lo,n,e,q2⟩:=jKq q1
  obtain ⟨j,rfl,c,rfl,rfl⟩:=q8q e
  obtain ⟨v,r,rfl,av,l⟩:=al
  cases l;cases av
  exact ⟨j,rfl,c.1,c.2,F _ _ G1 H1 g1 (λ G2 H2 g2 _=>w1q g2.vw) q2⟩
def mMq (hi:Int) (n:Nat):List D:=(List.range n).map λ(i:Nat)=>D.int (hi - (i:Int))
abbrev xNq (t:DTA):DTI:=λ ρ G R=>t ρ G λ ds G1=>match ds with
  | [.int i,.int j,.int k]=>j=-1/\k=-1/\hDq i=true/\R ⟨mMq i (i+1).toNat,λ _=>True⟩ G1
  | _=>False
theorem iQq {lo:Int} {n i:Nat} {d:D} (h:(mMq lo n)[i]?=some d):i < n/\d=.int (lo - i):=by
  unfold mMq at h
  rw [List.getElem?_map] at h
  by_cases c:i < n
  . rw [List.getElem?_range c] at h
    simp at h
    exact ⟨c,h.symm⟩
  . rw [List.getElem?_eq_none (by simpa using c)] at h
    cases h
theorem iFq {lo:Int} {n:Nat}:(mMq lo n).length=n:=by simp [mMq]
theorem nMq (hg:Gl X "range") (hm:X.mg "range" = none) (ha:AA X [a,b,c] t) (h1:aSq a=true:=by rfl) (h2:aSq b=true:=by rfl) (h3:aSq c=true:=by rfl):AI X tg (.Call (.Name "range" p) [a,b,c] [] pos) (xNq t):=by
  obtain ⟨ca,ja,ra⟩:=ha.run
  refine ⟨_,o3q hg hm ja h1 h2 h3,λ ρ G DR σ H R B q F=>ra ρ G _ σ H _ B q λ ds G1 vs H1 g1 al hl q1=>?_⟩
  split at q1
  . next i j k=>
    obtain ⟨rfl,rfl,c,q2⟩:=q1
    obtain ⟨v,r,rfl,av,u,r2,rfl,au,w,r3,rfl,aw,l⟩:=al
    cases l;cases av;cases au;cases aw
    refine ⟨i,rfl,small62_iff.mp c,F _ _ G1 H1 g1 (λ G2 H2 g2 _=>⟨λ n d hd=>?_,λ n hn=>?_⟩) q2⟩
    . obtain ⟨z1,rfl⟩:=iQq hd
      refine ⟨z1,λ x H' y=>?_⟩
      obtain ⟨rfl,rfl⟩:=y
      exact ⟨.refl g2.vw,rfl⟩
    . rw [iFq] at hn;exact hn
  . exact q1.elim
def Wk (P:DSt->DV->Prop):DSt->DV->Prop:=λ ρ G=>∃ ρ' G',StSub ρ' ρ/\Sub G' G/\P ρ' G'
theorem Wk.of {P:DSt->DV->Prop} {ρ:DSt} {G:DV} (h:P ρ G):Wk P ρ G:=⟨ρ,G,.refl _,.refl _,h⟩
abbrev dFor (wi:DTI) (g:DTG) (tb:DTS):DTS:=λ DD ρ G=>wi ρ G λ J G1=>∃ P:Nat->DSt->DV->Prop,P 0 ρ G1/\(∀ i ρ G,i<=J.items.length->P i ρ G->J.held G) ∧
  (∀ (i:Nat) (d:D) (ρ:DSt) (G:DV),J.items[i]?=some d->P i ρ G->g d ρ G λ ρ' G'=>tb { DD with nx:=Wk (P (i+1)),ct:=Wk (P (i+1)),bk:=DD.nx } ρ' G')/\∀ ρ G,P J.items.length ρ G->DD.nx ρ G
theorem f1q {body:List Stmt} {wi:DTI} {g:DTG} {tb:DTS} (hp:PassesOwn (model X.prog X.w) X.A X.env X.xe) (hc:X.calm=true) (hi:AI X tg iter wi) (hg:AG X tg g) (hb:AB X body tb) (hs:∀ x,foldedSetIterable iter X.env x=pure x:=by intro _;rfl) :
    AS X (.For tg iter body [] pos) (dFor wi g tb):=by
  obtain ⟨ci,ji,ri⟩:=hi.run
  obtain ⟨cg,jg,rg⟩:=hg.run
  obtain ⟨cb,jb,rb⟩:=hb.run
  refine ⟨_,vEq hp hc ji jg jb hs,λ DD Dc ρ G σ H B q F=>ri ρ G _ σ H _ B q λ J Jc G1 H1 g1 ok q1=>?_⟩
  obtain ⟨P,p0,held,turn,done⟩:=q1
  refine ⟨λ i m σ' H'=>m=J.items.length - i/\i<=J.items.length/\∃ ρ' G',P i ρ' G'/\Bears X.K ρ' G' σ' H'/\Go X.K G1 H1 G' H',⟨_,rfl,Nat.zero_le _,ρ,G1,p0,B.go g1,.refl g1.vw⟩,?_⟩
  rintro i m σ2 H2 ⟨rfl,hi,ρ2,G2,p2,b2,g2⟩
  have k2:=ok G2 H2 g2 (held i ρ2 G2 hi p2)
  by_cases hlt:i < J.items.length
  . have hd:J.items[i]?=some J.items[i]:=by simp [hlt]
    obtain ⟨go,yl⟩:=k2.1 i _ hd
    refine .inr ⟨go,λ σ' H'=>∃ ρ' G',P (i+1) ρ' G'/\Bears X.K ρ' G' σ' H'/\Go X.K G1 H1 G' H',λ σ' H' ⟨ρ',G',z1,z2,z3⟩=>⟨J.items.length - (i+1),by omega,rfl,hlt,ρ',G',z1,z2,z3⟩,λ x H' y=>?_⟩
    obtain ⟨g3,ax⟩:=yl x H' y
    refine rg _ x ρ2 G2 _ σ2 H' _ (b2.go g3) ax (turn i _ ρ2 G2 hd p2) λ ρ4 G4 σ4 H4 g4 b4 q4=>?_
    have gg:=(g2.trans g3).trans g4
    have again:∀ ρ' G' σ' H',Go X.K G4 H4 G' H'->Bears X.K ρ' G' σ' H'->Wk (P (i+1)) ρ' G'->∃ ρ' G',P (i+1) ρ' G'/\Bears X.K ρ' G' σ' H'/\Go X.K G1 H1 G' H':=λ ρ' G' σ' H' g' b' ⟨ρ5,G5,s1,s2,w⟩=>
      ⟨ρ5,G5,w,b'.weak s1 s2,(gg.trans g').sub s2⟩
    exact rb _ _ ρ4 G4 σ4 H4 b4 q4 ⟨λ ρ' G' σ' H' g' b' w=>again ρ' G' σ' H' g' b' w,(F.after ((g1.trans gg))).rt,λ ρ' G' σ' H' g' b' w=>F.nx ρ' G' σ' H' ((g1.trans gg).trans g') b' w,λ ρ' G' σ' H' g' b' w=>again ρ' G' σ' H' g' b' w⟩
  . have e:i=J.items.length:=by omega
    subst e
    exact .inl ⟨k2.2 _ (Nat.le_refl _),F.nx ρ2 G2 σ2 H2 (g1.trans g2) b2 (done ρ2 G2 p2)⟩
abbrev xUq (tc:DTT) (tb:DTS):DTS:=λ DD ρ G=>∃ W:Nat->DSt->DV->Prop,(∃ m,W m ρ G)/\∀ m ρ G,W m ρ G →
  tc ρ G λ b G1=>Br b (tb { DD with nx:=Wk λ ρ' G'=>∃ m',m' < m/\W m' ρ' G',ct:=Wk λ ρ' G'=>∃ m',m' < m/\W m' ρ' G',bk:=DD.nx } ρ G1) (DD.nx ρ G1)
theorem kTq {body:List Stmt} {tc:DTT} {tb:DTS} (hp:PassesOwn (model X.prog X.w) X.A X.env X.xe) (hc:AT X c tc) (hb:AB X body tb):AS X (.While c body [] pos) (xUq tc tb):=by
  obtain ⟨cc,jc,rc⟩:=hc.run
  obtain ⟨cb,jb,rb⟩:=hb.run
  refine ⟨_,p3q hp jc jb,λ DD Dc ρ G σ H B q F=>?_⟩
  obtain ⟨W,⟨m0,w0⟩,turn⟩:=q
  refine ⟨λ m σ' H'=>∃ ρ' G',W m ρ' G'/\Bears X.K ρ' G' σ' H'/\Go X.K G H G' H',⟨m0,ρ,G,w0,B,.refl B.vw⟩,?_⟩
  rintro m σ2 H2 ⟨ρ2,G2,w2,b2,g2⟩
  refine rc ρ2 G2 _ σ2 H2 _ b2 (turn m ρ2 G2 w2) λ k G3 H3 g3 q3=>?_
  cases k with
  | true=>
    refine ⟨λ σ' H'=>∃ m',m' < m/\∃ ρ' G',W m' ρ' G'/\Bears X.K ρ' G' σ' H'/\Go X.K G H G' H',λ σ' H' ⟨m',z,ρ',G',z1,z2,z3⟩=>⟨m',z,ρ',G',z1,z2,z3⟩,?_⟩
    have gg:=g2.trans g3
    have again:∀ ρ' G' σ' H',Go X.K G3 H3 G' H'->Bears X.K ρ' G' σ' H'->Wk (λ ρ' G'=>∃ m',m' < m/\W m' ρ' G') ρ' G'->∃ m',m' < m/\∃ ρ' G',W m' ρ' G'/\Bears X.K ρ' G' σ' H'/\Go X.K G H G' H':=λ ρ' G' σ' H' g' b' ⟨ρ5,G5,s1,s2,m',hm,w⟩=>
      ⟨m',hm,ρ5,G5,w,b'.weak s1 s2,(gg.trans g').sub s2⟩
    exact rb _ _ ρ2 G3 σ2 H3 (b2.go g3) (q3.1 rfl) ⟨λ ρ' G' σ' H' g' b' w=>again ρ' G' σ' H' g' b' w,(F.after gg).rt,λ ρ' G' σ' H' g' b' w=>F.nx ρ' G' σ' H' (gg.trans g') b' w,λ ρ' G' σ' H' g' b' w=>again ρ' G' σ' H' g' b' w⟩
  | false=>exact F.nx ρ2 G3 σ2 H3 (g2.trans g3) (b2.go g3) (q3.2 rfl)
end
end L3
namespace L2
open PySem PySem.Spec PyProof.Rows
theorem JE.imp {X:Cx} {e:Expr} {t t':TE} (h:JE X e t) (i:∀ σ H Q,t' σ H Q->t σ H Q):JE X e t':=⟨λ pins s σ H Q I q=>h.run pins s σ H Q I (i σ H Q q)⟩
theorem JT.imp {X:Cx} {e:Expr} {t t':TT} (h:JT X e t) (i:∀ σ H Q,t' σ H Q->t σ H Q):JT X e t':=⟨λ pins s σ H Q I q=>h.run pins s σ H Q I (i σ H Q q)⟩
theorem JG.imp {X:Cx} {e:Expr} {t t':TG} (h:JG X e t) (i:∀ v σ H Q,t' v σ H Q->t v σ H Q):JG X e t':=⟨λ pins s σ H x v Q I r q=>h.run pins s σ H x v Q I r (i _ _ _ _ q)⟩
end L2
namespace L3
open PySem PySem.Spec L2
section
variable {X:Cx} {a b c e o i tg iter elt ct:Expr} {es:List Expr} {ta tb te to ti:DTE} {t:DTA} {pos p apos cpos:Pos}
abbrev uDq (K:PySem.W.Frag) (tc:TE) (t:DTE):Prop:=∀ ρ G DQ σ H Q,Bears K ρ G σ H->t ρ G DQ->Fin K G H DQ Q->tc σ H Q
abbrev zVq (K:PySem.W.Frag) (tc:TT) (t:DTT):Prop:=∀ ρ G DQ σ H Q,Bears K ρ G σ H->t ρ G DQ->FinB K G H DQ Q->tc σ H Q
abbrev yGq (K:PySem.W.Frag) (tc:TG) (t:DTG):Prop:=∀ d v ρ G DQ σ H Q,Bears K ρ G σ H->Abs K H d v->t d ρ G DQ->FinS K G H DQ Q->tc v σ H Q
theorem AE.uni {ι:Type} {cx:ι->Cx} {K:PySem.W.Frag} (hK:∀ z,(cx z).K=K) (h:∀ z,AE (cx z) e te):∃ tc:TE,(∀ z,JE (cx z) e tc)/\uDq K tc te:=by
  have h':∀ z,∃ tc,JE (cx z) e tc/\uDq K tc te:=λ z=>by
    have q:=(h z).run
    rw [hK z] at q
    exact q
  exact ⟨λ σ H Q=>∀ z,Classical.choose (h' z) σ H Q,λ z=>(Classical.choose_spec (h' z)).1.imp λ σ H Q q=>q z,λ ρ G DQ σ H Q B q F z=>(Classical.choose_spec (h' z)).2 ρ G DQ σ H Q B q F⟩
theorem AT.uni {ι:Type} {cx:ι->Cx} {K:PySem.W.Frag} {te:DTT} (hK:∀ z,(cx z).K=K) (h:∀ z,AT (cx z) e te):∃ tc:TT,(∀ z,JT (cx z) e tc)/\zVq K tc te:=by
  have h':∀ z,∃ tc,JT (cx z) e tc/\zVq K tc te:=λ z=>by
    have q:=(h z).run
    rw [hK z] at q
    exact q
  exact ⟨λ σ H Q=>∀ z,Classical.choose (h' z) σ H Q,λ z=>(Classical.choose_spec (h' z)).1.imp λ σ H Q q=>q z,λ ρ G DQ σ H Q B q F z=>(Classical.choose_spec (h' z)).2 ρ G DQ σ H Q B q F⟩
theorem AG.uni {ι:Type} {cx:ι->Cx} {K:PySem.W.Frag} {te:DTG} (hK:∀ z,(cx z).K=K) (h:∀ z,AG (cx z) e te):∃ tc:TG,(∀ z,JG (cx z) e tc)/\yGq K tc te:=by
  have h':∀ z,∃ tc,JG (cx z) e tc/\yGq K tc te:=λ z=>by
    have q:=(h z).run
    rw [hK z] at q
    exact q
  exact ⟨λ v σ H Q=>∀ z,Classical.choose (h' z) v σ H Q,λ z=>(Classical.choose_spec (h' z)).1.imp λ v σ H Q q=>q z,λ d v ρ G DQ σ H Q B ad q F z=>(Classical.choose_spec (h' z)).2 d v ρ G DQ σ H Q B ad q F⟩
def cUq (nt:Nat) (cap:List Nat) (ρ:DSt):DSt:=List.replicate nt none++cap.map λ i=>(ρ[i]?).join
theorem d6q {nt:Nat} {cap:List Nat} {ρ:DSt} {i:Nat} {d:D} (h:(cUq nt cap ρ)[i]?=some (some d)):nt<=i:=by
  by_cases c:nt<=i
  . exact c
  . unfold cUq at h
    rw [List.getElem?_append_left (by simpa using c),List.getElem?_replicate] at h
    rw [if_pos (by omega)] at h
    cases h
theorem Bears.comp {K:PySem.W.Frag} {ρ:DSt} {G:DV} {σ:St} {H:Hp} (B:Bears K ρ G σ H) (nt:Nat) (cap:List Nat):Bears K (cUq nt cap ρ) G (cRq nt cap σ) H:=by
  refine ⟨by simp [cUq,cRq],λ i d h=>?_,B.vw⟩
  have hi:=d6q h
  unfold cUq at h
  unfold cRq
  rw [List.getElem?_append_right (by simpa using hi)] at h ⊢
  rw [List.length_replicate,List.getElem?_map] at h ⊢
  cases e:cap[i - nt]? with
  | none=>rw [e] at h;cases h
  | some k=>
    rw [e] at h
    have h':(ρ[k]?).join=some d:=by simpa using h
    have h2:ρ[k]?=some (some d):=by
      cases q:ρ[k]? with
      | none=>rw [q] at h';cases h'
      | some z=>rw [q] at h';cases z with
        | none=>cases h'
        | some y=>simp at h';rw [h']
    obtain ⟨v,h3,h4⟩:=B.st k d h2
    exact ⟨v,by simp [h3],h4⟩
def j5q (nt:Nat) (g:DTG):Prop:=∀ d ρ G Q,g d ρ G Q->g d ρ G λ ρ' G'=>Q ρ' G'/\ρ'.length=ρ.length/\∀ i,nt<=i->ρ'[i]?=ρ[i]?
def kLq (nt:Nat) (g:lXq):Prop:=∀ d ρ G Q,g d ρ G Q->g d ρ G λ ρ' G'=>Q ρ' G'/\ρ'.length=ρ.length/\∀ i,nt<=i->ρ'[i]?=ρ[i]?
theorem b4q {nt k:Nat} (h:k < nt):j5q nt (iCq k):=λ d ρ G Q q=>⟨q,by simp,λ i hi=>List.getElem?_set_ne (by omega)⟩
theorem dXq {nt:Nat}:kLq nt sSq:=λ ds ρ G Q q=>by
  cases ds with
  | nil=>exact ⟨q,rfl,λ _ _=>rfl⟩
  | cons _ _=>exact (show False from q).elim
def MonG (g:DTG):Prop:=∀ d ρ G Q Q',(∀ ρ' G',Q ρ' G'->Q' ρ' G')->g d ρ G Q->g d ρ G Q'
def qYq (g:lXq):Prop:=∀ d ρ G Q Q',(∀ ρ' G',Q ρ' G'->Q' ρ' G')->g d ρ G Q->g d ρ G Q'
theorem bPq {k:Nat}:MonG (iCq k):=λ _ _ _ _ _ i q=>i _ _ q
theorem cJq:qYq sSq:=λ ds ρ G Q Q' i q=>by
  cases ds with
  | nil=>exact i _ _ q
  | cons _ _=>exact (show False from q).elim
theorem fCq {g:DTG} {u:lXq} (h1:MonG g) (h2:qYq u):qYq (nKq g u):=λ ds ρ G Q Q' i q=>by
  cases ds with
  | nil=>exact (show False from q).elim
  | cons d r=>exact h1 d ρ G _ _ (λ ρ' G' z=>h2 r ρ' G' _ _ i z) q
theorem bHq {nt:Nat} {g:DTG} {u:lXq} (m1:MonG g) (m2:qYq u) (h1:j5q nt g) (h2:kLq nt u):kLq nt (nKq g u):=λ ds ρ G Q q=>by
  cases ds with
  | nil=>exact (show False from q).elim
  | cons d r=>exact m1 d ρ G _ _ (λ ρ' G' ⟨z,z1,z2⟩=>m2 r ρ' G' _ _ (λ ρ2 G2 ⟨y,y1,y2⟩=>⟨y,y1.trans z1,λ i hi=>(y2 i hi).trans (z2 i hi)⟩) (h2 r ρ' G' Q z)) (h1 d ρ G _ q)
theorem f2q {nt:Nat} {u:lXq} (h:kLq nt u):j5q nt (vNq u):=λ d ρ G Q q=>by
  cases d with
  | tup ds=>exact h ds ρ G Q q
  | _=>exact (show False from q).elim
def WkV (P:DV->Prop):DV->Prop:=λ G=>∃ G',Sub G' G/\P G'
theorem WkV.of {P:DV->Prop} {G:DV} (h:P G):WkV P G:=⟨G,.refl _,h⟩
@[irreducible] def lPq (g:DTG) (te:DTE) (nt:Nat) (cap:List Nat) (ρ:DSt) (Q:DK) (J:DIt) (G1:DV):Prop:=J.items.length < sizeLine/\∃ P:Nat->List D->DV->Prop,P 0 [] G1/\(∀ i ds G,i<=J.items.length->P i ds G->J.held G) ∧
  (∀ (i:Nat) (d:D) (ds:List D) (G:DV),J.items[i]?=some d->P i ds G->g d (cUq nt cap ρ) G λ ρ3 G3=>te ρ3 G3 λ y G4=>WkV (P (i+1) (ds++[y])) G4)/\∀ ds G,P J.items.length ds G->∀ p,G p=none->Q (.ref p) (up G p (.lst ds))
@[irreducible] def hRq (g:DTG) (tc:DTT) (te:DTE) (nt:Nat) (cap:List Nat) (ρ:DSt) (Q:DK) (J:DIt) (G1:DV):Prop:=J.items.length < sizeLine/\∃ P:Nat->List D->DV->Prop,P 0 [] G1/\(∀ i ds G,i<=J.items.length->P i ds G->J.held G) ∧
  (∀ (i:Nat) (d:D) (ds:List D) (G:DV),J.items[i]?=some d->P i ds G->g d (cUq nt cap ρ) G λ ρ3 G3=>tc ρ3 G3 λ b G5=>Br b (te ρ3 G5 λ y G4=>WkV (P (i+1) (ds++[y])) G4) (WkV (P (i+1) ds) G5))/\∀ ds G,P J.items.length ds G->∀ p,G p=none->Q (.ref p) (up G p (.lst ds))
abbrev tCq (wi:DTI) (g:DTG) (te:DTE) (nt:Nat) (cap:List Nat):DTE:=λ ρ G Q=>wi ρ G (lPq g te nt cap ρ Q)
abbrev oNq (wi:DTI) (g:DTG) (tc:DTT) (te:DTE) (nt:Nat) (cap:List Nat):DTE:=λ ρ G Q=>wi ρ G (hRq g tc te nt cap ρ Q)
theorem qBq {g:DTG} {te:DTE} {nt:Nat} {cap:List Nat} {ρ:DSt} {Q:DK} {J:DIt} {G1:DV} (P:Nat->List D->DV->Prop) (hz:J.items.length < sizeLine) (h0:P 0 [] G1) (held:∀ i ds G,i<=J.items.length->P i ds G->J.held G)
    (turn:∀ (i:Nat) (d:D) (ds:List D) (G:DV),J.items[i]?=some d->P i ds G->g d (cUq nt cap ρ) G λ ρ3 G3=>te ρ3 G3 λ y G4=>WkV (P (i+1) (ds++[y])) G4) (done:∀ ds G,P J.items.length ds G->∀ p,G p=none->Q (.ref p) (up G p (.lst ds))):lPq g te nt cap ρ Q J G1:=by
  unfold lPq;exact ⟨hz,P,h0,held,turn,done⟩
theorem b0q {α:Type} {J:DIt} {G1:DV} {g:DTG} {te:DTE} {nt:Nat} {cap:List Nat} {ρ:DSt} {Q:DK} (xs:List α) (en fn:α->D) (he:J.items=xs.map en) (hz:xs.length < sizeLine) (held:J.held G1)
    (turn:∀ x∈xs,∀ R:DK,R (fn x) G1->g (en x) (cUq nt cap ρ) G1 λ ρ3 G3=>te ρ3 G3 R) (q:∀ p,G1 p=none->Q (.ref p) (up G1 p (.lst (xs.map fn)))) :
    lPq g te nt cap ρ Q J G1:=by
  unfold lPq
  refine ⟨by rw [he,List.length_map];exact hz,λ i ds G=>G=G1/\ds=(xs.take i).map fn,⟨rfl,rfl⟩,λ i ds G _ h=>h.1 ▸ held,?_,?_⟩
  . rintro i d ds G hd ⟨rfl,rfl⟩
    rw [he,List.getElem?_map] at hd
    cases e:xs[i]? with
    | none=>rw [e] at hd;cases hd
    | some x=>
      rw [e] at hd
      cases hd
      refine turn x (List.mem_of_getElem? e) _ (WkV.of ⟨rfl,?_⟩)
      rw [List.take_add_one,e,List.map_append];rfl
  . rintro ds G ⟨rfl,rfl⟩ p hp
    rw [he,List.length_map,List.take_length]
    exact q p hp
theorem gMq {α:Type} {J:DIt} {G1:DV} {g:DTG} {tc:DTT} {te:DTE} {nt:Nat} {cap:List Nat} {ρ:DSt} {Q:DK} (xs:List α) (en:α->D) (fn:α->Option D) (he:J.items=xs.map en) (hz:xs.length < sizeLine) (held:J.held G1)
    (turn:∀ x∈xs,∀ (R:DK) (S:DV->Prop),(∀ y,fn x=some y->R y G1)->(fn x=none->S G1)->g (en x) (cUq nt cap ρ) G1 λ ρ3 G3=>tc ρ3 G3 λ b G5=>Br b (te ρ3 G5 R) (S G5)) (q:∀ p,G1 p=none->Q (.ref p) (up G1 p (.lst (xs.filterMap fn)))) :
    hRq g tc te nt cap ρ Q J G1:=by
  unfold hRq
  refine ⟨by rw [he,List.length_map];exact hz,λ i ds G=>G=G1/\ds=(xs.take i).filterMap fn,⟨rfl,rfl⟩,λ i ds G _ h=>h.1 ▸ held,?_,?_⟩
  . rintro i d ds G hd ⟨rfl,rfl⟩
    rw [he,List.getElem?_map] at hd
    cases e:xs[i]? with
    | none=>rw [e] at hd;cases hd
    | some x=>
      rw [e] at hd
      cases hd
      refine turn x (List.mem_of_getElem? e) _ _ (λ y hy=>WkV.of ⟨rfl,?_⟩) (λ hy=>WkV.of ⟨rfl,?_⟩)
      . rw [List.take_add_one,e,List.filterMap_append];simp [hy]
      . rw [List.take_add_one,e,List.filterMap_append];simp [hy]
  . rintro ds G ⟨rfl,rfl⟩ p hp
    rw [he,List.length_map,List.take_length]
    exact q p hp
theorem Vw.priv {K:PySem.W.Frag} {G:DV} {H:Hp} {acc:Addr} {ys zs:List V} (v:Vw K G H) (h:H acc=some (.lst ys)) (n:G acc=Option.none):Vw K G (upd H acc (.lst zs)):=λ a o e=>
  (v a o e).mono (bJq h) (aEq (by rintro rfl;rw [n] at e;cases e))
theorem Go.priv {K:PySem.W.Frag} {G G':DV} {H H':Hp} {acc:Addr} {ys zs:List V} (g:Go K G H G' H') (h0:H acc=none) (h:H' acc=some (.lst ys)) (n:G' acc=none):Go K G H G' (upd H' acc (.lst zs)) where
  tup:=⟨λ a xs q=>(bJq h).tp a xs (g.tup.tp a xs q),λ a xs q=>(bJq h).fr a xs (g.tup.fr a xs q),λ a o q=>(bJq (K:=K) h).fz a o (g.tup.fz a o q)⟩
  dom:=λ a o e=>by
    obtain ⟨o',e'⟩:=g.dom a o e
    exact ⟨o',by rw [aEq (aTq e h0)];exact e'⟩
  same:=λ a o e z=>by rw [aEq (aTq e h0)];exact g.same a o e z
  new:=g.new
  vw:=g.vw.priv h n
theorem Bears.priv {K:PySem.W.Frag} {ρ:DSt} {G:DV} {σ:St} {H:Hp} {acc:Addr} {ys zs:List V} (B:Bears K ρ G σ H) (h:H acc=some (.lst ys)) (n:G acc=none):Bears K ρ G σ (upd H acc (.lst zs)):=
  ⟨B.len,λ i d e=>let ⟨v,h1,h2⟩:=B.st i d e;⟨v,h1,h2.mono (bJq h)⟩,B.vw.priv h n⟩
theorem Go.held {K:PySem.W.Frag} {G G':DV} {H H':Hp} {acc:Addr} {ds:List D} {ys:List V} (g:Go K G H G' H') (h0:H acc=none) (h:H' acc=some (.lst ys)) (r:AbsL K H' ds ys):Go K G H (up G' acc (.lst ds)) H' where
  tup:=g.tup
  dom:=g.dom
  same:=g.same
  new:=λ a o e z=>by rw [aZq (aTq e h0)];exact g.new a o e z
  vw:=λ a o e=>by
    by_cases c:a=acc
    . subst c;rw [a8q] at e;cases e;exact ⟨ys,h,r⟩
    . rw [aZq c] at e;exact g.vw a o e
theorem i7q {K:PySem.W.Frag} {ci:TI} {cg:TG} {ce:TE} {wi:DTI} {g:DTG} {te:DTE} {nt:Nat} {cap:List Nat} (hk:j5q nt g)
    (ri:∀ ρ G DR σ H R,Bears K ρ G σ H->wi ρ G DR->(∀ J Jc G' H',Go K G H G' H'->z4q K J Jc G' H'->DR J G'->R Jc H')->ci σ H R) (rg:yGq K cg g) (re:uDq K ce te):uDq K (mFq ci cg ce nt cap) (tCq wi g te nt cap):=by
  intro ρ G DQ σ H Q B q F
  refine ri ρ G _ σ H _ B q λ J Jc G1 H1 g1 ok q1=>?_
  unfold lPq at q1
  obtain ⟨hsz,P,p0,held,turn,done⟩:=q1
  intro acc hacc
  have n1:=g1.vw.none hacc
  have gN:=Go.newT (o:=.lst []) g1.vw hacc
  refine ⟨λ i m ys σ' H'=>m=J.items.length - i/\i<=J.items.length/\∃ ds G',P i ds G'/\AbsL K H' ds ys/\ds.length<=i/\Bears K (cUq nt cap ρ) G' σ' H'/\Go K G1 H1 G' H'/\G' acc=none/\H' acc=some (.lst ys),
    ⟨_,rfl,Nat.zero_le _,[],G1,p0,rfl,Nat.le_refl _,((B.go g1).comp nt cap).go gN,gN,n1,aNq⟩,?_⟩
  rintro i m ys σ2 H2 ⟨rfl,hi,ds,G2,p2,r2,l2,b2,g2,n2,h2⟩
  have k2:=ok G2 H2 g2 (held i ds G2 hi p2)
  by_cases hlt:i < J.items.length
  . have hd:J.items[i]?=some J.items[i]:=by simp [hlt]
    obtain ⟨go,yl⟩:=k2.1 i _ hd
    refine .inr ⟨go,λ x H' y=>?_⟩
    obtain ⟨g3,ax⟩:=yl x H' y
    refine rg _ x _ G2 _ σ2 H' _ (b2.go g3) ax (hk _ _ _ _ (turn i _ ds G2 hd p2)) λ ρ4 G4 σ4 H4 g4 b4 ⟨q4,hl4,hs4⟩=>?_
    refine re ρ4 G4 _ σ4 H4 _ b4 q4 λ z G5 u H5 g5 az q5=>?_
    obtain ⟨G6,s6,p6⟩:=q5
    have gg:=(g3.trans g4).trans g5
    have h5:=gg.same acc _ h2 n2
    have n5:=gg.new acc _ h2 n2
    have n6:=s6.none n5
    have b5:Bears K (cUq nt cap ρ) G6 σ4 H5:=(b4.go g5).weak ⟨hl4.symm,λ j d e=>by rw [hs4 j (d6q e)];exact e⟩ s6
    refine ⟨h5,by rw [r2.len];omega,J.items.length - (i+1),by omega,rfl,hlt,ds++[z],G6,p6,((r2.mono gg.tup).append (.one az)).mono (bJq h5),by simp;omega,b5.priv h5 n6,(((g2.trans gg).sub s6)).priv hacc h5 n6,n6,aNq⟩
  . have e:i=J.items.length:=by omega
    subst e
    refine .inl ⟨k2.2 _ (Nat.le_refl _),F (.ref acc) (up G2 acc (.lst ds)) _ _ ((g1.trans g2).held ?_ h2 r2) rfl (done ds G2 p2 acc n2)⟩
    cases z:H acc with
    | none=>rfl
    | some o=>obtain ⟨o',e'⟩:=g1.dom acc o z;rw [hacc] at e';cases e'
theorem jYq {K:PySem.W.Frag} {ci:TI} {cg:TG} {cc:TT} {ce:TE} {wi:DTI} {g:DTG} {tc:DTT} {te:DTE} {nt:Nat} {cap:List Nat} (hk:j5q nt g)
    (ri:∀ ρ G DR σ H R,Bears K ρ G σ H->wi ρ G DR->(∀ J Jc G' H',Go K G H G' H'->z4q K J Jc G' H'->DR J G'->R Jc H')->ci σ H R) (rg:yGq K cg g) (rt:zVq K cc tc) (re:uDq K ce te):uDq K (k1q ci cg cc ce nt cap) (oNq wi g tc te nt cap):=by
  intro ρ G DQ σ H Q B q F
  refine ri ρ G _ σ H _ B q λ J Jc G1 H1 g1 ok q1=>?_
  unfold hRq at q1
  obtain ⟨hsz,P,p0,held,turn,done⟩:=q1
  intro acc hacc
  have n1:=g1.vw.none hacc
  have gN:=Go.newT (o:=.lst []) g1.vw hacc
  refine ⟨λ i m ys σ' H'=>m=J.items.length - i/\i<=J.items.length/\∃ ds G',P i ds G'/\AbsL K H' ds ys/\ds.length<=i/\Bears K (cUq nt cap ρ) G' σ' H'/\Go K G1 H1 G' H'/\G' acc=none/\H' acc=some (.lst ys),
    ⟨_,rfl,Nat.zero_le _,[],G1,p0,rfl,Nat.le_refl _,((B.go g1).comp nt cap).go gN,gN,n1,aNq⟩,?_⟩
  rintro i m ys σ2 H2 ⟨rfl,hi,ds,G2,p2,r2,l2,b2,g2,n2,h2⟩
  have k2:=ok G2 H2 g2 (held i ds G2 hi p2)
  by_cases hlt:i < J.items.length
  . have hd:J.items[i]?=some J.items[i]:=by simp [hlt]
    obtain ⟨go,yl⟩:=k2.1 i _ hd
    refine .inr ⟨go,λ x H' y=>?_⟩
    obtain ⟨g3,ax⟩:=yl x H' y
    refine rg _ x _ G2 _ σ2 H' _ (b2.go g3) ax (hk _ _ _ _ (turn i _ ds G2 hd p2)) λ ρ4 G4 σ4 H4 g4 b4 ⟨q4,hl4,hs4⟩=>?_
    refine rt ρ4 G4 _ σ4 H4 _ b4 q4 λ bb G7 H7 g7 q7=>?_
    cases bb with
    | true=>
      refine re ρ4 G7 _ σ4 H7 _ (b4.go g7) (q7.1 rfl) λ z G5 u H5 g5 az q5=>?_
      obtain ⟨G6,s6,p6⟩:=q5
      have gg:=((g3.trans g4).trans g7).trans g5
      have h5:=gg.same acc _ h2 n2
      have n5:=gg.new acc _ h2 n2
      have n6:=s6.none n5
      have b5:Bears K (cUq nt cap ρ) G6 σ4 H5:=((b4.go g7).go g5).weak ⟨hl4.symm,λ j d e=>by rw [hs4 j (d6q e)];exact e⟩ s6
      exact ⟨h5,by rw [r2.len];omega,J.items.length - (i+1),by omega,rfl,hlt,ds++[z],G6,p6,((r2.mono gg.tup).append (.one az)).mono (bJq h5),by simp;omega,b5.priv h5 n6,(((g2.trans gg).sub s6)).priv hacc h5 n6,n6,aNq⟩
    | false=>
      obtain ⟨G6,s6,p6⟩:=q7.2 rfl
      have gg:=(g3.trans g4).trans g7
      have h5:=gg.same acc _ h2 n2
      have n5:=gg.new acc _ h2 n2
      have n6:=s6.none n5
      have b5:Bears K (cUq nt cap ρ) G6 σ4 H7:=(b4.go g7).weak ⟨hl4.symm,λ j d e=>by rw [hs4 j (d6q e)];exact e⟩ s6
      exact ⟨J.items.length - (i+1),by omega,rfl,hlt,ds,G6,p6,r2.mono gg.tup,by omega,b5,(g2.trans gg).sub s6,n6,h5⟩
  . have e:i=J.items.length:=by omega
    subst e
    refine .inl ⟨k2.2 _ (Nat.le_refl _),F (.ref acc) (up G2 acc (.lst ds)) _ _ ((g1.trans g2).held ?_ h2 r2) rfl (done ds G2 p2 acc n2)⟩
    cases z:H acc with
    | none=>rfl
    | some o=>obtain ⟨o',e'⟩:=g1.dom acc o z;rw [hacc] at e';cases e'
theorem dWq {scope:Scope} {N':List Str} {nt:Nat} {cap:List Nat} {wi:DTI} {g:DTG} (hc:X.calm=true) (ok:CompOk X scope N' nt cap) (hk:j5q nt g) (hi:AI X tg iter wi) (hg:∀ C ex s H,AG (aLq X scope N' C ex s H) tg g) (he:∀ C ex s H,AE (aLq X scope N' C ex s H) elt te)
    (hs:∀ x,foldedSetIterable iter X.env x=pure x:=by intro _;rfl):AE X (.ListComp elt [⟨tg,iter,[],0⟩] scope pos) (tCq wi g te nt cap):=by
  obtain ⟨ci,ji,ri⟩:=hi.run
  obtain ⟨cg,jg,rg⟩:=AG.uni (ι:=Addr × List Addr × Shared × Hp) (cx:=λ z=>aLq X scope N' z.1 z.2.1 z.2.2.1 z.2.2.2) (K:=X.K) (λ _=>rfl) λ z=>hg _ _ _ _
  obtain ⟨ce,je,re⟩:=AE.uni (ι:=Addr × List Addr × Shared × Hp) (cx:=λ z=>aLq X scope N' z.1 z.2.1 z.2.2.1 z.2.2.2) (K:=X.K) (λ _=>rfl) λ z=>he _ _ _ _
  exact ⟨_,s8q hc ok ji (λ C ex s H=>jg (C,ex,s,H)) (λ C ex s H=>je (C,ex,s,H)) hs,i7q hk ri rg re⟩
theorem jBq {scope:Scope} {N':List Str} {nt:Nat} {cap:List Nat} {wi:DTI} {g:DTG} {tc:DTT} (hc:X.calm=true) (ok:CompOk X scope N' nt cap) (hk:j5q nt g) (hi:AI X tg iter wi) (hg:∀ C ex s H,AG (aLq X scope N' C ex s H) tg g) (ht:∀ C ex s H,AT (aLq X scope N' C ex s H) ct tc) (he:∀ C ex s H,AE (aLq X scope N' C ex s H) elt te)
    (hs:∀ x,foldedSetIterable iter X.env x=pure x:=by intro _;rfl):AE X (.ListComp elt [⟨tg,iter,[ct],0⟩] scope pos) (oNq wi g tc te nt cap):=by
  obtain ⟨ci,ji,ri⟩:=hi.run
  obtain ⟨cg,jg,rg⟩:=AG.uni (ι:=Addr × List Addr × Shared × Hp) (cx:=λ z=>aLq X scope N' z.1 z.2.1 z.2.2.1 z.2.2.2) (K:=X.K) (λ _=>rfl) λ z=>hg _ _ _ _
  obtain ⟨cc,jt,rt⟩:=AT.uni (ι:=Addr × List Addr × Shared × Hp) (cx:=λ z=>aLq X scope N' z.1 z.2.1 z.2.2.1 z.2.2.2) (K:=X.K) (λ _=>rfl) λ z=>ht _ _ _ _
  obtain ⟨ce,je,re⟩:=AE.uni (ι:=Addr × List Addr × Shared × Hp) (cx:=λ z=>aLq X scope N' z.1 z.2.1 z.2.2.1 z.2.2.2) (K:=X.K) (λ _=>rfl) λ z=>he _ _ _ _
  exact ⟨_,oKq hc ok ji (λ C ex s H=>jg (C,ex,s,H)) (λ C ex s H=>jt (C,ex,s,H)) (λ C ex s H=>je (C,ex,s,H)) hs,jYq hk ri rg rt re⟩
theorem lIq {scope:Scope} {N':List Str} {nt:Nat} {cap:List Nat} {wi:DTI} {g:DTG} {y:Str} {py spos:Pos} {k:Nat} (hc:X.calm=true) (hN:X.N.Nodup) (hy:X.N[k]?=some y) (hl:Loc X.env.scope y) (ok:CompOk X scope N' nt cap) (hk:j5q nt g) (hi:AI X tg iter wi) (hg:∀ C ex s H,AG (aLq X scope N' C ex s H) tg g) (he:∀ C ex s H,AE (aLq X scope N' C ex s H) elt te)
    (hs:∀ x,foldedSetIterable iter X.env x=pure x:=by intro _;rfl) (hsw:swapsWith (.ListComp elt [⟨tg,iter,[],0⟩] scope pos) (some (.Name y py)) spos.line X.env=pure true:=by rfl) (hf:X.fn y=true\/X.env.scope.names.lookup y=some .local:=by first | exact .inl rfl | exact .inr rfl | assumption) :
    AS X (.Assign [.Name y py] (.ListComp elt [⟨tg,iter,[],0⟩] scope pos) spos) (dAsg (tCq wi g te nt cap) (iCq k)):=by
  obtain ⟨ci,ji,ri⟩:=hi.run
  obtain ⟨cg,jg,rg⟩:=AG.uni (ι:=Addr × List Addr × Shared × Hp) (cx:=λ z=>aLq X scope N' z.1 z.2.1 z.2.2.1 z.2.2.2) (K:=X.K) (λ _=>rfl) λ z=>hg _ _ _ _
  obtain ⟨ce,je,re⟩:=AE.uni (ι:=Addr × List Addr × Shared × Hp) (cx:=λ z=>aLq X scope N' z.1 z.2.1 z.2.2.1 z.2.2.2) (K:=X.K) (λ _=>rfl) λ z=>he _ _ _ _
  exact ⟨_,l0q hc hN hy hl ok ji (λ C ex s H=>jg (C,ex,s,H)) (λ C ex s H=>je (C,ex,s,H)) hs hsw hf,λ DD Dc ρ G σ H B q F=>i7q hk ri rg re ρ G _ σ H _ B q λ d G1 v H1 g1 a q1=>F.nx _ G1 _ H1 g1 ((B.go g1).set a k) q1⟩
structure AMt (X:Cx) (T id:String) (ty:D->DV->Prop) (r:D->List D->DV->DK->Prop):Prop where
  run:∃ rc:V->List V->Hp->VK->Prop,JMt X id rc/\(∀ x v G H,Vw X.K G H->Abs X.K H x v->ty x G->tyV X.K T v H) ∧
    ∀ x xs vx vs G H DQ Q,Vw X.K G H->Abs X.K H x vx->AbsL X.K H xs vs->r x xs G DQ->Fin X.K G H DQ Q->rc vx vs H Q
abbrev dBM (ty:D->DV->Prop) (r:D->List D->DV->DK->Prop) (to:DTE) (t:DTA):DTE:=λ ρ G Q=>to ρ G λ x G1=>ty x G1/\t ρ G1 λ xs G2=>r x xs G2 Q
abbrev dBM0 (ty:D->DV->Prop) (r:D->List D->DV->DK->Prop) (to:DTE):DTE:=λ ρ G Q=>to ρ G λ x G1=>ty x G1/\r x [] G1 Q
theorem iDq {name:Str} {T id:String} {ty:D->DV->Prop} {r:D->List D->DV->DK->Prop} (pa:PlainAttrs T) (slot:Slot T name id) (hty:typeOf (.builtin id)=pure (.type "method_descriptor")) (hm:AMt X T id ty r) (ho:AE X o to) (ha:AA X [e] t)
    (hbase:attributeBase o name X.env (eval o X.env)=eval o X.env:=by rfl) (hline:(apos.endLine==cpos.line)=true:=by rfl) (hs:aSq e=true:=by rfl):AE X (.Call (.Attribute o name apos) [e] [] cpos) (dBM ty r to t):=by
  obtain ⟨co,jo,ro⟩:=ho.run
  obtain ⟨ca,ja,ra⟩:=ha.run
  obtain ⟨cm,jm,hy,rm⟩:=hm.run
  refine ⟨_,aC8q pa slot hty jm jo ja hbase hline hs,λ ρ G DQ σ H Q B q F=>ro ρ G _ σ H _ B q λ x G1 v H1 g1 ax ⟨h1,q1⟩=>⟨hy x v G1 H1 g1.vw ax h1,?_⟩⟩
  exact ra ρ G1 _ σ H1 _ (B.go g1) q1 λ xs G2 vs H2 g2 al _ q2=>rm x xs v vs G2 H2 DQ Q g2.vw (ax.mono g2.tup) al q2 (F.after (g1.trans g2))
theorem k3q {name:Str} {T id:String} {ty:D->DV->Prop} {r:D->List D->DV->DK->Prop} (pa:PlainAttrs T) (slot:Slot T name id) (hty:typeOf (.builtin id)=pure (.type "method_descriptor")) (hm:AMt X T id ty r) (ho:AE X o to)
    (hbase:attributeBase o name X.env (eval o X.env)=eval o X.env:=by rfl) (hline:(apos.endLine==cpos.line)=true:=by rfl):AE X (.Call (.Attribute o name apos) [] [] cpos) (dBM0 ty r to):=by
  obtain ⟨co,jo,ro⟩:=ho.run
  obtain ⟨cm,jm,hy,rm⟩:=hm.run
  exact ⟨_,wHq pa slot hty jm jo hbase hline,λ ρ G DQ σ H Q B q F=>ro ρ G _ σ H _ B q λ x G1 v H1 g1 ax ⟨h1,q1⟩=>⟨hy x v G1 H1 g1.vw ax h1,rm x [] v [] G1 H1 DQ Q g1.vw ax rfl q1 (F.after g1)⟩⟩
def qVq:D->DV->Prop:=λ x G=>match x with
  | .ref l=>onL G l λ _=>True
  | _=>False
theorem hGq {K:PySem.W.Frag} {x:D} {v:V} {G:DV} {H:Hp} (w:Vw K G H) (ax:Abs K H x v) (h:qVq x G):tyV K "list" v H:=by
  cases x with
  | ref l=>cases ax;obtain ⟨ds,vs,_,s,_⟩:=bDq w h;exact .inl ⟨rfl,vs,s⟩
  | _=>exact (show False from h).elim
def appD:D->List D->DV->DK->Prop:=λ x xs G Q=>match x,xs with
  | .ref l,[y]=>onM G l λ ds=>ds.length < sizeLine/\Q .non (up G l (.lst (ds++[y])))
  | _,_=>False
theorem bQq:AMt X "list" "list.append" qVq appD:=by
  refine ⟨_,⟨d7q⟩,λ x v G H w ax h=>hGq w ax h,λ x xs vx vs G H DQ Q v ax al r F=>?_⟩
  unfold appD at r
  split at r
  . next l y=>
    cases ax
    obtain ⟨u,us,rfl,au,z⟩:=al
    cases z
    obtain ⟨ds,ws,k,e1,h1,r1⟩:=cIq v r
    exact ⟨l,ws,u,rfl,rfl,h1,by rw [r1.len];exact k.1,F .non _ _ _ (Go.setL v e1 (r1.append (.one au))) rfl k.2⟩
  . exact r.elim
def extD:D->List D->DV->DK->Prop:=λ x xs G Q=>match x,xs with
  | .ref l,[.tup es]=>onM G l λ ds=>ds.length+es.length<=sizeLine/\Q .non (up G l (.lst (ds++es)))
  | .ref l,[.ref m]=>onM G l λ ds=>onM G m λ es=>ds.length+es.length<=sizeLine/\Q .non (up G l (.lst (ds++es)))
  | _,_=>False
theorem JMt.or {id:String} {r r':V->List V->Hp->VK->Prop} (h:JMt X id r) (h':JMt X id r'):JMt X id (λ x xs H Q=>r x xs H Q\/r' x xs H Q):=⟨h.run.or h'.run⟩
theorem gLq:AMt X "list" "list.extend" qVq extD:=by
  refine ⟨_,JMt.or ⟨s0q⟩ ⟨o9q⟩,λ x v G H w ax h=>hGq w ax h,λ x xs vx vs G H DQ Q v ax al r F=>?_⟩
  unfold extD at r
  split at r
  . next l es'=>
    cases ax
    obtain ⟨u,us,rfl,⟨m,zs,rfl,s,rz⟩,z⟩:=al
    cases z
    obtain ⟨ds,ws,k,e1,h1,r1⟩:=cIq v r
    exact .inl ⟨l,m,ws,zs,rfl,rfl,h1,s,by rw [r1.len,rz.len];exact k.1,F .non _ _ _ (Go.setL v e1 (r1.append rz)) rfl k.2⟩
  . next l m=>
    cases ax
    obtain ⟨u,us,rfl,au,z⟩:=al
    cases z;cases au
    obtain ⟨ds,ws,k,e1,h1,r1⟩:=cIq v r
    obtain ⟨es',zs,k2,e2,h2,r2⟩:=cIq v k
    exact .inr ⟨l,m,ws,zs,rfl,rfl,h1,h2,by rw [r1.len,r2.len];exact k2.1,F .non _ _ _ (Go.setL v e1 (r1.append r2)) rfl k2.2⟩
  . exact r.elim
def popD:D->List D->DV->DK->Prop:=λ x xs G Q=>match x,xs with
  | .ref l,[]=>onM G l λ ds=>∃ es d,ds=es++[d]/\Q d (up G l (.lst es))
  | _,_=>False
theorem hVq:AMt X "list" "list.pop" qVq popD:=by
  refine ⟨_,⟨wGq⟩,λ x v G H w ax h=>hGq w ax h,λ x xs vx vs G H DQ Q v ax al r F=>?_⟩
  unfold popD at r
  split at r
  . next l=>
    cases ax;cases al
    obtain ⟨ds,ws,⟨es',d,rfl,k⟩,e1,h1,r1⟩:=cIq v r
    have hl:=r1.len
    have hd:(es'++[d])[es'.length]?=some d:=by simp
    obtain ⟨u,hu,au⟩:=r1.get hd
    have e:ws.length - 1=es'.length:=by rw [hl];simp
    have r2:AbsL X.K H es' ws.dropLast:=by
      have z:=r1.take es'.length
      rw [List.take_left] at z
      rw [List.dropLast_eq_take,e];exact z
    have g:=Go.setL v e1 r2
    exact ⟨l,ws,u,rfl,rfl,h1,by rw [e];exact hu,F d _ _ _ g (au.mono g.tup) k⟩
  . exact r.elim
abbrev DSp:=List D->DV->DK->Prop
def aQq (K:PySem.W.Frag) (dsp:DSp):Sp:=λ vs H Q _=>∃ ds G DQ,AbsL K H ds vs/\Vw K G H/\dsp ds G DQ/\Fin K G H DQ Q
abbrev aA6q (dsp:DSp) (t:DTA):DTE:=λ ρ G Q=>t ρ G λ ds G1=>dsp ds G1 Q
theorem a6q {k j:Nat} {x:Str} {ps:List Str} {dsp:DSp} (Gt:Got X.prog X.w X.K X.mg X.base k x ps (aQq X.K dsp)) (hr:Room j X.A) (hk:k<=j) (hg:Gl X x) (ha:AA X (e::es) t) (hdb:(x==("__debug__" : Str))=false:=by decide)
    (hs:(e::es).all aSq=true:=by rfl):AE X (.Call (.Name x p) (e::es) [] pos) (aA6q dsp t):=by
  obtain ⟨ca,ja,ra⟩:=ha.run
  exact ⟨_,ySq Gt hr hk hg ja hdb hs,λ ρ G DQ σ H Q B q F=>ra ρ G _ σ H _ B q λ ds G1 vs H1 g1 al _ q1=>⟨ds,G1,DQ,by rw [List.append_nil];exact al,g1.vw,q1,F.after g1⟩⟩
def Dr (DQ:DK):DK:=λ d G=>∃ G',Sub G' G/\DQ d G'
theorem Dr.of {DQ:DK} {d:D} {G:DV} (h:DQ d G):Dr DQ d G:=⟨G,.refl _,h⟩
def eDq (N:List Str) (ds:List D):DSt:=ds.map some++List.replicate (N.length - ds.length) none
theorem cZq {K:PySem.W.Frag} {N:List Str} {ds:List D} {vs:List V} {G:DV} {H:Hp} (r:AbsL K H ds vs) (v:Vw K G H):Bears K (eDq N ds) G (L2.cVq N vs) H:=by
  have hl:=r.len
  refine ⟨by simp [eDq,L2.cVq,hl],λ i d h=>?_,v⟩
  unfold eDq at h
  unfold L2.cVq
  by_cases c:i < ds.length
  . rw [List.getElem?_append_left (by simpa using c),List.getElem?_map] at h
    rw [List.getElem?_append_left (by simpa [hl] using c),List.getElem?_map]
    cases e:ds[i]? with
    | none=>rw [e] at h;cases h
    | some z=>
      rw [e] at h
      simp at h
      subst h
      obtain ⟨u,h1,h2⟩:=r.get e
      exact ⟨u,by rw [h1];rfl,h2⟩
  . rw [List.getElem?_append_right (by simpa using c),List.getElem?_replicate] at h
    split at h<;>cases h
theorem okD {P:Program} {w:World} {K:PySem.W.Frag} {mg:Str->Option Value} {base:Heap} {x qual:Str} {st:Stmt} {f:Addr} {fd:FuncData} {N ps:List Str} {k:Nat} {dsp:DSp} (F:Fun K x qual st f fd) (S:FnScope N ps (a5q st)) (len:∀ ds G DQ,dsp ds G DQ->ds.length=ps.length)
    (hbody:∀ (cdv:Value) (A:Around) (outer:List Env) (s:Shared) (H:Hp) (E:XK),Room k (A.deeper (PyProof.Rows.envOfC qual (a5q st) s.heap.objs.size f cdv))->∀ (ds:List D) (G:DV) (DQ:DK),dsp ds G DQ →
      ∃ t,AB (kYq CX0 P w K mg base N qual (a5q st) f cdv A outer s H E).nox (b2q st) t/\t { nx:=λ _ G'=>Dr DQ .non G',rt:=Dr DQ } (eDq N ds) G):FnOk P w K mg base CX0 (k+1) f fd ps (aQq K dsp):=by
  refine F.okJ S (λ vs H Q E h=>?_) (λ cdv A outer s H vs Q E hr h=>?_)
  . obtain ⟨ds,G,DQ,r,_,h,_⟩:=h
    rw [r.len];exact len ds G DQ h
  . obtain ⟨ds,G,DQ,r,v,h,Fn⟩:=h
    obtain ⟨t,⟨tc,j,imp⟩,q⟩:=hbody cdv A outer s H E hr ds G DQ h
    refine ⟨tc,j,imp _ _ (eDq N ds) G (L2.cVq N vs) H (cZq r v) q ⟨λ ρ' G' σ' H' g b ⟨G2,s2,q2⟩=>Fn .non G2 .non H' (g.sub s2) rfl q2,λ d G' v H' g a ⟨G2,s2,q2⟩=>Fn d G2 v H' (g.sub s2) a q2,λ _ _ _ _ _ _ z=>z.elim,λ _ _ _ _ _ _ z=>z.elim⟩⟩
end
end L3
namespace L3
open PySem PySem.Spec L2
mutual
def eqD:D->D->Bool
  | .non,.non=>true
  | .bl a,.bl b=>a==b
  | .bl a,.int b=>(if a then 1 else 0)==b
  | .int a,.bl b=>a==(if b then 1 else 0)
  | .int a,.int b=>a==b
  | .str a,.str b=>a==b
  | .tup xs,.tup ys=>kPq xs ys
  | _,_=>false
def kPq:List D->List D->Bool
  | [],[]=>true
  | x::xs,y::ys=>eqD x y&&kPq xs ys
  | _,_=>false
end
mutual
def D.data:D->Bool
  | .ref _=>false
  | .ty _=>false
  | .frl _=>false
  | .tup ds=>cNq ds
  | _=>true
def cNq:List D->Bool
  | []=>true
  | d::ds=>d.data&&cNq ds
end
mutual
def D.dp:D->Nat
  | .tup ds=>1+iOq ds
  | _=>0
def iOq:List D->Nat
  | []=>0
  | d::ds=>max d.dp (iOq ds)
end
def eqJ (ds es:List D) (j:Nat):Bool:=match ds[j]?,es[j]? with
  | some d,some e=>eqD d e
  | _,_=>false
theorem bXq:∀ (ds es:List D),((List.range (min ds.length es.length)).all (eqJ ds es)&&ds.length==es.length)=kPq ds es
  | [],[]=>by simp [kPq]
  | [],e::es=>by simp [kPq]
  | d::ds,[]=>by simp [kPq]
  | d::ds,e::es=>by
    rw [kPq,<- bXq ds es,List.length_cons,List.length_cons,Nat.succ_min_succ,List.range_succ_eq_map,List.all_cons,List.all_map]
    have h1:eqJ (d::ds) (e::es) 0=eqD d e:=rfl
    have h2:(eqJ (d::ds) (e::es) ∘ Nat.succ)=eqJ ds es:=by funext j;simp [eqJ]
    rw [h1,h2,Bool.and_assoc]
    congr 2
    rw [Bool.eq_iff_iff];simp
section
variable {X:Cx} {pins:List (Addr × Obj)} {σ:L2.St} {H:Hp} {s:Shared}
mutual
theorem t0q (I:Inv X pins σ H s):∀ {d e:D} {v:V},d.data=true->e.data=true->Abs X.K H d v->Abs X.K H e v->d=e
  | .non,e,v,_,h,a,b=>by
    cases a
    cases e<;>first | rfl | (cases b;done) | (obtain ⟨_,_,z,_⟩:=b;cases z)
  | .bl _,e,v,_,h,a,b=>by
    cases a
    cases e<;>first | (cases b;rfl) | (cases b;done) | (obtain ⟨_,_,z,_⟩:=b;cases z)
  | .int _,e,v,_,h,a,b=>by
    cases a
    cases e<;>first | (cases b;rfl) | (cases b;done) | (obtain ⟨_,_,z,_⟩:=b;cases z)
  | .str _,e,v,_,h,a,b=>by
    cases a
    cases e<;>first | (cases b;rfl) | (cases b;done) | (obtain ⟨_,_,z,_⟩:=b;cases z)
  | .ref _,_,_,h,_,_,_=>by simp [D.data] at h
  | .ty _,_,_,h,_,_,_=>by simp [D.data] at h
  | .frl _,_,_,h,_,_,_=>by simp [D.data] at h
  | .tup ds,e,v,h0,h,a,b=>by
    obtain ⟨l,vs,rfl,s1,r1⟩:=a
    cases e with
    | tup es=>
      obtain ⟨m,us,z,s2,r2⟩:=b
      cases z
      have e:=I.tuple_inj s1 s2
      subst e
      rw [i1q I (by simpa [D.data] using h0) (by simpa [D.data] using h) r1 r2]
    | ref m=>simp [D.data] at h
    | frl m=>simp [D.data] at h
    | _=>cases b
theorem i1q (I:Inv X pins σ H s):∀ {ds es:List D} {vs:List V},cNq ds=true->cNq es=true->AbsL X.K H ds vs->AbsL X.K H es vs->ds=es
  | [],[],_,_,_,_,_=>rfl
  | [],e::es,_,_,_,a,b=>by cases a;obtain ⟨_,_,z,_⟩:=b;cases z
  | d::ds,[],_,_,_,a,b=>by cases b;obtain ⟨_,_,z,_⟩:=a;cases z
  | d::ds,e::es,vs,h1,h2,⟨v,r,e1,a1,l1⟩,⟨u,q,e2,a2,l2⟩=>by
    subst e1
    cases e2
    simp only [cNq,Bool.and_eq_true] at h1 h2
    rw [t0q I h1.1 h2.1 a1 a2,i1q I h1.2 h2.2 l1 l2]
end
mutual
theorem hQq:∀ {d:D},d.data=true->eqD d d=true
  | .non,_=>rfl
  | .bl _,_=>by simp [eqD]
  | .int _,_=>by simp [eqD]
  | .str _,_=>by simp [eqD]
  | .ref _,h=>by simp [D.data] at h
  | .ty _,h=>by simp [D.data] at h
  | .frl _,h=>by simp [D.data] at h
  | .tup ds,h=>by rw [eqD];exact i9q (by simpa [D.data] using h)
theorem i9q:∀ {ds:List D},cNq ds=true->kPq ds ds=true
  | [],_=>rfl
  | d::ds,h=>by
    simp only [cNq,Bool.and_eq_true] at h
    rw [kPq,hQq h.1,i9q h.2];rfl
end
mutual
theorem aA4q (I:Inv X pins σ H s):∀ (d e:D) (A:Around) (x y:V) (u v:Value),d.data=true->e.data=true->Abs X.K H d x->Abs X.K H e y->RelV x u->RelV y v->A.units+d.dp < cLine->SeqAt.EqAt A s u v (eqD d e)
  | .tup ds,e,A,x,y,u,v,hd,he,ax,ay,ru,rv,hu=>by
    obtain ⟨a,vs,rfl,s1,r1⟩:=ax
    cases ru
    obtain ⟨its,rr,t1,_⟩:=I.tuple s1
    have hu0:A.units < cLine:=by omega
    cases e with
    | non=>cases ay;cases rv;exact SeqAt.EqAt.tuple_none t1 hu0
    | bl b=>cases ay;cases rv;exact SeqAt.EqAt.tuple_bool b t1 hu0
    | int b=>cases ay;obtain ⟨t,rfl⟩:=rv;exact SeqAt.EqAt.tuple_int b t t1 hu0
    | str b=>cases ay;obtain ⟨t,rfl⟩:=rv;exact SeqAt.EqAt.tuple_str b t t1 hu0
    | ref b=>simp [D.data] at he
    | ty b=>simp [D.data] at he
    | frl b=>simp [D.data] at he
    | tup es=>
      obtain ⟨b,us,rfl,s2,r2⟩:=ay
      cases rv
      by_cases hab:a=b
      . subst hab
        have e1:=I.tuple_inj s1 s2
        subst e1
        have e2:=i1q I (by simpa [D.data] using hd) (by simpa [D.data] using he) r1 r2
        subst e2
        rw [hQq hd]
        exact SeqAt.EqAt.same _
      . obtain ⟨its2,rr2,t2,_⟩:=I.tuple s2
        have l1:=rr.length
        have l2:=rr2.length
        have l3:=r1.len
        have l4:=r2.len
        simp only [D.dp] at hu
        have z:=SeqAt.RcAt.tuples (A:=A) (e:=eqJ ds es) t1 t2 hu0 (λ j h1 h2=>by
          have q:=gAq I ds es A.in1 vs us its its2 (by simpa [D.data] using hd) (by simpa [D.data] using he) r1 r2 rr rr2 (by show A.units+1+iOq ds < cLine;omega) j (by simpa using h1) (by simpa using h2)
          simpa using q)
        have ez:((List.range (min its.toArray.size its2.toArray.size)).all (eqJ ds es)&&its.toArray.size==its2.toArray.size)=eqD (.tup ds) (.tup es):=by
          rw [List.size_toArray,List.size_toArray,<- l1,<- l2,l3,l4,bXq];rfl
        rw [ez] at z
        exact SeqAt.EqAt.of_refs hab z
  | .ref _,_,_,_,_,_,_,hd,_,_,_,_,_,_=>by simp [D.data] at hd
  | .ty _,_,_,_,_,_,_,hd,_,_,_,_,_,_=>by simp [D.data] at hd
  | .frl _,_,_,_,_,_,_,hd,_,_,_,_,_,_=>by simp [D.data] at hd
  | .non,e,A,x,y,u,v,hd,he,ax,ay,ru,rv,hu=>by
    cases ax;cases ru
    have hu0:A.units < cLine:=by omega
    cases e with
    | non=>cases ay;cases rv;exact SeqAt.EqAt.same _
    | bl b=>cases ay;cases rv;exact SeqAt.EqAt.none_bool b
    | int b=>cases ay;obtain ⟨t,rfl⟩:=rv;exact SeqAt.EqAt.none_int b t
    | str b=>cases ay;obtain ⟨t,rfl⟩:=rv;exact SeqAt.EqAt.none_str b t
    | ref b=>simp [D.data] at he
    | ty b=>simp [D.data] at he
    | frl b=>simp [D.data] at he
    | tup es=>obtain ⟨b,us,rfl,s2,r2⟩:=ay;cases rv;obtain ⟨its2,rr2,t2,_⟩:=I.tuple s2;exact SeqAt.EqAt.none_tuple t2 hu0
  | .bl a,e,A,x,y,u,v,hd,he,ax,ay,ru,rv,hu=>by
    cases ax;cases ru
    have hu0:A.units < cLine:=by omega
    cases e with
    | non=>cases ay;cases rv;exact SeqAt.EqAt.bool_none a
    | bl b=>cases ay;cases rv;exact SeqAt.EqAt.bool_bool a b
    | int b=>cases ay;obtain ⟨t,rfl⟩:=rv;exact SeqAt.EqAt.bool_int a b t
    | str b=>cases ay;obtain ⟨t,rfl⟩:=rv;exact SeqAt.EqAt.bool_str a b t
    | ref b=>simp [D.data] at he
    | ty b=>simp [D.data] at he
    | frl b=>simp [D.data] at he
    | tup es=>obtain ⟨b,us,rfl,s2,r2⟩:=ay;cases rv;obtain ⟨its2,rr2,t2,_⟩:=I.tuple s2;exact SeqAt.EqAt.bool_tuple a t2 hu0
  | .int a,e,A,x,y,u,v,hd,he,ax,ay,ru,rv,hu=>by
    cases ax;obtain ⟨t',rfl⟩:=ru
    have hu0:A.units < cLine:=by omega
    cases e with
    | non=>cases ay;cases rv;exact SeqAt.EqAt.int_none a t'
    | bl b=>cases ay;cases rv;exact SeqAt.EqAt.int_bool a t' b
    | int b=>cases ay;obtain ⟨t,rfl⟩:=rv;exact SeqAt.EqAt.int_int a t' b t
    | str b=>cases ay;obtain ⟨t,rfl⟩:=rv;exact SeqAt.EqAt.int_str a t' b t
    | ref b=>simp [D.data] at he
    | ty b=>simp [D.data] at he
    | frl b=>simp [D.data] at he
    | tup es=>obtain ⟨b,us,rfl,s2,r2⟩:=ay;cases rv;obtain ⟨its2,rr2,t2,_⟩:=I.tuple s2;exact SeqAt.EqAt.int_tuple a t' t2 hu0
  | .str a,e,A,x,y,u,v,hd,he,ax,ay,ru,rv,hu=>by
    cases ax;obtain ⟨t',rfl⟩:=ru
    have hu0:A.units < cLine:=by omega
    cases e with
    | non=>cases ay;cases rv;exact SeqAt.EqAt.str_none a t'
    | bl b=>cases ay;cases rv;exact SeqAt.EqAt.str_bool a t' b
    | int b=>cases ay;obtain ⟨t,rfl⟩:=rv;exact SeqAt.EqAt.str_int a t' b t
    | str b=>cases ay;obtain ⟨t,rfl⟩:=rv;exact SeqAt.EqAt.str_str a t' b t
    | ref b=>simp [D.data] at he
    | ty b=>simp [D.data] at he
    | frl b=>simp [D.data] at he
    | tup es=>obtain ⟨b,us,rfl,s2,r2⟩:=ay;cases rv;obtain ⟨its2,rr2,t2,_⟩:=I.tuple s2;exact SeqAt.EqAt.str_tuple a t' t2 hu0
theorem gAq (I:Inv X pins σ H s):∀ (ds es:List D) (A:Around) (vs us:List V) (its its2:List Value),cNq ds=true->cNq es=true->AbsL X.K H ds vs->AbsL X.K H es us->Vals vs its->Vals us its2->A.units+iOq ds < cLine →
    ∀ j (h1:j < its.length) (h2:j < its2.length),SeqAt.EqAt A s its[j] its2[j] (eqJ ds es j)
  | [],es,A,vs,us,its,its2,_,_,e,e',rr,rr2,_,j,h1,h2=>by
    rw [show vs=[] from e] at rr
    cases rr
    exact absurd h1 (by simp)
  | d::ds,[],A,vs,us,its,its2,_,_,e,e',rr,rr2,_,j,h1,h2=>by
    rw [show us=[] from e'] at rr2
    cases rr2
    exact absurd h2 (by simp)
  | d::ds,e0::es,A,vs,us,its,its2,hd,he,⟨v,r,e,q,t⟩,⟨v',r',e',q',t'⟩,rr,rr2,hu,j,h1,h2=>by
    subst e e'
    cases rr with
    | cons r1 rt=>
      cases rr2 with
      | cons r2 rt2=>
        simp only [iOq] at hu
        simp only [cNq,Bool.and_eq_true] at hd he
        cases j with
        | zero=>exact aA4q I d e0 A _ _ _ _ hd.1 he.1 q q' r1 r2 (by omega)
        | succ j=>
          have z:=gAq I ds es A _ _ _ _ hd.2 he.2 t t' rt rt2 (by omega) j (by simpa using h1) (by simpa using h2)
          simpa [eqJ] using z
end
theorem yTq (I:Inv X pins σ H s) (d e:D) (A:Around) (x y:V) (u v:Value) (hd:d.data=true) (he:e.data=true) (ax:Abs X.K H d x) (ay:Abs X.K H e y) (ru:RelV x u) (rv:RelV y v) (hu:A.units+d.dp < cLine):SeqAt.RcAt A s u v (eqD d e):=by
  have hu0:A.units < cLine:=by omega
  cases d with
  | tup ds=>
    obtain ⟨a,vs,rfl,s1,r1⟩:=ax
    cases ru
    obtain ⟨its,rr,t1,_⟩:=I.tuple s1
    cases e with
    | non=>cases ay;cases rv;exact SeqAt.RcAt.tuple_none t1 hu0
    | bl b=>cases ay;cases rv;exact SeqAt.RcAt.tuple_bool b t1 hu0
    | int b=>cases ay;obtain ⟨t,rfl⟩:=rv;exact SeqAt.RcAt.tuple_int b t t1 hu0
    | str b=>cases ay;obtain ⟨t,rfl⟩:=rv;exact SeqAt.RcAt.tuple_str b t t1 hu0
    | ref b=>simp [D.data] at he
    | ty b=>simp [D.data] at he
    | frl b=>simp [D.data] at he
    | tup es=>
      obtain ⟨b,us,rfl,s2,r2⟩:=ay
      cases rv
      obtain ⟨its2,rr2,t2,_⟩:=I.tuple s2
      have l1:=rr.length
      have l2:=rr2.length
      have l3:=r1.len
      have l4:=r2.len
      simp only [D.dp] at hu
      have z:=SeqAt.RcAt.tuples (A:=A) (e:=eqJ ds es) t1 t2 hu0 (λ j h1 h2=>by
        have q:=gAq I ds es A.in1 vs us its its2 (by simpa [D.data] using hd) (by simpa [D.data] using he) r1 r2 rr rr2 (by show A.units+1+iOq ds < cLine;omega) j (by simpa using h1) (by simpa using h2)
        simpa using q)
      have ez:((List.range (min its.toArray.size its2.toArray.size)).all (eqJ ds es)&&its.toArray.size==its2.toArray.size)=eqD (.tup ds) (.tup es):=by
        rw [List.size_toArray,List.size_toArray,<- l1,<- l2,l3,l4,bXq];rfl
      rw [ez] at z
      exact z
  | ref a=>simp [D.data] at hd
  | ty a=>simp [D.data] at hd
  | frl a=>simp [D.data] at hd
  | non=>
    cases ax;cases ru
    cases e with
    | non=>cases ay;cases rv;exact SeqAt.RcAt.none_none
    | bl b=>cases ay;cases rv;exact SeqAt.RcAt.none_bool b
    | int b=>cases ay;obtain ⟨t,rfl⟩:=rv;exact SeqAt.RcAt.none_int b t
    | str b=>cases ay;obtain ⟨t,rfl⟩:=rv;exact SeqAt.RcAt.none_str b t
    | ref b=>simp [D.data] at he
    | ty b=>simp [D.data] at he
    | frl b=>simp [D.data] at he
    | tup es=>obtain ⟨b,us,rfl,s2,r2⟩:=ay;cases rv;obtain ⟨its2,rr2,t2,_⟩:=I.tuple s2;exact SeqAt.RcAt.none_tuple t2 hu0
  | bl a=>
    cases ax;cases ru
    cases e with
    | non=>cases ay;cases rv;exact SeqAt.RcAt.bool_none a
    | bl b=>cases ay;cases rv;exact SeqAt.RcAt.bool_bool a b
    | int b=>cases ay;obtain ⟨t,rfl⟩:=rv;exact SeqAt.RcAt.bool_int a b t
    | str b=>cases ay;obtain ⟨t,rfl⟩:=rv;exact SeqAt.RcAt.bool_str a b t
    | ref b=>simp [D.data] at he
    | ty b=>simp [D.data] at he
    | frl b=>simp [D.data] at he
    | tup es=>obtain ⟨b,us,rfl,s2,r2⟩:=ay;cases rv;obtain ⟨its2,rr2,t2,_⟩:=I.tuple s2;exact SeqAt.RcAt.bool_tuple a t2 hu0
  | int a=>
    cases ax;obtain ⟨t',rfl⟩:=ru
    cases e with
    | non=>cases ay;cases rv;exact SeqAt.RcAt.int_none a t'
    | bl b=>cases ay;cases rv;exact SeqAt.RcAt.int_bool a t' b
    | int b=>cases ay;obtain ⟨t,rfl⟩:=rv;exact SeqAt.RcAt.int_int a t' b t
    | str b=>cases ay;obtain ⟨t,rfl⟩:=rv;exact SeqAt.RcAt.int_str a t' b t
    | ref b=>simp [D.data] at he
    | ty b=>simp [D.data] at he
    | frl b=>simp [D.data] at he
    | tup es=>obtain ⟨b,us,rfl,s2,r2⟩:=ay;cases rv;obtain ⟨its2,rr2,t2,_⟩:=I.tuple s2;exact SeqAt.RcAt.int_tuple a t' t2 hu0
  | str a=>
    cases ax;obtain ⟨t',rfl⟩:=ru
    cases e with
    | non=>cases ay;cases rv;exact SeqAt.RcAt.str_none a t'
    | bl b=>cases ay;cases rv;exact SeqAt.RcAt.str_bool a t' b
    | int b=>cases ay;obtain ⟨t,rfl⟩:=rv;exact SeqAt.RcAt.str_int a t' b t
    | str b=>cases ay;obtain ⟨t,rfl⟩:=rv;exact SeqAt.RcAt.str_str a t' b t
    | ref b=>simp [D.data] at he
    | ty b=>simp [D.data] at he
    | frl b=>simp [D.data] at he
    | tup es=>obtain ⟨b,us,rfl,s2,r2⟩:=ay;cases rv;obtain ⟨its2,rr2,t2,_⟩:=I.tuple s2;exact SeqAt.RcAt.str_tuple a t' t2 hu0
end
end L3
namespace L3
open PySem PySem.Spec L2
section
variable {X:Cx} {pins:List (Addr × Obj)} {σ:L2.St} {H:Hp} {s:Shared}
theorem yXq (I:Inv X pins σ H s) (d e:D) (A:Around) (x y:V) (u v:Value) (hd:d.data=true) (he:e.data=true) (ax:Abs X.K H d x) (ay:Abs X.K H e y) (ru:RelV x u) (rv:RelV y v) (hu:A.units+d.dp < cLine):SeqAt.RcNeAt A s u v (!eqD d e):=by
  have hu0:A.units < cLine:=by omega
  cases d with
  | tup ds=>
    obtain ⟨a,vs,rfl,s1,r1⟩:=ax
    cases ru
    obtain ⟨its,rr,t1,_⟩:=I.tuple s1
    cases e with
    | non=>cases ay;cases rv;exact SeqAt.RcNeAt.tuple_none t1 hu0
    | bl b=>cases ay;cases rv;exact SeqAt.RcNeAt.tuple_bool b t1 hu0
    | int b=>cases ay;obtain ⟨t,rfl⟩:=rv;exact SeqAt.RcNeAt.tuple_int b t t1 hu0
    | str b=>cases ay;obtain ⟨t,rfl⟩:=rv;exact SeqAt.RcNeAt.tuple_str b t t1 hu0
    | ref b=>simp [D.data] at he
    | ty b=>simp [D.data] at he
    | frl b=>simp [D.data] at he
    | tup es=>
      obtain ⟨b,us,rfl,s2,r2⟩:=ay
      cases rv
      obtain ⟨its2,rr2,t2,_⟩:=I.tuple s2
      have l1:=rr.length
      have l2:=rr2.length
      have l3:=r1.len
      have l4:=r2.len
      simp only [D.dp] at hu
      have z:=SeqAt.RcNeAt.tuples (A:=A) (e:=eqJ ds es) t1 t2 hu0 (λ j h1 h2=>by
        have q:=gAq I ds es A.in1 vs us its its2 (by simpa [D.data] using hd) (by simpa [D.data] using he) r1 r2 rr rr2 (by show A.units+1+iOq ds < cLine;omega) j (by simpa using h1) (by simpa using h2)
        simpa using q)
      have ez:((List.range (min its.toArray.size its2.toArray.size)).all (eqJ ds es)&&its.toArray.size==its2.toArray.size)=eqD (.tup ds) (.tup es):=by
        rw [List.size_toArray,List.size_toArray,<- l1,<- l2,l3,l4,bXq];rfl
      rw [ez] at z
      exact z
  | ref a=>simp [D.data] at hd
  | ty a=>simp [D.data] at hd
  | frl a=>simp [D.data] at hd
  | non=>
    cases ax;cases ru
    cases e with
    | non=>cases ay;cases rv;exact SeqAt.RcNeAt.none_none
    | bl b=>cases ay;cases rv;exact SeqAt.RcNeAt.none_bool b
    | int b=>cases ay;obtain ⟨t,rfl⟩:=rv;exact SeqAt.RcNeAt.none_int b t
    | str b=>cases ay;obtain ⟨t,rfl⟩:=rv;exact SeqAt.RcNeAt.none_str b t
    | ref b=>simp [D.data] at he
    | ty b=>simp [D.data] at he
    | frl b=>simp [D.data] at he
    | tup es=>obtain ⟨b,us,rfl,s2,r2⟩:=ay;cases rv;obtain ⟨its2,rr2,t2,_⟩:=I.tuple s2;exact SeqAt.RcNeAt.none_tuple t2 hu0
  | bl a=>
    cases ax;cases ru
    cases e with
    | non=>cases ay;cases rv;exact SeqAt.RcNeAt.bool_none a
    | bl b=>cases ay;cases rv;exact SeqAt.RcNeAt.bool_bool a b
    | int b=>cases ay;obtain ⟨t,rfl⟩:=rv;exact SeqAt.RcNeAt.bool_int a b t
    | str b=>cases ay;obtain ⟨t,rfl⟩:=rv;exact SeqAt.RcNeAt.bool_str a b t
    | ref b=>simp [D.data] at he
    | ty b=>simp [D.data] at he
    | frl b=>simp [D.data] at he
    | tup es=>obtain ⟨b,us,rfl,s2,r2⟩:=ay;cases rv;obtain ⟨its2,rr2,t2,_⟩:=I.tuple s2;exact SeqAt.RcNeAt.bool_tuple a t2 hu0
  | int a=>
    cases ax;obtain ⟨t',rfl⟩:=ru
    cases e with
    | non=>cases ay;cases rv;exact SeqAt.RcNeAt.int_none a t'
    | bl b=>cases ay;cases rv;exact SeqAt.RcNeAt.int_bool a t' b
    | int b=>cases ay;obtain ⟨t,rfl⟩:=rv;exact SeqAt.RcNeAt.int_int a t' b t
    | str b=>cases ay;obtain ⟨t,rfl⟩:=rv;exact SeqAt.RcNeAt.int_str a t' b t
    | ref b=>simp [D.data] at he
    | ty b=>simp [D.data] at he
    | frl b=>simp [D.data] at he
    | tup es=>obtain ⟨b,us,rfl,s2,r2⟩:=ay;cases rv;obtain ⟨its2,rr2,t2,_⟩:=I.tuple s2;exact SeqAt.RcNeAt.int_tuple a t' t2 hu0
  | str a=>
    cases ax;obtain ⟨t',rfl⟩:=ru
    cases e with
    | non=>cases ay;cases rv;exact SeqAt.RcNeAt.str_none a t'
    | bl b=>cases ay;cases rv;exact SeqAt.RcNeAt.str_bool a t' b
    | int b=>cases ay;obtain ⟨t,rfl⟩:=rv;exact SeqAt.RcNeAt.str_int a t' b t
    | str b=>cases ay;obtain ⟨t,rfl⟩:=rv;exact SeqAt.RcNeAt.str_str a t' b t
    | ref b=>simp [D.data] at he
    | ty b=>simp [D.data] at he
    | frl b=>simp [D.data] at he
    | tup es=>obtain ⟨b,us,rfl,s2,r2⟩:=ay;cases rv;obtain ⟨its2,rr2,t2,_⟩:=I.tuple s2;exact SeqAt.RcNeAt.str_tuple a t' t2 hu0
end
end L3
namespace L3
open PySem PySem.Spec L2
section
variable {X:Cx} {a b c e o i tg iter:Expr} {es:List Expr} {ta tb te to ti tc:DTE} {t:DTA} {pos p apos cpos:Pos}
theorem aVq {A:Around} {k:Nat} (hr:Room k A):A.units+200 < cLine:=by have:=hr.un;omega
def yEq (K:PySem.W.Frag) (f:Bool->Bool):R2:=λ x y H Q=>∃ d e,Abs K H d x/\Abs K H e y/\d.data=true/\e.data=true/\d.dp<=150/\Q (.bl (f (eqD d e))) H
def u9q (K:PySem.W.Frag) (f:Bool->Bool):R2:=λ x y H Q=>∃ l m vs us ds es,x=.ref l/\y=.ref m/\SqL K H l vs/\SqL K H m us/\AbsL K H ds vs/\AbsL K H es us/\cNq ds=true/\cNq es=true/\iOq ds<=150/\Q (.bl (f (kPq ds es))) H
theorem xMq (hu:X.A.units+200 < cLine):OpR X (compareOp .Eq) (yEq X.K id):=by
  intro pins s σ H x y v u Q I rx ry h
  obtain ⟨d,e,ax,ay,hd,he,hz,q⟩:=h
  exact yTq I d e X.A x y v u hd he ax ay rx ry (by omega) X.prog X.w X.xe _ ⟨.bl _,H,I,rfl,q⟩
theorem vLq (hu:X.A.units+200 < cLine):OpR X (compareOp .NotEq) (yEq X.K (!·)):=by
  intro pins s σ H x y v u Q I rx ry h
  obtain ⟨d,e,ax,ay,hd,he,hz,q⟩:=h
  exact yXq I d e X.A x y v u hd he ax ay rx ry (by omega) X.prog X.w X.xe _ ⟨.bl _,H,I,rfl,q⟩
theorem hKq:∀ {ds es:List D},ds.length≠es.length->kPq ds es=false
  | [],[],h=>absurd rfl h
  | [],_::_,_=>rfl
  | _::_,[],_=>rfl
  | d::ds,e::es,h=>by rw [kPq,hKq (by simpa using h),Bool.and_false]
theorem kNq {ds es:List D} (h:ds.length=es.length):(List.range ds.length).all (eqJ ds es)=kPq ds es:=by
  rw [<- bXq,<- h,Nat.min_self];simp
theorem tXq (hu:X.A.units+200 < cLine):OpR X (compareOp .Eq) (u9q X.K id):=by
  intro pins s σ H x y v u Q I rx ry h
  obtain ⟨l,m,vs,us,ds,es,rfl,rfl,s1,s2,r1,r2,hd,he,hz,q⟩:=h
  cases rx;cases ry
  obtain ⟨its,rr,t1,_⟩:=I.list s1
  obtain ⟨its2,rr2,t2,_⟩:=I.list s2
  have l1:=rr.length
  have l2:=rr2.length
  have l3:=r1.len
  have l4:=r2.len
  by_cases hl:ds.length=es.length
  . refine SeqAt.RcAt.lists (e:=eqJ ds es) t1.isList t2.isList (by rw [List.size_toArray,List.size_toArray];omega) (by omega) (λ j h1 h2=>?_) X.prog X.w X.xe _ ⟨.bl _,H,I,?_,q⟩
    . have q:=gAq I ds es X.A.in1 vs us its its2 hd he r1 r2 rr rr2 (by show X.A.units+1+iOq ds < cLine;omega) j (by simpa using h1) (by simpa using h2)
      simpa using q
    . show Value.bool _=Value.bool _
      rw [List.size_toArray,<- l1,l3,kNq hl];rfl
  . refine SeqAt.RcAt.lists_lengths t1.isList t2.isList (by rw [List.size_toArray,List.size_toArray];simp;omega) (by omega) X.prog X.w X.xe _ ⟨.bl _,H,I,?_,q⟩
    rw [hKq hl];rfl
theorem sLq (hu:X.A.units+200 < cLine):OpR X (compareOp .NotEq) (u9q X.K (!·)):=by
  intro pins s σ H x y v u Q I rx ry h
  obtain ⟨l,m,vs,us,ds,es,rfl,rfl,s1,s2,r1,r2,hd,he,hz,q⟩:=h
  cases rx;cases ry
  obtain ⟨its,rr,t1,_⟩:=I.list s1
  obtain ⟨its2,rr2,t2,_⟩:=I.list s2
  have l1:=rr.length
  have l2:=rr2.length
  have l3:=r1.len
  have l4:=r2.len
  by_cases hl:ds.length=es.length
  . refine SeqAt.RcNeAt.lists (e:=eqJ ds es) t1.isList t2.isList (by rw [List.size_toArray,List.size_toArray];omega) (by omega) (λ j h1 h2=>?_) X.prog X.w X.xe _ ⟨.bl _,H,I,?_,q⟩
    . have q:=gAq I ds es X.A.in1 vs us its its2 hd he r1 r2 rr rr2 (by show X.A.units+1+iOq ds < cLine;omega) j (by simpa using h1) (by simpa using h2)
      simpa using q
    . show Value.bool _=Value.bool _
      rw [List.size_toArray,<- l1,l3,kNq hl]
  . refine SeqAt.RcNeAt.lists_lengths t1.isList t2.isList (by rw [List.size_toArray,List.size_toArray];simp;omega) (by omega) X.prog X.w X.xe _ ⟨.bl _,H,I,?_,q⟩
    rw [hKq hl];rfl
def eqR (f:Bool->Bool):DR2:=λ x y G Q=>match x,y with
  | .int i,.int j=>Q (.bl (f (i==j))) G
  | .str i,.str j=>Q (.bl (f (i==j))) G
  | .tup _,.str _=>Q (.bl (f false)) G
  | .str _,.tup _=>Q (.bl (f false)) G
  | .ref l,.ref m=>onL G l λ ds=>onL G m λ es=>cNq ds=true/\cNq es=true/\iOq ds<=150/\Q (.bl (f (kPq ds es))) G
  | x,y=>x.data=true/\y.data=true/\x.dp<=150/\Q (.bl (f (eqD x y))) G
theorem nDq {f:Bool->Bool} {x y:D} {G:DV} {Q:DK} (hx:x.data=true) (hy:y.data=true) (hd:x.dp<=150) (q:Q (.bl (f (eqD x y))) G):eqR f x y G Q:=by
  cases x<;>cases y<;>first | exact q | exact ⟨hx,hy,hd,q⟩ | (simp [D.data] at hx;done) | (simp [D.data] at hy;done)
def rTS (K:PySem.W.Frag) (f:Bool->Bool):R2:=λ x y H Q=>(∃ a vs z,x=.ref a/\SqT K H a vs/\y=.str z/\Q (.bl (f false)) H)\/∃ a vs z,y=.ref a/\SqT K H a vs/\x=.str z/\Q (.bl (f false)) H
theorem sHq (hu:X.A.units+200 < cLine):OpR X (compareOp .Eq) (rTS X.K id):=by
  intro pins s σ H x y v u Q I rx ry h
  rcases h with ⟨a,vs,z,rfl,sq,rfl,q⟩ | ⟨a,vs,z,rfl,sq,rfl,q⟩
  . cases rx;obtain ⟨t,rfl⟩:=ry
    obtain ⟨its,rr,t1,_⟩:=I.tuple sq
    exact SeqAt.RcAt.tuple_str z t t1 (by omega) X.prog X.w X.xe _ ⟨.bl false,H,I,rfl,q⟩
  . cases ry;obtain ⟨t,rfl⟩:=rx
    obtain ⟨its,rr,t1,_⟩:=I.tuple sq
    exact SeqAt.RcAt.str_tuple z t t1 (by omega) X.prog X.w X.xe _ ⟨.bl false,H,I,rfl,q⟩
theorem rVq (hu:X.A.units+200 < cLine):OpR X (compareOp .NotEq) (rTS X.K (!·)):=by
  intro pins s σ H x y v u Q I rx ry h
  rcases h with ⟨a,vs,z,rfl,sq,rfl,q⟩ | ⟨a,vs,z,rfl,sq,rfl,q⟩
  . cases rx;obtain ⟨t,rfl⟩:=ry
    obtain ⟨its,rr,t1,_⟩:=I.tuple sq
    exact SeqAt.RcNeAt.tuple_str z t t1 (by omega) X.prog X.w X.xe _ ⟨.bl true,H,I,rfl,q⟩
  . cases ry;obtain ⟨t,rfl⟩:=rx
    obtain ⟨its,rr,t1,_⟩:=I.tuple sq
    exact SeqAt.RcNeAt.str_tuple z t t1 (by omega) X.prog X.w X.xe _ ⟨.bl true,H,I,rfl,q⟩
theorem rAq {f:Bool->Bool} {op:CmpOp} (h1:OpR X (compareOp op) (yEq X.K f)) (h2:OpR X (compareOp op) (u9q X.K f)) (h3:OpR X (compareOp op) (rTS X.K f)):AOp X (compareOp op) (eqR f):=by
  refine ⟨_,⟨h1.or (h2.or h3)⟩,λ x y vx vy G H DQ Q v ax ay r F=>?_⟩
  have fin:∀ b:Bool,DQ (.bl b) G->Q (.bl b) H:=λ b q=>F (.bl b) G _ H (.refl v) rfl q
  have gen:x.data=true/\y.data=true/\x.dp<=150/\DQ (.bl (f (eqD x y))) G->yEq X.K f vx vy H Q:=λ⟨z1,z2,z3,z4⟩=>⟨x,y,ax,ay,z1,z2,z3,fin _ z4⟩
  unfold eqR at r
  split at r
  . exact .inl (gen ⟨rfl,rfl,Nat.zero_le _,r⟩)
  . exact .inl (gen ⟨rfl,rfl,Nat.zero_le _,r⟩)
  . obtain ⟨l,vs,rfl,s1,_⟩:=ax
    cases ay
    exact .inr (.inr (.inl ⟨l,vs,_,rfl,s1,rfl,fin _ r⟩))
  . obtain ⟨l,vs,rfl,s1,_⟩:=ay
    cases ax
    exact .inr (.inr (.inr ⟨l,vs,_,rfl,s1,rfl,fin _ r⟩))
  . cases ax;cases ay
    obtain ⟨ds,vs,k1,s1,r1⟩:=bDq v r
    obtain ⟨es,us,⟨z1,z2,z3,k2⟩,s2,r2⟩:=bDq v k1
    exact .inr (.inl ⟨_,_,vs,us,ds,es,rfl,rfl,s1,s2,r1,r2,z1,z2,z3,fin _ k2⟩)
  . exact .inl (gen r)
theorem aIq (hu:X.A.units+200 < cLine):AOp X (compareOp .Eq) (eqR id):=rAq (xMq hu) (tXq hu) (sHq hu)
theorem rFq (hu:X.A.units+200 < cLine):AOp X (compareOp .NotEq) (eqR (!·)):=rAq (vLq hu) (sLq hu) (rVq hu)
abbrev vQq (t:DTE):DTE:=λ ρ G Q=>t ρ G λ d G'=>∃ G2,Sub G2 G'/\Q d G2
theorem ePq (h:AE X e te):AE X e (vQq te):=by
  obtain ⟨ca,ja,ra⟩:=h.run
  exact ⟨_,ja,λ ρ G DQ σ H Q B q F=>ra ρ G _ σ H _ B q λ d G' v H' g a ⟨G2,s2,q2⟩=>F d G2 v H' (g.sub s2) a q2⟩
@[irreducible] def atS (ds:List D) (i:Int) (G:DV) (Q:DK):Prop:=atD ds i G Q
theorem oPq {ds:List D} {i:Int} {G:DV} {Q:DK} (h:atD ds i G Q):atS ds i G Q:=by unfold atS;exact h
abbrev dIxD (t:DTA) (tb:DTE):DTE:=λ ρ G Q=>t ρ G λ ds G1=>tb ρ G1 λ y G2=>match y with
  | .int i=>atS ds i G2 Q
  | _=>False
theorem cHq {lp:Pos} (h:AA X es t) (hb:AE X b tb) (hs:h0q b) (hl:Nat.ble es.length 1000=true:=by rfl):AE X (.Subscript (.List es lp) b pos) (dIxD t tb):=by
  obtain ⟨ca,ja,ra⟩:=h.run
  obtain ⟨cb,jb,rb⟩:=hb.run
  refine ⟨_,wSq ⟨rIq⟩ (r4q ja) jb hs,λ ρ G DQ σ H Q B q F=>ra ρ G _ σ H _ B q λ ds G1 vs H1 g1 al hn q1=>⟨by rw [al.len,hn];exact jEq hl,λ p hp=>?_⟩⟩
  have g2:=Go.newT (o:=.lst vs) g1.vw hp
  have n1:=g1.vw.none hp
  refine rb ρ G1 _ σ _ _ ((B.go g1).go g2) q1 λ y G3 u H3 g3 ay q3=>?_
  have h3:=g3.same p _ aNq n1
  split at q3
  . next i=>
    cases ay
    unfold atS at q3
    obtain ⟨d,hd,q4⟩:=hXq q3
    obtain ⟨w,hw,aw⟩:=hOq ((al.mono g2.tup).mono g3.tup) hd
    exact .inl ⟨p,vs,i,w,rfl,rfl,.of h3,hw,F d G3 w H3 ((g1.trans g2).trans g3) aw q4⟩
  . exact q3.elim
def n8q (sc:Scope) (N:List Str) (scope:Scope) (N':List Str) (nt:Nat) (cap:List Nat):Bool:=
  scope.names.all (λ y=>y.2 !=.cell)&&scope.names.all (λ y=>y.2 !=.local||scope.names.lookup y.1==some .local) &&
  scope.names.all (λ y=>y.2 !=.free||(sc.names.lookup y.1==some .cell||sc.names.lookup y.1==some .free))&&N'.length==nt+cap.length &&
  (List.range cap.length).all λ j=>match cap[j]?,N'[nt+j]? with
    | some i,some x=>N[i]?==some x&&scope.names.lookup x==some .free
    | _,_=>true
theorem CompOk.of {scope:Scope} {N':List Str} {nt:Nat} {cap:List Nat} (hk:scope.kind=.function) (h:n8q X.env.scope X.N scope N' nt cap=true):CompOk X scope N' nt cap:=by
  unfold n8q at h
  simp only [Bool.and_eq_true,List.all_eq_true] at h
  obtain ⟨⟨⟨⟨h1,h2⟩,h3⟩,h4⟩,h5⟩:=h
  refine ⟨hk,λ y hy=>by simpa using h1 y hy,λ y hy e=>?_,λ y hy e=>?_,by simpa using h4,λ j i x hj hx=>?_⟩
  . have z:=h2 y hy
    rw [e] at z
    simpa using z
  . have z:=h3 y hy
    rw [e] at z
    simpa using z
  . have lt:j < cap.length:=by
      rcases Nat.lt_or_ge j cap.length with z | z
      . exact z
      . rw [List.getElem?_eq_none z] at hj;cases hj
    have z:=h5 j (List.mem_range.mpr lt)
    rw [hj,hx] at z
    simpa using z
abbrev yQq (to ti:DTE):DTG:=λ d ρ G Q=>to ρ G λ x G1=>ti ρ G1 λ y G2=>match x,y with
  | .ref l,.int k=>onM G2 l λ ds=>∃ j,ixN ds.length k=some j/\Q ρ (up G2 l (.lst (ds.set j d)))
  | _,_=>False
theorem rMq (ho:AE X o to) (hi:AE X i ti) (ha:∀ v,assign (.Subscript o i pos) X.env v=(do
      let ov ← holding [v] (eval o X.env)
      let iv ← holding [v,ov] (eval i X.env)
      standAt pos
      holding [v,ov,iv] (setItem ov iv v)
      release [v,ov,iv] []):=by intro _;rfl):AG X (.Subscript o i pos) (yQq to ti):=by
  obtain ⟨co,jo,ro⟩:=ho.run
  obtain ⟨ci,ji,ri⟩:=hi.run
  refine ⟨_,uTq jo ji ⟨pIq⟩ ha,λ d v ρ G DQ σ H Q B ad q F=>ro ρ G _ σ H _ B q λ x G1 vx H1 g1 ax q1=>ri ρ G1 _ σ H1 _ (B.go g1) q1 λ y G2 vy H2 g2 ay q2=>?_⟩
  split at q2
  . next l k=>
    cases ax;cases ay
    obtain ⟨ds,vs,⟨j,hj,q3⟩,e1,h1,r1⟩:=cIq g2.vw q2
    have ad2:=(ad.mono g1.tup).mono g2.tup
    have g3:=Go.setL g2.vw e1 (r1.set ad2 j)
    have gg:=(g1.trans g2).trans g3
    exact ⟨l,vs,k,j,rfl,rfl,h1,by rw [r1.len];exact hj,F ρ _ σ _ gg (B.go gg) q3⟩
  . exact q2.elim
abbrev yFq (te:DTE):DTE:=λ ρ G Q=>te ρ G λ x G1=>match x with
  | .tup ds=>∀ p,G1 p=none->Q (.ref p) (up G1 p (.lst ds.reverse))
  | _=>False
abbrev vHq (te:DTE):DTE:=λ ρ G Q=>te ρ G λ x G1=>match x with
  | .ref l=>onL G1 l λ ds=>∀ p,G1 p=none->Q (.ref p) (up G1 p (.lst ds.reverse))
  | _=>False
def cXq:List D->Option (List Bool)
  | []=>some []
  | .bl i::r=>(cXq r).map (i::·)
  | _::_=>none
theorem f4q {K:PySem.W.Frag} {H:Hp}:∀ {ds:List D} {bs:List Bool} {vs:List V},cXq ds=some bs->AbsL K H ds vs->vs=bs.map V.bl
  | [],bs,vs,h,r=>by cases h;exact r
  | d::ds,bs,vs,h,⟨v,q,e,av,l⟩=>by
    cases d with
    | bl i=>
      simp only [cXq,Option.map_eq_some_iff] at h
      obtain ⟨ms,h1,rfl⟩:=h
      subst e
      cases av
      rw [f4q h1 l];rfl
    | _=>simp [cXq] at h
theorem f9q:∀ bs:List Bool,cXq (bs.map D.bl)=some bs
  | []=>rfl
  | b::bs=>by simp [cXq,f9q bs]
def allD:D->DV->DK->Prop:=λ x G Q=>match x with
  | .ref l=>onL G l λ ds=>∃ bs,cXq ds=some bs/\Q (.bl (bs.all id)) G
  | _=>False
theorem mPq (hc:X.calm=true):ACall X (.builtin "all") (uCq allD):=by
  refine ⟨_,⟨oJq hc⟩,λ xs vs G H DQ Q v a r F=>?_⟩
  obtain ⟨x,u,rfl,rfl,ax,r⟩:=eLq r a
  cases x with
  | ref l=>
    cases ax
    obtain ⟨ds,ws,⟨bs,e,k⟩,s,rl⟩:=bDq v r
    rw [f4q e rl] at s
    exact ⟨l,bs,rfl,s,F (.bl (bs.all id)) G _ H (.refl v) rfl k⟩
  | _=>exact (show False from r).elim
def tyN (x:D) (G:DV) (k:String->Prop):Prop:=match x with
  | .non=>k "NoneType"
  | .bl _=>k "bool"
  | .int _=>k "int"
  | .str _=>k "str"
  | .tup _=>k "tuple"
  | .ref l=>onL G l λ _=>k "list"
  | _=>False
def isTy (t T:String):Option Bool:=
  if (t = "NoneType"\/t = "bool"\/t = "int"\/t = "str"\/t = "tuple"\/t = "list")/\(T = "bool"\/T = "int"\/T = "str"\/T = "tuple"\/T = "list") then some (decide (t=T)||(decide (t = "bool")&&decide (T = "int"))) else none
theorem cMq {K:PySem.W.Frag} {t T:String} {b:Bool} (h:isTy t T=some b):PySem.W.kitOne K (.type t) (.type T)=some b:=by
  unfold isTy at h
  split at h
  . next c=>
    obtain ⟨c1,c2⟩:=c
    rcases c1 with rfl | rfl | rfl | rfl | rfl | rfl<;>rcases c2 with rfl | rfl | rfl | rfl | rfl<;>(simp at h;subst h;first | rfl | exact kit_other rfl (by decide))
  . cases h
def rIsI (K:PySem.W.Frag):List V->Hp->VK->Prop:=λ xs H Q=>∃ x T t b,xs=[x,.ty T]/\((TyOf K H x (.type t))\/(t = "tuple"/\∃ a vs,x=.ref a/\SqT K H a vs)\/(t = "list"/\∃ a vs,x=.ref a/\SqL K H a vs))/\PySem.W.kitOne K (.type t) (.type T)=some b/\Q (.bl b) H
theorem nNq:CallR X (.builtin "isinstance") (rIsI X.K):=by
  intro pins s σ H xs us Q I r h
  obtain ⟨x,T,t,b,rfl,ty,hk,hQ⟩:=h
  obtain ⟨u,v,rfl,ru,rv⟩:=Vals.two r
  cases rv
  rcases ty with ty | ⟨rfl,a,vs,rfl,sq⟩ | ⟨rfl,a,vs,rfl,sq⟩
  . exact nGq I ru ty hk λ tk=>⟨.bl b,H,I.tok tk,rfl,hQ⟩
  . cases ru
    obtain ⟨its,_,⟨o,h1,h2,_⟩,_⟩:=I.tuple sq
    exact PySem.W.kia_one PySem.W.kitx_tuple I.kIn ⟨o,h1,h2⟩ hk (λ z=>nomatch z) λ tk=>⟨.bl b,H,I.tok tk,rfl,hQ⟩
  . cases ru
    obtain ⟨its,_,⟨o,n,h1,h2,_⟩,_⟩:=I.list sq
    exact PySem.W.kia_one PySem.W.kitx_list I.kIn ⟨o,h1,h2⟩ hk (λ z=>nomatch z) λ tk=>⟨.bl b,H,I.tok tk,rfl,hQ⟩
def isID:D->D->DV->DK->Prop:=λ x y G Q=>match y with
  | .ty T=>tyN x G λ t=>∃ b,isTy t T=some b/\Q (.bl b) G
  | _=>False
theorem bNq:ACall X (.builtin "isinstance") (yHq isID):=by
  refine ⟨_,⟨nNq⟩,λ xs vs G H DQ Q v a r F=>?_⟩
  obtain ⟨x,y,u,w,rfl,rfl,ax,ay,r⟩:=k6q r a
  cases y with
  | ty T=>
    cases ay
    cases x with
    | non=>cases ax;obtain ⟨b,hb,q⟩:=r;exact ⟨_,T,_,b,rfl,.inl .non,cMq hb,F (.bl b) G _ H (.refl v) rfl q⟩
    | bl z=>cases ax;obtain ⟨b,hb,q⟩:=r;exact ⟨_,T,_,b,rfl,.inl (.bl z),cMq hb,F (.bl b) G _ H (.refl v) rfl q⟩
    | int z=>cases ax;obtain ⟨b,hb,q⟩:=r;exact ⟨_,T,_,b,rfl,.inl (.int z),cMq hb,F (.bl b) G _ H (.refl v) rfl q⟩
    | str z=>cases ax;obtain ⟨b,hb,q⟩:=r;exact ⟨_,T,_,b,rfl,.inl (.str z),cMq hb,F (.bl b) G _ H (.refl v) rfl q⟩
    | tup ds=>obtain ⟨l,ws,rfl,s,_⟩:=ax;obtain ⟨b,hb,q⟩:=r;exact ⟨_,T,"tuple", b,rfl,.inr (.inl ⟨rfl,l,ws,rfl,s⟩),cMq hb,F (.bl b) G _ H (.refl v) rfl q⟩
    | ref l=>
      cases ax
      obtain ⟨ds,ws,⟨b,hb,q⟩,s,_⟩:=bDq v r
      exact ⟨_,T,"list", b,rfl,.inr (.inr ⟨rfl,l,ws,rfl,s⟩),cMq hb,F (.bl b) G _ H (.refl v) rfl q⟩
    | ty z=>exact (show False from r).elim
    | frl z=>exact (show False from r).elim
  | _=>exact (show False from r).elim
abbrev zWq (t:DTA):DTI:=λ ρ G R=>t ρ G λ ds G1=>match ds with
  | [.tup xs,.tup ys]=>xs.length<=ys.length/\R ⟨(xs.zip ys).map λ z=>.tup [z.1,z.2],λ _=>True⟩ G1
  | _=>False
theorem wTq {k:Nat} {tp:Pos} (hg:Gl X "zip") (hm:X.mg "zip" = none) (ha:AA X [a,b] t) (h1:aSq a=true:=by rfl) (h2:aSq b=true:=by rfl):AI X (.Tuple es k tp) (.Call (.Name "zip" p) [a,b] [] pos) (zWq t):=by
  obtain ⟨ca,ja,ra⟩:=ha.run
  refine ⟨_,uIq hg hm ja h1 h2,λ ρ G DR σ H R B q F=>ra ρ G _ σ H _ B q λ ds G1 vs H1 g1 al hl q1=>?_⟩
  split at q1
  . next xs ys=>
    obtain ⟨hle,q2⟩:=q1
    obtain ⟨v,r,rfl,⟨l,ws,rfl,s1,r1⟩,u,r2,rfl,⟨m,zs,rfl,s2,r2'⟩,z⟩:=al
    cases z
    refine ⟨l,m,rfl,⟨ws,s1⟩,⟨zs,s2⟩,F _ _ G1 H1 g1 (λ G2 H2 g2 _=>⟨λ n d hd=>?_,λ n hn=>⟨ws,g2.tup.tp _ _ s1,?_⟩⟩) q2⟩
    . rw [List.getElem?_map] at hd
      cases e:(xs.zip ys)[n]? with
      | none=>rw [e] at hd;cases hd
      | some z=>
        rw [e] at hd
        simp at hd
        subst hd
        obtain ⟨e1,e2⟩:=List.getElem?_zip_eq_some.mp e
        obtain ⟨w1,k1,a1⟩:=(r1.mono g2.tup).get e1
        obtain ⟨w2,k2,a2⟩:=(r2'.mono g2.tup).get e2
        refine ⟨⟨ws,zs,w1,w2,g2.tup.tp _ _ s1,g2.tup.tp _ _ s2,k1,k2⟩,λ x H' y=>?_⟩
        obtain ⟨T,x1,y1,rfl,hT,rfl,hx,hy⟩:=y
        have z1:=hx ws (g2.tup.tp _ _ s1)
        have z2:=hy zs (g2.tup.tp _ _ s2)
        rw [k1] at z1;rw [k2] at z2
        cases z1;cases z2
        have g3:=Go.newT (o:=.tup [w1,w2]) g2.vw hT
        exact ⟨g3,T,_,rfl,.of aNq,⟨_,_,rfl,a1.mono g3.tup,.one (a2.mono g3.tup)⟩⟩
    . have:=r1.len
      simp at hn
      omega
  . exact q1.elim
end
end L3
namespace L3
open PySem PyProof L2
open PySem.MeetsSeq
section
variable {X:Cx}
variable {e:Expr} {t:DTA} {pos apos cpos:Pos}
end
theorem mKq {a b:String} (h:Str.ofString a=Str.ofString b):a=b:=by
  rw [Str.ofString_eq_toList,Str.ofString_eq_toList] at h
  have h1:a.toList.map Char.toNat=b.toList.map Char.toNat:=by simpa using h
  have h2:a.toList=b.toList:=by
    generalize a.toList=x at h1
    generalize b.toList=y at h1
    induction x generalizing y with
    | nil=>cases y with
      | nil=>rfl
      | cons _ _=>simp at h1
    | cons c x ih=>cases y with
      | nil=>simp at h1
      | cons d y=>
        simp only [List.map_cons,List.cons.injEq] at h1
        rw [Char.ext (UInt32.toNat_inj.mp h1.1),ih y h1.2]
  exact String.toList_inj.mp h2
theorem b5q {a b:String}:(Str.ofString a=Str.ofString b)=(a=b):=propext ⟨mKq,λ h=>by rw [h]⟩
theorem i4q {a b:String}:(Str.ofString a==Str.ofString b)=(a==b):=by
  rw [Bool.eq_iff_iff];simp [b5q]
inductive Tm where
  | name (k:Nat) | whole (n:Int) | way (t:Tm) | give (t u:Tm) | pair (t u:Tm) | first (t:Tm) | second (t:Tm) | plus (t u:Tm) | look (t u v:Tm)
def Tm.inn:Tm->List Tm
  | .name _=>[]
  | .whole _=>[]
  | .way t=>[t]
  | .give t u=>[t,u]
  | .pair t u=>[t,u]
  | .first t=>[t]
  | .second t=>[t]
  | .plus t u=>[t,u]
  | .look t u v=>[t,u,v]
def Tm.word:Tm->Str
  | .name _=>"name" | .whole _=>"whole" | .way _=>"way" | .give _ _=>"give" | .pair _ _=>"pair" | .first _=>"first" | .second _=>"second" | .plus _ _=>"plus" | .look _ _ _=>"look"
def Tm.enc:Tm->D
  | .name k=>.tup [.str "name", .int k]
  | .whole n=>.tup [.str "whole", .int n]
  | .way t=>.tup [.str "way", t.enc]
  | .give t u=>.tup [.str "give", t.enc,u.enc]
  | .pair t u=>.tup [.str "pair", t.enc,u.enc]
  | .first t=>.tup [.str "first", t.enc]
  | .second t=>.tup [.str "second", t.enc]
  | .plus t u=>.tup [.str "plus", t.enc,u.enc]
  | .look t u v=>.tup [.str "look", t.enc,u.enc,v.enc]
def Tm.sz:Tm->Nat
  | .name _=>1
  | .whole _=>1
  | .way t=>1+t.sz
  | .give t u=>1+t.sz+u.sz
  | .pair t u=>1+t.sz+u.sz
  | .first t=>1+t.sz
  | .second t=>1+t.sz
  | .plus t u=>1+t.sz+u.sz
  | .look t u v=>1+t.sz+u.sz+v.sz
def Tm.dp:Tm->Nat
  | .name _=>0
  | .whole _=>0
  | .way t=>1+t.dp
  | .give t u=>1+max t.dp u.dp
  | .pair t u=>1+max t.dp u.dp
  | .first t=>1+t.dp
  | .second t=>1+t.dp
  | .plus t u=>1+max t.dp u.dp
  | .look t u v=>1+max t.dp (max u.dp v.dp)
theorem Tm.sz_pos (t:Tm):1<=t.sz:=by cases t<;>simp [Tm.sz]<;>omega
theorem Tm.enc_dp (t:Tm):t.enc.dp=t.dp+1:=by
  induction t<;>simp_all [Tm.enc,D.dp,iOq,Tm.dp]<;>omega
theorem Tm.dp_sz (t:Tm):t.dp<=t.sz:=by
  induction t<;>simp_all [Tm.dp,Tm.sz]<;>omega
def Tm.args:Tm->List D
  | .name k=>[.int k]
  | .whole n=>[.int n]
  | t=>t.inn.map Tm.enc
theorem Tm.enc_eq (t:Tm):t.enc=.tup (.str t.word::t.args):=by cases t<;>rfl
abbrev fed (x y:Int):DO:=.lst [.int x,.int y]
def Fd (G:DV) (a:Addr):Prop:=∃ x y,G a=some (fed x y)
theorem Fd.up {G:DV} {a:Addr} {x y:Int}:Fd (up G a (fed x y)) a:=⟨x,y,a8q⟩
theorem Fd.new {G:DV} {a l:Addr} {o:DO} (h:Fd G a) (n:G l=none):Fd (L3.up G l o) a:=by
  obtain ⟨x,y,e⟩:=h
  exact ⟨x,y,by rw [aZq (by rintro rfl;rw [n] at e;cases e)];exact e⟩
theorem cAq {G:DV} {a l:Addr} {f o:DO} (n:up G a f l=none):up (up G a f) l o=up (up G l o) a f/\G l=none/\l≠a:=by
  have ne:l≠a:=by rintro rfl;rw [a8q] at n;cases n
  exact ⟨o1q (Ne.symm ne),by rw [aZq ne] at n;exact n,ne⟩
theorem Sub.new {G G1:DV} {p:Addr} {o:DO} (h:Sub G G1) (n:G p=Option.none):Sub G (up G1 p o):=λ b u e=>by
  rw [aZq (by rintro rfl;rw [n] at e;cases e)];exact h b u e
theorem Sub.put {G G1:DV} {a:Addr} {o:DO} (h:Sub G G1):Sub (up G a o) (up G1 a o):=λ b u e=>by
  by_cases c:b=a
  . subst c;rw [a8q] at e ⊢;exact e
  . rw [aZq c] at e ⊢;exact h b u e
def Fx (a:Addr) (G G':DV):Prop:=∃ x y,G'=up G a (fed x y)
theorem Fx.mk {a:Addr} {G:DV} {x y:Int}:Fx a G (up G a (fed x y)):=⟨x,y,rfl⟩
theorem Fx.trans {a:Addr} {G G1 G2:DV} (h:Fx a G G1) (k:Fx a G1 G2):Fx a G G2:=by
  obtain ⟨x,y,rfl⟩:=h
  obtain ⟨z,u,rfl⟩:=k
  exact ⟨z,u,g5q⟩
theorem Fx.fd {a:Addr} {G G':DV} (h:Fx a G G'):Fd G' a:=by obtain ⟨x,y,rfl⟩:=h;exact .up
theorem Fx.other {a l:Addr} {G G':DV} (h:Fx a G G') (n:l≠a):G' l=G l:=by obtain ⟨x,y,rfl⟩:=h;exact aZq n
def e5q:DSp:=λ ds G Q=>match ds with
  | [.ref a,.int m]=>Fd G a/\0 < m/\m < 2 ^ 62/\∀ d G',Fx a G G'->0<=d->d < m->Q (.int d) G'
  | _=>False
def iXq:DSp:=λ ds G Q=>match ds with
  | [.frl ss,.int k]=>∃ ns:List Int,ss=ns.map D.int/\ns.length<=63/\0<=k/\k < 2 ^ 32/\∀ r x y,G r=none->Q (.ref r) (up G r (fed x y))
  | _=>False
def e1q:DSp:=λ ds G Q=>match ds with
  | [.ref a]=>Fd G a/\∀ n G',Fx a G G'->-(2 ^ 40) < n->n < 2 ^ 40->Q (Tm.enc (.whole n)) G'
  | _=>False
structure Fit (p:Tm) (z d:Int):Prop where
  sz:(p.sz:Int)<=z
  dp:(p.dp:Int)<=d
theorem uFq {P:Program} {w:World} {K:PySem.W.Frag} {mg:Str->Option Value} {base:Heap} {f:Addr} {fd:FuncData} {ps:List Str} {k:Nat} {dsp:DSp} (no:∀ ds G DQ,¬ dsp ds G DQ):FnOk P w K mg base CX0 k f fd ps (aQq K dsp):=
  ⟨λ vs H Q E ⟨ds,G,DQ,_,_,h,_⟩=>absurd h (no ds G DQ),λ A outer s H args us vs Q E _ _ _ _ ⟨ds,G,DQ,_,_,h,_⟩=>absurd h (no ds G DQ)⟩
theorem at2 {x y:D} {G:DV} {Q:DK} {i:Int} (h0:0<=i) (h1:i < 2) (hx:i=0->Q x G) (hy:i=1->Q y G):atS [x,y] i G Q:=by
  refine oPq ?_
  rcases (by omega:i=0\/i=1) with rfl | rfl
  . exact hx rfl
  . exact hy rfl
theorem at4 {x y z u:D} {G:DV} {Q:DK} {i:Int} (h0:0<=i) (h1:i < 4) (hx:i=0->Q x G) (hy:i=1->Q y G) (hz:i=2->Q z G) (hu:i=3->Q u G):atS [x,y,z,u] i G Q:=by
  refine oPq ?_
  rcases (by omega:i=0\/i=1\/i=2\/i=3) with rfl | rfl | rfl | rfl
  . exact hx rfl
  . exact hy rfl
  . exact hz rfl
  . exact hu rfl
theorem at5 {x y z u v:D} {G:DV} {Q:DK} {i:Int} (h0:0<=i) (h1:i < 5) (hx:i=0->Q x G) (hy:i=1->Q y G) (hz:i=2->Q z G) (hu:i=3->Q u G) (hv:i=4->Q v G):atS [x,y,z,u,v] i G Q:=by
  refine oPq ?_
  rcases (by omega:i=0\/i=1\/i=2\/i=3\/i=4) with rfl | rfl | rfl | rfl | rfl
  . exact hx rfl
  . exact hy rfl
  . exact hz rfl
  . exact hu rfl
  . exact hv rfl
def plD (ns:List Int):D:=.tup (ns.map D.int)
def dFq (k:Int) (zs:List (List Int × Tm)):List (List Int × Tm):=zs.map λ z=>(k::z.1,z.2)
def Tm.all:Tm->List (List Int × Tm)
  | .name k=>[([],.name k)]
  | .whole n=>[([],.whole n)]
  | .way t=>([],.way t)::dFq 0 t.all
  | .give t u=>([],.give t u)::(dFq 0 t.all++dFq 1 u.all)
  | .pair t u=>([],.pair t u)::(dFq 0 t.all++dFq 1 u.all)
  | .first t=>([],.first t)::dFq 0 t.all
  | .second t=>([],.second t)::dFq 0 t.all
  | .plus t u=>([],.plus t u)::(dFq 0 t.all++dFq 1 u.all)
  | .look t u v=>([],.look t u v)::(dFq 0 t.all++dFq 1 u.all++dFq 2 v.all)
def eMq {α:Type} (all:α->List (List Int × α)):List α->Int->List (List Int × α)
  | [],_=>[]
  | x::r,k=>(all x).map (λ z=>(k::z.1,z.2))++eMq all r (k+1)
theorem Tm.all_eq (t:Tm):t.all=([],t)::eMq Tm.all t.inn 0:=by
  cases t<;>simp [Tm.all,eMq,Tm.inn,dFq]
theorem Tm.all_len (t:Tm):t.all.length=t.sz:=by
  induction t<;>simp_all [Tm.all,Tm.sz,dFq]<;>omega
theorem cYq {α:Type} (all:α->List (List Int × α)):∀ (xs ys:List α) (k:Int),eMq all (xs++ys) k=eMq all xs k++eMq all ys (k+xs.length)
  | [],ys,k=>by simp [eMq]
  | x::xs,ys,k=>by rw [List.cons_append,eMq,eMq,cYq all xs ys,List.append_assoc,List.length_cons];congr 3;omega
def Tm.hasRule:Tm->Bool
  | .give (.way _) _=>true
  | .first (.pair _ _)=>true
  | .second (.pair _ _)=>true
  | .plus (.whole _) (.whole _)=>true
  | .look (.whole _) _ _=>true
  | _=>false
def dTq (b:Tm->Bool):DSp:=λ ds G Q=>∃ t:Tm,ds=[t.enc]/\Q (.bl (b t)) G
theorem eGq (t u:Tm):(Tm.give t u).hasRule=(t.word=="way"):=by cases t<;>first | rfl | decide
theorem d8q (t:Tm):(Tm.first t).hasRule=(t.word=="pair"):=by cases t<;>first | rfl | decide
theorem cOq (t:Tm):(Tm.second t).hasRule=(t.word=="pair"):=by cases t<;>first | rfl | decide
theorem e4q (t u:Tm):(Tm.plus t u).hasRule=(t.word=="whole"&&u.word=="whole"):=by cases t<;>cases u<;>first | rfl | decide
theorem eAq (t u v:Tm):(Tm.look t u v).hasRule=(t.word=="whole"):=by cases t<;>first | rfl | decide
def gWq:DSp:=λ ds G Q=>match ds with
  | [.ref a,.int many]=>Fd G a/\0<=many/\many < 2 ^ 40/\∀ (p:Tm) G',Fx a G G'->p.sz=1->p.dp=0->Q p.enc G'
  | _=>False
def hCq (n:Nat):DSp:=λ ds G Q=>match ds with
  | [.ref a,.int many,.int room,.int deep]=>Fd G a/\0<=many/\many+deep < 2 ^ 32/\room < 1000/\0<=deep/\deep < n/\∀ (p:Tm) G',Fx a G G'->Fit p (max room 1) deep->Q p.enc G'
  | _=>False
def dMq (n:Nat):DSp:=λ ds G Q=>match ds with
  | [.ref a,.int form,.int many,.int room,.int deep]=>Fd G a/\0<=form/\form < 11/\0<=many/\many+deep < 2 ^ 32/\6<=room/\room < 1000/\3<=deep/\deep < n+2/\∀ (p:Tm) G',Fx a G G'->Fit p room deep->Q p.enc G'
  | _=>False
def jOq {α:Type} (enc:α->D) (inn:α->List α):DSp:=λ ds G Q=>∃ x,ds=[enc x]/\Q (.tup ((inn x).map enc)) G
section
variable {α:Type} {all:α->List (List Int × α)} {inn:α->List α}
theorem small {n:Nat} (h:n<=200000):n<=sizeLine:=by rw [sizeLine_eq];omega
theorem aUq {n:Nat} (h:n<=200000):n < sizeLine:=by rw [sizeLine_eq];omega
theorem up3 {G:DV} {p q:Addr} {x y z:DO} (h:p≠q):up (up (up G q x) p y) q z=up (up G q z) p y:=by
  rw [o1q h,g5q]
end
theorem t1q {u:Tm} {G:DV} {k:String->Prop} (q:k "tuple"):tyN u.enc G k:=by rw [u.enc_eq];exact q
theorem u2q {u:Tm} {G:DV} {Q:DK} (q:Q (.bl true) G):isID u.enc (.ty "tuple") G Q:=by
  unfold isID
  exact t1q ⟨true,rfl,q⟩
theorem Tm.dp_inn {t u:Tm} (h:u∈t.inn):u.dp+1<=t.dp:=by
  cases t<;>simp [Tm.inn] at h<;>simp only [Tm.dp]<;>first | (subst h;omega) | (rcases h with rfl | rfl<;>omega) | (rcases h with rfl | rfl | rfl<;>omega)
theorem Tm.sz_mem {t u:Tm} (h:u∈t.inn):u.sz+1<=t.sz:=by
  cases t<;>simp [Tm.inn] at h<;>simp only [Tm.sz]<;>first | (subst h;omega) | (rcases h with rfl | rfl<;>omega) | (rcases h with rfl | rfl | rfl<;>omega)
theorem Tm.leaf_or (t:Tm):(t.inn=[]/\∃ n,t.args=[.int n])\/(t.args=t.inn.map Tm.enc):=by
  cases t<;>simp [Tm.inn,Tm.args]
theorem Tm.inn_len (t:Tm):t.inn.length<=3:=by cases t<;>simp [Tm.inn]
theorem Tm.args_len (t:Tm):t.args.length<=3:=by cases t<;>simp [Tm.inn,Tm.args]
def Tm.at:Tm->List Int->Option Tm
  | t,[]=>some t
  | t,k::ks=>if 0<=k then (match t.inn[k.toNat]? with | some u=>Tm.at u ks | none=>none) else none
theorem Tm.at_go {t u:Tm} {k:Int} {ks:List Int} (h0:0<=k) (h:t.inn[k.toNat]?=some u):t.at (k::ks)=u.at ks:=by rw [Tm.at,if_pos h0,h]
theorem Tm.at_cons {t:Tm} {k:Int} {ks:List Int} {q:Tm} (h:t.at (k::ks)=some q):0<=k/\∃ x,t.inn[k.toNat]?=some x/\x.at ks=some q:=by
  rw [Tm.at] at h
  split at h
  . next c=>
    split at h
    . next u e=>exact ⟨c,u,e,h⟩
    . cases h
  . cases h
theorem Tm.at_take:∀ {ns:List Int} {t q:Tm} {i:Nat} {k:Int},t.at ns=some q->ns[i]?=some k->∃ u v,t.at (ns.take i)=some u/\0<=k/\u.inn[k.toNat]?=some v/\t.at (ns.take (i+1))=some v
  | [],_,_,_,_,_,hi=>by simp at hi
  | n::ns,t,q,0,k,h,hi=>by
    simp at hi;subst hi
    obtain ⟨n0,x,hx,h'⟩:=Tm.at_cons h
    exact ⟨t,x,rfl,n0,hx,by rw [List.take_succ_cons,List.take_zero,Tm.at_go n0 hx];rfl⟩
  | n::ns,t,q,i+1,k,h,hi=>by
    obtain ⟨n0,x,hx,h'⟩:=Tm.at_cons h
    obtain ⟨u,v,h1,h2,h3,h4⟩:=Tm.at_take (i:=i) (k:=k) h' (by simpa using hi)
    exact ⟨u,v,by rw [List.take_succ_cons,Tm.at_go n0 hx];exact h1,h2,h3,by rw [List.take_succ_cons,Tm.at_go n0 hx];exact h4⟩
theorem k7q {z:List Int × Tm}:∀ {xs:List Tm} {k:Int},0<=k->z∈eMq Tm.all xs k->∃ (j:Nat) (x:Tm) (y:List Int × Tm),xs[j]?=some x/\y∈x.all/\z=((k+(j:Int))::y.1,y.2)
  | [],k,_,h=>by simp [eMq] at h
  | x::r,k,h0,h=>by
    rw [eMq] at h
    rcases List.mem_append.mp h with h | h
    . obtain ⟨y,hy,rfl⟩:=List.mem_map.mp h
      exact ⟨0,x,y,rfl,hy,by simp⟩
    . obtain ⟨j,x',y,h1,h2,h3⟩:=k7q (k:=k+1) (by omega) h
      refine ⟨j+1,x',y,by simpa using h1,h2,?_⟩
      rw [h3]
      congr 2
      omega
theorem Tm.all_at:∀ {n:Nat} {t:Tm} {z:List Int × Tm},t.sz<=n->z∈t.all->t.at z.1=some z.2/\z.1.length<=t.dp
  | 0,t,z,hn,_=>by have:=t.sz_pos;omega
  | n+1,t,z,hn,h=>by
    rw [t.all_eq] at h
    rcases List.mem_cons.mp h with rfl | h
    . exact ⟨rfl,Nat.zero_le _⟩
    . obtain ⟨j,x,y,h1,h2,rfl⟩:=k7q (Int.le_refl 0) h
      have hm:=List.mem_of_getElem? h1
      have hs:=Tm.sz_mem hm
      have hd:=Tm.dp_inn hm
      obtain ⟨h3,h4⟩:=Tm.all_at (n:=n) (by omega) h2
      refine ⟨?_,by simp only [List.length_cons];omega⟩
      rw [Tm.at_go (u:=x) (by omega) (by rw [show (0+(j:Int)).toNat=j by omega];exact h1)]
      exact h3
theorem x4q {v u:Tm} {j:Nat} {k:Int} {G:DV} {Q:DK} (h:v.inn[j]?=some u) (hk:k=1+(j:Int)) (q:Q u.enc G):ixD v.enc (.int k) G Q:=by
  rw [v.enc_eq]
  refine cQq ?_ q
  have e:v.args=v.inn.map Tm.enc:=by
    rcases v.leaf_or with ⟨e,_⟩ | e
    . rw [e] at h;simp at h
    . exact e
  rw [hk,show (1:Int)+(j:Int)=((j+1:Nat):Int) by omega]
  exact bWq (by rw [List.getElem?_cons_succ,e,List.getElem?_map,h];rfl)
def zXq:DSp:=λ ds G Q=>∃ (t:Tm) (ns:List Int) (u:Tm),ds=[t.enc,plD ns]/\t.at ns=some u/\Q u.enc G
def d3q (n:Nat):DSp:=λ ds G Q=>∃ t:Tm,ds=[t.enc]/\t.dp < n/\t.sz<=10000/\∀ l,G l=none->Q (.ref l) (up G l (.lst (t.all.map λ z=>plD z.1)))
mutual
def D.plain:D->Bool
  | .int _=>true
  | .str _=>true
  | .tup ds=>decide (ds.length<=100000)&&fDq ds
  | _=>false
def fDq:List D->Bool
  | []=>true
  | d::ds=>d.plain&&fDq ds
end
theorem gCq:∀ {ds:List D} {d:D},fDq ds=true->d∈ds->d.plain=true
  | d::ds,e,h,m=>by
    simp only [fDq,Bool.and_eq_true] at h
    rcases List.mem_cons.mp m with rfl | m
    . exact h.1
    . exact gCq h.2 m
theorem kBq:∀ {ds:List D} {d:D},d∈ds->d.dp<=iOq ds
  | d::ds,e,m=>by
    rcases List.mem_cons.mp m with rfl | m
    . simp only [iOq];omega
    . have:=kBq m
      simp only [iOq];omega
def fMq (n:Nat):DSp:=λ ds G Q=>∃ d:D,ds=[d,d]/\d.plain=true/\d.dp < n/\Q (.bl true) G
theorem kRq {α β:Type} (f:α × α->β):∀ xs:List α,(xs.zip xs).map f=xs.map λ x=>f (x,x)
  | []=>rfl
  | x::xs=>by rw [List.zip_cons_cons,List.map_cons,List.map_cons,kRq f xs]
theorem l1q:∀ ns:List Int,fDq (ns.map D.int)=true
  | []=>rfl
  | n::ns=>by simp [fDq,D.plain,l1q ns]
theorem kQq:∀ ns:List Int,iOq (ns.map D.int)=0
  | []=>rfl
  | n::ns=>by simp [iOq,D.dp,kQq ns]
theorem Tm.plain_enc (t:Tm):t.enc.plain=true:=by
  induction t<;>simp_all [Tm.enc,D.plain,fDq]
end L3
namespace L3
open PySem PyProof L2
section
variable {X:Cx}
abbrev dDef (i:Nat) (T:Addr) (env:Env) (name qual:Str) (st:Stmt) (fr:List Str) (pos:Pos):DTS:=λ DD ρ G=>G T=some (.tab pos qual)/\∀ f,G f=none->DD.nx (ρ.set i (some (.ref f))) (up G f (.made env name qual st fr))
theorem Go.def {K:PySem.W.Frag} {G:DV} {H H':Hp} {T f:Addr} {env:Env} {name qual:Str} {st:Stmt} {fr:List Str} {pos:Pos} (v:Vw K G H) (hT:G T=some (.tab pos qual)) (hf:H f=none) (M:MadeAt env H' f name qual st fr) (tb:Tab H' T pos qual) (kp:∀ b u,b≠T->H b=some u->H' b=some u) :
    Go K G H (up G f (.made env name qual st fr)) H':=by
  obtain ⟨ps,eT,_⟩:=v T _ hT
  obtain ⟨ps',eT',_⟩:=id tb
  have nT:∀ a u,H a=some u->u≠.tbl ps->a≠T:=λ a u e n z=>by rw [z,eT] at e;exact n (Option.some.inj e).symm
  have ht:Mono K H H':=by
    refine ⟨λ a xs q=>?_,λ a xs q=>?_,λ a o q=>kp _ _ (nT _ _ q λ z=>nomatch z) q⟩
    . rcases q with (q | ⟨o,q⟩) | q
      . exact .inl (.inl (kp _ _ (nT _ _ q λ z=>nomatch z) q))
      . exact .inl (.inr ⟨o,kp _ _ (nT _ _ q λ z=>nomatch z) q⟩)
      . exact .inr q
    . rcases q with ⟨o,q⟩ | q
      . exact .inl ⟨o,kp _ _ (nT _ _ q λ z=>nomatch z) q⟩
      . exact .inr q
  refine ⟨ht,λ a o e=>?_,λ a o e n=>?_,λ a o e n=>?_,λ a u e=>?_⟩
  . by_cases z:a=T
    . subst z;exact ⟨_,eT'⟩
    . exact ⟨o,kp a o z e⟩
  . exact kp a o (λ z=>by rw [z,hT] at n;cases n) e
  . rw [aZq (λ z=>by rw [z,hf] at e;cases e)];exact n
  . by_cases z:a=f
    . subst z;rw [a8q] at e;cases e;exact M
    . rw [aZq z] at e
      by_cases y:a=T
      . subst y;rw [hT] at e;cases e;exact tb
      . obtain ⟨z',q⟩:=(v a u e).some
        exact (v a u e).mono ht (by rw [q];exact kp _ _ y q)
variable {i:Nat} {T c:Addr} {name:Str} {params:Arguments} {body:List Stmt} {scope:Scope} {pos:Pos} {fr:List Str}
theorem rEq (hN:X.N.Nodup) (hi:X.N[i]?=some name) (hl:Loc X.env.scope name) (hcode:X.env.code=.ref c) (hC:PySem.W.CodeHd X.base c T) (hB:fJq X.mg X.base)
    (hcl:closureFor scope X.env=pure (dLq X.env fr)) (hd0:params.defaults=[]) (hk0:params.kw_defaults=[]) (ha:annTrees params none X.env=[])
    (hf:X.fn name=true\/X.env.scope.names.lookup name=some .local:=by first | exact .inl rfl | exact .inr rfl | assumption) :
    AS X (.FunctionDef name params body [] none [] scope none name pos) (dDef i T X.env name (qualnameIn X.env name name) (.FunctionDef name params body [] none [] scope none name pos) fr pos):=by
  refine ⟨_,⟨v4q (T:=T) hN hi hl hcode hC hB hcl hd0 hk0 ha hf⟩,λ DD Dc ρ G σ H B q F=>?_⟩
  obtain ⟨hT,q⟩:=q
  refine ⟨B.vw T _ hT,λ f H' hf' M tb kp=>?_⟩
  have g:=Go.def B.vw hT hf' M tb kp
  exact F.nx _ _ _ _ g ((B.go g).set (d:=.ref f) rfl i) (q f (B.vw.none hf'))
end
end L3
namespace L2
open PySem PySem.Spec PyProof.Rows
def xDq (i:Nat) (name qual:Str) (st:Stmt) (fr:List Str) (sp:List V->Sp) (t:TA):TE:=λ σ H Q=>∃ fvs,rBq i name qual st fr fvs (sp fvs) t σ H Q
theorem aC4q {X:Cx} {k j i:Nat} {name qual:Str} {st:Stmt} {fr:List Str} {ps:List Str} {x:Str} {sp:List V->Sp} {p pos:Pos} {e:Expr} {es:List Expr} {t:TA} (G:∀ fvs,CloOk X.prog X.w X.K X.mg X.base k name qual st fr fvs ps (sp fvs)) (hr:Room j X.A) (hk:k<=j) (hN:X.N[i]?=some x) (hv:Vis X.env.scope x) (ha:PA X (e::es) t)
    (hd:(x==("__debug__" : Str))=false) (hcd:(x==("__classdict__" : Str))=false) (he:starEach (e::es) X.env=(false,eval e X.env)::starEach es X.env) (hpl:(backTo pos (starEach es X.env)).any (·.1)=false) :
    PE X (.Call (.Name x p) (e::es) [] pos) (xDq i name qual st fr sp t):=λ pins s σ H Q I ⟨fvs,h⟩=>aA8q (G fvs) hr hk hN hv ha hd hcd he hpl pins s σ H Q I h
end L2
namespace L3
open PySem PyProof L2
def z3q (K:PySem.W.Frag) (vals:List D) (dsp:DSp) (fvs:List V):Sp:=λ vs H Q _=>∃ ds G DQ,AbsL K H ds vs/\AbsL K H vals fvs/\Vw K G H/\dsp ds G DQ/\Fin K G H DQ Q
structure CloD (P:Program) (w:World) (K:PySem.W.Frag) (mg:Str->Option Value) (base:Heap) (k:Nat) (name qual:Str) (st:Stmt) (fr:List Str) (vals:List D) (ps:List Str) (dsp:DSp):Prop where
  ok:∀ fvs,CloOk P w K mg base k name qual st fr fvs ps (z3q K vals dsp fvs)
section
variable {X:Cx} {k j:Nat} {name qual:Str} {st:Stmt} {fr:List Str} {vals:List D} {ps:List Str} {x:Str} {dsp:DSp} {p pos:Pos} {e:Expr} {es:List Expr} {t:DTA}
abbrev x8q (n:Nat) (name qual:Str) (st:Stmt) (fr:List Str) (vals:List D) (dsp:DSp) (t:DTA):DTE:=λ ρ G Q=>∃ f,ρ[n]?=some (some (.ref f))/\G f=some (.clo name qual st fr vals)/\t ρ G λ ds G1=>G1 f=some (.clo name qual st fr vals)/\dsp ds G1 Q
theorem Go.frz {K:PySem.W.Frag} {G G1:DV} {H H1:Hp} {f:Addr} {cl:List (Str × Addr)} {fvs:List V} (g:Go K G H G1 H1) (C:CloAt H f name qual st cl fvs):CloAt H1 f name qual st cl fvs:=by
  obtain ⟨oc,od,doc,pm,cdv,ct,sl,h3,c,o,vs,t,h4,h5,h6⟩:=C.fn
  exact ⟨⟨oc,od,doc,pm,cdv,ct,sl,g.tup.fz _ _ h3,c,o,vs,t,h4,g.tup.fz _ _ h5,h6⟩,λ i x c hi=>let ⟨v,u,o,z1,z2,z3,z4⟩:=C.cells i x c hi;⟨v,u,o,z1,z2,g.tup.fz _ _ z3,z4⟩,C.len,C.nda⟩
theorem aB6q (n:Nat) (Ck:CloD X.prog X.w X.K X.mg X.base k name qual st fr vals ps dsp) (hr:Room j X.A) (hk:k<=j) (ha:AA X (e::es) t) (hN:X.N[n]?=some x:=by rfl) (hv:Vis X.env.scope x:=by first | exact Or.inl rfl | exact Or.inr (Or.inl rfl) | exact Or.inr (Or.inr rfl))
    (hd:(x==("__debug__" : Str))=false:=by decide) (hcd:(x==("__classdict__" : Str))=false:=by decide) (hs:(e::es).all aSq=true:=by rfl):AE X (.Call (.Name x p) (e::es) [] pos) (x8q n name qual st fr vals dsp t):=by
  obtain ⟨ca,ja,ra⟩:=ha.run
  have h:=hs
  rw [List.all_cons,Bool.and_eq_true] at h
  refine ⟨_,⟨aC4q Ck.ok hr hk hN hv ja.run hd hcd (a9q h.1) (bOq h.2)⟩,λ ρ G DQ σ H Q B q F=>?_⟩
  obtain ⟨f,q0,q1,q⟩:=q
  obtain ⟨v,h1,h2⟩:=B.st n _ q0
  cases h2
  obtain ⟨cl,fvs,C,hcl,hvals⟩:=B.vw f _ q1
  exact ⟨fvs,f,cl,h1,C,hcl,ra ρ G _ σ H _ B q λ ds G1 vs H1 g1 al _ ⟨_,q3⟩=>⟨g1.frz C,ds,G1,DQ,al,hvals.mono g1.tup,g1.vw,q3,F.after g1⟩⟩
end
end L3
namespace L3
open PySem PyProof L2
section
variable {K:PySem.W.Frag} {H H':Hp}
mutual
theorem Abs.mono2 (tp:∀ a xs,SqT K H a xs->SqT K H' a xs) (fr:∀ a xs,FrL K H a xs->FrL K H' a xs):∀ {d:D} {v:V},Abs K H d v->Abs K H' d v
  | .non,_,r=>r
  | .bl _,_,r=>r
  | .int _,_,r=>r
  | .str _,_,r=>r
  | .ref _,_,r=>r
  | .ty _,_,r=>r
  | .tup _,_,⟨a,vs,e,q,l⟩=>⟨a,vs,e,tp a vs q,AbsL.mono2 tp fr l⟩
  | .frl _,_,⟨a,vs,e,q,l⟩=>⟨a,vs,e,fr a vs q,AbsL.mono2 tp fr l⟩
theorem AbsL.mono2 (tp:∀ a xs,SqT K H a xs->SqT K H' a xs) (fr:∀ a xs,FrL K H a xs->FrL K H' a xs):∀ {ds:List D} {vs:List V},AbsL K H ds vs->AbsL K H' ds vs
  | [],_,r=>r
  | _::_,_,⟨v,r,e,q,l⟩=>⟨v,r,e,Abs.mono2 tp fr q,AbsL.mono2 tp fr l⟩
end
def DO.vary:DO->Bool
  | .lst _=>true
  | .ins _ _=>true
  | .dK _=>true
  | .dT _=>true
  | .frT _=>true
  | _=>false
theorem BearO.mono2 {a:Addr} {o:DO} (tp:∀ a xs,SqT K H a xs->SqT K H' a xs) (fr:∀ a xs,FrL K H a xs->FrL K H' a xs) (ho:o.vary=true) (e:H' a=H a) (h:BearO K H a o):BearO K H' a o:=by
  cases o with
  | lst ds=>obtain ⟨vs,q,l⟩:=h;exact ⟨vs,by rw [e];exact q,l.mono2 tp fr⟩
  | ins C fs=>obtain ⟨dx,gs,q,l⟩:=h;exact ⟨dx,gs,by rw [e];exact q,l.1,l.2.mono2 tp fr⟩
  | dK kvs=>obtain ⟨gs,q,l⟩:=h;exact ⟨gs,by rw [e];exact q,l.1,l.2.mono2 tp fr⟩
  | dT kvs=>obtain ⟨gs,q,l⟩:=h;exact ⟨gs,by rw [e];exact q,l.1,l.2.mono2 tp fr⟩
  | frT kvs=>obtain ⟨o,gs,q,l⟩:=h;exact ⟨o,gs,by rw [e];exact q,l.1,l.2.mono2 tp fr⟩
  | _=>cases ho
theorem BearO.nfz {a:Addr} {o:DO} (ho:o.vary=true) (h:BearO K H a o) {u:Obj} (e:H a=Option.some (fzn u)):False:=by
  cases o with
  | lst ds=>obtain ⟨vs,q,l⟩:=h;rw [e] at q;cases q
  | ins C fs=>obtain ⟨dx,gs,q,l⟩:=h;rw [e] at q;cases q
  | dK kvs=>obtain ⟨gs,q,l⟩:=h;rw [e] at q;cases q
  | dT kvs=>obtain ⟨gs,q,l⟩:=h;rw [e] at q;cases q
  | frT kvs=>obtain ⟨o,gs,q,l⟩:=h;rw [e] at q;simp [fzn] at q
  | _=>cases ho
theorem Same.mono (h:Same H H'):Mono K H H':=⟨λ b xs q=>by
    rcases q with q | q
    . rcases q with q | ⟨o,q⟩
      . exact .inl (.inl (h _ _ q))
      . exact .inl (.inr ⟨o,h _ _ q⟩)
    . exact .inr q,λ b xs q=>by
    rcases q with ⟨o,q⟩ | q
    . exact .inl ⟨o,h _ _ q⟩
    . exact .inr q,λ b o q=>h _ _ q⟩
theorem d1q {as:List Addr} (fz:Frz H as):∀ a xs,SqT K H a xs->SqT K (less H as) a xs:=λ a xs q=>by
  have out:∀ {u},H a=some u->(∀ o,u≠fzn o)->less H as a=some u:=λ{u} e n=>by
    rw [aYq λ z=>?_];exact e
    obtain ⟨o,z⟩:=fz a z;rw [e] at z;exact n o (Option.some.inj z)
  rcases q with (q | ⟨o,q⟩) | q
  . exact .inl (.inl (out q λ o z=>nomatch z))
  . exact .inl (.inr ⟨o,out q λ o z=>nomatch z⟩)
  . exact .inr q
theorem d0q {as:List Addr} (fz:Frz H as):∀ a xs,FrL K H a xs->FrL K (less H as) a xs:=λ a xs q=>by
  rcases q with ⟨o,q⟩ | q
  . refine .inl ⟨o,?_⟩
    rw [aYq λ z=>?_];exact q
    obtain ⟨o,z⟩:=fz a z;rw [q] at z;cases z
  . exact .inr q
end
def r3q (sc:Scope) (N:List Str) (fn:Str->Bool) (fr:List Str) (ix:List Nat):Bool:=
  ix.length==fr.length&&(List.range fr.length).all λ i=>match fr[i]?,ix[i]? with
    | some y,some j=>N[j]?==some y&&sc.names.lookup y==some .cell&&fn y
    | _,_=>false
section
variable {X:Cx} {e:Expr} {es:List Expr} {t:DTA} {p pos:Pos}
abbrev uSq (env:Env) (name qual:Str) (st:Stmt) (fr:List Str) (ix:List Nat) (dsp:DSp) (t:DTA):DTE:=λ ρ G Q=>t ρ G λ ds G1=>∃ f vals,G1 f=some (.made env name qual st fr)/\vals.length=fr.length ∧
  (∀ (i j:Nat),ix[i]?=some j->∃ d,ρ[j]?=some (some d)/\vals[i]?=some d)/\dsp ds (up G1 f (.clo name qual st fr vals)) λ d G2=>G2=up G1 f (.clo name qual st fr vals)/\Q d G1
theorem k9q {k j:Nat} {x:Str} {ps:List Str} {dsp:DSp} {name qual:Str} {st:Stmt} {fr:List Str} {ix:List Nat} (Gt:Got X.prog X.w X.K X.mg X.base k x ps (aQq X.K dsp)) (hr:Room j X.A) (hk:k<=j) (hg:Gl X x) (ndf:fr.Nodup) (hB:r3q X.env.scope X.N X.fn fr ix=true) (ha:AA X (e::es) t)
    (hdb:(x==("__debug__" : Str))=false:=by decide) (hs:(e::es).all aSq=true:=by rfl):AE X (.Call (.Name x p) (e::es) [] pos) (uSq X.env name qual st fr ix dsp t):=by
  obtain ⟨ca,ja,ra⟩:=ha.run
  have h:=hs
  rw [List.all_cons,Bool.and_eq_true] at h
  unfold r3q at hB
  rw [Bool.and_eq_true,List.all_eq_true] at hB
  have hix:ix.length=fr.length:=by simpa using hB.1
  have hfr:∀ (i:Nat) (y:Str),fr[i]?=some y->∃ j,ix[i]?=some j/\X.N[j]?=some y/\X.env.scope.names.lookup y=some .cell/\X.fn y=true:=λ i y hy=>by
    have lt:i < fr.length:=(List.getElem?_eq_some_iff.mp hy).1
    have z:=hB.2 i (List.mem_range.mpr lt)
    have ej:ix[i]?=some (ix[i]'(by omega)):=List.getElem?_eq_getElem (by omega)
    rw [hy,ej] at z
    simp only [Bool.and_eq_true,beq_iff_eq] at z
    exact ⟨_,ej,z.1.1,z.1.2,z.2⟩
  refine ⟨_,⟨qWq (name:=name) (qual:=qual) (st:=st) (ix:=ix) Gt hr hk hg ja.run hdb ndf hix hfr (a9q h.1) (bOq h.2)⟩,λ ρ G DQ σ H Q B q F=>?_⟩
  refine ra ρ G _ σ H _ B q λ ds G1 vs H1 g1 al _ q1=>?_
  obtain ⟨f,vals,hf,hvl,hvals,q2⟩:=q1
  have M:MadeAt X.env H1 f name qual st fr:=g1.vw f _ hf
  let fvs:List V:=ix.map λ j=>match σ[j]? with
    | some (some v)=>v
    | _=>.non
  have hfv:∀ (i j:Nat),ix[i]?=some j->∃ d v,ρ[j]?=some (some d)/\vals[i]?=some d/\σ[j]?=some (some v)/\fvs[i]?=some v/\Abs X.K H1 d v:=λ i j hj=>by
    obtain ⟨d,h1,h2⟩:=hvals i j hj
    obtain ⟨v,h3,h4⟩:=B.st j d h1
    refine ⟨d,v,h1,h2,h3,?_,h4.mono g1.tup⟩
    show (ix.map _)[i]?=_
    rw [List.getElem?_map,hj]
    simp only [Option.map_some,h3]
  have habs:AbsL X.K H1 vals fvs:=by
    have key:∀ (n:Nat) (ws:List D) (us:List V),ws.length=n->us.length=n->(∀ (i:Nat) (d:D),ws[i]?=some d->∃ v:V,us[i]?=some v/\Abs X.K H1 d v)->AbsL X.K H1 ws us:=λ n=>by
      induction n with
      | zero=>intro ws us h1 h2 _;cases ws<;>cases us<;>simp_all [AbsL]
      | succ n ih=>
        intro ws us h1 h2 hh
        cases ws with
        | nil=>simp at h1
        | cons w ws=>
          cases us with
          | nil=>simp at h2
          | cons u us=>
            obtain ⟨v,e1,e2⟩:=hh 0 w rfl
            cases e1
            exact ⟨u,us,rfl,e2,ih ws us (by simpa using h1) (by simpa using h2) λ i d hd=>by simpa using hh (i+1) d (by simpa using hd)⟩
    refine key vals.length vals fvs rfl (by show (ix.map _).length=_;rw [List.length_map];omega) λ i d hd=>?_
    have lt:i < ix.length:=by have:=(List.getElem?_eq_some_iff.mp hd).1;omega
    obtain ⟨d',v,_,h2,_,h4,h5⟩:=hfv i ix[i] (List.getElem?_eq_getElem lt)
    rw [hd] at h2;cases h2
    exact ⟨v,h4,h5⟩
  refine ⟨f,fvs,M,λ i j hj=>let ⟨d,v,_,_,h3,h4,_⟩:=hfv i j hj;⟨v,h3,h4⟩,by show (ix.map _).length=_;rw [List.length_map];exact hix,λ H2 out no C=>?_⟩
  have s12:Same H1 H2:=λ b u eb=>by
    rw [out b λ z=>?_];exact eb
    rw [no b z] at eb;cases eb
  have m12:Mono X.K H1 H2:=Same.mono s12
  have v2:Vw X.K (up G1 f (.clo name qual st fr vals)) H2:=λ a o ea=>by
    by_cases z:a=f
    . subst z;rw [a8q] at ea;cases ea
      refine ⟨_,fvs,C,?_,habs.mono m12⟩
      rw [dLq,List.map_map]
      exact List.map_id fr
    . rw [aZq z] at ea
      obtain ⟨u,eu⟩:=(g1.vw a o ea).some
      exact (g1.vw a o ea).mono m12 (by rw [eu];exact s12 a u eu)
  refine ⟨ds,_,_,by rw [show vs=vs from rfl];exact al.mono m12,v2,q2,λ d G2 v H' g2 ad hq=>?_⟩
  obtain ⟨rfl,hq⟩:=hq
  have fz2:Frz H2 ((dLq X.env fr).map (·.2)):=C.frz
  have fz':Frz H' ((dLq X.env fr).map (·.2)):=λ a ha=>let ⟨o,z⟩:=fz2 a ha;⟨o,g2.tup.fz a o z⟩
  have nin:∀ {b u},H1 b=some u->b ∉ (dLq X.env fr).map (·.2):=λ{b u} eb z=>by rw [no b z] at eb;cases eb
  have m':Mono X.K H1 (less H' ((dLq X.env fr).map (·.2))):=⟨λ a xs q=>d1q fz' a xs (g2.tup.tp a xs (m12.tp a xs q)),λ a xs q=>d0q fz' a xs (g2.tup.fr a xs (m12.fr a xs q)),λ a o q=>by rw [aYq (nin q)];exact g2.tup.fz a o (m12.fz a o q)⟩
  refine F d G1 v _ (g1.trans ⟨m',λ a o ea=>?_,λ a o ea n=>?_,λ _ _ _ n=>n,λ a o ea=>?_⟩) (ad.mono2 (d1q fz') (d0q fz')) hq
  . rw [aYq (nin ea)]
    exact g2.dom a o (s12 a o ea)
  . rw [aYq (nin ea)]
    refine g2.same a o (s12 a o ea) ?_
    rw [aZq (by rintro rfl;rw [hf] at n;cases n)];exact n
  . have b1:=g1.vw a o ea
    obtain ⟨u,eu⟩:=b1.some
    by_cases ho:o.vary=true
    . have z:a≠f:=by rintro rfl;rw [hf] at ea;cases ea;cases ho
      exact (g2.vw a o (by rw [aZq z];exact ea)).mono2 (d1q fz') (d0q fz') ho (aYq (nin eu))
    . cases o with
      | made env' name' qual' st' fr'=>
        obtain ⟨_,_,_,_,_,_,_,z,_⟩:=(show MadeAt env' H1 a name' qual' st' fr' from b1).fn
        exact b1.mono m' (by rw [z];exact m'.fz _ _ z)
      | clo name' qual' st' fr' vals'=>
        obtain ⟨cl,us,C',_⟩:=id b1
        obtain ⟨_,_,_,_,_,_,_,z,_⟩:=C'.fn
        exact b1.mono m' (by rw [z];exact m'.fz _ _ z)
      | tab pos' qual'=>
        have z:a≠f:=by rintro rfl;rw [hf] at ea;cases ea
        obtain ⟨ps',t1,t2,t3⟩:=g2.vw a (.tab pos' qual') (by rw [aZq z];exact ea)
        refine ⟨ps',by rw [aYq (nin eu)];exact t1,t2,?_⟩
        rcases t3 with t3 | ⟨c,o,us,tt,t3,t4,t5,t6⟩
        . exact .inl t3
        . refine .inr ⟨c,o,us,tt,t3,?_,t5,t6⟩
          rw [aYq λ zc=>?_];exact t4
          obtain ⟨⟨y,c'⟩,hm,hc⟩:=List.mem_map.mp zc
          cases hc
          obtain ⟨i,hi,ei⟩:=List.getElem_of_mem hm
          obtain ⟨_,_,oc,_,_,z3,z4⟩:=C.cells i y c' (by rw [List.getElem?_eq_getElem hi,ei])
          have z5:=g2.tup.fz _ _ z3
          rw [t4] at z5
          cases z5
          rw [t5] at z4;cases z4
      | _=>exact absurd rfl ho
end
def vry (G:DV):DV:=λ a=>match G a with
  | some o=>if o.vary then some o else none
  | none=>none
theorem vry_get {G:DV} {a:Addr} {o:DO}:vry G a=some o ↔ G a=some o/\o.vary=true:=by
  unfold vry
  cases e:G a with
  | none=>simp
  | some u=>
    by_cases h:u.vary=true
    . simp only [h,if_true,Option.some.injEq]
      exact ⟨λ z=>(by subst z;exact ⟨rfl,h⟩),λ z=>z.1⟩
    . simp only [if_neg h]
      exact ⟨λ z=>(by cases z),λ z=>(by rw [Option.some.inj z.1] at h;exact absurd z.2 h)⟩
def fNq (N:List Str) (ds vals:List D):DSt:=ds.map some++List.replicate (N.length - ds.length - vals.length) none++vals.map some
theorem iLq {K:PySem.W.Frag} {N:List Str} {ds vals:List D} {vs fvs:List V} {G:DV} {H:Hp} (r:AbsL K H ds vs) (r2:AbsL K H vals fvs) (v:Vw K G H):Bears K (fNq N ds vals) G (cGq N vs fvs) H:=by
  have hl:=r.len
  have hl2:=r2.len
  have one:∀ {ws:List D} {us:List V} {i:Nat} {d:D},AbsL K H ws us->(ws.map some)[i]?=some (some d)->∃ v,(us.map some)[i]?=some (some v)/\Abs K H d v:=λ{ws us i d} r h=>by
    rw [List.getElem?_map] at h
    cases e:ws[i]? with
    | none=>rw [e] at h;cases h
    | some z=>
      rw [e] at h
      simp at h
      subst h
      obtain ⟨u,h1,h2⟩:=r.get e
      exact ⟨u,by rw [List.getElem?_map,h1];rfl,h2⟩
  refine ⟨by simp [fNq,cGq,hl,hl2],λ i d h=>?_,v⟩
  unfold fNq at h
  unfold cGq
  rw [hl,hl2]
  by_cases c:i < (ds.map some++List.replicate (N.length - ds.length - vals.length) (none:Option D)).length
  . rw [List.getElem?_append_left c] at h
    rw [List.getElem?_append_left (by simpa [hl] using c)]
    by_cases c2:i < (ds.map (some:D->Option D)).length
    . rw [List.getElem?_append_left c2] at h
      rw [List.getElem?_append_left (by simpa [hl] using c2)]
      exact one r h
    . rw [List.getElem?_append_right (by omega),List.getElem?_replicate] at h
      split at h<;>cases h
  . rw [List.getElem?_append_right (by omega)] at h
    rw [List.getElem?_append_right (by simpa [hl] using c)]
    have e1:(ds.map some++List.replicate (N.length - ds.length - vals.length) (none:Option D)).length=(vs.map some++List.replicate (N.length - ds.length - vals.length) (none:Option V)).length:=by simp [hl]
    rw [<- e1]
    exact one r2 h
theorem wZq {P:Program} {w:World} {K:PySem.W.Frag} {mg:Str->Option Value} {base:Heap} {k:Nat} {name qual:Str} {st:Stmt} {fr N ps:List Str} {vals:List D} {dsp:DSp} (S:CloScope N ps fr (a5q st)) (len:∀ ds G DQ,dsp ds G DQ->ds.length=ps.length)
    (hbind:∀ (cl:List (Str × Addr)) (doc pm cdv ct:Value) (us:List Value),us.length=ps.length->bindArgs (PySem.W.fnX name qual (bGq st) (b2q st) (a5q st) cl .none .none doc pm none cdv ct) ⟨us,[]⟩=pure (ps.zip us))
    (hbody:∀ (f:Addr) (cdv:Value) (cl:List (Str × Addr)) (A:Around) (outer:List Env) (s:Shared) (H:Hp),Room k (A.deeper (PySem.W.envX qual (a5q st) s.heap.objs.size f cdv cl))->∀ (ds:List D) (G:DV) (DQ:DK),dsp ds G DQ →
      ∃ t,AB (jGq P w K mg base N qual (a5q st) f cdv cl A outer s H) (b2q st) t/\t { nx:=λ _ G'=>Sub (vry G) G'/\DQ .non G,rt:=λ d G'=>Sub (vry G) G'/\DQ d G } (fNq N ds vals) (vry G)):CloD P w K mg base (k+1) name qual st fr vals ps dsp:=by
  refine ⟨λ fvs=>uRq S (λ vs H Q E h=>?_) hbind λ f cdv cl A outer s H vs Q E hr hcl fz hsp=>?_⟩
  . obtain ⟨ds,G,DQ,r,_,_,h,_⟩:=h
    rw [r.len];exact len ds G DQ h
  . obtain ⟨ds,G,DQ,r,r2,v,h,Fn⟩:=hsp
    obtain ⟨t,⟨tc,j,imp⟩,q⟩:=hbody f cdv cl A outer s (less H (cl.map (·.2))) hr ds G DQ h
    have v0:Vw K (vry G) (less H (cl.map (·.2))):=λ a o e=>by
      obtain ⟨e1,ho⟩:=vry_get.mp e
      refine (v a o e1).mono2 (d1q fz) (d0q fz) ho (aYq λ z=>?_)
      obtain ⟨u,z⟩:=fz a z
      exact (v a o e1).nfz ho z
    have fin:∀ {d G' v H'},Go K (vry G) (less H (cl.map (·.2))) G' H'->Abs K H' d v->Sub (vry G) G'/\DQ d G->(∀ a∈cl.map (·.2),H' a=none)->Q v (more H' (cl.map (·.2)) H):=λ{d G' u H'} g ad q no=>by
      have sm:Same H' (more H' (cl.map (·.2)) H):=λ b u eb=>by
        rw [bIq λ z=>?_];exact eb
        rw [no b z] at eb;cases eb
      have mm:Mono K H' (more H' (cl.map (·.2)) H):=Same.mono sm
      have m:Mono K H (more H' (cl.map (·.2)) H):=⟨λ a xs q=>mm.tp a xs (g.tup.tp a xs (d1q fz a xs q)),λ a xs q=>mm.fr a xs (g.tup.fr a xs (d0q fz a xs q)),λ a o q=>by
        by_cases z:a∈cl.map (·.2)
        . rw [eXq z];exact q
        . exact mm.fz a o (g.tup.fz a o (by rw [aYq z];exact q))⟩
      have same:∀ a o,H a=some o->vry G a=none->more H' (cl.map (·.2)) H a=some o:=λ a o e n=>by
        by_cases z:a∈cl.map (·.2)
        . rw [eXq z];exact e
        . rw [bIq z];exact g.same a o (by rw [aYq z];exact e) n
      refine Fn d G u _ ⟨m,λ a o e=>?_,λ a o e n=>same a o e ?_,λ _ _ _ n=>n,λ a o e=>?_⟩ (ad.mono mm) q.2
      . by_cases z:a∈cl.map (·.2)
        . rw [eXq z];exact ⟨o,e⟩
        . rw [bIq z];exact g.dom a o (by rw [aYq z];exact e)
      . unfold vry;rw [n]
      . by_cases ho:o.vary=true
        . have b:=g.vw a o (q.1 a o (vry_get.mpr ⟨e,ho⟩))
          obtain ⟨x,ex⟩:=b.some
          exact b.mono mm (by rw [ex];exact sm a x ex)
        . obtain ⟨x,ex⟩:=(v a o e).some
          refine (v a o e).mono m ?_
          rw [ex]
          refine same a x ex ?_
          cases z:vry G a with
          | none=>rfl
          | some y=>
            obtain ⟨z1,z2⟩:=vry_get.mp z
            rw [e] at z1;cases z1;exact absurd z2 ho
    refine ⟨tc,j.run,imp _ _ (fNq N ds vals) (vry G) (cGq N vs fvs) _ (iLq (r.mono2 (d1q fz) (d0q fz)) (r2.mono2 (d1q fz) (d0q fz)) v0) q ⟨λ ρ' G' σ' H' g b z no=>fin (d:=.non) (v:=.non) g rfl z no,λ d G' v H' g a z no=>fin g a z no,λ _ _ _ _ _ _ z=>z.elim,λ _ _ _ _ _ _ z=>z.elim⟩⟩
structure FunC (K:PySem.W.Frag) (x qual:Str) (st:Stmt) (f:Addr) (fd:FuncData) (c:Addr):Prop where
  ex:∃ (oc:Value) (od:Option Addr) (kV doc pm:Value) (an:Option Addr) (ct:Value) (osl:Array (Option Value)),
    fd=PySem.W.fnOf x qual (bGq st) (b2q st) (a5q st) .none kV doc pm an (.ref c) ct/\K.lookup f=some ⟨oc,od,.func fd,osl⟩/\PySem.W.codeIn K (.ref c) qual=true
theorem okDc {P:Program} {w:World} {K:PySem.W.Frag} {mg:Str->Option Value} {base:Heap} {x qual:Str} {st:Stmt} {f c:Addr} {fd:FuncData} {N ps:List Str} {k:Nat} {dsp:DSp} (F:FunC K x qual st f fd c) (S:FnScope N ps (a5q st)) (len:∀ ds G DQ,dsp ds G DQ->ds.length=ps.length)
    (hbody:∀ (A:Around) (outer:List Env) (s:Shared) (H:Hp) (E:XK),Room k (A.deeper (PyProof.Rows.envOfC qual (a5q st) s.heap.objs.size f (.ref c)))->∀ (ds:List D) (G:DV) (DQ:DK),dsp ds G DQ →
      ∃ t,AB (kYq CX0 P w K mg base N qual (a5q st) f (.ref c) A outer s H E).nox (b2q st) t/\t { nx:=λ _ G'=>Dr DQ .non G',rt:=Dr DQ } (eDq N ds) G):FnOk P w K mg base CX0 (k+1) f fd ps (aQq K dsp):=by
  obtain ⟨oc,od,kV,doc,pm,an,ct,osl,rfl,lk,hcd⟩:=F.ex
  refine rWq lk hcd S (λ vs H Q E h=>?_) λ A outer s H vs Q E hr h=>?_
  . obtain ⟨ds,G,DQ,r,_,h,_⟩:=h
    rw [r.len];exact len ds G DQ h
  . obtain ⟨ds,G,DQ,r,v,h,Fn⟩:=h
    obtain ⟨t,⟨tc,j,imp⟩,q⟩:=hbody A outer s H E hr ds G DQ h
    refine ⟨tc,(j.run).nox,imp _ _ (eDq N ds) G (L2.cVq N vs) H (cZq r v) q ⟨λ ρ' G' σ' H' g b ⟨G2,s2,q2⟩=>Fn .non G2 .non H' (g.sub s2) rfl q2,λ d G' v H' g a ⟨G2,s2,q2⟩=>Fn d G2 v H' (g.sub s2) a q2,λ _ _ _ _ _ _ z=>z.elim,λ _ _ _ _ _ _ z=>z.elim⟩⟩
def FnAt (K:PySem.W.Frag) (x q:Str) (st:Stmt) (f:Addr) (cd:Value):Prop:=∃ (oc:Value) (od:Option Addr) (kV doc pm:Value) (an:Option Addr) (ct:Value) (osl:Array (Option Value)),
  K.lookup f=some ⟨oc,od,.func (PySem.W.fnOf x q (bGq st) (b2q st) (a5q st) .none kV doc pm an cd ct),osl⟩/\PySem.W.codeIn K cd q=true/\PySem.W.keepIn K (.ref f)=true
def DT (K:PySem.W.Frag) (x:Str) (st:Stmt):Prop:=∃ (f:Addr) (cd:Value),PySem.W.nsIn K mainGlobals x=some (some (.ref f))/\FnAt K x x st f cd
def DTc (K:PySem.W.Frag) (x:Str) (st:Stmt) (c:Addr):Prop:=∃ f:Addr,PySem.W.nsIn K mainGlobals x=some (some (.ref f))/\FnAt K x x st f (.ref c)
section
variable {K:PySem.W.Frag} {x m q:Str} {st:Stmt} {C c:Addr}
theorem DT.mk {f:Addr} {cd oc kV doc pm ct:Value} {od an:Option Addr} {osl:Array (Option Value)} (a:PySem.W.nsIn K mainGlobals x=some (some (.ref f))) (l:K.lookup f=some ⟨oc,od,.func (PySem.W.fnOf x x (bGq st) (b2q st) (a5q st) .none kV doc pm an cd ct),osl⟩) (k:PySem.W.codeIn K cd x=true) (p:PySem.W.keepIn K (.ref f)=true):DT K x st:=⟨f,cd,a,_,_,_,_,_,_,_,_,l,k,p⟩
theorem DTc.mk {f:Addr} {oc kV doc pm ct:Value} {od an:Option Addr} {osl:Array (Option Value)} (a:PySem.W.nsIn K mainGlobals x=some (some (.ref f))) (l:K.lookup f=some ⟨oc,od,.func (PySem.W.fnOf x x (bGq st) (b2q st) (a5q st) .none kV doc pm an (.ref c) ct),osl⟩) (k:PySem.W.codeIn K (.ref c) x=true) (p:PySem.W.keepIn K (.ref f)=true):DTc K x st c:=⟨f,a,_,_,_,_,_,_,_,_,l,k,p⟩
theorem DT.ok (h:DT K x st):∃ (f:Addr) (fd:FuncData),PySem.W.nsIn K mainGlobals x=some (some (.ref f))/\Fun K x x st f fd:=
  let ⟨f,_,a,_,_,_,_,_,_,_,_,l,k,p⟩:=h;⟨f,_,a,x0q l k p⟩
theorem DTc.ok (h:DTc K x st c):∃ (f:Addr) (fd:FuncData),PySem.W.nsIn K mainGlobals x=some (some (.ref f))/\FunC K x x st f fd c/\PySem.W.keepIn K (.ref f)=true:=
  let ⟨f,a,_,_,_,_,_,_,_,_,l,k,p⟩:=h;⟨f,_,a,⟨⟨_,_,_,_,_,_,_,_,rfl,l,k⟩⟩,p⟩
theorem FunC.fun {f:Addr} {fd:FuncData} (F:FunC K x q st f fd c) (k:PySem.W.keepIn K (.ref f)=true):Fun K x q st f fd:=by
  obtain ⟨oc,od,kV,doc,pm,an,ct,osl,h⟩:=F.ex
  exact ⟨⟨oc,od,kV,doc,pm,an,_,ct,osl,h⟩,k⟩
end
end L3
namespace L3
open PySem PyProof L2
section
variable {K:PySem.W.Frag} {H:Hp}
end
section
variable {K:PySem.W.Frag} {G:DV} {H:Hp}
end
section
variable {X:Cx} {o e value:Expr} {es:List Expr} {f m:Str} {C:Addr} {pos pos' tpos apos p:Pos} {ta tv:DTE} {t:DTA}
end
end L3
namespace L2
open PySem PySem.Spec PyProof.Rows
section
variable {X:Cx} {e:Expr} {ta:TA} {p p2 pos pos2:Pos}
end
end L2
namespace L3
open PySem PyProof L2
section
variable {X:Cx} {e:Expr} {t:DTA} {p p2 pos pos2:Pos}
end
end L3
namespace L2
open PySem PySem.Spec PyProof.Rows
theorem pVq {l:PySem.W.OpenLaw} {n k:Nat} {q:Program} {loose:List Str} {XP:(Str->Option Value)->Heap->Prop} {YP:World->Heap->Prop} {d:DefRec} {K:Params->PySem.W.Frag} {sp:PySem.W.Frag->Sp} {x:Str} {tabs:List (Addr × Addr)}
    (hn:l.most=some n) (hn2:n<=sizeLine) (hdf:d.params.defaults=[]) (hr:Room k callerA) (hY:∀ (w:World) (h:Heap),YP w h->(K w.params).In h) (hK:∀ w:World,PySem.W.noTabs (K w.params)=true)
    (hTab:∀ (w:World) (h:Heap),YP w h->PySem.W.TabsAt tabs h)
    (F:∀ (w:World) (mg:Str->Option Value) (fa:Addr) (h:Heap),(K w.params).In h->h.Ns mainGlobals mg->mg d.name=some (.ref fa) →
      ∃ fd:FuncData,(∀ (s:Shared) (u:Value),BindsTo s fd ⟨[u],[]⟩ [(x,u)]) ∧
        ∀ base:Heap,(K w.params).In base->base.Ns mainGlobals mg->(∀ q∈tabs,PySem.W.CodeHd base q.1 q.2)->fJq mg base->FnOk l.prog w (K w.params) mg base CX0 k fa fd [x] (sp (K w.params)))
    (hsp:∀ (K:PySem.W.Frag) (H:Hp) (a:Addr) (ns:List Int),ns.length<=n->EntryT tabs K a H->SqL K H a (ns.map V.int)->sp K [.ref a] H (λ v _=>v=.bl true) λ _ _ _=>False) :
    PySem.W.WalkO q loose XP YP l.row.toRowW d [] (λ f vs=>PySem.call f vs):=by
  refine Att.attach_call hn hdf λ w s₀ s₁ mg mb fa o pm cd doc a vs ns G Y ho hd hcd hmg hobj hints hlen hg=>?_
  have KX:=hY w _ Y
  obtain ⟨fd,hb,hF⟩:=F w mg fa _ KX G.T.g hmg
  exact n0q KX G.T.g G.T.b G.T.builtins G.T.nolimit hg hobj hints (Nat.le_trans hlen hn2) hr (hTab w _ Y) (hK w) (qFq G.T) hF hb λ H hE hS=>hsp _ H a ns hlen hE hS
end L2
namespace L3
open PySem PyProof L2
def eZq (tl:List (Addr × Pos × Str)):DSp:=λ ds G Q=>∃ ns:List Int,ds=[.frl (ns.map D.int)]/\ns.length<=63/\(∀ q∈tl,G q.1=some (.tab q.2.1 q.2.2))/\∀ G',Q (.bl true) G'
def ndA:List Addr->Bool
  | []=>true
  | a::r=>!r.contains a&&ndA r
theorem j9q:∀ {tl:List (Addr × Pos × Str)} {q:Addr × Pos × Str},ndA (tl.map (·.1))=true->q∈tl->tl.lookup q.1=some q.2
  | (p1,p2)::r,(q1,q2),nd,h=>by
    simp only [List.map_cons,ndA,Bool.and_eq_true,Bool.not_eq_true',List.contains_eq_mem,decide_eq_false_iff_not] at nd
    show ((p1,p2)::r).lookup q1=some q2
    rcases List.mem_cons.mp h with e | h
    . cases e;rw [List.lookup_cons,beq_self_eq_true]
    . have ne:q1≠p1:=λ z=>nd.1 (by rw [<- z];exact List.mem_map_of_mem (f:=(·.1)) h)
      rw [List.lookup_cons,beq_false_of_ne ne]
      exact j9q nd.2 h
theorem gSq:∀ {tl:List (Addr × Pos × Str)} {a:Addr} {z:Pos × Str},tl.lookup a=some z->(a,z)∈tl
  | (p1,p2)::r,a,z,h=>by
    rw [List.lookup_cons] at h
    cases e:(a==p1) with
    | true=>
      rw [e] at h;cases h
      obtain rfl:a=p1:=by simpa using e
      exact List.mem_cons_self ..
    | false=>rw [e] at h;exact List.mem_cons_of_mem _ (gSq h)
theorem pQq {K:PySem.W.Frag} {H:Hp} {a:Addr} {ns:List Int} {tabs:List (Addr × Addr)} {tl:List (Addr × Pos × Str)} (hm:tl.map (·.1)=tabs.map (·.2)) (nd:ndA (tl.map (·.1))=true) (hl:ns.length<=63) (o:EntryT tabs K a H) (h:SqL K H a (ns.map V.int)) :
    aQq K (eZq tl) [.ref a] H (λ v _=>v=.bl true) λ _ _ _=>False:=by
  have f:FrL K H a (ns.map V.int):=by
    rcases h with (h | h) | h
    . rcases o.only a with z | ⟨_,_,z⟩ | ⟨_,z⟩<;>(rw [h] at z;cases z)
    . exact .inl h
    . exact .inr h
  refine ⟨[.frl (ns.map D.int)],λ b=>(tl.lookup b).map λ z=>.tab z.1 z.2,λ d _=>d=.bl true,⟨.ref a,[],rfl,⟨a,_,rfl,f,AbsL.of_ints ns⟩,rfl⟩,λ b u e=>?_,⟨ns,rfl,hl,λ q hq=>by simp only [j9q nd hq,Option.map_some],λ _=>rfl⟩,λ d G' v H' g ad e=>?_⟩
  . cases z:tl.lookup b with
    | none=>simp only [z,Option.map_none] at e;cases e
    | some y=>
      simp only [z,Option.map_some] at e
      cases e
      have hb:b∈tabs.map (·.2):=by rw [<- hm];exact List.mem_map_of_mem (gSq z)
      obtain ⟨q,hq,rfl⟩:=List.mem_map.mp hb
      exact ⟨#[],o.tab q hq,trivial,.inl rfl⟩
  . subst e
    exact ad
end L3
namespace KSs
open PySem PyProof.Rows
abbrev Up (xs:Array Nat):Prop:=xs.toList.Pairwise (· < ·)
theorem Up.lt {xs:Array Nat} (h:Up xs) {i j:Nat} (hij:i < j) (hj:j < xs.size):xs.getD i 0 < xs.getD j 0:=by
  have hi:i < xs.size:=by omega
  have z:=List.pairwise_iff_getElem.mp h i j (by simpa using hi) (by simpa using hj) hij
  simpa [Array.getD,hi,hj] using z
theorem tDq {xs:Array Nat} (h:Up xs) (j:Nat):∀ (fuel lo hi:Nat),hi - lo<=fuel->lo<=hi->hi<=xs.size->(∀ i,i < lo->xs.getD i 0 < j)->(∀ i,hi<=i->i < xs.size->j<=xs.getD i 0) →
    ∃ p,SetTable.below.go xs j fuel lo hi=p/\p<=xs.size/\(∀ i,i < p->xs.getD i 0 < j)/\∀ i,p<=i->i < xs.size->j<=xs.getD i 0:=by
  intro fuel
  induction fuel with
  | zero=>
    intro lo hi h1 h2 h3 h4 h5
    obtain rfl:lo=hi:=by omega
    exact ⟨lo,rfl,h3,h4,h5⟩
  | succ fuel ih=>
    intro lo hi h1 h2 h3 h4 h5
    unfold SetTable.below.go
    by_cases c:lo < hi
    . rw [if_pos c]
      dsimp only
      have hm:(lo+hi) / 2 < xs.size:=by omega
      have e0:xs.getD ((lo+hi) / 2) j=xs.getD ((lo+hi) / 2) 0:=by simp [Array.getD,hm]
      by_cases d:xs.getD ((lo+hi) / 2) j < j
      . rw [if_pos d]
        refine ih _ _ (by omega) (by omega) h3 (λ i hi'=>?_) h5
        rw [e0] at d
        rcases Nat.lt_or_eq_of_le (Nat.lt_succ_iff.mp hi') with z | z
        . exact Nat.lt_trans (h.lt z hm) d
        . rw [z];exact d
      . rw [if_neg d]
        refine ih _ _ (by omega) (by omega) (by omega) h4 (λ i hi' hs=>?_)
        rw [e0] at d
        rcases Nat.lt_or_eq_of_le hi' with z | z
        . exact Nat.le_of_lt (Nat.lt_of_le_of_lt (Nat.not_lt.mp d) (h.lt z hs))
        . rw [<- z];exact Nat.not_lt.mp d
    . rw [if_neg c]
      obtain rfl:lo=hi:=by omega
      exact ⟨lo,rfl,h3,h4,h5⟩
theorem gNq {xs:Array Nat} (h:Up xs) (j:Nat):SetTable.below xs j<=xs.size/\(∀ i,i < SetTable.below xs j->xs.getD i 0 < j)/\∀ i,SetTable.below xs j<=i->i < xs.size->j<=xs.getD i 0:=by
  obtain ⟨p,e,q⟩:=tDq h j xs.size 0 xs.size (by omega) (Nat.zero_le _) (Nat.le_refl _) (by omega) (by omega)
  unfold SetTable.below;rw [e];exact q
theorem mEq {xs:Array Nat} (h:Up xs) {j:Nat} (hj:xs[SetTable.below xs j]?≠some j):Up (SetTable.insertAt xs (SetTable.below xs j) j):=by
  obtain ⟨h1,h2,h3⟩:=gNq h j
  generalize SetTable.below xs j=p at *
  unfold Up
  rw [SetTable.toList_insertAt]
  have gt:∀ y∈xs.toList.drop p,j < y:=λ y hy=>by
    obtain ⟨i,hi,e⟩:=List.getElem_of_mem hy
    rw [List.getElem_drop] at e
    rw [List.length_drop] at hi
    have hs:p+i < xs.size:=by simpa using (by omega:p+i < xs.toList.length)
    have z:=h3 (p+i) (by omega) hs
    have e2:xs.getD (p+i) 0=y:=by rw [<- e];simp [Array.getD,hs]
    rw [e2] at z
    rcases Nat.lt_or_eq_of_le z with z | z
    . exact z
    . exfalso
      subst z
      rcases Nat.eq_zero_or_pos i with z0 | z0
      . subst z0
        apply hj
        have hp:p < xs.size:=by omega
        have e3:xs[p]=j:=by rw [<- e];simp
        rw [Array.getElem?_eq_getElem hp,e3]
      . have l:=h.lt (show p < p+i by omega) hs
        have:=h3 p (Nat.le_refl _) (by omega)
        omega
  refine List.pairwise_append.mpr ⟨h.sublist (List.take_sublist _ _),List.pairwise_cons.mpr ⟨gt,h.sublist (List.drop_sublist _ _)⟩,λ x hx y hy=>?_⟩
  have lt:x < j:=by
    obtain ⟨i,hi,e⟩:=List.getElem_of_mem hx
    rw [List.getElem_take] at e
    rw [List.length_take] at hi
    have hs:i < xs.size:=by simpa using (by omega:i < xs.toList.length)
    have z:=h2 i (by omega)
    rw [<- e];simpa [Array.getD,hs] using z
  rcases List.mem_cons.mp hy with rfl | hy
  . exact lt
  . exact Nat.lt_trans lt (gt y hy)
theorem qXq (n:Nat):Up (Array.range n):=by
  unfold Up;rw [Array.toList_range];exact List.pairwise_lt_range
theorem qRq {t:SetTable} (h:t.dummies=#[]) (j:Nat):t.slot j≠.dummy:=by
  unfold SetTable.slot SetTable.has
  rw [h]
  dsimp only
  split
  . exact nofun
  . rw [if_neg (by simp)];exact nofun
theorem fZq {t:SetTable} (h:t.dummies=#[]) {hs:Nat->Int} {k:Int}:∀ (fuel:Nat) (p:SetTable.Probe) (j:Nat) (d:Option Nat),SetTable.probe.go t hs k fuel p=some (.empty j d)->t.slot j=.empty/\d=p.dummy
  | 0,_,_,_,e=>by cases e
  | fuel+1,p,j,d,e=>by
    unfold SetTable.probe.go at e
    have adv:∀ q:SetTable.Probe,(t.advance q).dummy=q.dummy:=λ q=>by unfold SetTable.advance;split<;>rfl
    split at e
    . next z=>cases e;exact ⟨z,rfl⟩
    . next z=>exact absurd z (qRq h _)
    . split at e
      . cases e
      . obtain ⟨h1,h2⟩:=fZq h fuel _ j d e
        exact ⟨h1,by rw [h2,adv]⟩
theorem oSq {t:SetTable} (h:t.dummies=#[]) {k:Int} {j:Nat} {b:Bool} (e:t.freeSlot k=some (j,b)):t.slot j=.empty/\b=false:=by
  unfold SetTable.freeSlot at e
  split at e
  . next j' d z=>
    obtain ⟨h1,h2⟩:=fZq h _ _ _ _ (show SetTable.probe.go t (λ _=>k+1) k (10 * SetTable.turns t.mask) (t.probeStart k)=_ from z)
    have:d=none:=h2
    subst this
    cases e
    exact ⟨h1,rfl⟩
  . cases e
theorem lJq {t:SetTable} {j:Nat} (h:t.slot j=.empty):t.place[SetTable.below t.place j]?≠some j:=λ z=>by
  unfold SetTable.slot at h
  dsimp only at h
  rw [if_pos (by rw [z];simp)] at h
  cases h
structure Cl (b:Bool) (t:SetTable):Prop where
  up:Up t.place
  led:b=false->t.led=true
  nod:t.dummies=#[]
theorem Cl.standIn {b:Bool} {t:SetTable} (h:Cl b t) (n:Nat):Cl b (t.standIn n):=⟨qXq n,h.led,rfl⟩
theorem Cl.orStandIn {b:Bool} {t:SetTable} (h:Cl b t) (n:Nat):Cl b (t.orStandIn n):=by
  unfold SetTable.orStandIn;split
  . exact h
  . exact h.standIn n
theorem Cl.lay {b:Bool} {t:SetTable} (h:Cl b t) (es:Array (Int × Value)) (k:Int) (x:Value):Cl b (layNew t es k x).2.1/\(layNew t es k x).2.2.1=false:=by
  unfold layNew
  split
  . next slot d e=>
    obtain ⟨h1,rfl⟩:=oSq h.nod e
    have c:Cl b (t.put slot).1:=⟨mEq h.up (lJq h1),h.led,by
      show (if SetTable.has t.dummies slot=true then _ else t.dummies)=#[]
      rw [h.nod,if_neg (by simp [SetTable.has])]⟩
    exact ⟨c.orStandIn _,rfl⟩
  . exact ⟨h.standIn _,rfl⟩
theorem eJq {α:Type} (g:Nat->Option α):∀ l:List Nat,((l.filterMap λ j=>(g j).map (j,·)).map (·.1)).Sublist l
  | []=>by simp
  | a::l=>by
    cases e:g a with
    | none=>simp only [List.filterMap_cons,e,Option.map_none];exact (eJq g l).cons _
    | some y=>simp only [List.filterMap_cons,e,Option.map_some,List.map_cons];exact (eJq g l).cons₂ _
theorem t3q {b:Bool} {mask finger moves:Nat} {led plain:Bool} {hs:Array Int} {t':SetTable} {order:Array Nat} (hl:b=false->led=true) (e:SetTable.laid mask finger moves led plain hs=some (t',order)):Cl b t':=by
  unfold SetTable.laid at e
  cases z:SetTable.layClean mask hs with
  | none=>rw [z] at e;cases e
  | some owner=>
    rw [z] at e
    simp only [Option.pure_def,Option.bind_eq_bind,Option.bind_some,Option.some.injEq,Prod.mk.injEq] at e
    obtain ⟨rfl,_⟩:=e
    refine ⟨?_,hl,rfl⟩
    show ((List.map _ _).toArray.toList).Pairwise _
    rw [List.toList_toArray]
    exact (List.pairwise_lt_range (n:=mask+1)).sublist (eJq (λ j=>owner.getD j none) _)
theorem Cl.relay {b:Bool} {t:SetTable} (h:Cl b t) (es:Array (Int × Value)) (n:Nat):Cl b (relayAll t es n).2.1:=by
  unfold relayAll
  split
  . next t' order e=>
    dsimp only
    split
    . exact t3q h.led e
    . exact h.standIn _
  . exact h.standIn _
end KSs
namespace KSs
open PySem PyProof.Rows
abbrev byT (w:World):Bool:=w.params.followText "set-order"
def bMq:Value->Int
  | .int k _=>k
  | _=>0
def AllI (es:List (Int × Value)):Prop:=∀ e∈es,(∃ t,e.2=.int (bMq e.2) t)/\e.1=hashInt (bMq e.2)
abbrev keys (es:Array (Int × Value)):List Int:=es.toList.map λ e=>bMq e.2
abbrev setAt (es:Array (Int × Value)) (ep:Nat) (t:SetTable):Obj:={ cls:=.type "set", dict:=none,data:=.set es ep t,slots:=#[] }
theorem AllI.elems {prog:Program} {w:World} {es:List (Int × Value)} (h:AllI es):ElemsOf (intKind prog w) es:=λ e he=>by
  obtain ⟨⟨t,e1⟩,e2⟩:=h e he
  refine ⟨⟨bMq e.2,?_,e2⟩,?_⟩
  . rw [e1];exact intKind_is _ _ _ _
  . rw [e1];rfl
theorem AllI.perm {es es':List (Int × Value)} (h:AllI es) (p:es'.Perm es):AllI es':=λ e he=>h e (p.mem_iff.mp he)
theorem AllI.snoc {es:List (Int × Value)} (h:AllI es) (k:Int) (u:Tok):AllI (es++[(hashInt k,.int k u)]):=λ e he=>by
  rcases List.mem_append.mp he with he | he
  . exact h e he
  . rw [List.mem_singleton.mp he];exact ⟨⟨u,rfl⟩,rfl⟩
theorem AllI.met {prog:Program} {w:World} {es:List (Int × Value)} (h:AllI es) {k:Int}:(∃ e∈es,(intKind prog w).is k e.2=true) ↔ k∈es.map λ e=>bMq e.2:=by
  constructor
  . rintro ⟨e,he,q⟩
    obtain ⟨⟨t,e1⟩,_⟩:=h e he
    refine List.mem_map.mpr ⟨e,he,?_⟩
    rw [e1] at q ⊢
    exact (intKind prog w).inj _ _ _ (intKind_is prog w _ t) q
  . intro hk
    obtain ⟨e,he,rfl⟩:=List.mem_map.mp hk
    obtain ⟨⟨t,e1⟩,_⟩:=h e he
    exact ⟨e,he,by rw [e1];exact intKind_is _ _ _ _⟩
structure SX (w:World) (h:Heap) (a:Addr) (es:Array (Int × Value)) (ep:Nat) (t:SetTable):Prop where
  at_:h.get? a=some (setAt es ep t)
  all:AllI es.toList
  nd:(keys es).Nodup
  fits:t.fits es.size=true
  few:es.size < 1000
  cl:Cl (byT w) t
theorem eNq {n:Nat} (h:n < 1000):n<=sizeLine:=by have:=sizeLine_eq;omega
section
variable {prog:Program} {w:World} {A:Around} {E:Value->Shared->Prop} {s:Shared} {a:Addr} {es:Array (Int × Value)} {ep:Nat} {t:SetTable}
theorem dUq {h:Heap} (e:h.get? a=some (setAt es ep t)) (es':Array (Int × Value)) (t':SetTable):(h.update a (Obj.putSet es' t')).get? a=some (setAt es' (ep+1) t'):=Heap.get?_update_self (Obj.putSet es' t') e rfl
theorem tail {g:Bool->Sem Unit} (hg:∀ b (s1:Shared) (Q':Unit->Shared->Prop),Q' () s1->wpAny (model prog w) A (g b) Q' E s1) (e0:s.heap.get? a=some (setAt es ep t)) {xs:Array (Int × Value)} {t2:SetTable} (hall:AllI xs.toList) (hnd:(keys xs).Nodup) (hf:t2.fits xs.size=true) (hfew:xs.size < 1000) (hc:Cl (byT w) t2) {wd:Bool} {R:Option Bool->Shared->Prop}
    (h:∀ h' xs' ep' t',Heap.SameBut a s.heap h'->SX w h' a xs' ep' t'->xs'.toList.Perm xs.toList->R (some true) { s with heap:=h' }) :
    wpAny (model prog w) A (do storeSet a xs t2;(if (!wd&&t2.tooFull)=true then (do g (relayAll t2 xs (SetTable.grown xs.size)).2.2;storeSet a (relayAll t2 xs (SetTable.grown xs.size)).1 (relayAll t2 xs (SetTable.grown xs.size)).2.1;pure (some true)) else pure (some true))) R E s:=by
  have e1:=dUq e0 xs t2
  have b1:=Heap.SameBut.update s.heap a (Obj.putSet xs t2)
  refine wpAny_bind (wpAny_storeSet_of e0 rfl ?_ (eNq hfew))
  have pm:=relayAll_perm t2 xs (SetTable.grown xs.size)
  have fr:=relayAll_fits t2 xs (SetTable.grown xs.size)
  have cr:=hc.relay xs (SetTable.grown xs.size)
  have sz:(relayAll t2 xs (SetTable.grown xs.size)).1.size=xs.size:=by rw [<- Array.length_toList,pm.length_eq,Array.length_toList]
  split
  . refine wpAny_bind (hg _ _ _ (wpAny_bind (wpAny_storeSet_of e1 rfl (wpAny_pure (h _ _ _ _ (b1.trans (Heap.SameBut.update _ a _)) ⟨dUq e1 _ _,hall.perm pm,?_,fr,by rw [sz];exact hfew,cr⟩ pm)) (eNq (by rw [sz];exact hfew)))))
    exact (pm.map λ e=>bMq e.2).nodup_iff.mpr hnd
  . exact wpAny_pure (h _ _ _ _ b1 ⟨e1,hall,hnd,hf,hfew,hc⟩ (List.Perm.refl _))
theorem add {k:Int} {u:Tok} {Q:Bool->Shared->Prop} (X:SX w s.heap a es ep t) (hr:es.size+1 < 1000)
    (h:∀ b h' es' ep' t',Heap.SameBut a s.heap h'->SX w h' a es' ep' t'->(∀ j,j∈keys es' ↔ j∈keys es\/j=k)->es'.size<=es.size+1->Q b { s with heap:=h' }):wpAny (model prog w) A (setAddHashed a (.int k u) (hashInt k)) Q E s:=by
  have els:=X.all.elems (prog:=prog) (w:=w)
  have sb:es.size < scanBound:=by have:=X.few;unfold scanBound;omega
  unfold setAddHashed setAddHashedIn
  refine wpAny_holding (wpAny_bind (wpAny_setState_of X.at_ rfl X.fits ?_))
  dsimp only
  rw [byScan_of (knd:=intKind prog w) (x:=.int k u) rfl sb els,if_pos rfl]
  unfold setAddByScan
  refine wpAny_bind (wpAny_bind (wpAny_rule (wpAny_bind (wpAny_setScan_of (knd:=intKind prog w) (k:=k) (intKind_is _ _ _ _) X.at_ rfl X.fits els ?_))))
  cases hi:List.findIdx? (λ e=>(intKind prog w).is k e.2) es.toList with
  | some j=>
    obtain ⟨hj,q,_⟩:=List.findIdx?_eq_some_iff_getElem.mp hi
    have hk:k∈keys es:=X.all.met.mp ⟨_,List.getElem_mem hj,q⟩
    exact wpAny_pure (wpAny_pure (h false s.heap es ep t (Heap.SameBut.refl a _) X (λ i=>⟨.inl,λ z=>z.elim id λ z=>by rw [z];exact hk⟩) (Nat.le_succ _)))
  | none=>
    have hk:k ∉ keys es:=λ z=>by
      obtain ⟨e,he,q⟩:=(X.all.met (prog:=prog) (w:=w)).mpr z
      have:=List.findIdx?_eq_none_iff.mp hi e he
      rw [q] at this;cases this
    have pm:=layNew_perm t es (hashInt k) (.int k u)
    have fr:=layNew_fits t es (hashInt k) (.int k u)
    have cr:=X.cl.lay es (hashInt k) (.int k u)
    dsimp only
    generalize layNew t es (hashInt k) (.int k u)=L at pm fr cr ⊢
    obtain ⟨xs,t1,wd,gv⟩:=L
    dsimp only at pm fr cr ⊢
    obtain ⟨cr,rfl⟩:=cr
    rw [Array.toList_push] at pm
    have sz:xs.size=es.size+1:=by rw [<- Array.length_toList,pm.length_eq];simp
    have kp:(keys xs).Perm (keys es++[k]):=by have z:=pm.map λ e=>bMq e.2;rwa [List.map_append] at z
    have nd:(keys xs).Nodup:=kp.nodup_iff.mpr (List.nodup_append.mpr ⟨X.nd,by simp,λ x hx y hy=>by rw [List.mem_singleton.mp hy];rintro rfl;exact hk hx⟩)
    have gw:∀ b (s1:Shared) (Q':Unit->Shared->Prop),Q' () s1->wpAny (model prog w) A (match b with | true=>rule "set.scan.the-table-gave-way" | false=>pure ()) Q' E s1:=λ b s1 Q' hq=>by
      cases b
      . exact wpAny_pure hq
      . exact wpAny_rule hq
    have fin:∀ h' xs' ep' t',Heap.SameBut a s.heap h'->SX w h' a xs' ep' t'->xs'.toList.Perm xs.toList->Q true { s with heap:=h' }:=λ h' xs' ep' t' hb hX hp=>by
      refine h true h' xs' ep' t' hb hX (λ j=>?_) (by rw [<- Array.length_toList,hp.length_eq,Array.length_toList,sz];exact Nat.le_refl _)
      rw [((hp.map λ e=>bMq e.2).trans kp).mem_iff,List.mem_append,List.mem_singleton]
    refine wpAny_bind (gw _ _ _ ?_)
    split
    . refine wpAny_bind ?_
      rw [hashByValue_scannable 8 (x:=.int k u) rfl]
      refine wpAny_pure ?_
      refine tail gw X.at_ ((X.all.snoc k u).perm pm) nd (by simpa [plainKind] using fr) (by omega) (by simpa [plainKind] using cr) λ h' xs' ep' t' hb hX hp=>wpAny_pure (fin h' xs' ep' t' hb hX hp)
    . refine wpAny_bind (wpAny_pure ?_)
      refine tail gw X.at_ ((X.all.snoc k u).perm pm) nd (by simpa using fr) (by omega) (by simpa using cr) λ h' xs' ep' t' hb hX hp=>wpAny_pure (fin h' xs' ep' t' hb hX hp)
end
end KSs
namespace KSs
open PySem PyProof.Rows
section
variable {prog:Program} {w:World} {A:Around} {E:Value->Shared->Prop} {s:Shared}
abbrev gQq (w:World):Obj:=setAt #[] 0 (.fresh 0 0 (!byT w))
theorem SX.fresh {h:Heap} {a:Addr} (e:h.get? a=some (gQq w)):SX w h a #[] 0 (.fresh 0 0 (!byT w)):=
  ⟨e,λ _ h=>(nomatch (show _∈([]:List (Int × Value)) from h)),List.Pairwise.nil,rfl,by decide,List.Pairwise.nil,λ h=>by simp [SetTable.fresh,h],rfl⟩
theorem newS (x:Value) {Q:Value->Shared->Prop} (h:Q (.ref s.heap.objs.size) { s with heap:=s.heap.push (gQq w) }):codeAny (model prog w) A (.call (.builtin "set.__new__") ⟨[.type "set", x],[]⟩) (wants Q E) s:=by
  refine codeAny_of_tree (show wpAny _ A.in1 (checkBuiltinCall "set.__new__" ⟨[.type "set", x],[]⟩ >>= λ _=>again (.builtin "set.__new__" ⟨[.type "set", x],[]⟩)) _ _ s from ?_)
  refine wpAny_bind (wpAny_of_eq (F.newCall_set_1 x) (wpAny_pure ⟨plainId_quiet F.plain_set_new _,codeAny_builtin F.entry_set_new ?_⟩))
  rw [Around.under_plainId F.plain_set_new _]
  unfold Builtin.«set.__new__» Builtin.Frozenset.newClass
  have sub:=sub_set_self
  cases s
  dsimp only
  wp_walk
  refine wpAny_askSetting (wpAny_pure ?_)
  dsimp only
  unfold newObj
  exact wpAny_bind (wpAny_alloc (wpAny_pure (wpAny_pure h)))
theorem zLq {I l S:Addr} {items:Array Value} {ns:List Int} {R:Result->Shared->Prop} (hh:A.handled=none) (hne:l≠I) (hI:S≠I) (hl:S≠l) (hi:IntsAre items.toList ns) (hb:items.size < 900) :
    ∀ (k i:Nat) (s:Shared) (es:Array (Int × Value)) (ep:Nat) (t:SetTable),items.size - i=k->i<=items.size->s.heap.IsListIter I l i->s.heap.IsList l items->SX w s.heap S es ep t->es.size<=i->(∀ j,j∈keys es ↔ j∈ns.take i) →
      (∀ h' tk es' ep' t',SX w h' S es' ep' t'->es'.size<=items.size->(∀ j,j∈keys es' ↔ j∈ns)->(∀ b o,b≠S->b≠I->s.heap.get? b=some o->h'.get? b=some o)->R (.ok (.ret .none)) { s with heap:=h',toks:=tk }) →
      codeAny (model prog w) A (.builtin "set.update.loop" ⟨[.ref S,.ref I],[]⟩) R s:=by
  have W:=Walks.list (prog:=prog) (w:=w) (A:=A.in1) hh I l hne items
  have hlen:=hi.length
  rw [Array.length_toList] at hlen
  intro k
  induction k with
  | zero=>
    intro i s es ep t hk hle h1 h2 X hsz hmem fin
    obtain rfl:i=items.size:=by omega
    refine codeAny_builtin F.entry_set_update_loop ?_
    rw [Around.under_plainId F.plain_set_update_loop _]
    refine (show wpAny _ A.in1 (pyNext (.ref I) >>= _) _ _ s from wpAny_bind (W.done s _ _ ⟨h1,h2⟩ λ h' tk kk=>?_))
    have e:=kk S _ (by simpa using hI) X.at_
    exact wpAny_pure (fin h' tk es ep t ⟨e,X.all,X.nd,X.fits,X.few,X.cl⟩ hsz (λ j=>by rw [hmem,List.take_of_length_le (by omega)]) λ b o _ hb e=>kk b o (by simpa using hb) e)
  | succ k ih=>
    intro i s es ep t hk hle h1 h2 X hsz hmem fin
    refine codeAny_builtin F.entry_set_update_loop ?_
    rw [Around.under_plainId F.plain_set_update_loop _]
    refine (show wpAny _ A.in1 (pyNext (.ref I) >>= _) _ _ s from wpAny_bind (W.item i s _ _ (by omega) ⟨h1,h2⟩ λ v h' tk hv st kk=>?_))
    obtain ⟨u,rfl⟩:=IntsAre.int_at hi i v (by rw [Array.getElem?_toList];exact hv)
    have e:=kk S _ (by simpa using hI) X.at_
    refine (show wpAny _ A.in1 (holding [Value.int (ns.getD i 0) u] (setAdd S (.int (ns.getD i 0) u)) >>= _) _ _ { s with heap:=h',toks:=tk } from wpAny_bind (wpAny_holding ?_))
    unfold setAdd
    refine wpAny_holding (wpAny_bind ((intKind prog w).pyHash (k:=ns.getD i 0) (intKind_is _ _ _ _) ?_))
    refine add (s:={ s with heap:=h',toks:=tk+1 }) (X:=⟨e,X.all,X.nd,X.fits,X.few,X.cl⟩) (by omega) λ b h2' es' ep' t' sb X' hmem' hsz'=>?_
    have ne:∀ b o,b≠S->h'.get? b=some o->h2'.get? b=some o:=λ b o hb e=>by rw [sb.2 b hb];exact e
    refine wpAny_pure ⟨plainId_quiet F.plain_set_update_loop _,ih (i+1) _ es' ep' t' (by omega) (by omega) ?_ ?_ X' (by omega) (λ j=>?_) λ h3 tk3 es3 ep3 t3 X3 z3 m3 k3=>?_⟩
    . obtain ⟨o,ho,r⟩:=st.1;exact ⟨o,ne I o (Ne.symm hI) ho,r⟩
    . obtain ⟨o,ho,r⟩:=st.2;exact ⟨o,ne l o (Ne.symm hl) ho,r⟩
    . rw [hmem',hmem,List.take_add_one]
      have:ns[i]?=some (ns.getD i 0):=by rw [List.getD_eq_getElem?_getD,List.getElem?_eq_getElem (by omega)];rfl
      rw [this]
      simp
    . exact fin h3 tk3 es3 ep3 t3 X3 z3 m3 λ b o hb1 hb2 e=>k3 b o hb1 hb2 (ne b o hb1 (kk b o (by simpa using hb2) e))
set_option maxHeartbeats 4000000 in
theorem ofList {l:Addr} {items:Array Value} {ns:List Int} {Q:Value->Shared->Prop} (hh:A.handled=none) (hl:s.heap.IsList l items) (hi:IntsAre items.toList ns) (hb:items.size < 900)
    (h:∀ h' tk es ep t,SX w h' s.heap.objs.size es ep t->es.size<=items.size->(∀ j,j∈keys es ↔ j∈ns)->(∀ b o,s.heap.get? b=some o->h'.get? b=some o)->Q (.ref s.heap.objs.size) { s with heap:=h',toks:=tk }) :
    wpAny (model prog w) A (call (.type "set") [.ref l]) Q E s:=by
  obtain ⟨c,tl,hmro⟩:=F.called_set.mro
  have q1:=F.called_set.made
  have q2:=F.called_set.sub
  have q3:=F.called_set.notType
  have q4:=F.called_set.canCreate
  have q5:=F.typeCall_set_1 (.ref l)
  refine wpAny_call (codeAny_of_tree (show wpAny _ _ (callAny (.type "set") _) _ _ _ from wpAny_pure ⟨Code.quiet_builtin _ (by decide +kernel),codeAny_builtin F.entry_type_call ?_⟩))
  rw [Around.under_plain (weight_type_call_type "set" [.ref l] []) rfl]
  repeat (any_goals (first | assumption | wp_step))
  refine codeAny_mono (newS (.ref l) (E:=E) (Q:=λ obj s1=>obj=.ref s.heap.objs.size/\s1={ s with heap:=s.heap.push (gQq w) }) ⟨rfl,rfl⟩) λ r s1 hr=>?_
  cases r with
  | error e=>exact hr
  | ok fl=>
    cases fl with
    | ret obj=>
      obtain ⟨rfl,rfl⟩:=hr
      have gS:(s.heap.push (gQq w)).get? s.heap.objs.size=some (gQq w):=Heap.get?_push_size _ rfl
      have tS:Shared.TypeIs { s with heap:=s.heap.push (gQq w) } (.ref s.heap.objs.size) "set":=⟨_,gS,rfl⟩
      have q6:=F.called_set.init.lookup
      have q7:=F.called_set.init.bind (.ref s.heap.objs.size)
      repeat (any_goals (first | assumption | wp_step))
      refine codeAny_mono (codeAny_call_builtin (R:=wants (λ r s2=>r=.none/\Q (.ref s.heap.objs.size) s2) E) F.called_set.init.plain F.entry_set_init (check_set_init_1 tS ?_)) λ r2 s2 hr2=>?_
      . obtain ⟨⟨oc,od,oda,osl⟩,ho,hc,nl,hd⟩:=hl
        simp only at hc hd
        subst hc;subst hd
        have hlt:=Heap.lt_size ho
        have ho1:(s.heap.push (gQq w)).get? l=some { cls:=.type "list", dict:=od,data:=.seq items nl,slots:=osl }:=Heap.get?_push_of_some _ ho
        have hL:(s.heap.push (gQq w)).IsList l items:=⟨_,ho1,rfl,nl,rfl⟩
        have n1:=F.sub_list_set
        have n2:=F.sub_list_frozenset
        have n3:(Value.type "list"==Value.type "dict")=false:=by decide
        unfold Builtin.«set.__init__» noKeywords Builtin.Frozenset.updateFrom
        generalize hP:pyIter=P
        wp_walk
        subst hP
        refine wpAny_pyIter_list hL (wpAny_bind (wpAny_runValue ?_))
        have sz:(s.heap.push (gQq w)).objs.size=s.heap.objs.size+1:=Heap.size_push ..
        refine zLq (I:=(s.heap.push (gQq w)).objs.size) (l:=l) (S:=s.heap.objs.size) (show A.in1.in1.handled=none from hh) ?zza ?zzb (Nat.ne_of_gt hlt) hi hb (items.size - 0) 0 _ #[] 0 (.fresh 0 0 (!byT w)) rfl (Nat.zero_le _) ?zzd ?zze ?zzf (Nat.le_refl _) ?zzg ?zzh
        case zza=>rw [sz];exact Nat.ne_of_lt (Nat.lt_succ_of_lt hlt)
        case zzb=>rw [sz];exact Nat.ne_of_lt (Nat.lt_succ_self _)
        case zzd=>exact ⟨_,Heap.get?_push_size _ rfl,rfl,rfl⟩
        case zze=>exact hL.push _
        case zzf=>exact SX.fresh (Heap.get?_push_of_some _ gS)
        case zzg=>intro j;simp
        case zzh=>
          intro h' tk es ep t X z m k
          refine wpAny_pure (show wpAny _ _ (ret Value.none) _ _ _ from wpAny_pure ⟨rfl,h h' tk es ep t X z m λ b o e=>k b o (Nat.ne_of_lt (Heap.lt_size e)) ?_ (Heap.get?_push_of_some _ (Heap.get?_push_of_some _ e))⟩)
          rw [sz];exact Nat.ne_of_lt (Nat.lt_succ_of_lt (Heap.lt_size e))
      . cases r2 with
        | error e=>exact hr2
        | ok fl2=>
          cases fl2 with
          | ret r=>
            obtain ⟨rfl,hq⟩:=hr2
            repeat (any_goals (first | assumption | wp_step))
          | _=>exact hr2.elim
    | _=>exact hr.elim
end
end KSs
namespace KSs
open PySem PyProof.Rows
theorem own:Manifest.owners.lookup (String.ofList ['r', 'o', 't', 'a', 'r', 'e', 't', 'i', '_', 't', 'e', 's'].reverse)=some Manifest.sig_set_iterator:=by kernel_rfl
theorem sNext:Slot "set_iterator" "__next__" "set_iterator.__next__":=.of (owner:="set_iterator") (n:="__next__") (by rw [typeLookup_type,builtinLookup_eq_fast];kernel_rfl) (by decide +kernel) (by decide +kernel) (by decide +kernel) (by first | exact .inl (by decide +kernel) | exact .inr (by decide +kernel)) (by rw [isSubtype_type];kernel_rfl)
theorem sItI:Slot "set_iterator" "__iter__" "set_iterator.__iter__":=.of (owner:="set_iterator") (n:="__iter__") (by rw [typeLookup_type,builtinLookup_eq_fast];kernel_rfl) (by decide +kernel) (by decide +kernel) (by decide +kernel) (by first | exact .inl (by decide +kernel) | exact .inr (by decide +kernel)) (by rw [isSubtype_type];kernel_rfl)
theorem vDq:Slot "set" "__iter__" "set.__iter__":=.of (owner:="set") (n:="__iter__") (by rw [typeLookup_type,builtinLookup_eq_fast];kernel_rfl) (by decide +kernel) (by decide +kernel) (by decide +kernel) (by first | exact .inl (by decide +kernel) | exact .inr (by decide +kernel)) (by rw [isSubtype_type];kernel_rfl)
theorem sLen:Slot "set" "__len__" "set.__len__":=.of (owner:="set") (n:="__len__") (by rw [typeLookup_type,builtinLookup_eq_fast];kernel_rfl) (by decide +kernel) (by decide +kernel) (by decide +kernel) (by first | exact .inl (by decide +kernel) | exact .inr (by decide +kernel)) (by rw [isSubtype_type];kernel_rfl)
theorem pYq:entryFor table "set_iterator.__next__" = some Builtin.«set_iterator.__next__»:=entryFor_of_tree (by kernel_rfl)
theorem eItI:entryFor table "set_iterator.__iter__" = some Builtin.«dict_keyiterator.__iter__»:=entryFor_alias (id':="dict_keyiterator.__iter__") (by kernel_rfl) (by first | rfl | decide +kernel | (unfold String.splitOn;simp +decide [String.splitOnAux])) (by decide +kernel) (by kernel_rfl)
theorem zJq:entryFor table "set.__iter__" = some Builtin.«frozenset.__iter__»:=entryFor_alias (id':="frozenset.__iter__") (by kernel_rfl) (by first | rfl | decide +kernel | (unfold String.splitOn;simp +decide [String.splitOnAux])) (by decide +kernel) (by kernel_rfl)
theorem p5q (a:Value):argsOk "set_iterator.__next__" ⟨[a],[]⟩:=by unfold argsOk;rw [signature?_of (id:="set_iterator.__next__") (n:=['_', '_', 't', 'x', 'e', 'n', '_', '_']) (o:=['r', 'o', 't', 'a', 'r', 'e', 't', 'i', '_', 't', 'e', 's']) (by kernel_rfl) own];kernel_rfl
theorem aItI (a:Value):argsOk "set_iterator.__iter__" ⟨[a],[]⟩:=by unfold argsOk;rw [signature?_of (id:="set_iterator.__iter__") (n:=['_', '_', 'r', 'e', 't', 'i', '_', '_']) (o:=['r', 'o', 't', 'a', 'r', 'e', 't', 'i', '_', 't', 'e', 's']) (by kernel_rfl) own];kernel_rfl
theorem aB5q (a:Value):argsOk "set.__iter__" ⟨[a],[]⟩:=by unfold argsOk;rw [signature?_of (id:="set.__iter__") (n:=['_', '_', 'r', 'e', 't', 'i', '_', '_']) (o:=['t', 'e', 's']) (by kernel_rfl) F.owner_set];kernel_rfl
end KSs
namespace KSs
open PySem PyProof.Rows
theorem o0q {α:Type} (f:Nat->Nat):∀ (fuel k:Nat) (left:List α) (out:Array α),left.length=fuel->(pickOrder.go f fuel k left out).toList.Perm (out.toList++left)
  | 0,k,left,out,h=>by
    have:left=[]:=List.length_eq_zero_iff.mp h
    subst this
    simp [pickOrder.go]
  | fuel+1,k,left,out,h=>by
    have lt:f k % left.length < left.length:=Nat.mod_lt _ (by omega)
    unfold pickOrder.go
    rw [List.getElem?_eq_getElem lt]
    dsimp only
    refine (o0q f fuel (k+1) _ _ (by rw [List.length_eraseIdx_of_lt lt];omega)).trans ?_
    rw [Array.toList_push,List.append_assoc]
    refine List.Perm.append_left _ ?_
    have e:=List.take_append_drop (f k % left.length) left
    have e2:left.eraseIdx (f k % left.length)=left.take (f k % left.length)++left.drop (f k % left.length+1):=List.eraseIdx_eq_take_drop_succ ..
    rw [e2,List.singleton_append]
    have e3:left=left.take (f k % left.length)++left[f k % left.length]::left.drop (f k % left.length+1):=by
      rw [<- List.drop_eq_getElem_cons lt,e]
    conv=>rhs;rw [e3]
    exact List.perm_middle.symm
theorem iYq {α:Type} (f:Nat->Nat) (xs:Array α):(pickOrder f xs).toList.Perm xs.toList:=by
  have h:=o0q f xs.size 0 xs.toList #[] (by simp)
  simpa [pickOrder] using h
theorem iJq {M:Model} {A:Around} {E:Value->Shared->Prop} {s:Shared} {src:Source} {n:Nat} {Q:Nat->Shared->Prop} (hn:0 < n) (h:∀ i d,i < n->Q i { s with drawn:=d }):wpAny M A (choose src n) Q E s:=
  λ _ _ _=>⟨by omega,h _ _ (Nat.mod_lt _ hn)⟩
theorem draw {α:Type} {M:Model} {A:Around} {E:Value->Shared->Prop}:∀ (n:Nat) (xs:List α) (s:Shared) (Q:List α->Shared->Prop),xs.length=n->(∀ ys d,ys.Perm xs->Q ys { s with drawn:=d })->wpAny M A (drawOrder n xs) Q E s
  | 0,xs,s,Q,h,q=>by
    have:xs=[]:=List.length_eq_zero_iff.mp h
    subst this
    exact wpAny_pure (q [] s.drawn (.refl _))
  | n+1,[],s,Q,h,q=>by simp at h
  | n+1,x::xs,s,Q,h,q=>by
    unfold drawOrder
    refine wpAny_bind (iJq (by simp) λ i d hi=>?_)
    rw [List.getElem?_eq_getElem hi]
    dsimp only
    refine wpAny_bind (draw n _ _ _ (by rw [List.length_eraseIdx_of_lt hi];simp at h ⊢;omega) λ ys d' hp=>wpAny_pure (q _ d' ?_))
    have e2:(x::xs).eraseIdx i=(x::xs).take i++(x::xs).drop (i+1):=List.eraseIdx_eq_take_drop_succ ..
    rw [e2] at hp
    have e3:x::xs=(x::xs).take i++(x::xs)[i]::(x::xs).drop (i+1):=by
      rw [<- List.drop_eq_getElem_cons hi,List.take_append_drop]
    refine (hp.cons _).trans ?_
    conv=>rhs;rw [e3]
    exact List.perm_middle.symm
structure SW (w:World) (h:Heap) (a:Addr) (es:Array (Int × Value)) (ep:Nat) (t:SetTable):Prop where
  at_:h.get? a=some (setAt es ep t)
  fits:t.fits es.size=true
  few:es.size < 1000
  led:byT w=false->t.led=true
  up:Up t.place
theorem SX.sw {w:World} {h:Heap} {a:Addr} {es:Array (Int × Value)} {ep:Nat} {t:SetTable} (X:SX w h a es ep t):SW w h a es ep t:=⟨X.at_,X.fits,X.few,X.cl.led,X.cl.up⟩
abbrev hLq (first:Value) (i:Nat) (a:Addr) (n ep:Nat):Obj:={ cls:=.type "set_iterator", dict:=none,data:=.fields #[first,rawInt i,.ref a,rawInt n,rawInt ep],slots:=#[] }
section
variable {prog:Program} {w:World} {A:Around} {E:Value->Shared->Prop} {s:Shared} {a I T:Addr} {es:Array (Int × Value)} {ep:Nat} {t:SetTable}
theorem oUq (Q:Bool->Shared->Prop) (h:Q (byT w) s):wpAny (model prog w) A setsByText Q E s:=by
  unfold setsByText
  exact wpAny_bind (wpAny_askSetting (wpAny_pure h))
theorem z0q {Q:Option (Value × Nat)->Shared->Prop} (hb:byT w=true) (X:SW w s.heap a es ep t) {sl i:Nat} (h:Q (((pickOrder (w.params.setOrder a ep) es)[i]?).map λ e=>(e.2,sl)) s):wpAny (model prog w) A (setNext a sl i ep) Q E s:=by
  unfold setNext
  refine wpAny_bind (wpAny_setState_of X.at_ rfl X.fits (wpAny_bind (oUq _ ?_)))
  rw [hb,if_pos rfl]
  rw [if_neg (by simp)]
  unfold setWalk
  refine wpAny_bind (wpAny_bind (wpAny_setState_of X.at_ rfl X.fits (wpAny_bind (oUq _ ?_))))
  rw [hb,if_pos rfl]
  exact wpAny_bind (wpAny_askSetting (wpAny_pure (wpAny_pure h)))
theorem gDq (X:SW w s.heap a es ep t):t.place.size=es.size:=by
  have:=X.fits
  simp only [SetTable.fits,Bool.and_eq_true,beq_iff_eq] at this
  exact this.1
def cCq (t:SetTable):Nat->Nat
  | 0=>0
  | i+1=>t.place.getD i 0+1
theorem l5q (hu:Up t.place) {i:Nat} (hi:i<=t.place.size):SetTable.below t.place (cCq t i)=i:=by
  obtain ⟨h1,h2,h3⟩:=gNq hu (cCq t i)
  generalize SetTable.below t.place (cCq t i)=p at *
  cases i with
  | zero=>
    rcases Nat.eq_zero_or_pos p with z | z
    . exact z
    . exact absurd (h2 0 z) (by simp [cCq])
  | succ i=>
    rcases Nat.lt_trichotomy p (i+1) with z | z | z
    . have:=h3 i (by omega) (by omega)
      simp only [cCq] at this
      omega
    . exact z
    . have y:=h2 (i+1) z
      have l:=hu.lt (show i < i+1 by omega) (by omega)
      simp only [cCq] at y
      omega
theorem zBq {Q:Option (Value × Nat)->Shared->Prop} (hb:byT w=false) (hd:(!t.plain&&decide (es.size > 1))=false) (X:SW w s.heap a es ep t) {i:Nat} (hi:i<=es.size) (h:Q ((es[i]?).map λ e=>(e.2,cCq t (i+1))) s):wpAny (model prog w) A (setNext a (cCq t i) i ep) Q E s:=by
  have hp:=gDq X
  unfold setNext
  refine wpAny_bind (wpAny_setState_of X.at_ rfl X.fits (wpAny_bind (oUq _ ?_)))
  rw [hb,if_neg (by simp)]
  refine (show wpAny (model prog w) A (if (!t.plain&&decide (es.size > 1))=true then _ else _) _ _ s from ?_)
  rw [hd,if_neg (by simp)]
  refine (show wpAny (model prog w) A ((if (!t.led&&!es.isEmpty)=true then unsupported "set:maker-not-led" else pure ()) >>= λ _=>_) _ _ s from ?_)
  rw [X.led hb,if_neg (by simp)]
  refine wpAny_bind (wpAny_pure (wpAny_pure ?_))
  rw [l5q X.up (by omega)]
  cases e:es[i]? with
  | none=>rw [e] at h;exact h
  | some y=>
    have lt:i < t.place.size:=by have:=(Array.getElem?_eq_some_iff.mp e).1;omega
    rw [e] at h
    rw [Array.getElem?_eq_getElem lt]
    have:cCq t (i+1)=t.place[i]+1:=by simp [cCq,Array.getD,lt]
    rw [this] at h
    exact h
end
end KSs
namespace KSs
open PySem PyProof.Rows
section
variable {prog:Program} {w:World} {A:Around} {E:Value->Shared->Prop} {s:Shared} {a I T:Addr} {es:Array (Int × Value)} {ep:Nat} {t:SetTable}
theorem mUq {first:Value} {i n:Nat} {Q:Value->Shared->Prop} (hit:s.heap.get? I=some (hLq first i a n ep)) (h:Q (.ref I) s):wpAny (model prog w) A (pyIter (.ref I)) Q E s:=
  have hT:s.TypeIs (.ref I) "set_iterator":=⟨_,hit,rfl⟩
  wpAny_pyIter_slot hT sItI (wpAny_call_entry sItI hT eItI (wpAny_pure ⟨_,rfl,"set_iterator", _,hT,sNext.lookup,h⟩) (aItI _))
theorem sDq {sl i sl':Nat} {x:Value} {Q:Option Value->Shared->Prop} (hne:a≠I) (hit:s.heap.get? I=some (hLq (rawInt sl) i a es.size ep)) (X:SW w s.heap a es ep t)
    (hN:∀ (A:Around) (E:Value->Shared->Prop) (Q:Option (Value × Nat)->Shared->Prop),Q (some (x,sl')) s->wpAny (model prog w) A (setNext a sl i ep) Q E s)
    (hQ:∀ h',h'.get? I=some (hLq (rawInt sl') (i+1) a es.size ep)->Heap.SameBut I s.heap h'->Q (some x) { s with heap:=h' }):wpAny (model prog w) A (pyNext (.ref I)) Q E s:=by
  have hT:s.TypeIs (.ref I) "set_iterator":=⟨_,hit,rfl⟩
  unfold pyNext
  refine wpAny_bind (wpAny_attempt (wpAny_callSpecial?_slot hT sNext (wpAny_call_entry sNext hT pYq ?_ (p5q _))))
  refine (show wpAny (model prog w) A.in1 (fieldsOf (.ref I) >>= _) _ _ s from wpAny_bind (wpAny_fieldsOf hit rfl ?_))
  refine (show wpAny (model prog w) A.in1 (setEntries a >>= _) _ _ s from wpAny_bind (wpAny_setEntries_of X.at_ rfl X.fits ?_))
  rw [if_neg (by simp)]
  refine (show wpAny (model prog w) A.in1 (setNext a ((sl:Int)).toNat ((i:Int)).toNat ((ep:Int)).toNat >>= _) _ _ s from wpAny_bind ?_)
  rw [Int.toNat_natCast,Int.toNat_natCast,Int.toNat_natCast]
  refine hN _ _ _ ?_
  refine (show wpAny (model prog w) A.in1 (setField (.ref I) 0 (rawInt sl') >>= _) _ _ s from wpAny_bind (wpAny_setField hit rfl (by simp) ?_))
  have e1:=Heap.get?_update_self (Obj.mapFields (·.setIfInBounds 0 (rawInt sl'))) hit rfl
  refine wpAny_bind (wpAny_setField e1 rfl (by simp [Obj.mapFields]) (wpAny_pure ⟨x,rfl,wpAny_pure (hQ _ ?_ ((Heap.SameBut.update ..).trans (Heap.SameBut.update ..)))⟩))
  exact Heap.get?_update_self (Obj.mapFields (·.setIfInBounds 1 (rawInt ((i:Int)+1)))) e1 rfl
theorem y2q {sl i:Nat} {Q:Option Value->Shared->Prop} (hh:A.handled=none) (hit:s.heap.get? I=some (hLq (rawInt sl) i a es.size ep)) (X:SW w s.heap a es ep t)
    (hN:∀ (A:Around) (E:Value->Shared->Prop) (Q:Option (Value × Nat)->Shared->Prop),Q none s->wpAny (model prog w) A (setNext a sl i ep) Q E s)
    (hQ:∀ h',Heap.ExtBut I s.heap h'->Q none { s with heap:=h' }):wpAny (model prog w) A (pyNext (.ref I)) Q E s:=by
  have hT:s.TypeIs (.ref I) "set_iterator":=⟨_,hit,rfl⟩
  unfold pyNext
  refine wpAny_bind (wpAny_attempt (wpAny_callSpecial?_slot hT sNext (wpAny_call_entry sNext hT pYq ?_ (p5q _))))
  refine (show wpAny (model prog w) A.in1 (fieldsOf (.ref I) >>= _) _ _ s from wpAny_bind (wpAny_fieldsOf hit rfl ?_))
  refine (show wpAny (model prog w) A.in1 (setEntries a >>= _) _ _ s from wpAny_bind (wpAny_setEntries_of X.at_ rfl X.fits ?_))
  rw [if_neg (by simp)]
  refine (show wpAny (model prog w) A.in1 (setNext a ((sl:Int)).toNat ((i:Int)).toNat ((ep:Int)).toNat >>= _) _ _ s from wpAny_bind ?_)
  rw [Int.toNat_natCast,Int.toNat_natCast,Int.toNat_natCast]
  refine hN _ _ _ ?_
  refine (show wpAny (model prog w) A.in1 (setField (.ref I) 2 .none >>= _) _ _ s from wpAny_bind (wpAny_setField hit rfl (by simp) ?_))
  refine (show wpAny (model prog w) A.in1 (Builtin.SmallTypes.stopIteration) _ _ _ from KRv.stops (A:=A.in1) hh λ h' e kk hs=>?_)
  refine wpAny_bind (wpAny_isInstance (T:="StopIteration") (b:=true) hs isSubtype_stop (wpAny_pure (hQ _ λ b o hb e=>kk b o ?_)))
  exact (Heap.SameBut.update ..).extBut b o hb e
theorem zNq (hh:A.handled=none) (hne:a≠I) (sl:Nat->Nat) (xs:Array Value) (hx:xs.size=es.size)
    (hN:∀ (s:Shared),SW w s.heap a es ep t->∀ (A:Around) (E:Value->Shared->Prop) (Q:Option (Value × Nat)->Shared->Prop) (i:Nat),i<=es.size->Q ((xs[i]?).map λ x=>(x,sl (i+1))) s->wpAny (model prog w) A (setNext a (sl i) i ep) Q E s) (X:SW w s.heap a es ep t) :
    Walks prog w A I [I,a] [I] es.size (λ i v=>xs[i]?=some v) (λ i h=>h.get? I=some (hLq (rawInt (sl i)) i a es.size ep)/\h.get? a=some (setAt es ep t)) where
  sub:=λ b hb=>by rw [List.mem_singleton.mp hb];exact List.mem_cons_self
  frame:=λ _ _ _ st hk=>⟨hk I (by simp) _ st.1,hk a (by simp) _ st.2⟩
  item:=λ i s' Q E hi st hQ=>by
    have lt:i < xs.size:=by omega
    have X':SW w s'.heap a es ep t:=⟨st.2,X.fits,X.few,X.led,X.up⟩
    refine sDq (x:=xs[i]) (sl':=sl (i+1)) hne st.1 X' (λ A E Q q=>hN s' X' A E Q i (by omega) (by rw [Array.getElem?_eq_getElem lt];exact q)) λ h' e1 sb=>?_
    exact hQ _ h' s'.toks (Array.getElem?_eq_getElem lt) ⟨e1,by rw [sb.2 a hne];exact st.2⟩ λ b o hb e=>by rw [sb.2 b (λ z=>hb (List.mem_singleton.mpr z))];exact e
  done:=λ s' Q E st hQ=>by
    have X':SW w s'.heap a es ep t:=⟨st.2,X.fits,X.few,X.led,X.up⟩
    exact y2q hh st.1 X' (λ A E Q q=>hN s' X' A E Q es.size (Nat.le_refl _) (by rw [Array.getElem?_eq_none (by omega)];exact q)) λ h' he=>hQ h' s'.toks λ b o hb e=>he b o (λ z=>hb (List.mem_singleton.mpr z)) e
  self:=λ i s' Q E st h=>mUq st.1 h
end
end KSs
namespace KSs
open PySem PyProof.Rows
section
variable {prog:Program} {w:World} {A:Around} {E:Value->Shared->Prop} {s:Shared} {a I T:Addr} {es:Array (Int × Value)} {ep:Nat} {t:SetTable}
abbrev d5q (ps:List Nat):Obj:={ cls:=.type "tuple", dict:=none,data:=.seq (ps.map λ(p:Nat)=>rawInt (p:Int)).toArray 0,slots:=#[] }
theorem q4q {i p:Nat} {ps:List Nat} {k:Int} {x:Value} {Q:Option Value->Shared->Prop} (hit:s.heap.get? I=some (hLq (.ref T) i a es.size ep)) (hT0:s.heap.get? T=some (d5q ps)) (X:SW w s.heap a es ep t) (hp:ps[i]?=some p) (hx:es[p]?=some (k,x))
    (hQ:∀ h',h'.get? I=some (hLq (.ref T) (i+1) a es.size ep)->Heap.SameBut I s.heap h'->Q (some x) { s with heap:=h' }):wpAny (model prog w) A (pyNext (.ref I)) Q E s:=by
  have hT:s.TypeIs (.ref I) "set_iterator":=⟨_,hit,rfl⟩
  unfold pyNext
  refine wpAny_bind (wpAny_attempt (wpAny_callSpecial?_slot hT sNext (wpAny_call_entry sNext hT pYq ?_ (p5q _))))
  refine (show wpAny (model prog w) A.in1 (fieldsOf (.ref I) >>= _) _ _ s from wpAny_bind (wpAny_fieldsOf hit rfl ?_))
  refine (show wpAny (model prog w) A.in1 (setEntries a >>= _) _ _ s from wpAny_bind (wpAny_setEntries_of X.at_ rfl X.fits ?_))
  rw [if_neg (by simp)]
  refine (show wpAny (model prog w) A.in1 (seqItems? (.ref T) >>= _) _ _ s from wpAny_bind ?_)
  unfold seqItems?
  refine (show wpAny (model prog w) A.in1 (load T >>= _) _ _ s from wpAny_bind (wpAny_load hT0 (wpAny_pure ?_)))
  have e0:((ps.map λ(p:Nat)=>rawInt (p:Int)).toArray)[((i:Int)).toNat]?=some (rawInt p):=by
    rw [Int.toNat_natCast,List.getElem?_toArray,List.getElem?_map,hp];rfl
  dsimp only
  rw [e0]
  refine (show wpAny (model prog w) A.in1 (setNextDrawn a ((p:Int)).toNat ((ep:Int)).toNat >>= _) _ _ s from wpAny_bind ?_)
  rw [Int.toNat_natCast,Int.toNat_natCast]
  unfold setNextDrawn
  refine wpAny_bind (wpAny_setState_of X.at_ rfl X.fits ?_)
  dsimp only
  rw [if_neg (by simp),hx]
  refine wpAny_pure ?_
  refine wpAny_bind (wpAny_setField hit rfl (by simp) (wpAny_pure ⟨x,rfl,wpAny_pure (hQ _ ?_ (Heap.SameBut.update ..))⟩))
  exact Heap.get?_update_self (Obj.mapFields (·.setIfInBounds 1 (rawInt ((i:Int)+1)))) hit rfl
theorem s9q {i:Nat} {ps:List Nat} {Q:Option Value->Shared->Prop} (hh:A.handled=none) (hit:s.heap.get? I=some (hLq (.ref T) i a es.size ep)) (hT0:s.heap.get? T=some (d5q ps)) (X:SW w s.heap a es ep t) (hp:ps[i]?=none)
    (hQ:∀ h',Heap.ExtBut I s.heap h'->Q none { s with heap:=h' }):wpAny (model prog w) A (pyNext (.ref I)) Q E s:=by
  have hT:s.TypeIs (.ref I) "set_iterator":=⟨_,hit,rfl⟩
  unfold pyNext
  refine wpAny_bind (wpAny_attempt (wpAny_callSpecial?_slot hT sNext (wpAny_call_entry sNext hT pYq ?_ (p5q _))))
  refine (show wpAny (model prog w) A.in1 (fieldsOf (.ref I) >>= _) _ _ s from wpAny_bind (wpAny_fieldsOf hit rfl ?_))
  refine (show wpAny (model prog w) A.in1 (setEntries a >>= _) _ _ s from wpAny_bind (wpAny_setEntries_of X.at_ rfl X.fits ?_))
  rw [if_neg (by simp)]
  refine (show wpAny (model prog w) A.in1 (seqItems? (.ref T) >>= _) _ _ s from wpAny_bind ?_)
  unfold seqItems?
  refine (show wpAny (model prog w) A.in1 (load T >>= _) _ _ s from wpAny_bind (wpAny_load hT0 (wpAny_pure ?_)))
  have e0:((ps.map λ(p:Nat)=>rawInt (p:Int)).toArray)[((i:Int)).toNat]?=none:=by
    rw [Int.toNat_natCast,List.getElem?_toArray,List.getElem?_map,hp];rfl
  dsimp only
  rw [e0]
  refine wpAny_bind (wpAny_setField hit rfl (by simp) ?_)
  have e1:=Heap.get?_update_self (Obj.mapFields (·.setIfInBounds 0 (rawInt 0))) hit rfl
  refine wpAny_bind (wpAny_setField e1 rfl (by simp [Obj.mapFields]) ?_)
  refine (show wpAny (model prog w) A.in1 (Builtin.SmallTypes.stopIteration) _ _ _ from KRv.stops (A:=A.in1) hh λ h' e kk hs=>?_)
  refine wpAny_bind (wpAny_isInstance (T:="StopIteration") (b:=true) hs isSubtype_stop (wpAny_pure (hQ _ λ b o hb e=>kk b o ?_)))
  exact ((Heap.SameBut.update ..).trans (Heap.SameBut.update ..)).extBut b o hb e
theorem aB0q (hh:A.handled=none) (hne:a≠I) (hnT:T≠I) (ps:List Nat) (hps:ps.length=es.size) (hb:∀ p∈ps,p < es.size) (X:SW w s.heap a es ep t) :
    Walks prog w A I [I,a,T] [I] es.size (λ i v=>((ps.map λ p=>(es.getD p (0,.none)).2).toArray)[i]?=some v) (λ i h=>h.get? I=some (hLq (.ref T) i a es.size ep)/\h.get? a=some (setAt es ep t)/\h.get? T=some (d5q ps)) where
  sub:=λ b hb=>by rw [List.mem_singleton.mp hb];exact List.mem_cons_self
  frame:=λ _ _ _ st hk=>⟨hk I (by simp) _ st.1,hk a (by simp) _ st.2.1,hk T (by simp) _ st.2.2⟩
  item:=λ i s' Q E hi st hQ=>by
    have lt:i < ps.length:=by omega
    have X':SW w s'.heap a es ep t:=⟨st.2.1,X.fits,X.few,X.led,X.up⟩
    have hp:=hb ps[i] (List.getElem_mem lt)
    refine q4q (p:=ps[i]) (k:=(es.getD ps[i] (0,.none)).1) (x:=(es.getD ps[i] (0,.none)).2) st.1 st.2.2 X' (List.getElem?_eq_getElem lt) (by rw [Array.getElem?_eq_getElem hp];simp [Array.getD,hp]) λ h' e1 sb=>?_
    exact hQ _ h' s'.toks (by simp [lt]) ⟨e1,by rw [sb.2 a hne];exact st.2.1,by rw [sb.2 T hnT];exact st.2.2⟩ λ b o hb e=>by rw [sb.2 b (λ z=>hb (List.mem_singleton.mpr z))];exact e
  done:=λ s' Q E st hQ=>by
    have X':SW w s'.heap a es ep t:=⟨st.2.1,X.fits,X.few,X.led,X.up⟩
    exact s9q hh st.1 st.2.2 X' (List.getElem?_eq_none (by omega)) λ h' he=>hQ h' s'.toks λ b o hb e=>he b o (λ z=>hb (List.mem_singleton.mpr z)) e
  self:=λ i s' Q E st h=>mUq st.1 h
theorem tyS (X:SW w s.heap a es ep t):s.TypeIs (.ref a) "set":=⟨_,X.at_,rfl⟩
theorem aB1q {Q:Value->Shared->Prop} (X:SW w s.heap a es ep t)
    (h1:(!byT w&&(!t.plain&&decide (es.size > 1)))=false->Q (.ref s.heap.objs.size) { s with heap:=s.heap.push (hLq (rawInt 0) 0 a es.size ep) })
    (h2:(!byT w&&(!t.plain&&decide (es.size > 1)))=true->∀ ps d,ps.Perm (List.range es.size)->Q (.ref (s.heap.push (d5q ps)).objs.size) { s with heap:=(s.heap.push (d5q ps)).push (hLq (.ref s.heap.objs.size) 0 a es.size ep),drawn:=d }) :
    wpAny (model prog w) A (pyIter (.ref a)) Q E s:=by
  have hl:=sizeLine_eq
  have hf:=X.few
  refine wpAny_pyIter_slot (tyS X) vDq (wpAny_call_entry vDq (tyS X) zJq ?_ (aB5q _))
  refine (show wpAny (model prog w) A.in1 (Builtin.Frozenset.sizeOf a >>= _) _ _ s from wpAny_bind ?_)
  unfold Builtin.Frozenset.sizeOf
  refine wpAny_bind (wpAny_setEntries_of X.at_ rfl X.fits (wpAny_pure ?_))
  refine wpAny_bind ?_
  unfold setDrawn
  refine wpAny_bind (wpAny_setState_of X.at_ rfl X.fits (wpAny_bind (oUq _ (wpAny_pure ?_))))
  cases c:(!byT w&&(!t.plain&&decide (es.size > 1))) with
  | false=>
    refine (show wpAny (model prog w) A.in1 (if (!byT w&&(!t.plain&&decide (es.size > 1)))=true then _ else _) _ _ s from ?_)
    rw [c,if_neg (by simp)]
    refine wpAny_bind (wpAny_pure (wpAny_bind (wpAny_setEpoch_of X.at_ rfl X.fits ?_)))
    unfold newFields
    refine wpAny_bind (wpAny_newObj_type ?_ (by size_fits))
    exact wpAny_pure ⟨_,rfl,"set_iterator", _,⟨_,Heap.get?_push_size _ rfl,rfl⟩,sNext.lookup,h1 c⟩
  | true=>
    refine (show wpAny (model prog w) A.in1 (if (!byT w&&(!t.plain&&decide (es.size > 1)))=true then _ else _) _ _ s from ?_)
    rw [c,if_pos rfl]
    refine wpAny_bind (draw _ _ _ _ List.length_range λ ps d hp=>?_)
    have hpl:=hp.length_eq
    rw [List.length_range] at hpl
    refine wpAny_bind (wpAny_newTuple ?_ (by rw [List.length_map];omega))
    have X':(s.heap.push (d5q ps)).get? a=some (setAt es ep t):=Heap.get?_push_of_some _ X.at_
    refine wpAny_bind (wpAny_setEpoch_of X' rfl X.fits ?_)
    unfold newFields
    refine wpAny_bind (wpAny_newObj_type ?_ (by size_fits))
    exact wpAny_pure ⟨_,rfl,"set_iterator", _,⟨_,Heap.get?_push_size _ rfl,rfl⟩,sNext.lookup,h2 c ps d hp⟩
end
end KSs
namespace KSs
open PySem PyProof.Rows
section
variable {prog:Program} {w:World} {A:Around} {E:Value->Shared->Prop} {s:Shared} {a:Addr} {es:Array (Int × Value)} {ep:Nat} {t:SetTable}
theorem xAq (X:SW w s.heap a es ep t) {Q:Bool->Shared->Prop} (h:Q false s):wpAny (model prog w) A (Builtin.List.listLengthHint (.ref a)) Q E s:=by
  unfold Builtin.List.listLengthHint
  refine wpAny_bind (wpAny_specialOf (tyS X) sLen.lookup ?_)
  (generalize hid:("set.__len__" : String)=id0;(fail_if_success (clear hid id0));wp_delta;rw [show splitId id0=some ("set", "__len__") from by subst hid;decide +kernel];subst hid)
  exact wpAny_bind (wpAny_isInstance (b:=true) (tyS X) (by rw [isSubtype_type];kernel_rfl) (wpAny_bind (wpAny_typeOf (tyS X) (wpAny_pure h))))
theorem kOq {xs acc:Array Value} {n:Nat} (hn:xs.size=n) (h:ItemsOf (λ i v=>xs[i]?=some v) acc n):acc=xs:=by
  obtain ⟨h1,h2⟩:=h
  apply Array.ext_getElem?
  intro i
  by_cases c:i < acc.size
  . rw [Array.getElem?_eq_getElem c,h2 i _ (Array.getElem?_eq_getElem c)]
  . rw [Array.getElem?_eq_none (by omega),Array.getElem?_eq_none (by omega)]
theorem v1q {S I:Addr} {fp:List Addr} {n c:Nat} {P:Nat->Value->Prop} {St:Nat->Heap->Prop} {res:Value} {R:Result->Shared->Prop} (W:Walks prog w A.in1 I fp [I] n P St) (hn:n<=sizeLine) (hSf:S ∉ fp) (st:St 0 s.heap) (hS:s.heap.get? S=some (KRv.listAt #[] c))
    (h:∀ h' tk acc c',ItemsOf P acc n->h'.get? S=some (KRv.listAt acc c')->(∀ b o,b≠S->b≠I->s.heap.get? b=some o->h'.get? b=some o)->R (.ok (.ret res)) { s with heap:=h',toks:=tk }):codeAny (model prog w) A (.builtin "list.extend.loop" ⟨[.ref S,.ref I,res],[]⟩) R s:=
  codeAny_extend_loopS W.toS hn S hSf res n 0 s #[] c rfl (Nat.zero_le _) st hS (ItemsOf.nil P) λ s' acc c' hm hS' hacc=>by
    rw [KRv.moved_eq hm]
    exact h s'.heap s'.toks acc c' hacc hS' λ b o h1 h2 e=>hm.heap b o (by simp [h1,h2]) e
theorem qHq (es:Array (Int × Value)):∀ (ps:List Nat),ps.Perm (List.range es.size)->(ps.map λ p=>(es.getD p (0,.none)).2).Perm (es.toList.map (·.2)):=λ ps hp=>by
  refine (hp.map _).trans ?_
  have e:(List.range es.size).map (λ p=>(es.getD p (0,.none)).2)=es.toList.map (·.2):=by
    apply List.ext_getElem?
    intro i
    rw [List.getElem?_map,List.getElem?_map]
    by_cases c:i < es.size
    . rw [List.getElem?_range c,Array.getElem?_toList,Array.getElem?_eq_getElem c];simp [Array.getD,c]
    . rw [List.getElem?_eq_none (by simpa using c),List.getElem?_eq_none (by simpa using c)];rfl
  rw [e]
theorem uGq {M:Model} {S:Addr} {c:Nat} {Q:Unit->Shared->Prop} (hS:s.heap.get? S=some (KRv.listAt #[] c)) (h:∀ g c',g.get? S=some (KRv.listAt #[] c')->(∀ b o,b≠S->s.heap.get? b=some o->g.get? b=some o)->Q () { s with heap:=g }):wpAny M A (Builtin.List.listTouch (.ref S)) Q E s:=by
  refine (show wpAny M A (updateSeq S (·.push .none) >>= λ _=>updateSeq S (·.pop)) _ _ _ from wpAny_bind (wpAny_updateSeq hS rfl ?_))
  have e2:=Heap.get?_update_self (Obj.mapSeq (·.push Value.none)) hS rfl
  refine wpAny_updateSeq (hz:=by seq_fits) e2 rfl (h _ _ (Heap.get?_update_self (Obj.mapSeq (·.pop)) e2 rfl) λ b o hb e=>?_)
  exact (Heap.get?_update_other _ _ (Ne.symm hb)).trans ((Heap.get?_update_other _ _ (Ne.symm hb)).trans e)
theorem aD2q {S:Addr} {c:Nat} {res:Value} {R:Result->Shared->Prop} (hh:A.handled=none) (X:SW w s.heap a es ep t) (hS:s.heap.get? S=some (KRv.listAt #[] c)) (hSa:S≠a)
    (h:∀ h' tk d acc c',acc.toList.Perm (es.toList.map (·.2))->h'.get? S=some (KRv.listAt acc c')->(∀ b o,b≠S->s.heap.get? b=some o->h'.get? b=some o)->R (.ok (.ret res)) { s with heap:=h',toks:=tk,drawn:=d }) :
    wpAny (model prog w) A.in1 (Builtin.List.listExtendWith (.ref S) (.ref a) res)
      (λ fin s'=>match fin with | .done f=>R (.ok f) s' | .again c'=>c'.quiet=true/\codeAny (model prog w) A c' R s') (λ e s'=>R (.error e) s') s:=by
  have hl:=sizeLine_eq
  have hf:=X.few
  have alt:=Heap.lt_size X.at_
  have slt:=Heap.lt_size hS
  unfold Builtin.List.listExtendWith
  refine wpAny_bind (wpAny_typeOf (tyS X) ?_)
  have h1:Builtin.List.listSameRef (.ref S) (.ref a)=false:=by simp [Builtin.List.listSameRef,hSa]
  rw [h1,show (Value.type "set"==Value.type "list")=false by decide,show (Value.type "set"==Value.type "tuple")=false by decide,Bool.or_false,Bool.or_false,if_neg Bool.false_ne_true]
  refine wpAny_bind (aB1q X (λ c=>?_) λ c ps d hp=>?_)
  . have e1:(s.heap.push (hLq (rawInt 0) 0 a es.size ep)).get? a=some (setAt es ep t):=Heap.get?_push_of_some _ X.at_
    have X1:SW w (s.heap.push (hLq (rawInt 0) 0 a es.size ep)) a es ep t:=⟨e1,X.fits,X.few,X.led,X.up⟩
    refine wpAny_bind (wpAny_holding (xAq (s:={ s with heap:=s.heap.push (hLq (rawInt 0) 0 a es.size ep) }) X1 ?_))
    rw [if_pos (by simp;decide)]
    refine wpAny_bind (wpAny_rule (wpAny_bind (uGq (s:={ s with heap:=s.heap.push (hLq (rawInt 0) 0 a es.size ep) }) (Heap.get?_push_of_some _ hS) λ g c2 eS kg=>?_)))
    have nIS:s.heap.objs.size≠S:=Nat.ne_of_gt slt
    have e2:=kg a _ (Ne.symm hSa) e1
    have X2:SW w g a es ep t:=⟨e2,X.fits,X.few,X.led,X.up⟩
    have go:∀ (sl:Nat->Nat) (xs:Array Value),sl 0=0->xs.size=es.size->xs.toList.Perm (es.toList.map (·.2))->(∀ (s:Shared),SW w s.heap a es ep t->∀ (A:Around) (E:Value->Shared->Prop) (Q:Option (Value × Nat)->Shared->Prop) (i:Nat),i<=es.size->Q ((xs[i]?).map λ x=>(x,sl (i+1))) s->wpAny (model prog w) A (setNext a (sl i) i ep) Q E s) →
        codeAny (model prog w) A (.builtin "list.extend.loop" ⟨[.ref S,.ref s.heap.objs.size,res],[]⟩) R { s with heap:=g }:=λ sl xs h0 hx hp hN=>by
      refine v1q (s:={ s with heap:=g }) (zNq (s:={ s with heap:=g }) (show A.in1.handled=none from hh) (Nat.ne_of_lt alt) sl xs hx hN X2) (by omega) ?_ ⟨by rw [h0];exact kg _ _ nIS (Heap.get?_push_size _ rfl),e2⟩ eS λ h' tk acc c' hI hS' kk=>h h' tk s.drawn acc c' (by rw [kOq hx hI];exact hp) hS' λ b o hb e=>kk b o hb (Nat.ne_of_lt (Heap.lt_size e)) (kg b o hb (Heap.get?_push_of_some _ e))
      simp only [List.mem_cons,List.not_mem_nil,or_false,not_or]
      exact ⟨Nat.ne_of_lt slt,hSa⟩
    refine wpAny_pure ⟨plainId_quiet F.plain_extend_loop _,?_⟩
    cases hb:byT w with
    | true=>
      have pm:=iYq (w.params.setOrder a ep) es
      refine go (λ _=>0) ((pickOrder (w.params.setOrder a ep) es).map (·.2)) rfl (by rw [Array.size_map,<- Array.length_toList,pm.length_eq,Array.length_toList]) (by rw [Array.toList_map];exact pm.map _) λ s' X' A' E' Q' i _ q=>z0q hb X' ?_
      rw [Array.getElem?_map,Option.map_map] at q
      exact q
    | false=>
      rw [hb] at c
      refine go (cCq t) (es.map (·.2)) rfl (by rw [Array.size_map]) (by rw [Array.toList_map]) λ s' X' A' E' Q' i hi q=>zBq hb (by simpa using c) X' hi ?_
      rw [Array.getElem?_map,Option.map_map] at q
      exact q
  . have hpl:=hp.length_eq
    rw [List.length_range] at hpl
    have sz:(s.heap.push (d5q ps)).objs.size=s.heap.objs.size+1:=Heap.size_push ..
    have e1:((s.heap.push (d5q ps)).push (hLq (.ref s.heap.objs.size) 0 a es.size ep)).get? a=some (setAt es ep t):=Heap.get?_push_of_some _ (Heap.get?_push_of_some _ X.at_)
    have X1:SW w ((s.heap.push (d5q ps)).push (hLq (.ref s.heap.objs.size) 0 a es.size ep)) a es ep t:=⟨e1,X.fits,X.few,X.led,X.up⟩
    refine wpAny_bind (wpAny_holding (xAq (s:={ s with heap:=(s.heap.push (d5q ps)).push (hLq (.ref s.heap.objs.size) 0 a es.size ep),drawn:=d }) X1 ?_))
    rw [if_pos (by simp;decide)]
    refine wpAny_bind (wpAny_rule (wpAny_bind (uGq (s:={ s with heap:=(s.heap.push (d5q ps)).push (hLq (.ref s.heap.objs.size) 0 a es.size ep),drawn:=d }) (Heap.get?_push_of_some _ (Heap.get?_push_of_some _ hS)) λ g c2 eS kg=>?_)))
    refine wpAny_pure ⟨plainId_quiet F.plain_extend_loop _,?_⟩
    have lt1:a < (s.heap.push (d5q ps)).objs.size:=by rw [sz];exact Nat.lt_succ_of_lt alt
    have lt2:S < (s.heap.push (d5q ps)).objs.size:=by rw [sz];exact Nat.lt_succ_of_lt slt
    have lt3:s.heap.objs.size < (s.heap.push (d5q ps)).objs.size:=by rw [sz];exact Nat.lt_succ_self _
    have e2:=kg a _ (Ne.symm hSa) e1
    have X2:SW w g a es ep t:=⟨e2,X.fits,X.few,X.led,X.up⟩
    refine v1q (s:={ s with heap:=g,drawn:=d }) (aB0q (T:=s.heap.objs.size) (s:={ s with heap:=g,drawn:=d }) (show A.in1.handled=none from hh) (Nat.ne_of_lt lt1) (Nat.ne_of_lt lt3) ps hpl (λ p hp'=>List.mem_range.mp (hp.mem_iff.mp hp')) X2) (by omega) ?_ ⟨kg _ _ (Nat.ne_of_gt lt2) (Heap.get?_push_size _ rfl),e2,kg _ _ (Nat.ne_of_gt slt) (Heap.get?_push_of_some _ (Heap.get?_push_size _ rfl))⟩ eS λ h' tk acc c' hI hS' kk=>h h' tk d acc c' ?_ hS' λ b o hb e=>kk b o hb ?_ (kg b o hb (Heap.get?_push_of_some _ (Heap.get?_push_of_some _ e)))
    . simp only [List.mem_cons,List.not_mem_nil,or_false,not_or]
      exact ⟨Nat.ne_of_lt lt2,hSa,Nat.ne_of_lt slt⟩
    . rw [kOq (by rw [List.size_toArray,List.length_map];exact hpl) hI,List.toList_toArray]
      exact qHq es ps hp
    . exact Nat.ne_of_lt (Nat.lt_trans (Heap.lt_size e) lt3)
theorem qQq {Q:List Value->Shared->Prop} (hh:A.handled=none) (X:SW w s.heap a es ep t)
    (h:∀ h' tk d (vs:List Value),vs.Perm (es.toList.map (·.2))->(∀ b o,s.heap.get? b=some o->h'.get? b=some o)->Q vs { s with heap:=h',toks:=tk,drawn:=d }):wpAny (model prog w) A (collect (.ref a)) Q E s:=by
  unfold collect
  refine wpAny_bind (wpAny_runValue (codeAny_builtin F.entry_proto_collect ?_))
  rw [Around.under_plainId F.plain_proto_collect _]
  refine (show wpAny (model prog w) A.in1 (newList [] >>= λ l=>again (.builtin "list.__iadd__" ⟨[l,.ref a],[]⟩)) _ _ s from wpAny_bind (wpAny_newObj_type (wpAny_pure ⟨plainId_quiet F.plain_list_iadd _,codeAny_builtin F.entry_list_iadd ?_⟩)))
  rw [Around.under_plainId F.plain_list_iadd _]
  have X1:SW w (s.heap.push (KRv.listAt #[] 0)) a es ep t:=⟨Heap.get?_push_of_some _ X.at_,X.fits,X.few,X.led,X.up⟩
  have fin:∀ s',(∃ h' tk d acc c',s'={ s with heap:=h',toks:=tk,drawn:=d }/\acc.toList.Perm (es.toList.map (·.2))/\h'.get? s.heap.objs.size=some (KRv.listAt acc c')/\∀ b o,s.heap.get? b=some o->h'.get? b=some o) →
      wpAny (model prog w) A (do
        match (← load s.heap.objs.size).data with
        | .seq xs _=>pure xs.toList
        | _=>unsupported "internal:collect") Q E s':=by
    rintro s' ⟨h',tk,d,acc,c',rfl,hp,e,k⟩
    exact wpAny_bind (wpAny_load e (wpAny_pure (h h' tk d acc.toList hp k)))
  refine (show wpAny (model prog w) A.in1 (Builtin.List.listExtendWith (.ref s.heap.objs.size) (.ref a) (.ref s.heap.objs.size)) _ _ _ from ?_)
  refine wpAny_mono (aD2q (s:={ s with heap:=s.heap.push (KRv.listAt #[] 0) }) (R:=λ r s'=>r=.ok (.ret (.ref s.heap.objs.size))/\∃ h' tk d acc c',s'={ s with heap:=h',toks:=tk,drawn:=d }/\acc.toList.Perm (es.toList.map (·.2))/\h'.get? s.heap.objs.size=some (KRv.listAt acc c')/\∀ b o,s.heap.get? b=some o->h'.get? b=some o) hh X1 (Heap.get?_push_size _ rfl) (Nat.ne_of_gt (Heap.lt_size X.at_))
    (λ h' tk d acc c' hp e k=>⟨rfl,h',tk,d,acc,c',rfl,hp,e,λ b o eb=>k b o (Nat.ne_of_lt (Heap.lt_size eb)) (Heap.get?_push_of_some _ eb)⟩)) (λ fn s' h=>?_) (λ e s' h=>absurd h.1 (by simp))
  cases fn with
  | done f=>
    obtain ⟨e,h⟩:=h
    cases e
    exact fin s' h
  | again c'=>exact ⟨h.1,codeAny_mono h.2 λ r s'' hr=>by obtain ⟨rfl,hr⟩:=hr;exact fin s'' hr⟩
end
end KSs
namespace KSs
open PySem PyProof.Rows
section
variable {prog:Program} {w:World} {A:Around} {E:Value->Shared->Prop} {s:Shared} {a:Addr} {es:Array (Int × Value)} {ep:Nat} {t:SetTable}
theorem mCq:∀ {vs:List Value},(∀ v∈vs,∃ u,v=.int (bMq v) u)->IntsAre vs (vs.map bMq)
  | [],_=>IntsAre.nil
  | v::vs,h=>by
    obtain ⟨u,e⟩:=h v (List.mem_cons_self ..)
    rw [List.map_cons,e]
    exact IntsAre.cons _ _ (mCq λ x hx=>h x (List.mem_cons_of_mem _ hx))
theorem sortedS {Q:Value->Shared->Prop} (hh:A.handled=none) (X:SW w s.heap a es ep t) (hall:AllI es.toList) (h64:es.size < 64)
    (h:∀ (h1 h':Heap) (tk:Nat) (d:Drawn) (out:Array Value) (c:Nat) (ns':List Int),IntsAre out.toList ns'->ns'.Perm (keys es)->ns'.Pairwise (·<=·)->(∀ b o,s.heap.get? b=some o->h1.get? b=some o)->(∀ b o,h1.get? b=some o->h'.get? b=some o)->h'.get? h1.objs.size=some (KRv.listAt out c)->Q (.ref h1.objs.size) { s with heap:=h',toks:=tk,drawn:=d }) :
    wpAny (model prog w) A (call (.builtin "sorted") [.ref a]) Q E s:=by
  refine Calls.call_function_entry kind_sorted plain_sorted entry_sorted (args_sorted1 _) ?_
  unfold Builtin.«sorted»
  refine wpAny_bind (m:=checkCount "sorted" 1 1 _) (wpAny_pure (wpAny_bind (qQq (show A.in1.handled=none from hh) X λ h' tk d vs hp k=>?_)))
  have hl:=sizeLine_eq
  have hlen:vs.length=es.size:=by have z:=hp.length_eq;simpa using z
  have hi:IntsAre vs (vs.map bMq):=mCq λ v hv=>by
    obtain ⟨e,he,rfl⟩:=List.mem_map.mp (hp.mem_iff.mp hv)
    exact (hall e he).1
  have hks:(vs.map bMq).Perm (keys es):=by
    have z:=hp.map bMq
    rwa [List.map_map] at z
  have hO:(h'.push (KRv.listAt vs.toArray 0)).get? h'.objs.size=some (KRv.listAt vs.toArray 0):=Heap.get?_push_size _ rfl
  refine wpAny_bind (wpAny_newObj_type ?_ (by show vs.toArray.size<=sizeLine;rw [List.size_toArray];omega))
  refine wpAny_bind (wpAny_holding (wpAny_call_entry slot_list_sort ⟨_,hO,rfl⟩ entry_list_sort (list_sort_tree hO hi (by omega) λ out ns' a1 a2 a3=>⟨_,rfl,?_⟩) (args_list_sort _)))
  obtain ⟨c,hc⟩:=sortedHeap_at (out:=out) hO
  refine wpAny_pure ⟨_,rfl,h h' _ _ _ out c ns' a1 (a2.trans hks) a3 k (λ b o z=>?_) hc⟩
  rw [sortedHeap_old (Nat.ne_of_lt (Heap.lt_size z)) (by rw [Heap.size_push];exact Nat.lt_succ_of_lt (Heap.lt_size z))]
  exact Heap.get?_push_of_some _ z
end
end KSs
namespace L2
open PySem PySem.Spec PyProof.Rows
section
variable {X:Cx} {e:Expr} {te:TE} {p p2 pos pos2:Pos}
theorem Inv.drew {pins:List (Addr × Obj)} {σ:St} {H:Hp} {s:Shared} {d:Drawn} (I:Inv X pins σ H s):Inv X pins σ H { s with drawn:=d }:=⟨I.ok,I.os,I.bare,I.base,I.loc,I.cell,I.free,I.freeC,I.pin,I.hok,I.len⟩
theorem fBq:∀ {ns:List Int} {us:List Value},Vals (ns.map V.int) us->IntsAre us ns
  | [],_,h=>by cases h;exact IntsAre.nil
  | n::ns,_,h=>by
    cases h with
    | cons r rr=>
      obtain ⟨t,rfl⟩:=r
      exact IntsAre.cons _ _ (fBq rr)
def Srt (ns ms:List Int):Prop:=ms.Pairwise (· < ·)/\∀ j,j∈ms ↔ j∈ns
theorem xTq {ns ms ks:List Int} (hnd:ks.Nodup) (hm:∀ j,j∈ks ↔ j∈ns) (hp:ms.Perm ks) (hs:ms.Pairwise (·<=·)):Srt ns ms:=by
  have nd:ms.Nodup:=hp.nodup_iff.mpr hnd
  refine ⟨?_,λ j=>by rw [hp.mem_iff,hm]⟩
  have z:ms.Pairwise λ a b=>a<=b/\a≠b:=List.pairwise_and_iff.mpr ⟨hs,nd⟩
  exact z.imp λ h=>by omega
def tSS (K:PySem.W.Frag) (te:TE):TE:=λ σ H Q=>te σ H λ x H1=>∃ (l:Addr) (ns:List Int),x=.ref l/\SqL K H1 l (ns.map V.int)/\ns.length < 64/\∀ ms,Srt ns ms->∀ l',H1 l'=none->Q (.ref l') (upd H1 l' (.lst (ms.map V.int)))
theorem gKq {pins:List (Addr × Obj)} {σ:St} {H:Hp} {s:Shared} {a:Addr} {es:Array (Int × Value)} {ep:Nat} {t:SetTable} {Q:VK} {ns:List Int} (hc:X.calm=true) (I:Inv X pins σ H s) (W:KSs.SW X.w s.heap a es ep t) (hall:KSs.AllI es.toList) (hnd:(KSs.keys es).Nodup) (h64:es.size < 64) (hm:∀ j,j∈KSs.keys es ↔ j∈ns)
    (q:∀ ms,Srt ns ms->∀ l',H l'=none->Q (.ref l') (upd H l' (.lst (ms.map V.int)))):wpAny (model X.prog X.w) X.A (call (.builtin "sorted") [.ref a]) (EP X pins σ Q) X.xe s:=by
  have hl:=sizeLine_eq
  refine KSs.sortedS (I.ok.hd hc) W hall h64 λ h1 h' tk d out c ms a1 a2 a3 k1 k2 e=>?_
  have I1:Inv X pins σ H { s with heap:=h1 }:=I.kept (t':=s.toks) k1
  have len:ms.length<=sizeLine:=by
    have z:=a2.length_eq
    have z2:(KSs.keys es).length=es.size:=by simp [KSs.keys]
    omega
  have I2:Inv X pins σ (upd H h1.objs.size (.lst (ms.map V.int))) { s with heap:=h',toks:=tk }:=
    I1.laid (t':=tk) k2 (Nat.le_refl _) (show ObjOk X.prog X.w _ h' _ (.lst (ms.map V.int)) from ⟨by rw [List.length_map];exact len,out.toList,c,fIq a1,by simpa using e⟩)
  exact ⟨.ref h1.objs.size,_,I2.drew (d:=d),rfl,q ms (xTq hnd hm a2 a3) _ (I1.hok.fresh (Nat.le_refl _))⟩
theorem vVq {pins:List (Addr × Obj)} {s:Shared} {σ:St} {H:Hp} {R:Addr->List Int->Hp->Prop} (hc:X.calm=true) (hg:Gl X "set") (hm:X.mg "set" = none) (he:PE X e te) (hs:aSq e=true) (I:Inv X pins σ H s)
    (h:te σ H λ x H1=>∃ (l:Addr) (ns:List Int),x=.ref l/\SqL X.K H1 l (ns.map V.int)/\ns.length < 64/\R l ns H1) :
    wpAny (model X.prog X.w) X.A (eval (.Call (.Name "set" p2) [e] [] pos2) X.env) (λ v s'=>∃ (l S:Addr) (ns:List Int) (H1:Hp) (es:Array (Int × Value)) (ep:Nat) (t:SetTable),v=.ref S/\Inv X pins σ H1 s'/\KSs.SX X.w s'.heap S es ep t/\H1 S=none/\es.size<=ns.length/\ns.length < 64/\(∀ j,j∈KSs.keys es ↔ j∈ns)/\R l ns H1) X.xe s:=by
  refine wpAny_Call_Name_kw (c3q I hg hm PyProof.Rows.boot_set ?_)
  refine PyProof.Rows.callWith_type1 ?_ (a9q hs) rfl
  rw [a9q hs]
  show wpAny _ _ (spliced ((false,eval e X.env)::backTo pos2 (starEach [] X.env))) _ _ s
  refine Calls.spliced_cons (thn (he pins s σ H _ I h) λ u s1 ⟨x,H1,I1,r1,l,ns,ex,hq,hl,q⟩=>Calls.spliced_nil ?_)
  subst ex
  cases r1
  obtain ⟨its,rv,pl,hz⟩:=I1.list hq
  have hlen:=rv.length
  rw [List.length_map] at hlen
  refine KSs.ofList (items:=its.toArray) (ns:=ns) (I1.ok.hd hc) pl.isList (by simpa using fBq rv) (by rw [List.size_toArray];omega) λ h' tk es ep t SX z m k=>?_
  exact ⟨l,s1.heap.objs.size,ns,H1,es,ep,t,rfl,I1.kept (t':=tk) k,SX,I1.hok.fresh (Nat.le_refl _),by have y:its.toArray.size=its.length:=List.size_toArray;omega,hl,m,q⟩
theorem iWq (hc:X.calm=true) (hgs:Gl X "sorted") (hms:X.mg "sorted" = none) (hg:Gl X "set") (hm:X.mg "set" = none) (he:PE X e te) (hs:aSq e=true):PE X (.Call (.Name "sorted" p) [.Call (.Name "set" p2) [e] [] pos2] [] pos) (tSS X.K te):=by
  intro pins s σ H Q I h
  refine wpAny_Call_Name_kw (c3q I hgs hms PyProof.Rows.boot_sorted ?_)
  refine PyProof.Rows.callWith_builtin1 ?_ (a9q rfl) rfl
  rw [a9q rfl]
  show wpAny _ _ (spliced ((false,eval (.Call (.Name "set" p2) [e] [] pos2) X.env)::backTo pos (starEach [] X.env))) _ _ s
  refine Calls.spliced_cons (thn (vVq (R:=λ _ ns H1=>∀ ms,Srt ns ms->∀ l',H1 l'=none->Q (.ref l') (upd H1 l' (.lst (ms.map V.int)))) hc hg hm he hs I h) λ v s1 h1=>Calls.spliced_nil ?_)
  obtain ⟨l,S,ns,H1,es,ep,t,rfl,I1,SX,_,z,hl,m,q⟩:=h1
  exact gKq hc I1 SX.sw SX.all SX.nd (by omega) m q
end
end L2
namespace L3
open PySem PyProof L2
section
variable {X:Cx} {e:Expr} {te:DTE} {p p2 pos pos2:Pos}
abbrev dSS (te:DTE):DTE:=λ ρ G Q=>te ρ G λ x G1=>match x with
  | .ref l=>onL G1 l λ ds=>∃ ns,e9q ds=some ns/\ns.length < 64/\∀ ms,Srt ns ms->∀ l',G1 l'=none->Q (.ref l') (up G1 l' (.lst (ms.map D.int)))
  | _=>False
theorem j7q (hgs:Gl X "sorted") (hms:X.mg "sorted" = none) (hg:Gl X "set") (hm:X.mg "set" = none) (he:AE X e te) (hc:X.calm=true:=by rfl) (hs:aSq e=true:=by rfl):AE X (.Call (.Name "sorted" p) [.Call (.Name "set" p2) [e] [] pos2] [] pos) (dSS te):=by
  obtain ⟨ce,je,re⟩:=he.run
  refine ⟨_,⟨iWq hc hgs hms hg hm je.run hs⟩,λ ρ G DQ σ H Q B q F=>re ρ G _ σ H _ B q λ x G1 v H1 g1 ax q1=>?_⟩
  cases x with
  | ref l=>
    cases ax
    obtain ⟨ds,vs,⟨ns,e1,hl,k⟩,s,rl⟩:=bDq g1.vw q1
    rw [fAq e1] at rl
    rw [rl.ints] at s
    exact ⟨l,ns,rfl,s,hl,λ ms hs l' hl'=>F (.ref l') _ _ _ (g1.trans (Go.newL g1.vw hl' (AbsL.of_ints ms))) rfl (k ms hs l' (g1.vw.none hl'))⟩
  | _=>exact (show False from q1).elim
end
end L3
namespace L2
open PySem PySem.Spec PyProof.Rows
section
variable {X:Cx}
end
end L2
namespace L3
open PySem PyProof L2
section
variable {X:Cx}
end
end L3
namespace KSs
open PySem PyProof.Rows
section
variable {prog:Program} {w:World} {A:Around} {E:Value->Shared->Prop} {s:Shared} {a:Addr} {es:Array (Int × Value)} {ep:Nat} {t:SetTable}
structure SR (w:World) (h:Heap) (a:Addr) (es:Array (Int × Value)) (ep:Nat) (t:SetTable):Prop extends SW w h a es ep t where
  all:AllI es.toList
theorem SX.sr {h:Heap} (X:SX w h a es ep t):SR w h a es ep t:=⟨X.sw,X.all⟩
theorem SX.mono {h h':Heap} (X:SX w h a es ep t) (e:h'.get? a=some (setAt es ep t)):SX w h' a es ep t:=⟨e,X.all,X.nd,X.fits,X.few,X.cl⟩
theorem uOq {k:Int} {u:Tok} {Q:Option Nat->Shared->Prop} (X:SR w s.heap a es ep t) (h:Q (es.toList.findIdx? λ e=>(intKind prog w).is k e.2) s):wpAny (model prog w) A (setFind a (.int k u) (hashInt k)) Q E s:=by
  have els:=X.all.elems (prog:=prog) (w:=w)
  have sb:es.size < scanBound:=by have:=X.few;unfold scanBound;omega
  unfold setFind setFindIn
  refine wpAny_bind (wpAny_setState_of X.at_ rfl X.fits ?_)
  dsimp only
  rw [byScan_of (knd:=intKind prog w) (x:=.int k u) rfl sb els,if_pos rfl]
  refine wpAny_bind (wpAny_rule (wpAny_bind (wpAny_setScan_of (knd:=intKind prog w) (k:=k) (intKind_is _ _ _ _) X.at_ rfl X.fits els ?_)))
  cases hi:List.findIdx? (λ e=>(intKind prog w).is k e.2) es.toList with
  | some j=>rw [hi] at h;dsimp only;rw [Nat.zero_add];exact wpAny_pure h
  | none=>rw [hi] at h;exact wpAny_pure h
theorem n3q (hall:AllI es.toList) (k:Int):(es.toList.findIdx? λ e=>(intKind prog w).is k e.2).isSome=decide (k∈keys es):=by
  rw [Bool.eq_iff_iff,decide_eq_true_eq]
  have z:(es.toList.findIdx? λ e=>(intKind prog w).is k e.2).isSome=true ↔ ∃ e∈es.toList,(intKind prog w).is k e.2=true:=by
    rw [List.findIdx?_isSome,List.any_eq_true]
  rw [z,hall.met]
theorem xWq {Q:Array (Int × Value)->Shared->Prop} (X:SW w s.heap a es ep t) (h:∀ (xs:Array (Int × Value)) (d:Drawn),xs.toList.Perm es.toList->Q xs { s with drawn:=d }):wpAny (model prog w) A (setWalk a) Q E s:=by
  unfold setWalk
  refine wpAny_bind (wpAny_setState_of X.at_ rfl X.fits (wpAny_bind (oUq _ ?_)))
  cases hb:byT w with
  | true=>rw [if_pos rfl];exact wpAny_bind (wpAny_askSetting (wpAny_pure (h _ s.drawn (iYq _ es))))
  | false=>
    rw [if_neg (by simp)]
    refine (show wpAny (model prog w) A (if (!t.plain&&decide (es.size > 1))=true then _ else _) _ _ s from ?_)
    split
    . exact wpAny_bind (draw _ _ _ _ (by simp) λ ys d hp=>wpAny_pure (h ys.toArray d (by simpa using hp)))
    . refine (show wpAny (model prog w) A ((if (!t.led&&decide (es.size > 1))=true then unsupported "set:maker-not-led" else pure ()) >>= λ _=>_) _ _ s from ?_)
      rw [X.led hb,if_neg (by simp)]
      exact wpAny_bind (wpAny_pure (wpAny_pure (h es s.drawn (.refl _))))
theorem y3q:∀ (as:List Addr) (s:Shared) (Q:Bool->Shared->Prop),(∀ b∈as,∃ es ep t,SR w s.heap b es ep t)->Q true s->wpAny (model prog w) A (setsQuiet as) Q E s:=by
  intro as s Q hs q
  unfold setsQuiet
  refine wpAny_bind (wpAny_forIn_list _ (λ rest r s'=>r=(none,PUnit.unit)/\s'=s/\∀ b∈rest,∃ es ep t,SR w s.heap b es ep t) _ ?_ ?_ _ _ ⟨rfl,rfl,hs⟩)
  . rintro b rest r s' ⟨rfl,rfl,hr⟩
    obtain ⟨es,ep,t,X⟩:=hr b (List.mem_cons_self ..)
    refine wpAny_bind (wpAny_setEntries_of X.at_ rfl X.fits ?_)
    refine wpAny_bind (wpAny_mono (MeetsSeq2.wpAny_forIn_array _ (λ rs r s2=>r=(none,PUnit.unit)/\s2=s'/\∀ e∈rs,∃ u,e.2=.int (bMq e.2) u) (λ r s2=>r=(none,PUnit.unit)/\s2=s') ?zt (λ r s2 h=>⟨h.1,h.2.1⟩) es _ ⟨rfl,rfl,λ e he=>(X.all e he).1⟩) ?zp λ _ _ h=>h)
    case zt=>
      rintro e rs r s2 ⟨rfl,rfl,h2⟩
      obtain ⟨e1,e2⟩:=e
      obtain ⟨u,hu⟩:=h2 (e1,e2) (List.mem_cons_self ..)
      dsimp only at hu ⊢
      rw [hu]
      exact wpAny_pure ⟨rfl,rfl,λ e he=>h2 e (List.mem_cons_of_mem _ he)⟩
    case zp=>
      rintro r s2 ⟨rfl,rfl⟩
      exact wpAny_pure ⟨rfl,rfl,λ b hb=>hr b (List.mem_cons_of_mem _ hb)⟩
  . rintro r s' ⟨rfl,rfl,_⟩
    exact wpAny_pure q
theorem yVq {f:Addr} {os:List Addr} {ef:Array (Int × Value)} {pf:Nat} {tf:SetTable} {Q:Array (Int × Value)->Shared->Prop} (X:SR w s.heap a es ep t) (hos:∀ b∈os,∃ es ep t,SR w s.heap b es ep t) (Y:SX w s.heap f ef pf tf)
    (h:∀ (xs:Array (Int × Value)) (h':Heap) (d:Drawn) (pf':Nat) (tf':SetTable),xs.toList.Perm es.toList->Heap.SameBut f s.heap h'->SX w h' f ef pf' tf'->Q xs { s with heap:=h',drawn:=d }):wpAny (model prog w) A (setWalkUnseen a os (some f)) Q E s:=by
  unfold setWalkUnseen
  refine wpAny_bind (wpAny_setState_of X.at_ rfl X.fits (wpAny_bind (oUq _ ?_)))
  have byWalk:wpAny (model prog w) A (setWalk a) Q E s:=xWq X.toSW λ xs d hp=>h xs s.heap d pf tf hp (Heap.SameBut.refl f _) Y
  split
  . exact byWalk
  . next c=>
    have hb:byT w=false:=by
      cases e:byT w with
      | false=>rfl
      | true=>rw [e] at c;exact absurd rfl c
    refine wpAny_bind (y3q _ s _ (λ b hb=>?_) ?_)
    . rcases List.mem_cons.mp hb with rfl | hb
      . exact ⟨es,ep,t,X⟩
      . exact hos b hb
    rw [if_neg (by simp)]
    refine wpAny_bind (wpAny_rule ?_)
    refine wpAny_bind (wpAny_setState_of Y.at_ rfl Y.fits ?_)
    dsimp only
    split
    . refine wpAny_bind (wpAny_storeSet_of Y.at_ rfl (wpAny_pure ?_) (eNq Y.few))
      refine h es _ s.drawn (pf+1) _ (.refl _) (Heap.SameBut.update s.heap f _) ⟨dUq Y.at_ _ _,Y.all,Y.nd,Y.fits,Y.few,Y.cl.up,λ z=>?_,Y.cl.nod⟩
      show (tf.led&&t.led)=true
      rw [Y.cl.led z,X.led z];rfl
    . exact wpAny_pure (h es s.heap s.drawn pf tf (.refl _) (Heap.SameBut.refl f _) Y)
theorem xSq (X:SW w s.heap a es ep t) {Q:Value->Shared->Prop} (h:Q (.type "set") s):wpAny (model prog w) A (Builtin.Frozenset.baseOf a) Q E s:=by
  unfold Builtin.Frozenset.baseOf
  refine wpAny_bind (wpAny_isInstance (tyS X) sub_set_self (wpAny_pure ?_))
  rw [if_pos rfl];exact h
theorem nQq {Q:Value->Shared->Prop} (h:Q (.ref s.heap.objs.size) { s with heap:=s.heap.push (gQq w) }):wpAny (model prog w) A (newSet (.type "set")) Q E s:=by
  unfold newSet
  refine wpAny_bind (oUq _ ?_)
  unfold newObj
  exact wpAny_bind (wpAny_alloc (wpAny_pure h))
theorem yJq (X:SW w s.heap a es ep t) {Q:Bool->Shared->Prop} (h:Q true s):wpAny (model prog w) A (Builtin.Frozenset.isAnySet (.ref a)) Q E s:=by
  unfold Builtin.Frozenset.isAnySet
  refine (show wpAny (model prog w) A (isInstance (.ref a) (.type "set") >>= λ(b:Bool)=>_) _ _ s from wpAny_bind (wpAny_isInstance (tyS X) sub_set_self ?_))
  exact wpAny_pure h
theorem u3q {id:String} (X:SW w s.heap a es ep t) {Q:Unit->Shared->Prop} (h:Q () s):wpAny (model prog w) A (Builtin.Frozenset.unchanged id a ep) Q E s:=by
  unfold Builtin.Frozenset.unchanged
  refine wpAny_bind (wpAny_setEpoch_of X.at_ rfl X.fits ?_)
  rw [if_neg (by simp)]
  exact wpAny_pure h
theorem p8q (X:SW w s.heap a es ep t) {Q:Nat->Shared->Prop} (h:Q es.size s):wpAny (model prog w) A (Builtin.Frozenset.sizeOf a) Q E s:=by
  unfold Builtin.Frozenset.sizeOf
  exact wpAny_bind (wpAny_setEntries_of X.at_ rfl X.fits (wpAny_pure h))
end
end KSs
namespace KSs
open PySem PyProof.Rows
def nx (S i:Nat):Nat:=(i * 5+1) % S
def orb (S:Nat):Nat->Nat->List Nat
  | 0,_=>[]
  | n+1,i=>i::orb S n (nx S i)
def itn (S:Nat):Nat->Nat->Nat
  | 0,i=>i
  | n+1,i=>itn S n (nx S i)
theorem oQq (S:Nat):∀ (n i b:Nat),b < n->(orb S n i)[b]?=some (itn S b i)
  | 0,_,_,h=>by omega
  | n+1,i,0,_=>rfl
  | n+1,i,b+1,h=>by rw [orb,List.getElem?_cons_succ,oQq S n _ b (by omega)];rfl
theorem jLq (S:Nat):∀ n i,(orb S n i).length=n
  | 0,_=>rfl
  | n+1,i=>by rw [orb,List.length_cons,jLq S n]
theorem hFq (S:Nat):∀ (a b i:Nat),itn S (a+b) i=itn S b (itn S a i)
  | 0,b,i=>by rw [Nat.zero_add];rfl
  | a+1,b,i=>by rw [show a+1+b=(a+b)+1 by omega,itn,hFq S a b];rfl
def gZq (S:Nat):Bool:=((List.range S).all λ f=>(orb S S 0).contains f)&&itn S S 0==0
theorem l3q {S:Nat} (h:gZq S=true) {i f:Nat} (hi:i < S) (hf:f < S):∃ m,m < S/\itn S m i=f:=by
  unfold gZq at h
  rw [Bool.and_eq_true,List.all_eq_true,beq_iff_eq] at h
  have at_:∀ x,x < S->∃ b,b < S/\itn S b 0=x:=λ x hx=>by
    have z:=h.1 x (List.mem_range.mpr hx)
    have z2:x∈orb S S 0:=by simpa using z
    obtain ⟨b,hb,e⟩:=List.getElem_of_mem z2
    rw [jLq] at hb
    refine ⟨b,hb,?_⟩
    have e2:=oQq S S 0 b hb
    rw [List.getElem?_eq_getElem (by rw [jLq];exact hb),e] at e2
    exact (Option.some.inj e2).symm
  obtain ⟨a,ha,rfl⟩:=at_ i hi
  obtain ⟨b,hb,rfl⟩:=at_ f hf
  rcases Nat.lt_or_ge b a with c | c
  . refine ⟨S - a+b,by omega,?_⟩
    rw [<- hFq,show a+(S - a+b)=S+b by omega,hFq,h.2]
  . exact ⟨b - a,by omega,by rw [<- hFq,show a+(b - a)=b by omega]⟩
theorem v0q:gZq 32=true:=by decide +kernel
theorem xCq:gZq 64=true:=by decide +kernel
theorem u8q:gZq 128=true:=by decide +kernel
theorem pGq {mask:Nat} {ow:Array (Option Nat)} {i p fuel:Nat} (h:ow.getD i (some 0)=none):∃ j,SetTable.layClean.free mask ow (fuel+1) i p=some j:=by
  unfold SetTable.layClean.free
  have z:((List.range (SetTable.runEnd mask i+1 - i)).find? λ k=>(ow.getD (i+k) (some 0)).isNone).isSome=true:=by
    rw [List.find?_isSome]
    refine ⟨0,List.mem_range.mpr ?_,by rw [Nat.add_zero,h];rfl⟩
    unfold SetTable.runEnd;split<;>omega
  cases e:(List.range (SetTable.runEnd mask i+1 - i)).find? λ k=>(ow.getD (i+k) (some 0)).isNone with
  | none=>rw [e] at z;cases z
  | some k=>exact ⟨i+k,rfl⟩
theorem gHq {mask:Nat} {ow:Array (Option Nat)} {i p fuel:Nat} (h:∃ j,SetTable.layClean.free mask ow fuel (SetTable.leap mask i p).1 (SetTable.leap mask i p).2=some j):∃ j,SetTable.layClean.free mask ow (fuel+1) i p=some j:=by
  rw [SetTable.layClean.free]
  cases e:(List.range (SetTable.runEnd mask i+1 - i)).find? λ k=>(ow.getD (i+k) (some 0)).isNone with
  | none=>exact h
  | some k=>exact ⟨i+k,rfl⟩
theorem kDq {mask:Nat} {ow:Array (Option Nat)}:∀ (m i fuel:Nat),m < fuel->ow.getD (itn (mask+1) m i) (some 0)=none->∃ j,SetTable.layClean.free mask ow fuel i 0=some j
  | 0,i,fuel+1,_,h=>pGq h
  | m+1,i,fuel+1,hm,h=>by
    refine gHq ?_
    have e:SetTable.leap mask i 0=(nx (mask+1) i,0):=by unfold SetTable.leap nx;simp
    rw [e]
    exact kDq m _ fuel (by omega) h
theorem k5q {mask:Nat} {ow:Array (Option Nat)} (hS:gZq (mask+1)=true) {f:Nat} (hf:f<=mask) (hfr:ow.getD f (some 0)=none):∀ (n i p fuel:Nat),p < 32 ^ n->i<=mask->n+mask+1<=fuel->∃ j,SetTable.layClean.free mask ow fuel i p=some j
  | 0,i,p,fuel,hp,hi,hfu=>by
    have:p=0:=by simp at hp;exact hp
    subst this
    obtain ⟨m,hm,e⟩:=l3q hS (i:=i) (f:=f) (by omega) (by omega)
    exact kDq m i fuel (by omega) (by rw [e];exact hfr)
  | n+1,i,p,fuel,hp,hi,hfu=>by
    obtain ⟨k,rfl⟩:∃ k,fuel=k+1:=⟨fuel - 1,by omega⟩
    refine gHq (k5q hS hf hfr n _ _ k ?_ ?_ (by omega))
    . show p / 32 < 32 ^ n
      rw [Nat.div_lt_iff_lt_mul (by decide)]
      rw [Nat.pow_succ] at hp;exact hp
    . show (i * 5+1+p / 32) % (mask+1)<=mask
      have:=Nat.mod_lt (i * 5+1+p / 32) (show 0 < mask+1 by omega)
      omega
theorem oTq {mask:Nat} {ow:Array (Option Nat)}:∀ (fuel i p j:Nat),SetTable.layClean.free mask ow fuel i p=some j->ow.getD j (some 0)=none
  | 0,_,_,_,h=>by cases h
  | fuel+1,i,p,j,h=>by
    rw [SetTable.layClean.free] at h
    cases e:(List.range (SetTable.runEnd mask i+1 - i)).find? λ k=>(ow.getD (i+k) (some 0)).isNone with
    | none=>rw [e] at h;exact oTq fuel _ _ j h
    | some k=>
      rw [e] at h
      cases h
      have z:=List.find?_some e
      cases q:ow.getD (i+k) (some 0) with
      | none=>rfl
      | some y=>rw [q] at z;cases z
def nTq (ow:Array (Option Nat)):List Nat:=ow.toList.filterMap id
theorem qCq {ow:Array (Option Nat)} {j k:Nat} (h:ow.getD j (some 0)=none):(nTq (ow.setIfInBounds j (some k))).Perm (k::nTq ow)/\j < ow.size:=by
  have lt:j < ow.size:=by
    rcases Nat.lt_or_ge j ow.size with z | z
    . exact z
    . simp [Array.getD,Nat.not_lt.mpr z] at h
  have hj:ow[j]=none:=by simpa [Array.getD,lt] using h
  refine ⟨?_,lt⟩
  unfold nTq
  have e0:ow.toList=ow.toList.take j++ow.toList[j]'(by simpa using lt)::ow.toList.drop (j+1):=by
    rw [<- List.drop_eq_getElem_cons (by simpa using lt),List.take_append_drop]
  have e1:(ow.setIfInBounds j (some k)).toList=ow.toList.take j++some k::ow.toList.drop (j+1):=by
    rw [Array.toList_setIfInBounds,List.set_eq_take_append_cons_drop,if_pos (by simpa using lt)]
  have hj2:ow.toList[j]'(by simpa using lt)=none:=by simpa using hj
  rw [hj2] at e0
  rw [e1]
  conv=>rhs;rw [e0]
  simp only [List.filterMap_append,List.filterMap_cons,id]
  exact List.perm_middle
theorem pZq (ow:Array (Option Nat)) (h:∀ f,f < ow.size->ow.getD f (some 0)≠none):(nTq ow).length=ow.size:=by
  unfold nTq
  rw [<- Array.length_toList]
  have:∀ l:List (Option Nat),(∀ x∈l,x≠none)->(l.filterMap id).length=l.length:=λ l=>by
    induction l with
    | nil=>intro _;rfl
    | cons x l ih=>
      intro hx
      cases x with
      | none=>exact absurd rfl (hx none (List.mem_cons_self ..))
      | some y=>simp only [List.filterMap_cons,id,List.length_cons];rw [ih λ z hz=>hx z (List.mem_cons_of_mem _ hz)]
  refine this _ λ x hx=>?_
  obtain ⟨i,hi,e⟩:=List.getElem_of_mem hx
  have hi2:i < ow.size:=by simpa using hi
  have z:=h i hi2
  rw [<- e]
  simpa [Array.getD,hi2] using z
theorem m8q {mask:Nat} (hS:gZq (mask+1)=true):∀ (hs:List Int) (ow:Array (Option Nat)) (k:Nat),ow.size=mask+1->(nTq ow).Perm (List.range k)->k+hs.length<=mask →
    ∃ ow',(hs.foldl (λ acc h=>do let (owner,k) ← acc;let j ← SetTable.layClean.free mask owner (SetTable.turns mask) (SetTable.bits h % (mask+1)) (SetTable.bits h);pure (owner.setIfInBounds j (some k),k+1)) (some (ow,k)))=some (ow',k+hs.length)/\ow'.size=mask+1/\(nTq ow').Perm (List.range (k+hs.length))
  | [],ow,k,h1,h2,_=>⟨ow,rfl,h1,h2⟩
  | h::hs,ow,k,h1,h2,h3=>by
    have ex:∃ f,f<=mask/\ow.getD f (some 0)=none:=by
      apply Classical.byContradiction
      intro c
      have z:=pZq ow λ f hf q=>c ⟨f,by omega,q⟩
      rw [h2.length_eq,List.length_range] at z
      simp only [List.length_cons] at h3
      omega
    obtain ⟨f,hf,hfr⟩:=ex
    have hb:SetTable.bits h < 32 ^ 13:=by
      unfold SetTable.bits
      have z:(h % (2 ^ 64:Int)).toNat < 2 ^ 64:=by
        have:=Int.emod_lt_of_pos h (show (0:Int) < 2 ^ 64 by decide)
        have:=Int.emod_nonneg h (show (2 ^ 64:Int)≠0 by decide)
        omega
      exact Nat.lt_of_lt_of_le z (by decide)
    obtain ⟨j,hj⟩:=k5q hS hf hfr 13 (SetTable.bits h % (mask+1)) (SetTable.bits h) (SetTable.turns mask) hb (by have:=Nat.mod_lt (SetTable.bits h) (show 0 < mask+1 by omega);omega) (by unfold SetTable.turns;omega)
    obtain ⟨lp,_⟩:=qCq (k:=k) (oTq _ _ _ _ hj)
    have step:((do let (owner,k) ← some (ow,k);let j ← SetTable.layClean.free mask owner (SetTable.turns mask) (SetTable.bits h % (mask+1)) (SetTable.bits h);pure (owner.setIfInBounds j (some k),k+1)):Option (Array (Option Nat) × Nat))=some (ow.setIfInBounds j (some k),k+1):=by
      show (SetTable.layClean.free mask ow (SetTable.turns mask) (SetTable.bits h % (mask+1)) (SetTable.bits h) >>= λ j=>pure (ow.setIfInBounds j (some k),k+1))=_
      rw [hj];rfl
    rw [List.foldl_cons,step]
    obtain ⟨ow',e1,e2,e3⟩:=m8q hS hs (ow.setIfInBounds j (some k)) (k+1) (by rw [Array.size_setIfInBounds];exact h1) (by rw [List.range_succ];exact lp.trans ((h2.cons k).trans (List.perm_append_singleton k (List.range k)).symm)) (by simp only [List.length_cons] at h3;omega)
    exact ⟨ow',by rw [e1,List.length_cons];congr 2;omega,e2,by rw [List.length_cons,show k+(hs.length+1)=k+1+hs.length by omega];exact e3⟩
end KSs
namespace KSs
open PySem PyProof.Rows
theorem kKq {mask:Nat} {ow:Array (Option Nat)} (h:ow.size=mask+1):(((List.range (mask+1)).filterMap λ j=>(ow.getD j none).map (j,·)).map (·.2))=nTq ow:=by
  rw [List.map_filterMap]
  have e:(λ j=>Option.map (λ(x:Nat × Nat)=>x.2) ((ow.getD j none).map (j,·)))=λ j=>ow.getD j none:=by
    funext j;cases ow.getD j none<;>rfl
  rw [e]
  unfold nTq
  rw [<- h]
  have e2:ow.toList=(List.range ow.size).map λ j=>ow.getD j none:=by
    apply List.ext_getElem?
    intro i
    rw [List.getElem?_map]
    by_cases c:i < ow.size
    . rw [List.getElem?_range c,Array.getElem?_toList,Array.getElem?_eq_getElem c];simp [Array.getD,c]
    . rw [List.getElem?_eq_none (by simpa using c),List.getElem?_eq_none (by simpa using c)];rfl
  rw [e2,List.filterMap_map]
  rfl
theorem n4q {mask finger moves:Nat} {led plain:Bool} (hS:gZq (mask+1)=true) (hs:Array Int) (hn:hs.size<=mask):∃ t' order,SetTable.laid mask finger moves led plain hs=some (t',order)/\order.toList.Perm (List.range hs.size)/\t'.place.size=hs.size/\t'.mask=mask/\t'.dummies=#[]/\t'.led=led/\Up t'.place:=by
  have l0:(nTq (Array.replicate (mask+1) none)).Perm (List.range 0):=by simp [nTq]
  obtain ⟨ow,e1,e2,e3⟩:=m8q hS hs.toList (Array.replicate (mask+1) none) 0 (by simp) l0 (by simpa using hn)
  have ec:SetTable.layClean mask hs=some ow:=by
    unfold SetTable.layClean
    rw [<- Array.foldl_toList,e1];rfl
  unfold SetTable.laid
  rw [ec]
  simp only [Option.pure_def,Option.bind_eq_bind,Option.bind_some]
  rw [Nat.zero_add,Array.length_toList] at e3
  refine ⟨_,_,rfl,?_,?_,rfl,rfl,rfl,?_⟩
  . rw [List.toList_toArray,kKq e2];exact e3
  . show (List.toArray _).size=_
    have z:=congrArg List.length (kKq e2)
    rw [List.length_map] at z
    rw [List.size_toArray,List.length_map,z,e3.length_eq,List.length_range]
  . show ((List.map _ _).toArray.toList).Pairwise _
    rw [List.toList_toArray]
    exact (List.pairwise_lt_range (n:=mask+1)).sublist (eJq (λ j=>ow.getD j none) _)
theorem qOq:∀ n,n < 64->8<=n->(SetTable.sizeAbove (n * 2)=32\/SetTable.sizeAbove (n * 2)=64\/SetTable.sizeAbove (n * 2)=128)/\n < SetTable.sizeAbove (n * 2):=by decide +kernel
theorem nIq {n:Nat} (h1:n < 64) (h2:8<=n):gZq (SetTable.sizeAbove (n * 2) - 1+1)=true/\31<=SetTable.sizeAbove (n * 2) - 1/\n<=SetTable.sizeAbove (n * 2) - 1/\SetTable.sizeAbove (n * 2)<=128:=by
  obtain ⟨h | h | h,z⟩:=qOq n h1 h2<;>rw [h] at z ⊢
  . exact ⟨v0q,by omega,by omega,by omega⟩
  . exact ⟨xCq,by omega,by omega,by omega⟩
  . exact ⟨u8q,by omega,by omega,by omega⟩
theorem l2q {es:Array (Int × Value)} {order:Array Nat} (h:order.toList.Perm (List.range es.size)):(order.filterMap (es[·]?)).toList.Perm es.toList:=by
  rw [Array.toList_filterMap]
  refine (h.filterMap _).trans ?_
  rw [filterMap_getElem?_range]
section
variable {prog:Program} {w:World} {A:Around} {E:Value->Shared->Prop} {s:Shared} {a:Addr} {es:Array (Int × Value)} {ep:Nat} {t:SetTable}
theorem yUq {Q:Value->Shared->Prop} (X:SX w s.heap a es ep t) (h8:8<=es.size) (h64:es.size < 64)
    (h:∀ h' er pr tr,SX w h' s.heap.objs.size er pr tr->er.toList.Perm es.toList->4<=tr.mask->(∀ b o,s.heap.get? b=some o->h'.get? b=some o)->Q (.ref s.heap.objs.size) { s with heap:=h' }):wpAny (model prog w) A (Builtin.Frozenset.copyOf a) Q E s:=by
  have hl:=sizeLine_eq
  obtain ⟨f1,f2,f3,f4⟩:=nIq h64 h8
  have alt:=Heap.lt_size X.at_
  unfold Builtin.Frozenset.copyOf
  refine wpAny_bind (xSq X.sw (wpAny_bind (nQq ?_)))
  have eR:(s.heap.push (gQq w)).get? s.heap.objs.size=some (gQq w):=Heap.get?_push_size _ rfl
  have eA:(s.heap.push (gQq w)).get? a=some (setAt es ep t):=Heap.get?_push_of_some _ X.at_
  refine (show wpAny (model prog w) A (setMerge s.heap.objs.size a >>= _) _ _ _ from wpAny_bind ?_)
  unfold setMerge
  rw [if_neg (by simpa using Nat.ne_of_gt alt)]
  refine wpAny_bind (wpAny_setState_of eA rfl X.fits ?_)
  have hne:es.isEmpty=false:=by rw [Array.isEmpty_eq_false_iff];intro z;rw [z] at h8;simp at h8
  dsimp only
  rw [hne,if_neg (by simp)]
  refine wpAny_bind ?_
  unfold setRoomFor
  refine wpAny_bind (wpAny_setState_of eR rfl rfl ?_)
  have er:(SetTable.fresh 0 0 (!byT w)).roomFor es.size=some (es.size * 2):=by
    unfold SetTable.roomFor SetTable.fill SetTable.fresh
    rw [if_pos (by simp;omega)];simp
  rw [er]
  dsimp only
  unfold setRelay
  refine wpAny_bind (wpAny_setState_of eR rfl rfl ?_)
  dsimp only
  rw [if_neg (by omega)]
  obtain ⟨t0,o0,l1,l2,l3,l4,l5,l6,l7⟩:=n4q (finger:=0) (moves:=SetTable.movedTo (.fresh 0 0 (!byT w)) (SetTable.sizeAbove (es.size * 2) - 1)) (led:=!byT w) (plain:=true) f1 #[] (Nat.zero_le _)
  have ho0:o0=#[]:=by
    have:o0.toList=[]:=by simpa using l2
    exact Array.toList_eq_nil_iff.mp this
  have rl:SetTable.relaid (.fresh 0 0 (!byT w)) ((#[]:Array (Int × Value)).map (·.1)) (es.size * 2)=some (t0,#[]):=by
    rw [<- ho0,show ((#[]:Array (Int × Value)).map (·.1))=#[] by simp];exact l1
  rw [rl]
  refine (show wpAny (model prog w) A (pure ((#[]:Array (Int × Value)),t0) >>= λ x=>storeSet s.heap.objs.size x.1 x.2) _ _ _ from wpAny_bind (wpAny_pure (wpAny_storeSet_of eR rfl ?_ (by simp))))
  have e1:=dUq eR #[] t0
  have t0f:t0.fits 0=true:=by unfold SetTable.fits SetTable.fill;rw [l3,l5,l4];simp
  have k1:∀ b o,s.heap.get? b=some o->((s.heap.push (gQq w)).update s.heap.objs.size (Obj.putSet #[] t0)).get? b=some o:=λ b o e=>(Heap.get?_update_other _ _ (Nat.ne_of_gt (Heap.lt_size e))).trans (Heap.get?_push_of_some _ e)
  refine wpAny_bind (wpAny_setState_of e1 rfl t0f ?_)
  dsimp only
  have fill0:t0.fill=0:=by unfold SetTable.fill;rw [l3,l5];simp
  have fin:∀ er tr,AllI er.toList->er.toList.Perm es.toList->tr.fits er.size=true->Cl (byT w) tr->4<=tr.mask->wpAny (model prog w) A (storeSet s.heap.objs.size er tr) (λ _ s'=>wpAny (model prog w) A (pure (Value.ref s.heap.objs.size)) Q E s') E { s with heap:=(s.heap.push (gQq w)).update s.heap.objs.size (Obj.putSet #[] t0) }:=λ er tr h1 h2 h3 h4 h5=>by
    have sz:er.size=es.size:=by rw [<- Array.length_toList,h2.length_eq,Array.length_toList]
    refine wpAny_storeSet_of e1 rfl (wpAny_pure (h _ er _ tr ⟨dUq e1 er tr,h1,(h2.map λ e=>bMq e.2).nodup_iff.mpr X.nd,h3,by omega,h4⟩ h2 h5 λ b o e=>(Heap.get?_update_other _ _ (Nat.ne_of_gt (Heap.lt_size e))).trans (k1 b o e))) (by omega)
  have led1:byT w=false->(t0.led&&t.led)=true:=λ z=>by rw [l6,X.cl.led z,z];rfl
  unfold SetTable.road
  rw [fill0,if_neg (by simp)]
  by_cases c:(t0.mask==t.mask&&t.dummies.isEmpty)=true
  . rw [if_pos c]
    rw [Bool.and_eq_true,beq_iff_eq] at c
    exact fin es _ X.all (.refl _) X.fits ⟨X.cl.up,led1,X.cl.nod⟩ (by show 4<=t.mask;rw [<- c.1,l4];omega)
  . rw [if_neg c]
    dsimp only
    rw [l4]
    obtain ⟨t1,o1,m1,m2,m3,m4,m5,m6,m7⟩:=n4q (finger:=t0.finger) (moves:=t0.moves) (led:=t0.led&&t.led) (plain:=t0.plain&&t.plain) f1 (es.map (·.1)) (by rw [Array.size_map];exact f3)
    rw [Array.size_map] at m2 m3
    have pm:=l2q m2
    have sz:(o1.filterMap (es[·]?)).size=es.size:=by rw [<- Array.length_toList,pm.length_eq,Array.length_toList]
    rw [m1]
    refine wpAny_bind (show wpAny (model prog w) A (if ((o1.filterMap (es[·]?)).size !=es.size)=true then _ else pure (o1.filterMap (es[·]?),t1)) _ _ _ from ?_)
    rw [if_neg (by simp [sz])]
    refine wpAny_pure (fin _ t1 (X.all.perm pm) pm ?_ ⟨m7,λ z=>by rw [m6];exact led1 z,m5⟩ (by rw [m4];omega))
    unfold SetTable.fits SetTable.fill
    rw [m3,m5,m4,sz]
    simp
    omega
end
end KSs
namespace KSs
open PySem PyProof.Rows
theorem bCq {α:Type} (xs:Array α) (i:Nat):(SetTable.eraseAt xs i).toList=xs.toList.take i++xs.toList.drop (i+1):=by
  unfold SetTable.eraseAt
  rw [Array.toList_append,Array.toList_extract,Array.toList_extract]
  simp [List.extract_eq_take_drop]
  exact List.take_of_length_le (by simp)
theorem pLq {xs:Array Nat} (h:Up xs) (i:Nat):Up (SetTable.eraseAt xs i):=by
  unfold Up
  rw [bCq]
  have z:(xs.toList.take i++xs.toList.drop (i+1)).Sublist xs.toList:=by
    conv=>rhs;rw [<- List.take_append_drop i xs.toList]
    refine List.Sublist.append (.refl _) ?_
    rw [show i+1=i+1 from rfl,<- List.drop_drop]
    exact List.drop_sublist _ _
  exact h.sublist z
theorem g7q {α:Type} {xs:Array α} {i:Nat} (h:i < xs.size):(SetTable.eraseAt xs i).size+1=xs.size:=by
  rw [<- Array.length_toList,bCq,List.length_append,List.length_take,List.length_drop,Array.length_toList];omega
section
variable {prog:Program} {w:World} {A:Around} {E:Value->Shared->Prop} {s:Shared} {a o:Addr} {es eo:Array (Int × Value)} {ep po:Nat} {t to:SetTable}
theorem lHq {i:Nat} {z:Int} (hall:AllI es.toList) (hnd:(keys es).Nodup) (hi:es.toList.findIdx? (λ e=>(intKind prog w).is z e.2)=some i):i < es.size/\∀ j,j∈keys (SetTable.eraseAt es i) ↔ j∈keys es/\j≠z:=by
  obtain ⟨lt,q,_⟩:=List.findIdx?_eq_some_iff_getElem.mp hi
  have lt2:i < es.size:=by simpa using lt
  have hz:bMq (es.toList[i]).2=z:=by
    obtain ⟨⟨u,e⟩,_⟩:=hall _ (List.getElem_mem lt)
    rw [e] at q
    exact (intKind prog w).inj _ _ _ (intKind_is prog w _ u) q
  refine ⟨lt2,λ j=>?_⟩
  have e0:es.toList=es.toList.take i++es.toList[i]::es.toList.drop (i+1):=by rw [<- List.drop_eq_getElem_cons lt,List.take_append_drop]
  have k0:keys es=(es.toList.take i).map (λ e=>bMq e.2)++z::(es.toList.drop (i+1)).map λ e=>bMq e.2:=by
    conv=>lhs;unfold keys;rw [e0,List.map_append,List.map_cons,hz]
  have k1:keys (SetTable.eraseAt es i)=(es.toList.take i).map (λ e=>bMq e.2)++(es.toList.drop (i+1)).map λ e=>bMq e.2:=by unfold keys;rw [bCq,List.map_append]
  rw [k0] at hnd
  rw [k0,k1]
  have nd:=List.perm_middle.nodup_iff.mp hnd
  rw [List.nodup_cons] at nd
  simp only [List.mem_append,List.mem_cons] at nd ⊢
  constructor
  . intro h
    exact ⟨h.elim .inl λ z=>.inr (.inr z),by rintro rfl;exact nd.1 h⟩
  . rintro ⟨h | h | h,n⟩
    . exact .inl h
    . exact absurd h n
    . exact .inr h
theorem aA7q {z:Int} {u:Tok} {Q:Bool->Shared->Prop} (X:SX w s.heap a es ep t)
    (h:∀ b h' er pr tr,Heap.SameBut a s.heap h'->SR w h' a er pr tr->(keys er).Nodup->er.size<=es.size->(∀ j,j∈keys er ↔ j∈keys es/\j≠z)->tr.mask=t.mask->tr.dummies.size<=1->Q b { s with heap:=h' }):wpAny (model prog w) A (setDiscardHashed a (.int z u) (hashInt z)) Q E s:=by
  unfold setDiscardHashed
  refine wpAny_bind (uOq X.sr ?_)
  cases hi:List.findIdx? (λ e=>(intKind prog w).is z e.2) es.toList with
  | none=>
    refine wpAny_pure (h false s.heap es ep t (Heap.SameBut.refl a _) X.sr X.nd (Nat.le_refl _) (λ j=>⟨λ hj=>⟨hj,?_⟩,λ hj=>hj.1⟩) rfl (by rw [X.cl.nod];simp))
    rintro rfl
    obtain ⟨e,he,q⟩:=(X.all.met (prog:=prog) (w:=w)).mpr hj
    have:=List.findIdx?_eq_none_iff.mp hi e he
    rw [q] at this;cases this
  | some i=>
    obtain ⟨lt,hk⟩:=lHq X.all X.nd hi
    dsimp only
    refine wpAny_bind (wpAny_setState_of X.at_ rfl X.fits ?_)
    dsimp only
    have ez:=g7q lt
    have few:=X.few
    refine wpAny_bind (wpAny_storeSet_of X.at_ rfl (wpAny_bind (wpAny_point (wpAny_pure ?_))) (eNq (by omega)))
    have pz:=gDq X.sw
    have ltp:i < t.place.size:=by omega
    have hf:=X.fits
    unfold SetTable.fits SetTable.fill at hf
    rw [Bool.and_eq_true,beq_iff_eq,decide_eq_true_eq,X.cl.nod] at hf
    have sub:(es.toList.take i++es.toList.drop (i+1)).Sublist es.toList:=by
      conv=>rhs;rw [<- List.take_append_drop i es.toList]
      refine List.Sublist.append (.refl _) ?_
      rw [<- List.drop_drop]
      exact List.drop_sublist _ _
    have dr:t.drop i={ t with place:=SetTable.eraseAt t.place i,dummies:=SetTable.insertAt t.dummies (SetTable.below t.dummies t.place[i]) t.place[i] }:=by
      unfold SetTable.drop;rw [Array.getElem?_eq_getElem ltp]
    have pz2:=g7q ltp
    have ds:(SetTable.insertAt t.dummies (SetTable.below t.dummies t.place[i]) t.place[i]).size=1:=by rw [X.cl.nod];simp [SetTable.insertAt]
    refine h true _ (SetTable.eraseAt es i) (ep+1) (t.drop i) (Heap.SameBut.update s.heap a _) ⟨⟨dUq X.at_ _ _,?_,by omega,λ z=>?_,?_⟩,λ e he=>X.all e ?_⟩ ?_ (by omega) hk (by rw [dr]) (by rw [dr];show Array.size _<=1;rw [ds];exact Nat.le_refl _)
    . rw [dr]
      unfold SetTable.fits SetTable.fill
      show (_==_&&decide (_+_<=t.mask))=true
      rw [Bool.and_eq_true,beq_iff_eq,decide_eq_true_eq]
      dsimp only
      rw [ds]
      simp at hf
      omega
    . rw [dr];exact X.cl.led z
    . rw [dr];exact pLq X.cl.up i
    . rw [bCq] at he;exact sub.subset he
    . unfold keys;rw [bCq];exact X.nd.sublist (sub.map _)
theorem aC6q {id:String} {z:Int} {u:Tok} {Q:Value->Shared->Prop} (hne:o≠a) (X:SX w s.heap a es ep t) (Y:SX w s.heap o eo po to) (hY:eo.toList=[(hashInt z,.int z u)]) (h64:es.size < 64)
    (h:∀ r h' d er pr tr,SR w h' r er pr tr->(keys er).Nodup->er.size<=es.size->(∀ j,j∈keys er ↔ j∈keys es/\j≠z)->(∀ b o,s.heap.get? b=some o->h'.get? b=some o)->Q (.ref r) { s with heap:=h',drawn:=d }) :
    wpAny (model prog w) A (Builtin.Frozenset.difference id a (.ref o)) Q E s:=by
  have eo1:eo.size=1:=by rw [<- Array.length_toList,hY];rfl
  have one:∀ {xs:Array (Int × Value)},xs.toList.Perm eo.toList->xs.toList=[(hashInt z,.int z u)]:=λ hp=>by rw [hY] at hp;exact List.perm_singleton.mp hp
  have kz:keys eo=[z]:=by unfold keys;rw [hY];rfl
  unfold Builtin.Frozenset.difference
  refine wpAny_bind (yJq Y.sw ?_)
  dsimp only
  rw [if_neg (by simp)]
  refine (show wpAny (model prog w) A (pure o >>= _) _ _ s from wpAny_bind (wpAny_pure ?_))
  rw [if_neg (by simp),if_pos rfl]
  refine wpAny_bind (p8q Y.sw (wpAny_bind (p8q X.sw ?_)))
  rw [eo1]
  by_cases c:es.size / 4 > 1
  . rw [if_pos c]
    refine wpAny_bind (wpAny_rule ?_)
    refine wpAny_bind (yUq X (by omega) h64 λ h1 er pr tr X1 hp hm k1=>?_)
    have Y1:=Y.mono (k1 o _ Y.at_)
    have nro:s.heap.objs.size≠o:=Nat.ne_of_gt (Heap.lt_size Y.at_)
    have sz1:er.size=es.size:=by rw [<- Array.length_toList,hp.length_eq,Array.length_toList]
    have km:∀ j,j∈keys er ↔ j∈keys es:=λ j=>(hp.map λ e=>bMq e.2).mem_iff
    refine (show wpAny (model prog w) A (holding [.ref s.heap.objs.size] (Builtin.Frozenset.differenceUpdate id s.heap.objs.size (.ref o)) >>= _) _ _ _ from wpAny_bind (wpAny_holding ?_))
    unfold Builtin.Frozenset.differenceUpdate
    rw [if_neg (by simpa using Ne.symm nro)]
    refine wpAny_bind (yJq (s:={ s with heap:=h1 }) Y1.sw ?_)
    rw [if_pos rfl]
    refine (show wpAny (model prog w) A (pure o >>= _) _ _ _ from wpAny_bind (wpAny_pure ?_))
    refine wpAny_bind (p8q (s:={ s with heap:=h1 }) Y1.sw (wpAny_bind (p8q (s:={ s with heap:=h1 }) X1.sw ?_)))
    rw [if_neg (by omega)]
    refine wpAny_bind (wpAny_setEpoch_of Y1.at_ rfl Y1.fits ?_)
    refine wpAny_bind (wpAny_holding ?_)
    refine wpAny_bind (show wpAny (model prog w) A (setWalkUnseen o [s.heap.objs.size] none) _ _ _ from ?_)
    unfold setWalkUnseen
    refine wpAny_bind (wpAny_setState_of Y1.at_ rfl Y1.fits (wpAny_bind (oUq _ ?_)))
    rw [if_pos (by rw [eo1];simp)]
    refine xWq (s:={ s with heap:=h1 }) Y1.sw λ xs d hx=>?_
    have hx1:=one hx
    refine wpAny_bind (MeetsSeq2.wpAny_forIn_array _ (λ rest _ s'=>(rest=[(hashInt z,.int z u)]/\s'={ s with heap:=h1,drawn:=d })\/(rest=[]/\∃ h2 er2 pr2 tr2,s'={ s with heap:=h2,drawn:=d }/\Heap.SameBut s.heap.objs.size h1 h2/\SR w h2 s.heap.objs.size er2 pr2 tr2/\(keys er2).Nodup/\er2.size<=er.size/\(∀ j,j∈keys er2 ↔ j∈keys er/\j≠z)/\tr2.mask=tr.mask/\tr2.dummies.size<=1)) _ ?_ ?_ xs _ (.inl ⟨hx1,rfl⟩))
    . rintro e rest b s' (⟨he,rfl⟩ | ⟨he,_⟩)
      . cases he
        refine wpAny_bind (wpAny_holding (aA7q (s:={ s with heap:=h1,drawn:=d }) X1 λ b h2 er2 pr2 tr2 sb R2 nd2 sz2 km2 mk2 dm2=>?_))
        have Y2:SW w h2 o eo po to:=⟨by rw [sb.2 o (Ne.symm nro)];exact Y1.at_,Y1.fits,Y1.few,Y1.cl.led,Y1.cl.up⟩
        refine wpAny_bind (u3q (s:={ s with heap:=h2,drawn:=d }) Y2 (wpAny_pure (.inr ⟨rfl,h2,er2,pr2,tr2,rfl,sb,R2,nd2,sz2,km2,mk2,dm2⟩)))
      . cases he
    . rintro b s' (⟨he,_⟩ | ⟨_,h2,er2,pr2,tr2,rfl,sb,R2,nd2,sz2,km2,mk2,dm2⟩)
      . cases he
      . refine wpAny_pure ?_
        unfold setTidy
        refine wpAny_bind (wpAny_setState_of R2.at_ rfl R2.fits ?_)
        dsimp only
        have nt:tr2.tooManyDummies=false:=by unfold SetTable.tooManyDummies;rw [mk2];simp;omega
        rw [nt,if_neg (by simp)]
        refine wpAny_pure (wpAny_pure (h s.heap.objs.size h2 d er2 pr2 tr2 R2 nd2 (by omega) (λ j=>by rw [km2,km]) λ b o' e=>?_))
        rw [sb.2 b (Nat.ne_of_lt (Heap.lt_size e))];exact k1 b o' e
  . rw [if_neg c]
    refine wpAny_bind (xSq X.sw (wpAny_bind (nQq ?_)))
    have eR:(s.heap.push (gQq w)).get? s.heap.objs.size=some (gQq w):=Heap.get?_push_size _ rfl
    have k0:∀ b o',s.heap.get? b=some o'->(s.heap.push (gQq w)).get? b=some o':=λ b o' e=>Heap.get?_push_of_some _ e
    have X1:=X.mono (k0 a _ X.at_)
    have Y1:=Y.mono (k0 o _ Y.at_)
    have R1:=SX.fresh eR
    have nra:s.heap.objs.size≠a:=Nat.ne_of_gt (Heap.lt_size X.at_)
    have nro:s.heap.objs.size≠o:=Nat.ne_of_gt (Heap.lt_size Y.at_)
    refine (show wpAny (model prog w) A (pure s.heap.objs.size >>= _) _ _ _ from wpAny_bind (wpAny_pure ?_))
    refine wpAny_bind (wpAny_setEpoch_of X1.at_ rfl X1.fits ?_)
    refine wpAny_bind (wpAny_holding ?_)
    rw [if_pos rfl]
    refine wpAny_bind (yVq (s:={ s with heap:=s.heap.push (gQq w) }) X1.sr (λ b hb=>?_) R1 λ xs h2 d pf tf hx sb R2=>?_)
    . rcases List.mem_cons.mp hb with rfl | hb
      . exact ⟨_,_,_,Y1.sr⟩
      . rw [List.mem_singleton.mp hb];exact ⟨_,_,_,R1.sr⟩
    have k2:∀ b o',s.heap.get? b=some o'->h2.get? b=some o':=λ b o' e=>by rw [sb.2 b (Nat.ne_of_lt (Heap.lt_size e))];exact k0 b o' e
    have few:=X.few
    refine wpAny_bind (MeetsSeq2.wpAny_forIn_array _ (λ rest _ s'=>∃ done h3 er pr tr,xs.toList=done++rest/\s'={ s with heap:=h3,drawn:=d }/\(∀ b o',s.heap.get? b=some o'->h3.get? b=some o')/\SX w h3 s.heap.objs.size er pr tr/\er.size<=done.length/\∀ j,j∈keys er ↔ j∈done.map (λ e=>bMq e.2)/\j≠z) _ ?_ ?_ xs _ ⟨[],h2,_,_,_,rfl,rfl,k2,R2,Nat.le_refl _,by simp [keys]⟩)
    . rintro e rest b s' ⟨done,h3,er,pr,tr,hd,rfl,k3,R3,z3,m3⟩
      have hme:e∈es.toList:=hx.mem_iff.mp (by rw [hd];simp)
      obtain ⟨⟨v,hv⟩,hh⟩:=X.all e hme
      obtain ⟨e1,e2⟩:=e
      dsimp only at hv hh ⊢
      generalize hkk:bMq e2=k at hv hh
      subst hv hh
      have Y3:=Y.mono (k3 o _ Y.at_)
      have X3:=X.mono (k3 a _ X.at_)
      have dl:done.length < es.size:=by
        have:=congrArg List.length hd
        rw [hx.length_eq,Array.length_toList] at this
        simp at this;omega
      refine wpAny_bind (wpAny_holding ?_)
      rw [if_pos rfl]
      refine wpAny_bind (uOq (s:={ s with heap:=h3,drawn:=d }) Y3.sr (wpAny_bind (wpAny_pure ?_)))
      rw [n3q Y.all,kz]
      by_cases cz:k=z
      . subst cz
        rw [if_neg (by simp)]
        refine wpAny_pure (wpAny_bind (u3q (s:={ s with heap:=h3,drawn:=d }) X3.sw (wpAny_pure ⟨done++[(hashInt k,.int k v)],h3,er,pr,tr,by rw [hd];simp,rfl,k3,R3,by simp;omega,λ j=>?_⟩)))
        rw [m3,List.map_append,List.mem_append]
        simp only [List.map_cons,List.map_nil,List.mem_singleton,bMq]
        constructor
        . rintro ⟨x,y⟩;exact ⟨.inl x,y⟩
        . rintro ⟨x | x,y⟩
          . exact ⟨x,y⟩
          . exact absurd x y
      . rw [if_pos (by simp [cz])]
        refine wpAny_bind (add (s:={ s with heap:=h3,drawn:=d }) R3 (by omega) λ bb h4 er4 pr4 tr4 sb4 R4 m4 z4=>wpAny_pure ?_)
        have k4:∀ b o',s.heap.get? b=some o'->h4.get? b=some o':=λ b o' e=>by rw [sb4.2 b (Nat.ne_of_lt (Heap.lt_size e))];exact k3 b o' e
        have X4:=X.mono (k4 a _ X.at_)
        refine wpAny_bind (u3q (s:={ s with heap:=h4,drawn:=d }) X4.sw (wpAny_pure ⟨done++[(hashInt k,.int k v)],h4,er4,pr4,tr4,by rw [hd];simp,rfl,k4,R4,by simp;omega,λ j=>?_⟩))
        rw [m4,m3,List.map_append,List.mem_append]
        simp only [List.map_cons,List.map_nil,List.mem_singleton,bMq]
        constructor
        . rintro (⟨x,y⟩ | x)
          . exact ⟨.inl x,y⟩
          . exact ⟨.inr x,by rw [x];exact cz⟩
        . rintro ⟨x | x,y⟩
          . exact .inl ⟨x,y⟩
          . exact .inr x
    . rintro b s' ⟨done,h3,er,pr,tr,hd,rfl,k3,R3,z3,m3⟩
      rw [List.append_nil] at hd
      refine wpAny_pure (wpAny_pure (h s.heap.objs.size h3 d er pr tr R3.sr R3.nd ?_ (λ j=>?_) k3))
      . have:=congrArg List.length hd
        rw [hx.length_eq,Array.length_toList] at this
        omega
      . rw [m3,<- hd,(hx.map λ e=>bMq e.2).mem_iff]
end
end KSs
namespace KSs
open PySem PyProof.Rows
theorem eSub:entryFor table "set.__sub__" = some Builtin.«frozenset.__sub__»:=entryFor_alias (id':="frozenset.__sub__") (by kernel_rfl) (by first | rfl | decide +kernel | (unfold String.splitOn;simp +decide [String.splitOnAux])) (by decide +kernel) (by kernel_rfl)
section
variable {prog:Program} {w:World} {A:Around} {E:Value->Shared->Prop} {s:Shared} {a o:Addr} {es eo:Array (Int × Value)} {ep po:Nat} {t to:SetTable}
theorem subS {z:Int} {u:Tok} {Q:Value->Shared->Prop} (hne:o≠a) (X:SX w s.heap a es ep t) (Y:SX w s.heap o eo po to) (hY:eo.toList=[(hashInt z,.int z u)]) (h64:es.size < 64)
    (h:∀ r h' d er pr tr,SR w h' r er pr tr->(keys er).Nodup->er.size<=es.size->(∀ j,j∈keys er ↔ j∈keys es/\j≠z)->(∀ b o,s.heap.get? b=some o->h'.get? b=some o)->Q (.ref r) { s with heap:=h',drawn:=d }) :
    wpAny (model prog w) A (binaryOp .Sub (.ref a) (.ref o)) Q E s:=by
  refine wpAny_binaryOp_same (T:="set") (id:="set.__sub__") (tyS X.sw) (tyS Y.sw) F.fills_set_sub F.slot_set_sub ?_
  refine wpAny_call_entry F.slot_set_sub (tyS X.sw) eSub ?_ (F.args_set_sub_2 _ _)
  refine (show wpAny (model prog w) A.in1 ((Builtin.Frozenset.isAnySet (.ref a) <&&> Builtin.Frozenset.isAnySet (.ref o)) >>= λ(b:Bool)=>_) _ _ s from wpAny_bind ?_)
  unfold andM
  refine wpAny_bind (yJq X.sw (yJq Y.sw ?_))
  refine (show wpAny (model prog w) A.in1 (Builtin.Frozenset.difference _ a (.ref o) >>= _) _ _ s from wpAny_bind (aC6q hne X Y hY h64 λ r h' d er pr tr R nd sz km k=>?_))
  exact wpAny_pure ⟨_,rfl,by simp,h r h' d er pr tr R nd sz km k⟩
theorem one_of (hall:AllI eo.toList) (hs:eo.size<=1) {z:Int} (hz:∀ j,j∈keys eo ↔ j∈[z]):∃ u,eo.toList=[(hashInt z,.int z u)]:=by
  have hm:=(hz z).mpr (List.mem_singleton.mpr rfl)
  obtain ⟨e,he,hk⟩:=List.mem_map.mp hm
  have hl:eo.toList.length<=1:=by rw [Array.length_toList];exact hs
  match hL:eo.toList,hl,he with
  | [x],_,he=>
    obtain rfl:e=x:=List.mem_singleton.mp he
    obtain ⟨⟨u,e1⟩,e2⟩:=hall e (by rw [hL];exact he)
    rw [hk] at e1 e2
    exact ⟨u,by obtain ⟨p,q⟩:=e;simp only at e1 e2;rw [e1,e2]⟩
  | _::_::_,h,_=>simp at h
end
end KSs
namespace L2
open PySem PySem.Spec PyProof.Rows
section
variable {X:Cx} {e e2:Expr} {te te2:TE} {p p2 p3 pos pos2 pos3 bpos:Pos}
theorem n5q {pins:List (Addr × Obj)} {s:Shared} {σ:St} {H:Hp} {R:Addr->List Int->Hp->Prop} (hc:X.calm=true) (hg:Gl X "set") (hm:X.mg "set" = none) (he:PE X e te) (hs:aSq e=true) (I:Inv X pins σ H s)
    (h:te σ H λ x H1=>∃ (l:Addr) (ns:List Int),x=.ref l/\SqL X.K H1 l (ns.map V.int)/\ns.length < 64/\R l ns H1) :
    wpAny (model X.prog X.w) X.A (eval (.Call (.Name "set" p2) [e] [] pos2) X.env) (λ v s'=>∃ (l S:Addr) (ns:List Int) (H1:Hp) (es:Array (Int × Value)) (ep:Nat) (t:SetTable),v=.ref S/\Inv X pins σ H1 s'/\KSs.SX X.w s'.heap S es ep t/\hYq X pins H1 S/\es.size<=ns.length/\ns.length < 64/\(∀ j,j∈KSs.keys es ↔ j∈ns)/\R l ns H1) X.xe s:=by
  refine wpAny_Call_Name_kw (c3q I hg hm PyProof.Rows.boot_set ?_)
  refine PyProof.Rows.callWith_type1 ?_ (a9q hs) rfl
  rw [a9q hs]
  show wpAny _ _ (spliced ((false,eval e X.env)::backTo pos2 (starEach [] X.env))) _ _ s
  refine Calls.spliced_cons (thn (he pins s σ H _ I h) λ u s1 ⟨x,H1,I1,r1,l,ns,ex,hq,hl,q⟩=>Calls.spliced_nil ?_)
  subst ex
  cases r1
  obtain ⟨its,rv,pl,hz⟩:=I1.list hq
  have hlen:=rv.length
  rw [List.length_map] at hlen
  refine KSs.ofList (items:=its.toArray) (ns:=ns) (I1.ok.hd hc) pl.isList (by simpa using fBq rv) (by rw [List.size_toArray];omega) λ h' tk es ep t SX z m k=>?_
  exact ⟨l,s1.heap.objs.size,ns,H1,es,ep,t,rfl,I1.kept (t':=tk) k,SX,I1.fpOk (Nat.le_refl _) (I1.hok.fresh (Nat.le_refl _)),by have y:its.toArray.size=its.length:=List.size_toArray;omega,hl,m,q⟩
def tSD (K:PySem.W.Frag) (te te2:TE):TE:=λ σ H Q=>te σ H λ x H1=>∃ (l:Addr) (ns:List Int),x=.ref l/\SqL K H1 l (ns.map V.int)/\ns.length < 64/\te2 σ H1 λ y H2=>∃ (l2:Addr) (ns2:List Int),y=.ref l2/\SqL K H2 l2 (ns2.map V.int)/\ns2.length < 64/\∃ z,ns2=[z] ∧
  ∀ ms,Srt (ns.filter λ j=>decide (j≠z)) ms->∀ l',H2 l'=none->Q (.ref l') (upd H2 l' (.lst (ms.map V.int)))
theorem hPq (hc:X.calm=true) (hgs:Gl X "sorted") (hms:X.mg "sorted" = none) (hg:Gl X "set") (hm:X.mg "set" = none) (he:PE X e te) (hs:aSq e=true) (he2:PE X e2 te2) (hs2:aSq e2=true) :
    PE X (.Call (.Name "sorted" p) [.BinOp (.Call (.Name "set" p2) [e] [] pos2) .Sub (.Call (.Name "set" p3) [e2] [] pos3) bpos] [] pos) (tSD X.K te te2):=by
  intro pins s σ H Q I h
  refine wpAny_Call_Name_kw (c3q I hgs hms PyProof.Rows.boot_sorted ?_)
  refine PyProof.Rows.callWith_builtin1 ?_ (a9q rfl) rfl
  rw [a9q rfl]
  show wpAny _ _ (spliced ((false,eval (.BinOp (.Call (.Name "set" p2) [e] [] pos2) .Sub (.Call (.Name "set" p3) [e2] [] pos3) bpos) X.env)::backTo pos (starEach [] X.env))) _ _ s
  refine Calls.spliced_cons (wpAny_BinOp (thn (n5q (R:=λ _ ns H1=>te2 σ H1 λ y H2=>∃ (l2:Addr) (ns2:List Int),y=.ref l2/\SqL X.K H2 l2 (ns2.map V.int)/\ns2.length < 64/\∃ z,ns2=[z]/\∀ ms,Srt (ns.filter λ j=>decide (j≠z)) ms->∀ l',H2 l'=none->Q (.ref l') (upd H2 l' (.lst (ms.map V.int)))) hc hg hm he hs I h) λ v s1 h1=>?_))
  obtain ⟨l,S,ns,H1,es,ep,t,rfl,I1,SX1,fp1,z1,hl,m1,q⟩:=h1
  have hob:∀ b∈[S],∃ o,s1.heap.get? b=some o/\∀ v,o.data≠.cell v:=λ b hb=>by
    rw [List.mem_singleton.mp hb];exact ⟨_,SX1.at_,λ _=>nofun⟩
  have I1p:=I1.pinned (fp:=[S]) (λ b hb=>by rw [List.mem_singleton.mp hb];exact fp1) hob
  refine thn (n5q (R:=λ _ ns2 H2=>∃ z,ns2=[z]/\∀ ms,Srt (ns.filter λ j=>decide (j≠z)) ms->∀ l',H2 l'=none->Q (.ref l') (upd H2 l' (.lst (ms.map V.int)))) hc hg hm he2 hs2 I1p q) λ v2 s2 h2=>?_
  obtain ⟨l2,S2,ns2,H2,es2,ep2,t2,rfl,I2,SX2,fp2,z2,hl2,m2,z,rfl,q2⟩:=h2
  have pin:(S,KSs.setAt es ep t)∈pins++j8q [S] s1.heap:=List.mem_append_right _ (List.mem_filterMap.mpr ⟨S,List.mem_singleton.mpr rfl,by rw [SX1.at_];rfl⟩)
  have eS:=(I2.pin _ (List.mem_append_right _ pin)).1
  have nS:S2≠S:=λ y=>fp2.2.2.2.2.2 _ (List.mem_append_right _ pin) y.symm
  have X2:=SX1.mono eS
  obtain ⟨u,hY⟩:=KSs.one_of SX2.all (by simpa using z2) m2
  refine KSs.subS nS X2 SX2 hY (by omega) λ r h' d er pr tr R nd sz km k=>Calls.spliced_nil ?_
  have I3:Inv X pins σ H2 { s2 with heap:=h',drawn:=d }:=((I2.unpinned).kept (t':=s2.toks) k).drew
  refine gKq hc I3 R.toSW R.all nd (by omega) (λ j=>?_) q2
  rw [km,m1,List.mem_filter,decide_eq_true_eq]
end
end L2
namespace L3
open PySem PyProof L2
section
variable {X:Cx} {e e2:Expr} {te te2:DTE} {p p2 p3 pos pos2 pos3 bpos:Pos}
abbrev dSD (te te2:DTE):DTE:=λ ρ G Q=>te ρ G λ x G1=>match x with
  | .ref l=>onL G1 l λ ds=>∃ ns,e9q ds=some ns/\ns.length < 64/\te2 ρ G1 λ y G2=>match y with
    | .ref l2=>onL G2 l2 λ ds2=>∃ z,ds2=[.int z]/\∀ ms,Srt (ns.filter λ j=>decide (j≠z)) ms->∀ l',G2 l'=none->Q (.ref l') (up G2 l' (.lst (ms.map D.int)))
    | _=>False
  | _=>False
theorem h2q (hgs:Gl X "sorted") (hms:X.mg "sorted" = none) (hg:Gl X "set") (hm:X.mg "set" = none) (he:AE X e te) (he2:AE X e2 te2) (hc:X.calm=true:=by rfl) (hs:aSq e=true:=by rfl) (hs2:aSq e2=true:=by rfl) :
    AE X (.Call (.Name "sorted" p) [.BinOp (.Call (.Name "set" p2) [e] [] pos2) .Sub (.Call (.Name "set" p3) [e2] [] pos3) bpos] [] pos) (dSD te te2):=by
  obtain ⟨ce,je,re⟩:=he.run
  obtain ⟨ce2,je2,re2⟩:=he2.run
  refine ⟨_,⟨hPq hc hgs hms hg hm je.run hs je2.run hs2⟩,λ ρ G DQ σ H Q B q F=>re ρ G _ σ H _ B q λ x G1 v H1 g1 ax q1=>?_⟩
  cases x with
  | ref l=>
    cases ax
    obtain ⟨ds,vs,⟨ns,e1,hl,k⟩,s,rl⟩:=bDq g1.vw q1
    rw [fAq e1] at rl
    rw [rl.ints] at s
    refine ⟨l,ns,rfl,s,hl,re2 ρ G1 _ σ H1 _ (B.go g1) k λ y G2 u H2 g2 ay q2=>?_⟩
    cases y with
    | ref l2=>
      cases ay
      obtain ⟨ds2,vs2,⟨z,rfl,k2⟩,s2,rl2⟩:=bDq g2.vw q2
      obtain ⟨v2,r2,rfl,a2,rl2⟩:=rl2
      cases rl2
      cases a2
      exact ⟨l2,[z],rfl,s2,by simp,z,rfl,λ ms hs l' hl'=>F (.ref l') _ _ _ ((g1.trans g2).trans (Go.newL g2.vw hl' (AbsL.of_ints ms))) rfl (k2 ms hs l' (g2.vw.none hl'))⟩
    | _=>exact (show False from q2).elim
  | _=>exact (show False from q1).elim
end
end L3
namespace L3
open PySem PyProof L2
section
variable {K:PySem.W.Frag} {H:Hp} {G:DV}
def kD:Key->D
  | .inl i=>.int i
  | .inr x=>.str x
theorem oGq {k:Key} {v:V} (h:Abs K H (kD k) v):v=kV k:=by cases k<;>exact h
def eIq (kvs:List (Key × D)) (k:Key):Option D:=(kvs.find? λ kv=>decide (kv.1=k)).map (·.2)
def putKD (kvs:List (Key × D)) (k:Key) (v:D):List (Key × D):=
  if (kvs.any λ kv=>decide (kv.1=k))=true then kvs.map (λ kv=>if kv.1=k then (kv.1,v) else kv) else kvs++[(k,v)]
theorem AbsF.cons_inv {κ:Type} {x:κ} {y:D} {r:List (κ × D)} {gs:List (κ × V)} (h:AbsF K H ((x,y)::r) gs):∃ v s,gs=(x,v)::s/\Abs K H y v/\AbsF K H r s:=by
  obtain ⟨h1,h2⟩:=h
  cases gs with
  | nil=>cases h1
  | cons g s=>
    obtain ⟨g1,g2⟩:=g
    simp only [List.map_cons,List.cons.injEq] at h1
    obtain ⟨v,us,e1,a1,a2⟩:=h2
    simp only [List.map_cons,List.cons.injEq] at e1
    obtain ⟨rfl,h1⟩:=h1
    obtain ⟨rfl,rfl⟩:=e1
    exact ⟨g2,s,rfl,a1,h1,a2⟩
theorem AbsF.nil_inv {κ:Type} {gs:List (κ × V)} (h:AbsF K H ([]:List (κ × D)) gs):gs=[]:=by
  cases gs with
  | nil=>rfl
  | cons g s=>cases h.1
theorem AbsF.consI {κ:Type} {x:κ} {y:D} {v:V} {r:List (κ × D)} {s:List (κ × V)} (h:Abs K H y v) (hr:AbsF K H r s):AbsF K H ((x,y)::r) ((x,v)::s):=⟨by simp [hr.1],v,_,rfl,h,hr.2⟩
theorem AbsF.append {κ:Type}:∀ {fs es:List (κ × D)} {gs hs:List (κ × V)},AbsF K H fs gs->AbsF K H es hs->AbsF K H (fs++es) (gs++hs)
  | [],_,_,_,r,s=>by rw [r.nil_inv];exact s
  | (x,y)::r,_,_,_,h,s=>by
    obtain ⟨v,t,rfl,a,hr⟩:=h.cons_inv
    exact AbsF.consI a (hr.append s)
theorem AbsF.val {k:Key}:∀ {fs:List (Key × D)} {gs:List (Key × V)},AbsF K H fs gs->(∀ d,eIq fs k=some d->∃ v,jCq gs k=some v/\Abs K H d v)/\(eIq fs k=Option.none->jCq gs k=Option.none)
  | [],_,h=>by rw [h.nil_inv];exact ⟨λ d e=>(by cases e),λ _=>rfl⟩
  | (x,y)::r,_,h=>by
    obtain ⟨v,t,rfl,a,hr⟩:=h.cons_inv
    obtain ⟨i1,i2⟩:=AbsF.val (k:=k) hr
    by_cases c:x=k
    . have e1:eIq ((x,y)::r) k=some y:=by simp [eIq,List.find?_cons,c]
      have e2:jCq ((x,v)::t) k=some v:=eKq c
      rw [e1,e2]
      exact ⟨λ d e=>⟨v,rfl,by cases e;exact a⟩,λ e=>by cases e⟩
    . have e1:eIq ((x,y)::r) k=eIq r k:=by simp [eIq,List.find?_cons,c]
      have e2:jCq ((x,v)::t) k=jCq t k:=eQq c
      rw [e1,e2]
      exact ⟨i1,i2⟩
theorem AbsF.anyK {k:Key}:∀ {fs:List (Key × D)} {gs:List (Key × V)},AbsF K H fs gs->(fs.any λ kv=>decide (kv.1=k))=gs.any λ kv=>decide (kv.1=k)
  | [],_,h=>by rw [h.nil_inv];rfl
  | (x,y)::r,_,h=>by
    obtain ⟨v,t,rfl,a,hr⟩:=h.cons_inv
    rw [List.any_cons,List.any_cons,AbsF.anyK hr]
theorem AbsF.mapK {k:Key} {d:D} {u:V} (hd:Abs K H d u):∀ {fs:List (Key × D)} {gs:List (Key × V)},AbsF K H fs gs->AbsF K H (fs.map λ kv=>if kv.1=k then (kv.1,d) else kv) (gs.map λ kv=>if kv.1=k then (kv.1,u) else kv)
  | [],_,h=>by rw [h.nil_inv];exact ⟨rfl,rfl⟩
  | (x,y)::r,_,h=>by
    obtain ⟨v,t,rfl,a,hr⟩:=h.cons_inv
    rw [List.map_cons,List.map_cons]
    by_cases c:x=k
    . simp only [c,if_true];exact AbsF.consI hd (AbsF.mapK hd hr)
    . simp only [if_neg c];exact AbsF.consI a (AbsF.mapK hd hr)
theorem AbsF.putKD {k:Key} {d:D} {u:V} (hd:Abs K H d u) {fs:List (Key × D)} {gs:List (Key × V)} (h:AbsF K H fs gs):AbsF K H (L3.putKD fs k d) (i3q gs k u):=by
  unfold L3.putKD i3q
  rw [h.anyK]
  split
  . exact AbsF.mapK hd h
  . exact h.append (AbsF.consI hd ⟨rfl,rfl⟩)
theorem kHq (kvs:List (Key × D)) (k j:Key) (y:D):eIq (putKD kvs k y) j=if j=k then some y else eIq kvs j:=by
  have key:∀ l:List (Key × D),eIq (l.map λ kv=>if kv.1=k then (kv.1,y) else kv) j=(eIq l j).map λ x=>if j=k then y else x:=λ l=>by
    induction l with
    | nil=>rfl
    | cons p r ih=>
      obtain ⟨p1,p2⟩:=p
      simp only [eIq,List.map_cons,List.find?_cons] at ih ⊢
      by_cases c:p1=k
      . subst c
        by_cases d:p1=j
        . subst d;simp
        . simp only [if_true,d,decide_false];exact ih
      . by_cases d:p1=j
        . subst d;simp [c]
        . simp only [if_neg c,d,decide_false];exact ih
  unfold putKD
  by_cases c:(kvs.any λ kv=>decide (kv.1=k))=true
  . rw [if_pos c,key]
    by_cases d:j=k
    . subst d
      have:(eIq kvs j).isSome=true:=by
        unfold eIq
        rw [Option.isSome_map,List.find?_isSome]
        obtain ⟨x,hx,e⟩:=List.any_eq_true.mp c
        exact ⟨x,hx,e⟩
      obtain ⟨z,e⟩:=Option.isSome_iff_exists.mp this
      rw [e];simp
    . simp [d]
  . rw [if_neg c]
    have no:∀ x∈kvs,x.1≠k:=λ x hx e=>c (List.any_eq_true.mpr ⟨x,hx,by simpa using e⟩)
    unfold eIq
    rw [List.find?_append]
    by_cases d:j=k
    . subst d
      have:kvs.find? (λ kv=>decide (kv.1=j))=none:=List.find?_eq_none.mpr λ x hx=>by simpa using no x hx
      rw [this];simp
    . rw [if_neg d]
      have e:([(k,y)]:List (Key × D)).find? (λ kv=>decide (kv.1=j))=none:=by simp [Ne.symm d]
      rw [e];simp
theorem iRq (kvs:List (Key × D)) (k:Key) (v:D):(putKD kvs k v).length<=kvs.length+1:=by
  unfold putKD;split<;>simp
@[irreducible] def onD (G:DV) (a:Addr) (k:List (Key × D)->Prop):Prop:=match G a with
  | some (.dK kvs)=>k kvs
  | _=>False
theorem nVq {a:Addr} {k:List (Key × D)->Prop} {kvs:List (Key × D)} (h:G a=some (.dK kvs)) (q:k kvs):onD G a k:=by unfold onD;rw [h];exact q
theorem nPq {a:Addr} {k:List (Key × D)->Prop} (v:Vw K G H) (h:onD G a k):∃ kvs gs,k kvs/\G a=some (.dK kvs)/\H a=some (.dK gs)/\AbsF K H kvs gs:=by
  unfold onD at h
  split at h
  . next kvs e=>obtain ⟨gs,z,r⟩:=v _ _ e;exact ⟨kvs,gs,h,e,z,r⟩
  . exact h.elim
theorem jUq {p:Addr} {gs:List (Key × V)} {o:HO} (h:H p=some (.dK gs)):Mono K H (upd H p o):=h6q (λ ys=>by rintro (e | ⟨o,e⟩)<;>rw [h] at e<;>cases e) λ _ _ e=>by rw [h] at e;cases e
theorem Go.newD (v:Vw K G H) {p:Addr} {kvs:List (Key × D)} {gs:List (Key × V)} (h:H p=none) (r:AbsF K H kvs gs):Go K G H (up G p (.dK kvs)) (upd H p (.dK gs)) where
  tup:=bUq h
  dom:=λ a u e=>⟨u,by rw [aEq (aTq e h)];exact e⟩
  same:=λ a u e _=>by rw [aEq (aTq e h)];exact e
  new:=λ a u e n=>by rw [aZq (aTq e h)];exact n
  vw:=λ a u e=>by
    by_cases c:a=p
    . subst c;rw [a8q] at e;cases e
      exact ⟨gs,aNq,r.1,r.2.mono (bUq h)⟩
    . rw [aZq c] at e
      exact (v a u e).mono (bUq h) (aEq c)
theorem Go.setD (v:Vw K G H) {p:Addr} {kvs0 kvs:List (Key × D)} {gs:List (Key × V)} (h:G p=some (.dK kvs0)) (r:AbsF K H kvs gs):Go K G H (up G p (.dK kvs)) (upd H p (.dK gs)):=by
  obtain ⟨us,hp,_⟩:=v p _ h
  exact {
    tup:=jUq hp
    dom:=λ a u e=>by
      by_cases c:a=p
      . subst c;exact ⟨_,aNq⟩
      . exact ⟨u,by rw [aEq c];exact e⟩
    same:=λ a u e n=>by
      have c:a≠p:=by rintro rfl;rw [h] at n;cases n
      rw [aEq c];exact e
    new:=λ a u e n=>by
      have c:a≠p:=by rintro rfl;rw [h] at n;cases n
      rw [aZq c];exact n
    vw:=λ a u e=>by
      by_cases c:a=p
      . subst c;rw [a8q] at e;cases e
        exact ⟨gs,aNq,r.1,r.2.mono (jUq hp)⟩
      . rw [aZq c] at e
        exact (v a u e).mono (jUq hp) (aEq c) }
def fOq:D->Option Key
  | .int i=>some (.inl i)
  | .str x=>some (.inr x)
  | _=>none
theorem eWq {d:D} {k:Key} (h:fOq d=some k):d=kD k:=by cases d<;>simp [fOq] at h<;>subst h<;>rfl
end
section
variable {X:Cx} {o i e value:Expr} {pos pos' tpos:Pos} {td ti tv:DTE}
abbrev aA9q (td ti:DTE):DTE:=λ ρ G Q=>td ρ G λ x G1=>ti ρ G1 λ y G2=>match x with
  | .ref a=>onD G2 a λ kvs=>∃ k d,fOq y=some k/\eIq kvs k=some d/\Q d G2
  | _=>False
theorem qPq (hu:X.A.units+200 < cLine) (ho:AE X o td) (hi:AE X i ti) (hs:yYq i):AE X (.Subscript o i pos) (aA9q td ti):=by
  obtain ⟨co,jo,ro⟩:=ho.run
  obtain ⟨ci,ji,ri⟩:=hi.run
  refine ⟨_,⟨t9q (by omega) jo.run ji.run hs⟩,λ ρ G DQ σ H Q B q F=>ro ρ G _ σ H _ B q λ x G1 v H1 g1 ax q1=>ri ρ G1 _ σ H1 _ (B.go g1) q1 λ y G2 u H2 g2 ay q2=>?_⟩
  cases x with
  | ref a=>
    cases ax
    obtain ⟨kvs,gs,⟨k,d,ek,ed,q3⟩,e1,e2,r⟩:=nPq g2.vw q2
    obtain ⟨w,hw,aw⟩:=(r.val (k:=k)).1 d ed
    rw [eWq ek] at ay
    have:=oGq ay
    subst this
    exact ⟨a,w,rfl,by rw [<- hw];exact DGet.k e2,F d G2 w H2 (g1.trans g2) aw q3⟩
  | _=>exact (show False from q2).elim
abbrev xPq (td ti tv:DTE):DTS:=λ DD ρ G=>tv ρ G λ v G1=>td ρ G1 λ x G2=>ti ρ G2 λ y G3=>match x with
  | .ref a=>onD G3 a λ kvs=>∃ k,fOq y=some k/\kvs.length < sizeLine/\DD.nx ρ (up G3 a (.dK (putKD kvs k v)))
  | _=>False
theorem q2q (hu:X.A.units+200 < cLine) (ho:AE X o td) (hi:AE X i ti) (hv:AE X value tv) (hs:swapsWith value (some (.Subscript o i pos')) pos.line X.env=pure false:=by rfl):AS X (.Assign [.Subscript o i pos'] value pos) (xPq td ti tv):=by
  obtain ⟨co,jo,ro⟩:=ho.run
  obtain ⟨ci,ji,ri⟩:=hi.run
  obtain ⟨cv,jv,rv⟩:=hv.run
  refine ⟨_,⟨tFq (by omega) jo.run ji.run jv.run hs⟩,λ DD Dc ρ G σ H B q F=>rv ρ G _ σ H _ B q λ y0 G1 v0 H1 g1 av q1=>ro ρ G1 _ σ H1 _ (B.go g1) q1 λ x G2 v H2 g2 ax q2=>ri ρ G2 _ σ H2 _ ((B.go g1).go g2) q2 λ y G3 u H3 g3 ay q3=>?_⟩
  cases x with
  | ref a=>
    cases ax
    obtain ⟨kvs,gs,⟨k,ek,hl,q4⟩,e1,e2,r⟩:=nPq g3.vw q3
    rw [eWq ek] at ay
    have:=oGq ay
    subst this
    have len:gs.length=kvs.length:=by have:=congrArg List.length r.1;simpa using this.symm
    have g4:=Go.setD g3.vw e1 (r.putKD (k:=k) ((av.mono g2.tup).mono g3.tup))
    exact ⟨a,_,rfl,DPut.k e2 (by omega),F.nx _ _ _ _ (((g1.trans g2).trans g3).trans g4) ((((B.go g1).go g2).go g3).go g4) q4⟩
  | _=>exact (show False from q3).elim
abbrev xLq (tk tv:DTE):DTE:=λ ρ G Q=>∀ p,G p=none->tk ρ (up G p (.dK [])) λ x G1=>tv ρ G1 λ y G2=>G2 p=some (.dK [])/\∃ k,fOq x=some k/\Q (.ref p) (up G2 p (.dK [(k,y)]))
theorem p1q {tk:DTE} (hk:AE X i tk) (hv:AE X e tv):AE X (.Dict [some i] [e] pos) (xLq tk tv):=by
  obtain ⟨ck,jk,rk⟩:=hk.run
  obtain ⟨cv,jv,rv⟩:=hv.run
  refine ⟨_,⟨u7q (p9q jk.run jv.run u6q) rfl rfl (by simp) (by simp)⟩,λ ρ G DQ σ H Q B q F p hp=>?_⟩
  have g0:=Go.newD (kvs:=[]) (gs:=[]) B.vw hp ⟨rfl,rfl⟩
  refine rk ρ _ _ σ _ _ (B.go g0) (q p (B.vw.none hp)) λ x G1 v H1 g1 ax q1=>rv ρ G1 _ σ H1 _ ((B.go g0).go g1) q1 λ y G2 u H2 g2 ay q2=>?_
  obtain ⟨e0,k,ek,q3⟩:=q2
  obtain ⟨gs,z,r⟩:=g2.vw p _ e0
  rw [r.nil_inv] at z
  rw [eWq ek] at ax
  have:=oGq ax
  subst this
  have g3:=Go.setD (kvs:=[(k,y)]) (gs:=[(k,u)]) g2.vw e0 (AbsF.consI ay ⟨rfl,rfl⟩)
  exact ⟨z,[(k,u)],rfl,by simp,F (.ref p) _ _ _ (((g0.trans g1).trans g2).trans g3) rfl q3⟩
end
end L3
namespace L2
open PySem PySem.Spec PyProof.Rows
section
variable {X:Cx} {a:Expr} {ta:TE} {pos:Pos}
def aC7q (K:PySem.W.Frag) (ta:TE):TE:=λ σ H Q=>ta σ H λ x H1=>∃ k,yIq K x H1 k/\Q (.bl (!k)) H1
theorem tUq (ha:PE X a ta):PE X (.UnaryOp .Not a pos) (aC7q X.K ta):=by
  intro pins s σ H Q I h
  refine UnaryOp_ (thn (ha pins s σ H _ I h) λ v s1 ⟨x,H1,I1,r1,k,hk,q1⟩=>not_of ?_)
  exact thn (r5q pins s1 σ H1 x v (λ c H2=>Q (.bl (!c)) H2) I1 r1 ⟨k,hk,q1⟩) λ c s2 ⟨H2,I2,q2⟩=>⟨.bl (!c),H2,I2,rfl,q2⟩
end
end L2
namespace L3
open PySem PyProof L2
section
variable {X:Cx} {a:Expr} {ta:DTE} {pos:Pos}
abbrev aD0q (ta:DTE):DTE:=λ ρ G Q=>ta ρ G λ x G1=>truD x G1 λ c=>Q (.bl (!c)) G1
theorem u1q (ha:AE X a ta):AE X (.UnaryOp .Not a pos) (aD0q ta):=by
  obtain ⟨ca,ja,ra⟩:=ha.run
  refine ⟨_,⟨tUq ja.run⟩,λ ρ G DQ σ H Q B q F=>ra ρ G _ σ H _ B q λ x G1 v H1 g1 ax q1=>?_⟩
  cases x with
  | non=>cases ax;exact ⟨_,rfl,F (.bl _) _ _ _ g1 rfl q1⟩
  | bl b=>cases ax;exact ⟨_,rfl,F (.bl _) _ _ _ g1 rfl q1⟩
  | int i=>cases ax;exact ⟨_,rfl,F (.bl _) _ _ _ g1 rfl q1⟩
  | str y=>cases ax;exact ⟨_,⟨q1.1,rfl⟩,F (.bl _) _ _ _ g1 rfl q1.2⟩
  | ref l=>
    cases ax
    obtain ⟨ds,vs,k,s,r⟩:=bDq g1.vw q1
    exact ⟨_,.inl ⟨vs,s,rfl⟩,by rw [r.isEmpty];exact F (.bl _) _ _ _ g1 rfl k⟩
  | tup ds=>
    obtain ⟨l,vs,rfl,s,r⟩:=ax
    exact ⟨_,.inr (.inl ⟨vs,s,rfl⟩),by rw [r.isEmpty];exact F (.bl _) _ _ _ g1 rfl q1⟩
  | ty n=>exact (show False from q1).elim
  | frl ds=>exact (show False from q1).elim
end
end L3
namespace L2
open PySem PySem.Spec PyProof.Rows
section
variable {X:Cx}
end
end L2
namespace L3
open PySem PySem.Spec L2
section
variable {X:Cx} {a b c e f o i tg iter value:Expr} {x:Str} {ad C:Addr} {tab:Str->Option D} {ta tv te tf to ti:DTE} {pos pos' tpos p apos cpos:Pos}
theorem s2q {st:Stmt}:AS X st (λ _ _ _=>False):=⟨λ _ _ _=>False,⟨λ _ _ _ _ _ _ h=>h.elim⟩,λ DD Dc ρ G σ H B q F=>q.elim⟩
end
end L3
namespace L2
open PySem PySem.Spec PyProof.Rows
section
variable {X:Cx}
end
end L2
namespace L3
open PySem PySem.Spec L2
section
variable {X:Cx}
end
end L3
namespace L2
open PySem PySem.Spec PyProof.Rows
end L2
namespace L3
open PySem L2
def Tm.wbl:Tm->Nat->Nat
  | .way _,w=>w+1
  | _,w=>w
def Tm.mapN (φ:Nat->Nat->Tm):Nat->Tm->Tm
  | w,.name n=>φ n w
  | _,.whole k=>.whole k
  | w,.way t=>.way (t.mapN φ (w+1))
  | w,.give t u=>.give (t.mapN φ w) (u.mapN φ w)
  | w,.pair t u=>.pair (t.mapN φ w) (u.mapN φ w)
  | w,.first t=>.first (t.mapN φ w)
  | w,.second t=>.second (t.mapN φ w)
  | w,.plus t u=>.plus (t.mapN φ w) (u.mapN φ w)
  | w,.look t u v=>.look (t.mapN φ w) (u.mapN φ w) (v.mapN φ w)
def Tm.nmsR:Nat->Tm->List (Nat × Nat)
  | w,.name n=>[(n,w)]
  | _,.whole _=>[]
  | w,.way t=>t.nmsR (w+1)
  | w,.give t u=>u.nmsR w++t.nmsR w
  | w,.pair t u=>u.nmsR w++t.nmsR w
  | w,.first t=>t.nmsR w
  | w,.second t=>t.nmsR w
  | w,.plus t u=>u.nmsR w++t.nmsR w
  | w,.look t u v=>v.nmsR w++(u.nmsR w++t.nmsR w)
def Tm.leaf:Tm->Bool
  | .name _=>true
  | .whole _=>true
  | _=>false
theorem Tm.nmsR_inn {t:Tm} (h:t.leaf=false) (w:Nat):t.nmsR w=t.inn.reverse.flatMap (λ u=>u.nmsR (t.wbl w)):=by
  cases t<;>simp [Tm.nmsR,Tm.inn,Tm.wbl,Tm.leaf] at h ⊢
theorem Tm.nmsR_mem {t u:Tm} (h:t.leaf=false) (hu:u∈t.inn) {w:Nat} {z:Nat × Nat} (hz:z∈u.nmsR (t.wbl w)):z∈t.nmsR w:=by
  rw [Tm.nmsR_inn h]
  exact List.mem_flatMap.mpr ⟨u,List.mem_reverse.mpr hu,hz⟩
theorem Tm.nmsR_len (t:Tm):∀ w,(t.nmsR w).length<=t.sz:=by
  induction t<;>intro w<;>simp only [Tm.nmsR,Tm.sz,List.length_append,List.length_cons,List.length_nil]<;>first | omega | skip
  case way t ih=>have:=ih (w+1);omega
  case give t u i1 i2=>have:=i1 w;have:=i2 w;omega
  case pair t u i1 i2=>have:=i1 w;have:=i2 w;omega
  case first t ih=>have:=ih w;omega
  case second t ih=>have:=ih w;omega
  case plus t u i1 i2=>have:=i1 w;have:=i2 w;omega
  case look t u v i1 i2 i3=>have:=i1 w;have:=i2 w;have:=i3 w;omega
def Tm.rebuild:Tm->List Tm->Tm
  | .way _,[a]=>.way a
  | .give _ _,[a,b]=>.give a b
  | .pair _ _,[a,b]=>.pair a b
  | .first _,[a]=>.first a
  | .second _,[a]=>.second a
  | .plus _ _,[a,b]=>.plus a b
  | .look _ _ _,[a,b,c]=>.look a b c
  | t,_=>t
theorem Tm.mapN_eq {φ:Nat->Nat->Tm} {t:Tm} (h:t.leaf=false) (w:Nat):t.mapN φ w=t.rebuild (t.inn.map λ u=>u.mapN φ (t.wbl w)):=by
  cases t<;>first | rfl | cases h
theorem Tm.enc_rebuild {t:Tm} {cs:List Tm} (h:t.leaf=false) (hl:cs.length=t.inn.length):(t.rebuild cs).enc=.tup (.str t.word::cs.map Tm.enc):=by
  cases t<;>simp only [Tm.leaf,reduceCtorEq] at h<;>simp only [Tm.inn,List.length_cons,List.length_nil] at hl
  all_goals (rcases cs with _ | ⟨a,_ | ⟨b,_ | ⟨c,_ | ⟨d,r⟩⟩⟩⟩<;>simp at hl<;>rfl)
abbrev Ent:=Tm × Nat × Bool
def p6q (z:Ent):D:=.tup [z.1.enc,.int z.2.1,.bl z.2.2]
def eff (φ:Nat->Nat->Tm) (z:Ent) (m:List Tm):Option (List Tm):=match z.1 with
  | .name n=>some (φ n z.2.1::m)
  | .whole k=>some (.whole k::m)
  | t=>if z.2.2 then (if t.inn.length<=m.length then some (t.rebuild (m.take t.inn.length)::m.drop t.inn.length) else none) else some (t.mapN φ z.2.1::m)
def oDq (φ:Nat->Nat->Tm):List Ent->List Tm->Option (List Tm)
  | [],m=>some m
  | z::zs,m=>match eff φ z m with
    | some m'=>oDq φ zs m'
    | none=>none
theorem fTq {φ:Nat->Nat->Tm} (t:Tm) (w:Nat) (m:List Tm):eff φ (t,w,false) m=some (t.mapN φ w::m):=by cases t<;>rfl
theorem kAq {φ:Nat->Nat->Tm} {t:Tm} (h:t.leaf=false) (w:Nat) (m:List Tm):eff φ (t,w,true) m=if t.inn.length<=m.length then some (t.rebuild (m.take t.inn.length)::m.drop t.inn.length) else none:=by
  cases t<;>first | rfl | cases h
theorem kJq {φ:Nat->Nat->Tm} {w:Nat} {zs:List Ent}:∀ (xs:List Tm) (m:List Tm),oDq φ (xs.map (λ u=>(u,w,false))++zs) m=oDq φ zs ((xs.map λ u=>u.mapN φ w).reverse++m)
  | [],m=>rfl
  | x::xs,m=>by
    rw [List.map_cons,List.cons_append,oDq,fTq]
    simp only []
    rw [kJq xs]
    simp
theorem o8q {φ:Nat->Nat->Tm} {t:Tm} (h:t.leaf=false) (w:Nat) (zs:List Ent) (m:List Tm):oDq φ ((t.inn.map λ u=>((u,t.wbl w,false):Ent)).reverse++(t,w,true)::zs) m=oDq φ ((t,w,false)::zs) m:=by
  rw [<- List.map_reverse,kJq,oDq,oDq,fTq,kAq h]
  rw [List.map_reverse,List.reverse_reverse,if_pos (by simp)]
  simp only [List.length_map,List.take_left',List.drop_left',Tm.mapN_eq h]
def wtE (z:Ent):Nat:=if z.2.2 then 1 else 2 * z.1.sz
def wtS (zs:List Ent):Nat:=(zs.map wtE).sum
theorem eHq (z:Ent) (zs:List Ent):wtS (z::zs)=wtE z+wtS zs:=by simp [wtS]
theorem nCq (w:Nat) (zs:List Ent):∀ xs:List Tm,wtS (xs.map (λ u=>((u,w,false):Ent))++zs)=2 * (xs.map Tm.sz).sum+wtS zs
  | []=>by simp
  | x::xs=>by rw [List.map_cons,List.cons_append,eHq,nCq w zs xs,List.map_cons,List.sum_cons];simp only [wtE];simp;omega
theorem oCq:∀ zs:List Ent,zs.length<=wtS zs
  | []=>Nat.zero_le _
  | z::zs=>by
    have:=oCq zs
    have:=z.1.sz_pos
    have h:1<=wtE z:=by unfold wtE;split<;>omega
    rw [eHq,List.length_cons];omega
theorem Tm.sz_sum {t:Tm} (h:t.leaf=false):(t.inn.map Tm.sz).sum+1=t.sz:=by
  cases t<;>simp [Tm.inn,Tm.sz,Tm.leaf] at h ⊢<;>omega
def hHq:DSp:=λ ds G Q=>∃ (t:Tm) (w:Nat),ds=[t.enc,.int w]/\Q (.int (t.wbl w:Nat)) G
def prD (z:Nat × Nat):D:=.tup [.int z.1,.int z.2]
def dIq:DSp:=λ ds G Q=>∃ t:Tm,ds=[t.enc]/\t.sz<=10000/\∀ l,G l=none->Q (.ref l) (up G l (.lst ((t.nmsR 0).map prD)))
def clD (φ:Nat->Nat->Tm) (C:Nat->Nat->Prop) (L:List (Addr × DO)):DSp:=λ ds G Q=>∃ n w:Nat,ds=[.int n,.int w]/\C n w/\(∀ q∈L,G q.1=some q.2)/\Q (φ n w).enc G
def kSq (P:Program) (w:World) (K:PySem.W.Frag) (mg:Str->Option Value) (base:Heap) (k:Nat):DSp:=λ ds G Q=>∃ (t:Tm) (f:Addr) (name qual:Str) (st:Stmt) (fr:List Str) (vals:List D) (ps:List Str) (φ:Nat->Nat->Tm) (C:Nat->Nat->Prop) (L:List (Addr × DO)),
  ds=[t.enc,.ref f]/\G f=some (.clo name qual st fr vals)/\CloD P w K mg base k name qual st fr vals ps (clD φ C L)/\(∀ q∈L,G q.1=some q.2)/\t.sz<=10000/\(∀ z∈t.nmsR 0,C z.1 z.2)/\Q (t.mapN φ 0).enc G
def c5q:Stmt->Pos
  | .FunctionDef _ _ _ _ _ _ _ _ _ p=>p
  | _=>⟨0,0,0,0⟩
def b3q (m l:Nat):Nat->Nat->Tm:=λ n w=>.name (if n ≥ w+l then n+m else n)
def m0q (T:Addr) (pos:Pos):DSp:=λ ds G Q=>∃ (t:Tm) (m l:Nat),ds=[t.enc,.int m,.int l]/\G T=some (.tab pos "lifted.<locals>.moved")/\t.sz<=10000/\Q (t.mapN (b3q m l) 0).enc G
def e2D (z:Tm × Nat):D:=.tup [z.1.enc,.int z.2]
def sz2 (zs:List (Tm × Nat)):Nat:=(zs.map λ z=>z.1.sz).sum
theorem h3q (z:Tm × Nat) (zs:List (Tm × Nat)):sz2 (z::zs)=z.1.sz+sz2 zs:=by simp [sz2]
theorem fKq (w:Nat) (zs:List (Tm × Nat)):∀ xs:List Tm,sz2 (xs.map (λ u=>(u,w))++zs)=(xs.map Tm.sz).sum+sz2 zs
  | []=>by simp
  | x::xs=>by rw [List.map_cons,List.cons_append,h3q,fKq w zs xs,List.map_cons,List.sum_cons];simp only [];omega
theorem nZq:∀ zs:List (Tm × Nat),zs.length<=sz2 zs
  | []=>Nat.zero_le _
  | z::zs=>by
    have:=nZq zs
    have:=z.1.sz_pos
    rw [h3q,List.length_cons];omega
theorem Tm.sz_inns (t:Tm):(t.inn.map Tm.sz).sum+1<=t.sz:=by cases t<;>simp [Tm.inn,Tm.sz]<;>omega
theorem xKq {t:Tm} {G:DV} {Q:DK} (q:Q (.str t.word) G):ixD t.enc (.int 0) G Q:=by cases t<;>exact cQq rfl q
theorem kWq {t:Tm} (h:(t.word=="name")=true):∃ k,t=.name k:=by
  cases t<;>first | exact ⟨_,rfl⟩ | (simp [Tm.word,i4q,b5q] at h)
theorem mAq {t:Tm} (h:(t.word=="whole")=true):∃ k,t=.whole k:=by
  cases t<;>first | exact ⟨_,rfl⟩ | (simp [Tm.word,i4q,b5q] at h)
theorem vSq {t:Tm} (h1:(t.word=="name")=false) (h2:(t.word=="whole")=false):t.leaf=false:=by
  cases t<;>first | rfl | (simp [Tm.word] at h1;done) | (simp [Tm.word] at h2;done)
theorem vAq {t:Tm} (h:(t.word=="name")=false) (w:Nat):t.nmsR w=t.inn.reverse.flatMap (λ u=>u.nmsR (t.wbl w)):=by
  cases t<;>first | (simp [Tm.word] at h;done) | simp [Tm.nmsR,Tm.inn,Tm.wbl]
theorem Tm.enc_node {t:Tm} (h:t.leaf=false):t.enc=.tup (.str t.word::t.inn.map Tm.enc):=by cases t<;>first | rfl | cases h
def vRq (zs:List (Nat × Nat)):List Int:=zs.filterMap λ z=>if z.2<=z.1 then some ((z.1:Int) - z.2) else none
def Tm.opn (t:Tm):List Int:=vRq (t.nmsR 0)
theorem Tm.opn_len (t:Tm):t.opn.length<=(t.nmsR 0).length:=List.length_filterMap_le _ _
def m5q:DSp:=λ ds G Q=>∃ t:Tm,ds=[t.enc]/\t.sz<=10000/\(t.nmsR 0).length < 64/\∀ ms,Srt t.opn ms->∀ l,G l=none->Q (.ref l) (up G l (.lst (ms.map D.int)))
theorem sIq (m l:Nat) (t:Tm):∀ w,(t.mapN (b3q m l) w).dp=t.dp:=by
  induction t<;>intro w<;>simp_all [Tm.mapN,Tm.dp,b3q]
theorem i6q (l:Nat) (t:Tm):∀ w,t.mapN (b3q 0 l) w=t:=by
  induction t<;>intro w<;>simp_all [Tm.mapN,b3q]
theorem oHq:∀ {xs ys:List Int},xs.Nodup->(∀ j∈xs,j∈ys)->xs.length<=ys.length
  | [],_,_,_=>Nat.zero_le _
  | x::xs,ys,h,hs=>by
    rw [List.nodup_cons] at h
    have hx:=hs x (List.mem_cons_self ..)
    have ih:=oHq (ys:=ys.erase x) h.2 λ j hj=>(List.mem_erase_of_ne (by rintro rfl;exact h.1 hj)).mpr (hs j (List.mem_cons_of_mem _ hj))
    rw [List.length_erase_of_mem hx] at ih
    have:0 < ys.length:=List.length_pos_of_mem hx
    rw [List.length_cons];omega
theorem kp {G:DV} {l b:Addr} {o u:DO} (h:G l=none) (e:G b=some u):up G l o b=some u:=Sub.new (Sub.refl _) h b u e
theorem Fx.kp {a b:Addr} {G G':DV} {u:DO} (h:Fx a G G') (n:b≠a) (e:G b=some u):G' b=some u:=by rw [h.other n];exact e
theorem gGq:∀ ns:List Int,cNq (ns.map D.int)=true
  | []=>rfl
  | _::ns=>by simp [cNq,D.data,gGq ns]
theorem fSq (m:Nat) (t:Tm):∀ w,(∀ z∈t.nmsR w,z.1 < z.2)->t.mapN (b3q m 0) w=t:=by
  induction t with
  | name n=>intro w h;have:=h (n,w) (List.mem_cons_self ..);simp only [Tm.mapN,b3q];rw [if_neg (by omega)]
  | whole k=>intro w _;rfl
  | way t ih=>intro w h;simp only [Tm.mapN];rw [ih (w+1) h]
  | first t ih=>intro w h;simp only [Tm.mapN];rw [ih w h]
  | second t ih=>intro w h;simp only [Tm.mapN];rw [ih w h]
  | give t u i1 i2=>intro w h;simp only [Tm.mapN];rw [i1 w λ z hz=>h z (List.mem_append_right _ hz),i2 w λ z hz=>h z (List.mem_append_left _ hz)]
  | pair t u i1 i2=>intro w h;simp only [Tm.mapN];rw [i1 w λ z hz=>h z (List.mem_append_right _ hz),i2 w λ z hz=>h z (List.mem_append_left _ hz)]
  | plus t u i1 i2=>intro w h;simp only [Tm.mapN];rw [i1 w λ z hz=>h z (List.mem_append_right _ hz),i2 w λ z hz=>h z (List.mem_append_left _ hz)]
  | look t u v i1 i2 i3=>intro w h;simp only [Tm.mapN];rw [i1 w λ z hz=>h z (List.mem_append_right _ (List.mem_append_right _ hz)),i2 w λ z hz=>h z (List.mem_append_right _ (List.mem_append_left _ hz)),i3 w λ z hz=>h z (List.mem_append_left _ hz)]
theorem nHq {t:Tm} (h:t.opn=[]):∀ z∈t.nmsR 0,z.1 < z.2:=λ z hz=>by
  rcases Nat.lt_or_ge z.1 z.2 with c | c
  . exact c
  . have:((z.1:Int) - z.2)∈t.opn:=List.mem_filterMap.mpr ⟨z,hz,by rw [if_pos c]⟩
    rw [h] at this;cases this
def d2q (u:Tm):Nat->Nat->Tm:=λ n w=>if n=w then u.mapN (b3q w 0) 0 else .name (if w < n then n - 1 else n)
def rGq (t:Tm):List Nat:=((t.nmsR 0).filter λ z=>decide (z.1=z.2)).map (·.2)
theorem qAq {t:Tm} {n:Nat} (h:(n,n)∈t.nmsR 0):n∈rGq t:=List.mem_map.mpr ⟨(n,n),List.mem_filter.mpr ⟨h,by simp⟩,rfl⟩
theorem p7q (t:Tm):(rGq t).length<=(t.nmsR 0).length:=by unfold rGq;rw [List.length_map];exact List.length_filter_le _ _
def Cop (kvs:List (Key × D)) (u:Tm) (ws:List Nat):Prop:=∀ w∈ws,eIq kvs (.inl w)=some (u.mapN (b3q w 0) 0).enc
def h1q (T:Addr) (pos:Pos):DSp:=λ ds G Q=>∃ (u:Tm) (l:Addr) (ws:List Nat),ds=[u.enc,.ref l]/\G l=some (.lst (ws.map λ(w:Nat)=>D.int (w:Int)))/\ws.length < 64/\u.sz<=10000/\(u.nmsR 0).length < 64/\G T=some (.tab pos "lifted.<locals>.moved")/\∀ d kvs,G d=none->Cop kvs u ws->Q (.ref d) (up G d (.dK kvs))
def sOq (T:Addr) (pos:Pos) (T2:Addr) (pos2:Pos):DSp:=λ ds G Q=>∃ t u:Tm,ds=[t.enc,u.enc]/\t.sz<=10000/\u.sz<=10000/\(t.nmsR 0).length < 64/\(u.nmsR 0).length < 64/\G T=some (.tab pos "lifted.<locals>.moved")/\G T2=some (.tab pos2 "put_in.<locals>.taken")/\Q (t.mapN (d2q u) 0).enc G
theorem oXq {φ:Nat->Nat->Tm} {Bd:Nat} (hφ:∀ n w,(φ n w).dp<=Bd) (t:Tm):∀ w,(t.mapN φ w).dp<=t.dp+Bd:=by
  induction t with
  | name k=>intro w;have:=hφ k w;simp only [Tm.mapN,Tm.dp];omega
  | whole k=>intro w;simp only [Tm.mapN,Tm.dp];omega
  | way t ih=>intro w;have:=ih (w+1);simp only [Tm.mapN,Tm.dp];omega
  | first t ih=>intro w;have:=ih w;simp only [Tm.mapN,Tm.dp];omega
  | second t ih=>intro w;have:=ih w;simp only [Tm.mapN,Tm.dp];omega
  | give t u i1 i2=>intro w;have:=i1 w;have:=i2 w;simp only [Tm.mapN,Tm.dp];omega
  | pair t u i1 i2=>intro w;have:=i1 w;have:=i2 w;simp only [Tm.mapN,Tm.dp];omega
  | plus t u i1 i2=>intro w;have:=i1 w;have:=i2 w;simp only [Tm.mapN,Tm.dp];omega
  | look t u v i1 i2 i3=>intro w;have:=i1 w;have:=i2 w;have:=i3 w;simp only [Tm.mapN,Tm.dp];omega
theorem s6q {u:Tm} (n w:Nat):(d2q u n w).dp<=u.dp:=by
  unfold d2q;split
  . rw [sIq];exact Nat.le_refl _
  . exact Nat.zero_le _
def Tm.comes:Tm->Tm
  | .give (.way b) a=>b.mapN (d2q a) 0
  | .first (.pair a _)=>a
  | .second (.pair _ b)=>b
  | .plus (.whole i) (.whole j)=>.whole (i+j)
  | .look (.whole i) a b=>if i=0 then a else b
  | t=>t
def tWq:Tm->Prop
  | .give (.way b) a=>b.sz<=10000/\a.sz<=10000/\(b.nmsR 0).length < 64/\(a.nmsR 0).length < 64
  | _=>True
def Tm.rpl (o:Tm):List Int->Tm->Tm
  | [],_=>o
  | k::ks,t=>t.rebuild (t.inn.set k.toNat (Tm.rpl o ks (t.inn.getD k.toNat (.name 0))))
def Tm.behind (t:Tm) (ns:List Int):Tm:=match t.at ns with
  | some u=>Tm.rpl u.comes ns t
  | none=>t
section
variable (T:Addr) (pos:Pos) (T2:Addr) (pos2:Pos)
def Tabs2 (G:DV):Prop:=G T=some (.tab pos "lifted.<locals>.moved")/\G T2=some (.tab pos2 "put_in.<locals>.taken")
theorem Tabs2.new {T pos T2 pos2} {G:DV} {p:Addr} {o:DO} (h:Tabs2 T pos T2 pos2 G) (n:G p=none):Tabs2 T pos T2 pos2 (up G p o):=
  ⟨by rw [aZq (by rintro rfl;rw [h.1] at n;cases n)];exact h.1,by rw [aZq (by rintro rfl;rw [h.2] at n;cases n)];exact h.2⟩
def jZq:DSp:=λ ds G Q=>∃ t:Tm,ds=[t.enc]/\t.hasRule=true/\tWq t/\Tabs2 T pos T2 pos2 G/\Q t.comes.enc G
def f0q:DSp:=λ ds G Q=>∃ (t:Tm) (k:Nat) (o:Tm),ds=[t.enc,.int k,o.enc]/\t.leaf=false/\k < t.inn.length/\Q (t.rebuild (t.inn.set k o)).enc G
def oAq:DSp:=λ ds G Q=>∃ (t:Tm) (ns:List Int) (u o:Tm),ds=[t.enc,plD ns,o.enc]/\t.at ns=some u/\ns.length<=10000/\Q (Tm.rpl o ns t).enc G
def sUq:DSp:=λ ds G Q=>∃ (t:Tm) (ns:List Int) (u:Tm),ds=[t.enc,plD ns]/\t.at ns=some u/\u.hasRule=true/\tWq u/\ns.length<=10000/\Tabs2 T pos T2 pos2 G/\Q (t.behind ns).enc G
end
def Tm.along (t:Tm) (ns:List Int) (i:Nat):Tm:=(t.at (ns.take i)).getD (.name 0)
theorem Tm.along_step {t u:Tm} {ns:List Int} {i:Nat} {k:Int} (h:t.at ns=some u) (hk:ns[i]?=some k):0<=k/\(t.along ns i).inn[k.toNat]?=some (t.along ns (i+1)):=by
  obtain ⟨v,x,h1,h2,h3,h4⟩:=Tm.at_take h hk
  unfold Tm.along
  rw [h1,h4]
  exact ⟨h2,h3⟩
theorem rNq {α:Type} {xs:List α} {k:Nat} (h:k<=xs.length):cut xs none (some (k:Int))=xs.take k:=by
  unfold cut
  rw [show HT.sIx xs.length 0 none=0 from rfl,show HT.sIx xs.length xs.length (some (k:Int))=k by unfold HT.sIx;simp only [];rw [if_neg (by omega)];omega,List.drop_zero,Nat.sub_zero]
theorem h4q {α:Type} {xs:List α} {k:Nat} (h:k+1<=xs.length):cut xs (some ((k:Int)+1)) none=xs.drop (k+1):=by
  unfold cut
  rw [show HT.sIx xs.length xs.length none=xs.length from rfl,show HT.sIx xs.length 0 (some ((k:Int)+1))=k+1 by unfold HT.sIx;simp only [];rw [if_neg (by omega)];omega]
  rw [List.take_of_length_le (by rw [List.length_drop];omega)]
theorem kVq {t x:Tm} {k:Nat} (h:t.inn[k]?=some x):t.leaf=false:=by
  cases t<;>first | rfl | (simp [Tm.inn] at h)
end L3
namespace L2
open PySem PySem.Spec PyProof.Rows
def Fly (base:Heap) (l:List Env) (e T:Addr) (cls:Value) (h:Heap):Prop:=
  ∃ a0,base.StaysIn h/\base.get? e=none/\h.FunFrames base l/\∃ oe vs oT ts,h.get? e=some oe/\(oe.cls=cls/\vs[0]?=some a0)/\oe.data=Data.fields vs/\vs[1]?=some (.ref T)/\base.get? T=none/\T≠e/\h.get? T=some oT/\oT.data=Data.fields ts/\ts[3]?=some Value.none
theorem r2q {base:Heap} {l:List Env} {e:Addr} {cls a0:Value} {h:Heap} (f:base.FlyingW l e cls a0 h):∃ T,Fly base l e T cls h:=by
  obtain ⟨h1,h2,h3,oe,vs,T,oT,ts,h4⟩:=f
  exact ⟨T,a0,h1,h2,h3,oe,vs,oT,ts,h4⟩
theorem Fly.flying {base:Heap} {l:List Env} {e T:Addr} {cls:Value} {h:Heap} (f:Fly base l e T cls h):∃ a0,base.FlyingW l e cls a0 h:=by
  obtain ⟨a0,h1,h2,h3,oe,vs,oT,ts,h4⟩:=f
  exact ⟨a0,h1,h2,h3,oe,vs,T,oT,ts,h4⟩
theorem Fly.rebase {base B:Heap} {l:List Env} {e T:Addr} {cls:Value} {h:Heap} (f:Fly base l e T cls h) (s:B.StaysIn h) (he:B.get? e=none) (hT:B.get? T=none) (hf:h.FunFrames B l):Fly B l e T cls h:=by
  obtain ⟨a0,_,_,_,oe,vs,oT,ts,h4,h5,h6,h7,_,h9⟩:=f
  exact ⟨a0,s,he,hf,oe,vs,oT,ts,h4,h5,h6,h7,hT,h9⟩
def CXR (P:Program) (w:World) (base:Heap):CXT:=λ outer H s E e s'=>∃ (a T:Addr) (cls:Value) (H':Hp),e=.ref a/\s'.os=s.os/\AllBare s'.gens/\Un (frs outer) [] H H' s.heap s'.heap/\HOk P w H' s'.heap/\Fly base outer a T cls s'.heap/\H' a=none/\H' T=none/\s.heap.get? a=none/\s.heap.get? T=none/\E cls none H'
theorem oLq {l:List Env} {env:Env} {b:Addr} (h:env∈l) (e:env.frame=some b):b∈frs l:=List.mem_filterMap.mpr ⟨env,h,e⟩
theorem hTq {P:Program} {w:World} {H:Hp} {h h':Heap} (k:HOk P w H h) (hk:∀ b u,H b≠none->h.get? b=some u->h'.get? b=some u):HOk P w H h':=λ a o e=>
  (k a o e).stay (λ b u hb q=>hk b u (by rcases hb with rfl | hb;rw [e];simp;rw [hb];simp) q) (λ _ q=>q) λ _ _ q=>q
theorem jIq {P:Program} {w:World} {H:Hp} {h:Heap} {a:Addr} {o:HO} (x:ObjOk P w H h a o):∃ u,h.get? a=some u:=by
  cases o with
  | lst xs=>obtain ⟨_,_,_,_,e⟩:=x;exact ⟨_,e⟩
  | tup xs=>obtain ⟨_,_,_,o,e,_⟩:=x;exact ⟨_,e⟩
  | dK kvs=>obtain ⟨_,_,_,_,o,_,_,e,_⟩:=x;exact ⟨_,e⟩
  | dT kvs=>obtain ⟨_,_,_,_,o,_,_,e,_⟩:=x;exact ⟨_,e⟩
  | set S n=>obtain ⟨o,_,_,_,e,_⟩:=x;exact ⟨_,e⟩
  | ins C dx fs=>obtain ⟨_,_,_,e,_⟩:=x;exact ⟨_,e⟩
  | own y=>obtain ⟨_,e⟩:=x;exact ⟨_,e⟩
  | xd fs=>obtain ⟨_,⟨_,_,_,e,_⟩,_⟩:=x;exact ⟨_,e⟩
  | rng lo hi=>obtain ⟨_,_,_,e⟩:=x;exact ⟨_,e⟩
  | frz ob u=>obtain ⟨e,_⟩:=x;exact ⟨_,e⟩
  | tbl ps=>exact ⟨_,show h.get? a=some _ from x⟩
  | met f y=>exact ⟨_,show h.get? a=some _ from x⟩
  | ext φ=>obtain ⟨_,⟨_,e⟩,_⟩:=x;exact ⟨_,e⟩
theorem hJq {P:Program} {w:World} {H:Hp} {h:Heap} (k:HOk P w H h) {b:Addr} (hb:h.get? b=none):H b=none:=by
  cases e:H b with
  | none=>rfl
  | some o=>
    obtain ⟨u,hu⟩:=jIq (k b o e)
    rw [hb] at hu;cases hu
section
variable {P:Program} {w:World} {K:PySem.W.Frag} {mg:Str->Option Value} {base:Heap}
theorem sNq {N:List Str} {qual:Str} {scope:Scope} {f:Addr} {cd:Value} {A:Around} {outer:List Env} {s:Shared} {H:Hp} {E:XK} {pins:List (Addr × Obj)} {σ:St} {H1:Hp} {s1:Shared} {h':Heap} {e C:Addr} {args:List Value}
    (I:Inv (kYq (CXR P w base) P w K mg base N qual scope f cd A outer s H E) pins σ H1 s1) (hm:s1.heap.MadeExcOf h' e (.ref C) args) (q:E (.ref C) none H1) :
    (kYq (CXR P w base) P w K mg base N qual scope f cd A outer s H E).xe (.ref e) { s1 with heap:=h' }:=by
  have hstk:s1.heap.FunFrames base (envOfC qual scope s.heap.objs.size f cd::outer):=I.stack
  have hfr:(A.deeper (envOfC qual scope s.heap.objs.size f cd)).frames=some (envOfC qual scope s.heap.objs.size f cd::outer):=I.ok.frames
  show wpAny (model P w) (A.deeper (envOfC qual scope s.heap.objs.size f cd)) (leaving (envOfC qual scope s.heap.objs.size f cd) (.ref e)) _ _ _
  refine wpAny_leaves_madeW (base:=PySem.W.hideAll s1.heap (frs (envOfC qual scope s.heap.objs.size f cd::outer))) (h:=s1.heap) hfr rfl (λ b o z=>PySem.W.of_hideAll _ z) (PySem.W.funFrames_hide hstk λ env hin a ha=>oLq hin ha) hm λ h'' t fl _ _ ut=>?_
  obtain ⟨T,fl⟩:=r2q fl
  obtain ⟨a0,f1,f2,f3,oe,vs,oT,ts,g1,g2,g3,g4,g5,g6,g7,g8,g9⟩:=id fl
  have keep:∀ b u,b ∉ frs (envOfC qual scope s.heap.objs.size f cd::outer)->s1.heap.get? b=some u->h''.get? b=some u:=λ b u hb z=>f1 b u (PySem.W.hideAll_get _ z hb)
  have slot:∀ b u,b∈frs (envOfC qual scope s.heap.objs.size f cd::outer)->s1.heap.get? b=some u->∃ sl,h''.get? b=some { u with slots:=sl }:=λ b u hb z=>by
    obtain ⟨_,o,ho,hd⟩:=hstk.mem hb
    rw [z] at ho;cases ho
    exact ut b u (hm.keeps b u z) hd
  have hTn:s1.heap.get? T=none:=by
    cases z:s1.heap.get? T with
    | none=>rfl
    | some u=>
      exfalso
      by_cases hb:T∈frs (envOfC qual scope s.heap.objs.size f cd::outer)
      . obtain ⟨_,o,ho,hd⟩:=hstk.mem hb
        rw [z] at ho;cases ho
        obtain ⟨sl,hs⟩:=slot T u hb z
        rw [g7] at hs;cases hs
        exact hd ts g8
      . rw [PySem.W.hideAll_get _ z hb] at g5;cases g5
  have hL:∀ b u,s.heap.get? b=some u->b≠s.heap.objs.size:=λ b u z e=>by subst e;exact Nat.lt_irrefl _ (Heap.lt_size z)
  have mem2:∀ b,b∈frs (envOfC qual scope s.heap.objs.size f cd::outer)->b=s.heap.objs.size\/b∈frs outer:=λ b hb=>by
    have hb':b∈s.heap.objs.size::frs outer:=hb
    exact List.mem_cons.mp hb'
  have mem3:∀ b,b∈frs outer->b∈frs (envOfC qual scope s.heap.objs.size f cd::outer):=λ b hb=>List.mem_cons_of_mem _ hb
  have bk:∀ b o,base.get? b=some o->s1.heap.get? b=some o:=I.bk
  refine ⟨e,T,.ref C,H1,rfl,I.os,I.bare,?_,hTq I.hok λ b u hb z=>keep b u (λ hb2=>hb (I.stkFree b hb2)) z,?_,hJq I.hok hm.new,hJq I.hok hTn,?_,?_,q⟩
  . have ub:Un (frs outer) [] H H1 s.heap s1.heap:=I.base
    refine ⟨λ b o z n hb _=>?_,λ b o z n hb _=>?_,λ b o z n _=>ub.free b o z n (by simp),λ b o z _=>?_,ub.tups,ub.frzs,ub.tbls⟩
    . exact keep b o (λ hb2=>by rcases mem2 b hb2 with r | r;exact hL b o z r;exact hb r) (ub.keep b o z n hb (by simp))
    . obtain ⟨sl,z1⟩:=ub.slot b o z n hb (by simp)
      obtain ⟨sl',z2⟩:=slot b _ (mem3 b hb) z1
      exact ⟨sl',z2⟩
    . obtain ⟨o',z1⟩:=ub.there b o z (by simp)
      by_cases hb:b∈frs (envOfC qual scope s.heap.objs.size f cd::outer)
      . obtain ⟨sl,z2⟩:=slot b o' hb z1;exact ⟨_,z2⟩
      . exact ⟨o',keep b o' hb z1⟩
  . refine fl.rebase (λ b o z=>keep b o (λ hb=>?_) (bk b o z)) ?_ ?_ ?_
    . have:=(hstk.mem hb).1
      rw [z] at this;cases this
    . cases z:base.get? e with
      | none=>rfl
      | some o=>have:=bk e o z;rw [hm.new] at this;cases this
    . cases z:base.get? T with
      | none=>rfl
      | some o=>have:=bk T o z;rw [hTn] at this;cases this
    . exact (PySem.W.funFrames_base (base:=base) (B:=PySem.W.hideAll s1.heap (frs (envOfC qual scope s.heap.objs.size f cd::outer))) (λ b o z=>PySem.W.hideAll_get _ (bk b o z) (λ hb=>by have:=(hstk.mem hb).1;rw [z] at this;cases this)) f3)
  . cases z:s.heap.get? e with
    | none=>rfl
    | some o=>
      obtain ⟨o',z1⟩:=(show Un (frs outer) [] H H1 s.heap s1.heap from I.base).there e o z (by simp)
      rw [hm.new] at z1;cases z1
  . cases z:s.heap.get? T with
    | none=>rfl
    | some o=>
      obtain ⟨o',z1⟩:=(show Un (frs outer) [] H H1 s.heap s1.heap from I.base).there T o z (by simp)
      rw [hTn] at z1;cases z1
end
section
variable {X:Cx} {pins:List (Addr × Obj)} {σ:St} {H:Hp} {s:Shared} {h':Heap} {e T:Addr} {cls:Value}
theorem o5q (I:Inv X pins σ H s) {b:Addr} (hb:b∈X.fs):b∈frs X.stack:=by
  rcases I.ok.stk with z | ⟨z,hf⟩
  . rw [z];exact hb
  . rw [z]
    unfold frs
    rw [List.filterMap_cons,hf]
    exact List.mem_cons_of_mem _ hb
theorem tPq (I:Inv X pins σ H s) (keep:∀ b u,b ∉ frs X.stack->b≠e->b≠T->s.heap.get? b=some u->h'.get? b=some u) (slot:∀ b u,b∈frs X.stack->s.heap.get? b=some u->∃ sl,h'.get? b=some { u with slots:=sl })
    (de:∃ oe vs,s.heap.get? e=some oe/\oe.data=Data.fields vs) (dT:∃ oT vs,s.heap.get? T=some oT/\oT.data=Data.fields vs) (ne:X.s₀.heap.get? e=none) (nT:X.s₀.heap.get? T=none) (pe:∀ p∈X.pn++pins,p.1≠e/\p.1≠T) (he:H e=none) (hT:H T=none) :
    Inv X pins σ H { s with heap:=h' }:=by
  have nd:∀ {b:Addr} {o:Obj},s.heap.get? b=some o->(∀ vs,o.data≠Data.fields vs)->b≠e/\b≠T:=λ{b o} z hd=>by
    obtain ⟨oe,vs,z1,d1⟩:=de
    obtain ⟨oT,vt,z2,d2⟩:=dT
    refine ⟨?_,?_⟩
    . rintro rfl;rw [z] at z1;cases z1;exact hd _ d1
    . rintro rfl;rw [z] at z2;cases z2;exact hd _ d2
  have any:∀ b u,b≠e->b≠T->s.heap.get? b=some u->∃ sl,h'.get? b=some { u with slots:=sl }:=λ b u n1 n2 z=>by
    by_cases hb:b∈frs X.stack
    . exact slot b u hb z
    . exact ⟨u.slots,keep b u hb n1 n2 z⟩
  have nf:∀ b,b≠X.env.locals->b ∉ X.fs->b ∉ frs X.stack:=λ b h1 h2 h3=>by
    rcases List.mem_cons.mp (I.stkSub b h3) with z | z
    . exact h1 z
    . exact h2 z
  have n0:∀ b o,X.s₀.heap.get? b=some o->b≠X.env.locals/\b≠e/\b≠T:=λ b o z=>by
    refine ⟨?_,?_,?_⟩
    . rintro rfl;exact absurd (Heap.lt_size z) (Nat.not_lt.mpr I.ok.above)
    . rintro rfl;rw [z] at ne;cases ne
    . rintro rfl;rw [z] at nT;cases nT
  have cellK:∀ c v,s.heap.IsCell c v->h'.IsCell c v:=λ c v ⟨o,z,d⟩=>by
    obtain ⟨n1,n2⟩:=nd z (λ vs hd=>by rw [d] at hd;cases hd)
    obtain ⟨sl,z2⟩:=any c o n1 n2 z
    exact ⟨_,z2,d⟩
  have ub:=I.base
  refine ⟨I.ok,I.os,I.bare,⟨λ b o z n hb hx=>?_,λ b o z n hb hx=>?_,ub.free,λ b o z hx=>?_,ub.tups,ub.frzs,ub.tbls⟩,?_,λ x c z=>let ⟨v,hv⟩:=I.cell x c z;⟨v,cellK c v hv⟩,I.free,I.freeC,λ p hp=>?_,hTq I.hok λ b u hb z=>keep b u (λ h2=>hb (I.stkFree b h2)) (by rintro rfl;exact hb he) (by rintro rfl;exact hb hT) z,I.len⟩
  . obtain ⟨m1,m2,m3⟩:=n0 b o z
    exact keep b o (nf b m1 hb) m2 m3 (ub.keep b o z n hb hx)
  . obtain ⟨sl,z1⟩:=ub.slot b o z n hb hx
    obtain ⟨sl',z2⟩:=slot b _ (o5q I hb) z1
    exact ⟨sl',z2⟩
  . obtain ⟨o',z1⟩:=ub.there b o z hx
    obtain ⟨m1,m2,m3⟩:=n0 b o z
    obtain ⟨sl,z2⟩:=any b o' m2 m3 z1
    exact ⟨_,z2⟩
  . obtain ⟨m,⟨o,es,ep,ho,r⟩,hl⟩:=I.loc
    obtain ⟨n1,n2⟩:=nd ho (λ vs hd=>by rw [r.1] at hd;cases hd)
    obtain ⟨sl,z2⟩:=any _ o n1 n2 ho
    refine ⟨m,⟨_,es,ep,z2,r⟩,λ i x v e1 e2 e3=>?_⟩
    obtain ⟨u,ru,l⟩:=hl i x v e1 e2 e3
    refine ⟨u,ru,?_⟩
    rcases l with l | ⟨k,c,z,hc⟩
    . exact .inl l
    . exact .inr ⟨k,c,z,cellK c _ hc⟩
  . obtain ⟨z,n,m1,m2,d⟩:=I.pin p hp
    obtain ⟨q1,q2⟩:=pe p hp
    exact ⟨keep p.1 p.2 (nf p.1 m1 m2) q1 q2 z,n,m1,m2,d⟩
structure FlyI (X:Cx) (pins:List (Addr × Obj)) (H:Hp) (e T:Addr) (cls:Value) (h:Heap):Prop where
  fly:Fly X.base X.stack e T cls h
  he:H e=none
  hT:H T=none
  ne:X.s₀.heap.get? e=none
  nT:X.s₀.heap.get? T=none
  pe:∀ p∈X.pn++pins,p.1≠e/\p.1≠T
abbrev hidB (X:Cx) (e T:Addr) (h:Heap):Heap:=PySem.W.hideAll h (frs X.stack++[e,T])
theorem FlyI.on (I:Inv X pins σ H s) (F:FlyI X pins H e T cls s.heap):∃ a0,(hidB X e T s.heap).FlyingW X.stack e cls a0 s.heap:=by
  refine (F.fly.rebase (λ b o z=>PySem.W.of_hideAll _ z) (PySem.W.hideAll_none _ (by simp)) (PySem.W.hideAll_none _ (by simp)) (PySem.W.funFrames_hide I.stack λ env hin a ha=>List.mem_append_left _ (oLq hin ha))).flying
theorem FlyI.step (hex:X.ex=[]) (I:Inv X pins σ H s) (F:FlyI X pins H e T cls s.heap) {a0:Value} (f:(hidB X e T s.heap).FlyingW X.stack e cls a0 h') (ut:s.heap.UpToSlots h'):∃ T',Inv X pins σ H { s with heap:=h' }/\FlyI X pins H e T' cls h':=by
  obtain ⟨T',fl⟩:=r2q f
  obtain ⟨a1,f1,f2,f3,oe,vs,oT,ts,g1,g2,g3,g4,g5,g6,g7,g8,g9⟩:=id fl
  obtain ⟨b1,_,_,_,oe0,vs0,oT0,ts0,k1,k2,k3,k4,k5,k6,k7,k8,k9⟩:=id F.fly
  have hstk:=I.stack
  have keep:∀ b u,b ∉ frs X.stack->b≠e->b≠T->s.heap.get? b=some u->h'.get? b=some u:=λ b u n1 n2 n3 z=>f1 b u (PySem.W.hideAll_get _ z (by simp;exact ⟨n1,n2,n3⟩))
  have slot:∀ b u,b∈frs X.stack->s.heap.get? b=some u->∃ sl,h'.get? b=some { u with slots:=sl }:=λ b u hb z=>by
    obtain ⟨_,o,ho,hd⟩:=hstk.mem hb
    rw [z] at ho;cases ho
    exact ut b u z hd
  have J:=tPq I keep slot ⟨oe0,vs0,k1,k3⟩ ⟨oT0,ts0,k7,k8⟩ F.ne F.nT F.pe F.he F.hT
  have hT':T'=T\/s.heap.get? T'=none:=by
    by_cases c:T'=T
    . exact .inl c
    . refine .inr ?_
      cases z:s.heap.get? T' with
      | none=>rfl
      | some u=>
        exfalso
        by_cases hb:T'∈frs X.stack
        . obtain ⟨_,o,ho,hd⟩:=hstk.mem hb
          rw [z] at ho;cases ho
          obtain ⟨sl,hs⟩:=slot T' u hb z
          rw [g7] at hs;cases hs
          exact hd ts g8
        . rw [PySem.W.hideAll_get _ z (by simp;exact ⟨hb,g6,c⟩)] at g5;cases g5
  have bk:=I.bk
  have nT':X.s₀.heap.get? T'=none:=by
    rcases hT' with rfl | z
    . exact F.nT
    . cases q:X.s₀.heap.get? T' with
      | none=>rfl
      | some o=>
        obtain ⟨o',z1⟩:=I.base.there T' o q (by rw [hex];simp)
        rw [z] at z1;cases z1
  refine ⟨T',J,⟨fl.rebase (λ b o z=>J.bk b o z) ?_ ?_ J.stack,F.he,?_,F.ne,nT',λ p hp=>⟨(F.pe p hp).1,?_⟩⟩⟩
  . cases q:X.base.get? e with
    | none=>rfl
    | some o=>have:=(I.ok.bs e o q).1;rw [F.ne] at this;cases this
  . cases q:X.base.get? T' with
    | none=>rfl
    | some o=>have:=(I.ok.bs T' o q).1;rw [nT'] at this;cases this
  . rcases hT' with rfl | z
    . exact F.hT
    . exact hJq I.hok z
  . rcases hT' with rfl | z
    . exact (F.pe p hp).2
    . rintro rfl
      rw [(I.pin p hp).1] at z;cases z
end
structure ExcC (K:PySem.W.Frag) (C:Addr) (bmB:List Value) (newId:String):Prop where
  ex:∃ (B initId:String) (bm:List Value) (N:Addr) (nm q:Str) (bs:List Value) (hdct:Bool) (sn:List Str) (sub:List Value) (ab:Bool) (col:Option Bool) (dd:Option Addr) (k0 k1 k2 k3 k5:Option Value) (mN:Str->Option Value),
    ExcBaseFacts B newId initId bmB/\bm.contains (.type "BaseException")=true/\∀ h:Heap,K.In h->h.get? C=some (excClassObj nm q C N bs bm hdct sn sub ab col dd k0 k1 k2 k3 k5 newId)/\h.Ns N mN/\(∀ n∈quietNames,mN n=none)/\OwnTailQ h bmB bm
  base:bmB.contains (.type "BaseException")=true
section
variable {X:Cx} {pins:List (Addr × Obj)} {σ:St} {H:Hp} {s:Shared}
theorem ExcC.own {C:Addr} {bmB:List Value} {newId:String} {cx:Str} (EC:ExcC X.K C bmB newId) (hm:X.mg cx=some (.ref C)) (I:Inv X pins σ H s):OwnClsQ cx C bmB newId X.mg s.heap:=by
  obtain ⟨B,initId,bm,N,nm,q,bs,hdct,sn,sub,ab,col,dd,k0,k1,k2,k3,k5,mN,f1,f2,f3⟩:=EC.ex
  obtain ⟨g1,g2,g3,g4⟩:=f3 s.heap I.kIn
  exact ⟨hm,bm,N,nm,q,bs,hdct,sn,sub,ab,col,dd,k0,k1,k2,k3,k5,mN,g1,g2,g3,g4⟩
theorem p0q {C:Addr} {bmB:List Value} {newId:String} {cx:Str} {W:Hp->Prop} {np cpos pos:Pos} (EC:ExcC X.K C bmB newId) (hg:Gl X cx) (hm:X.mg cx=some (.ref C)) (hc:X.calm=true)
    (hx:∀ (pins:List (Addr × Obj)) (σ:St) (H:Hp) (s:Shared) (h':Heap) (e:Addr),Inv X pins σ H s->W H->s.heap.MadeExcOf h' e (.ref C) []->X.xe (.ref e) { s with heap:=h' }) (hdb:(cx==("__debug__" : Str))=false:=by decide) :
    PS X (.Raise (some (.Call (.Name cx np) [] [] cpos)) none pos) (λ _ _ H=>W H):=by
  intro pins s σ H D I h
  obtain ⟨B,initId,bm,N,nm,q,bs,hdct,sn,sub,ab,col,dd,k0,k1,k2,k3,k5,mN,f1,f2,f3⟩:=EC.ex
  obtain ⟨g1,g2,g3,g4⟩:=f3 s.heap I.kIn
  refine wpAny_Raise_call_subT (nm:=nm) (q:=q) (N:=N) (bs:=bs) (hdct:=hdct) (sn:=sn) (sub:=sub) (ab:=ab) (col:=col) (dd:=dd) (k0:=k0) (k1:=k1) (k2:=k2) (k3:=k3) (k5:=k5) f1 f2 (I.ok.hd hc) rfl (g3 _ (by simp [quietNames])) (dYq I hg hm ⟨rfl,?_⟩ hdb)
  refine PySem.evalArgs_none ?_
  exact ⟨rfl,by simp,g1,g2,g4.tail,λ h' e hme=>hx pins σ H s h' e I h hme⟩
abbrev Cx.inX (X:Cx) (e:Addr) (oe:Obj):Cx:={ X with A:=X.A.mark (some (.ref e)),calm:=false,pn:=(e,oe)::X.pn,xe:=λ _ _=>False }
theorem Inv.inX {e:Addr} {oe:Obj} (I:Inv X pins σ H s) (he:s.heap.get? e=some oe) (hH:H e=none) (hl:e≠X.env.locals) (hf:e ∉ X.fs) (hd:∀ v,oe.data≠.cell v):Inv (X.inX e oe) pins σ H s:=by
  have ok:=I.ok
  refine ⟨⟨ok.mod,ok.kind,ok.glob,ok.blt,ok.above,ok.inj,ok.has,ok.cab,λ z=>(by cases z),ok.frames,ok.stk,ok.exf,ok.bs,ok.bsz,ok.noex,ok.exfs,ok.funs,ok.frf⟩,I.os,I.bare,I.base,I.loc,I.cell,I.free,I.freeC,λ p hp=>?_,I.hok,I.len⟩
  rcases List.mem_cons.mp (show p∈(e,oe)::(X.pn++pins) from hp) with rfl | hp
  . exact ⟨he,hH,hl,hf,hd⟩
  . exact I.pin p hp
theorem Inv.outX {e:Addr} {oe:Obj} (ok:X.Ok) (I:Inv (X.inX e oe) pins σ H s):Inv X pins σ H s:=
  ⟨ok,I.os,I.bare,I.base,I.loc,I.cell,I.free,I.freeC,λ p hp=>I.pin p (List.mem_cons_of_mem _ hp),I.hok,I.len⟩
theorem eRq {M:Model} {A:Around} {E:Value->Shared->Prop} {i:Nat} {n:Str} {pos:Pos} {Q:Unit->Shared->Prop} (I:Inv X pins σ H s) (hN:X.N.Nodup) (hi:X.N[i]?=some n) (hlo:X.env.scope.names.lookup n=some .local) (h:∀ s',Inv X pins (σ.set i none) H s'->Q () s') :
    wpAny M A (do bindName X.env n Value.none;unbindBehindTheSuite X.env n pos) Q E s:=by
  obtain ⟨m,hn,hl⟩:=id I.loc
  have hcls:(X.env.scope.kind==.class||(X.env.scope.kind==.module&&X.env.locals !=X.env.globals))=false:=by rw [I.ok.kind];rfl
  refine wpAny_nameGoes_keeps hlo hn hcls λ h' v hn' sb=>h _ ?_
  have oth:∀ b u,b≠X.env.locals->s.heap.get? b=some u->h'.get? b=some u:=λ b u nb z=>by rw [sb.2 b nb];exact z
  have n0:∀ b o,X.s₀.heap.get? b=some o->b≠X.env.locals:=λ b o z=>by
    rintro rfl;exact absurd (Heap.lt_size z) (Nat.not_lt.mpr I.ok.above)
  have nc:∀ c v,s.heap.IsCell c v->c≠X.env.locals:=λ c v ⟨o,z,d⟩=>by
    rintro rfl
    obtain ⟨o',es,ep,z',r⟩:=hn
    rw [z] at z';cases z'
    rw [d] at r;cases r.1
  have cellK:∀ c v,s.heap.IsCell c v->h'.IsCell c v:=λ c v hc=>by
    have ne:=nc c v hc
    obtain ⟨o,z,d⟩:=hc
    exact ⟨o,oth c o ne z,d⟩
  have ub:=I.base
  have nL:∀ b,b∈X.fs->b≠X.env.locals:=λ b hb=>by
    obtain ⟨_,o,ho,_⟩:=I.ok.funs.mem hb
    exact n0 b o ho
  refine ⟨I.ok,I.os,I.bare,⟨λ b o z n hb hx=>oth b o (n0 b o z) (ub.keep b o z n hb hx),λ b o z n hb hx=>?_,ub.free,λ b o z hx=>?_,ub.tups,ub.frzs,ub.tbls⟩,⟨_,hn',λ i' x w e1 e2 e3=>?_⟩,λ x c z=>let ⟨v,hv⟩:=I.cell x c z;⟨v,cellK c v hv⟩,I.free,I.freeC,λ p hp=>?_,hTq I.hok λ b u hb z=>oth b u (by rintro rfl;exact hb I.free) z,by rw [List.length_set];exact I.len⟩
  . obtain ⟨sl,z1⟩:=ub.slot b o z n hb hx
    exact ⟨sl,oth b _ (n0 b o z) z1⟩
  . obtain ⟨o',z1⟩:=ub.there b o z hx
    exact ⟨o',oth b o' (n0 b o z) z1⟩
  . have hne:i≠i':=by
      rintro rfl
      rw [List.getElem?_set] at e2
      split at e2
      . split at e2<;>cases e2
      . next c=>exact c rfl
    rw [List.getElem?_set_ne hne] at e2
    have hxn:x≠n:=by
      rintro rfl
      exact hne (h7q hN hi e1)
    obtain ⟨u,ru,l⟩:=hl i' x w e1 e2 e3
    refine ⟨u,ru,?_⟩
    rcases l with ⟨k,hm⟩ | ⟨k,c,z,hc⟩
    . exact .inl ⟨k,by show (if x=n then v else m x)=some u;rw [if_neg hxn];exact hm⟩
    . exact .inr ⟨k,c,z,cellK c _ hc⟩
  . obtain ⟨z,n,m1,m2,d⟩:=I.pin p hp
    exact ⟨oth p.1 p.2 m1 z,n,m1,m2,d⟩
def yKq (i:Nat) (D:Ends):Ends:=⟨λ σ H=>D.nx (σ.set i none) H,D.rt,λ σ H=>D.bk (σ.set i none) H,λ σ H=>D.ct (σ.set i none) H⟩
def tTry (i:Nat) (C:Addr) (sp:Sp) (t:TA) (u:Addr->TS):TS:=λ D σ H=>t σ H λ vs H1=>sp vs H1 (λ _ H2=>D.nx σ H2) (λ cls _ H2=>cls=.ref C/\∀ e,H2 e=none->u e (yKq i D) (σ.set i (some (.ref e))) H2)
theorem l8q {h h2 h3:Heap} (a:h.UpToSlots h2) (b:h2.UpToSlots h3):h.UpToSlots h3:=λ x o z hd=>by
  obtain ⟨sl,z1⟩:=a x o z hd
  obtain ⟨sl',z2⟩:=b x _ z1 hd
  exact ⟨sl',z2⟩
theorem vGq {k i:Nat} {fx cx n:Str} {ps:List Str} {f C:Addr} {fd:FuncData} {sp:Sp} {bmB:List Value} {newId:String} {p0 cpos epos np hpos pos:Pos} {e:Expr} {es:List Expr} {t:TA} {b₀:Stmt} {suite:List Stmt} {u:Addr->TS}
    (F:FnOk X.prog X.w X.K X.mg X.base (CXR X.prog X.w X.base) k f fd ps sp) (hr:Room k X.A) (hg:Gl X fx) (hm:X.mg fx=some (.ref f)) (hk:PySem.W.keepIn X.K (.ref f)=true) (hb:Binds X.K fd ps []) (ha:∀ E',PA (X.wish E') (e::es) t)
    (EC:ExcC X.K C bmB newId) (hgc:Gl X cx) (hmc:X.mg cx=some (.ref C)) (hex:X.ex=[]) (hst:X.stack=X.env::X.outer) (hfr:X.env.frame=some X.env.locals) (hN:X.N.Nodup) (hi:X.N[i]?=some n) (hlo:X.env.scope.names.lookup n=some .local)
    (hs:∀ e oe,oe.cls=.ref C->PSs (X.inX e oe) (b₀::suite) (u e)) (hdb:(fx==("__debug__" : Str))=false:=by decide) (hdc:(cx==("__debug__" : Str))=false:=by decide) (he:starEach (e::es) X.env=(false,eval e X.env)::starEach es X.env:=by rfl) (hpl:(backTo cpos (starEach es X.env)).any (·.1)=false:=by rfl)
    (hsw:swapsWith (.Call (.Name fx p0) (e::es) [] cpos) none epos.line X.env=pure false:=by rfl) :
    PS X (.Try [.Expr (.Call (.Name fx p0) (e::es) [] cpos) epos] [.ExceptHandler (some (.Name cx np)) (some n) (b₀::suite) hpos] [] [] pos) (tTry i C sp t u):=by
  intro pins s σ H D I h
  refine wpAny_Try_except ?_
  generalize hE:(λ e s₁=>wpAny (model X.prog X.w) X.A (noteFrame e X.env) (λ _ s₂=>wpAny (model X.prog X.w) X.A (setFlight e none) (λ _ s₃=>wpAny (model X.prog X.w) X.A (handleBy e X.env [.ExceptHandler (some (.Name cx np)) (some n) (b₀::suite) hpos]) (SP X pins D) X.xe s₃) X.xe s₂) X.xe s₁:Value->Shared->Prop)=E'
  refine wpAny_execs_cons (thn (wpAny_Expr_any (Q:=SP X pins D) (E:=E') ?_ I.quiet hsw) λ fl s1 q=>?_)
  . refine wpAny_Call_Name_kw (dYq I hg hm ?_ hdb)
    refine PySem.W.callWith_K (h₀:=X.base) I.ok.mod.kin hk (thn (ha E' cpos pins s σ H _ (I.wish E') h) λ us s1 ⟨vs,H1,I1,r,q⟩=>⟨I1.kIn,?_⟩) he hpl
    have I1':=I1.unwish
    have hl:(us++[]).length=ps.length:=by rw [List.append_nil,<- r.length];exact F.len _ _ _ _ q
    refine wpAny_call (codeAny_mono (F.run X.A X.stack s1 H1 ⟨us,[]⟩ (us++[]) vs _ _ hr I1'.env0 (hb s1 us I1'.kIn hl) (by rw [List.append_nil];exact r) q) λ rs s' hq=>?_)
    cases rs with
    | ok fl=>
      cases fl with
      | ret v=>
        obtain ⟨w,H2,J,_,q2⟩:=I1'.after hq
        exact ⟨σ,H2,J,q2⟩
      | next=>exact False.elim hq
      | brk=>exact False.elim hq
      | cont=>exact False.elim hq
    | error ev=>
      obtain ⟨a,T,cls,H',rfl,os,bare,un,hok,fl,ha',hT',na,nT,rfl,hu⟩:=hq
      rw [<- hE]
      have J:Inv X pins σ H' s':=I1'.call' (ch:=[]) os un hok bare (λ b z=>absurd z (by simp))
      have n0:∀ b,s1.heap.get? b=none->X.s₀.heap.get? b=none:=λ b z=>by
        cases q0:X.s₀.heap.get? b with
        | none=>rfl
        | some o=>
          obtain ⟨o',z1⟩:=I1'.base.there b o q0 (by rw [hex];simp)
          rw [z] at z1;cases z1
      have FI:FlyI X pins H' a T (.ref C) s'.heap:=⟨fl,ha',hT',n0 a na,n0 T nT,λ p hp=>⟨(by rintro rfl;rw [(I1'.pin p hp).1] at na;cases na),(by rintro rfl;rw [(I1'.pin p hp).1] at nT;cases nT)⟩⟩
      obtain ⟨a0,fw⟩:=FI.on J
      have hfs:X.A.frames=some (X.env::X.outer):=by rw [J.ok.frames,hst]
      refine wpAny_looks_onW hfs hfr (by rw [<- hst];exact fw) λ h2 held ut1=>?_
      refine wpAny_landsW held λ h3 fw3 ut2=>?_
      obtain ⟨T3,J3,FI3⟩:=FI.step hex J (by rw [hst];exact fw3) (l8q ut1 ut2)
      have side:∀ {s3:Shared} {T3:Addr} (_:Inv X pins σ H' s3) (_:FlyI X pins H' a T3 (.ref C) s3.heap),∃ oe,s3.heap.get? a=some oe/\oe.cls=.ref C/\a≠X.env.locals/\a ∉ X.fs/\∀ v,oe.data≠.cell v:=λ{s3 T3} J3 FI3=>by
        obtain ⟨_,_,_,_,oe,vs,_,_,g1,g2,g3,_⟩:=FI3.fly
        refine ⟨oe,g1,g2.1,?_,λ hb=>?_,λ v hv=>by rw [g3] at hv;cases hv⟩
        . rintro rfl
          obtain ⟨m,⟨o',es',ep,z',r'⟩,_⟩:=J3.loc
          rw [g1] at z';cases z'
          rw [g3] at r';cases r'.1
        . obtain ⟨_,o',z',hd⟩:=J3.stack.mem (o5q J3 hb)
          rw [g1] at z';cases z'
          exact hd _ g3
      obtain ⟨oe,o1,o2,o3,o4,o5⟩:=side J3 FI3
      have J3x:=J3.inX o1 ha' o3 o4 o5
      refine PyProof.Rows.handleBy_own_as (x:=cx) (C:=C) (mg:=X.mg) (bmB:=bmB) (newId:=newId) EC.base ?_
      refine dYq (X:=X.inX a oe) J3x hgc hmc ⟨rfl,EC.own hmc J3,⟨oe,o1,o2⟩,?_⟩ hdc
      obtain ⟨a0',fw'⟩:=FI3.on J3
      refine PyProof.Rows.lands_againW fw' λ h4 fw4 ut4=>?_
      obtain ⟨T4,J4,FI4⟩:=FI3.step hex J3 fw4 ut4
      obtain ⟨oe4,p1,p2,p3,p4,p5⟩:=side J4 FI4
      have J4x:=J4.inX p1 ha' p3 p4 p5
      refine dGq (X:=X.inX a oe4) (v:=.ref a) J4x hN hi (.inl hlo) rfl (λ s5 J5=>?_) (.inr hlo)
      refine wpAny_mono (hs a oe4 p2 pins s5 _ H' (yKq i D) J5 (hu a ha')) (λ fl s6 q=>?_) (λ _ _ z=>z.elim)
      cases fl with
      | next=>obtain ⟨σ',H6,J6,q6⟩:=q;exact eRq (J6.outX J.ok) hN hi hlo λ s7 J7=>⟨_,H6,J7,q6⟩
      | brk=>obtain ⟨σ',H6,J6,q6⟩:=q;exact eRq (J6.outX J.ok) hN hi hlo λ s7 J7=>⟨_,H6,J7,q6⟩
      | cont=>obtain ⟨σ',H6,J6,q6⟩:=q;exact eRq (J6.outX J.ok) hN hi hlo λ s7 J7=>⟨_,H6,J7,q6⟩
      | ret uv=>obtain ⟨v,σ',H6,J6,rv,q6⟩:=q;exact eRq (J6.outX J.ok) hN hi hlo λ s7 J7=>⟨v,_,H6,J7,rv,q6⟩
  . cases fl with
    | next=>exact wpAny_execs_nil (wpAny_execs_nil q)
    | ret v=>exact q
    | brk=>exact q
    | cont=>exact q
end
end L2
set_option Elab.async false
set_option linter.all false
set_option maxRecDepth 100000
namespace L2
open PySem PySem.Spec PyProof.Rows PySem.W PySem.Calls Builtin Builtin.ObjectAttr Builtin.Getset_descriptor
structure ExcK (K:Frag) (C:Addr):Prop where
  ga:findIn K (.ref C) "__getattribute__" = some (some (.builtin "BaseException.__getattribute__"))
  gr:findIn K (.ref C) "__getattr__" = some none
  ca:findIn K (.ref C) "__class__" = some (some (.builtin "object.__class__"))
  gt:specialIn K (.builtin "object.__class__") "__get__" = some (some (.builtin "getset_descriptor.__get__"))
  tk:takesIn K (.builtin "object.__class__")=some true
  mo:mroIn K C (.type "object")=some true
  mb:subIn K (.ref C) (.type "BaseException")=some true
  cl:(clsIn K C).isSome=true
def ExcAt (e C:Addr) (h:Heap):Prop:=∃ oe,h.get? e=some oe/\oe.cls=.ref C
theorem ExcAt.ty {M:Model} {e C:Addr} {h:Heap} (x:ExcAt e C h):Looks M h (typeOf (.ref e)) (.ref C):=by
  obtain ⟨oe,h1,h2⟩:=x
  exact h2 ▸ (Looks.ld h1).andThen .now
section
variable {prog:Program} {w:World} {A:Around} {E:Value->Shared->Prop} {s:Shared} {K:Frag} {e C:Addr}
theorem i2q {R:Result->Shared->Prop} {tp:Value} (F:ExcK K C) (X:K.In s.heap) (I:ExcAt e C s.heap)
    (h:R (.ok (.ret (.ref C))) s):codeAny (model prog w) A (.call (.builtin "getset_descriptor.__get__") ⟨[.builtin "object.__class__", .ref e,tp],[]⟩) R s:=by
  obtain ⟨hh,g,dr,t,os⟩:=s
  have L0:=I.ty (M:=model prog w)
  have L1:=looks_mroIn (M:=model prog w) X F.mo
  refine codeAny_call_builtin KF.slot_gs.plain KF.entry_gs (KF.slot_gs.check _ _ _ _ _ _ _ _ KF.type_class (KF.args_gs _ _ _) ?_)
  unfold Builtin.«getset_descriptor.__get__» descrGet
  rw [dga_obj]
  refine wpAny_bind (wpAny_pure ?_)
  unfold descrGetter descrCheckInstance descrNameAndClass isInstance
  simp only [KF.owner_class]
  repeat lk
  refine ⟨Code.quiet_builtin _ (by decide +kernel),codeAny_builtin KF.entry_class ?_⟩
  unfold Builtin.«object.__class__» shownTypeOf
  repeat lk
  exact h
theorem sEq (x:Value):bindSpecial (.builtin "BaseException.__getattribute__") x=pure (.builtin "BaseException.__getattribute__", [x]):=by kernel_rfl
theorem p4q {M:Model} {h:Heap} (F:ExcK K C) (X:K.In h):Looks M h (find (.ref e) (.ref C) "__class__") (.bind (.builtin "getset_descriptor.__get__") (.builtin "object.__class__")):=by
  have L1:=looks_findIn (M:=M) X F.ca
  have L2:Looks M h (getOf (some (.builtin "object.__class__"))) (some (.builtin "getset_descriptor.__get__")):=looks_specialIn X F.gt
  have L3:=looks_takesIn (M:=M) X F.tk
  refine L1.andThen (L2.andThen ?_)
  exact (show Looks M h (dataDescriptor? (some (.builtin "object.__class__")) (some (.builtin "getset_descriptor.__get__"))) (some (.builtin "getset_descriptor.__get__", .builtin "object.__class__")) from L3.andThen .now).andThen (Looks.tag .now)
theorem vIq {Q:Option Value->Shared->Prop} (F:ExcK K C) (X:K.In s.heap) (I:ExcAt e C s.heap) (h:Q (some (.ref C)) { s with toks:=s.toks+1 }):wpAny (model prog w) A (getAttr? (.ref e) "__class__") Q E s:=by
  obtain ⟨hh,g,d,t,os⟩:=s
  have L0:=I.ty (M:=model prog w)
  have L1:=looks_findIn (M:=model prog w) X F.ga
  have L2:=looks_findIn (M:=model prog w) X F.gr
  have L3:=p4q (M:=model prog w) (e:=e) F X
  unfold getAttr? getAttrBy? getAttrBy
  refine wpAny_bind (wpAny_mkText (wpAny_bind (wpAny_attempt (wpAny_holding (wpAny_bind (L0.at (wpAny_bind (L1.at ?_))))))))
  dsimp only
  rw [show (onTheHeap (.ref C)&&Value.builtin "BaseException.__getattribute__"==Value.builtin "object.__getattribute__")=false from by rw [show (Value.builtin "BaseException.__getattribute__"==Value.builtin "object.__getattribute__")=false from by decide +kernel,Bool.and_false],if_neg (by decide)]
  refine wpAny_bind ((show Looks (model prog w) hh (hookBefore (.ref C)) none from L2).at (wpAny_bind (wpAny_attempt (wpAny_holding ?_))))
  unfold callGetattribute
  rw [show (false&&onTheHeap (Value.builtin "BaseException.__getattribute__"))=false from rfl,if_neg (by decide)]
  unfold boundAndCalled
  rw [sEq]
  refine wpAny_bind (wpAny_pure ?_)
  show wpAny _ _ (call (.builtin "BaseException.__getattribute__") [.ref e,.str "__class__" t]) _ _ _
  refine wpAny_call ?_
  refine codeAny_call_builtin (by first | exact Code.quiet_builtin _ (by decide +kernel) | decide +kernel) PySem.F.entry_bexc_ga ?_
  refine @check_slot (model prog w) _ _ _ "BaseException.__getattribute__" "BaseException" "__getattribute__" (.ref e) [.str "__class__" t] [] _ (by decide +kernel) (by decide +kernel) (L0.andThen (looks_subIn X F.mb)) (PySem.F.args_bexc_ga (.ref e) (.str "__class__" t)) ?_
  refine wpAny_bind (wpAny_pure (wpAny_bind (wpAny_pure (wpAny_bind (L0.at (wpAny_bind (L3.at ?_)))))))
  show wpAny _ _ (holding [.builtin "object.__class__"] (call (.builtin "getset_descriptor.__get__") [.builtin "object.__class__", .ref e,.ref C]) >>= ret) _ _ _
  refine wpAny_bind (wpAny_holding (wpAny_call (i2q F X I ?_)))
  refine wpAny_pure ?_
  exact handed_on rfl (wpAny_pure h)
theorem hBq (F:ExcK K C):KitX K (.ref e) (.ref C) (ExcAt e C) where
  ty:=λ M h _ p=>p.ty
  it:=λ M h X _=>by
    have e1:=F.cl
    unfold clsIn at e1
    split at e1
    . rename_i c' d' cd' sl' ho
      intro A' Q' E' s' k q
      unfold isType loadHead
      exact wpAny_bind (wpAny_loadPart (k _ _ (X _ _ ho)) (wpAny_pure q))
    . cases e1
  ne:=λ h tp dd its n sl X htp=>Bool.eq_false_iff.mpr λ q=>by
    cases beq_iff_eq.mp q
    have e1:=F.cl
    unfold clsIn at e1
    split at e1
    . rename_i c' d' cd' sl' ho
      have:=X _ _ ho
      rw [htp] at this;cases this
    . cases e1
  ca:=λ X p k=>vIq F X p k
end
end L2
set_option Elab.async false
set_option linter.all false
set_option maxRecDepth 100000
namespace L2
open PySem PySem.Spec PyProof.Rows
structure GotR (P:Program) (w:World) (K:PySem.W.Frag) (mg:Str->Option Value) (base:Heap) (k:Nat) (x:Str) (ps:List Str) (sp:Sp):Prop where
  ex:∃ (f:Addr) (fd:FuncData),FnOk P w K mg base (CXR P w base) k f fd ps sp/\mg x=some (.ref f)/\PySem.W.keepIn K (.ref f)=true/\Binds K fd ps []
def vFq (e:Addr) (C:Addr) (K:PySem.W.Frag):List V->Hp->VK->Prop:=λ xs H Q=>∃ y,xs=[.ref e,y]/\((∃ c b,y=.ref c/\PySem.W.kitOne K (.ref C) (.ref c)=some b/\Q (.bl b) H)\/(∃ T b,y=.ty T/\PySem.W.kitOne K (.ref C) (.type T)=some b/\Q (.bl b) H) ∨
  ∃ (a:Addr) (cs:List Addr) (b:Bool),y=.ref a/\SqT K H a (cs.map V.ref)/\PySem.W.kitAny K (.ref C) (cs.map Value.ref)=some b/\Q (.bl b) H)
theorem i5q:∀ {cs:List Addr} {its:List Value},Vals (cs.map V.ref) its->its=cs.map Value.ref
  | [],its,h=>by cases h;rfl
  | c::cs,its,h=>by
    cases h with
    | cons r h=>rw [List.map_cons,<- i5q h];cases r;rfl
theorem pOq {X:Cx} {e C:Addr} {oe:Obj} (FK:ExcK X.K C) (hc:oe.cls=.ref C):CallR (X.inX e oe) (.builtin "isinstance") (vFq e C X.K):=by
  intro pins s σ H xs us Q I r h
  obtain ⟨y,rfl,h⟩:=h
  obtain ⟨u,v,rfl,ru,rv⟩:=Vals.two r
  cases ru
  have hat:ExcAt e C s.heap:=⟨oe,(I.pin (e,oe) (List.mem_cons_self ..)).1,hc⟩
  rcases h with ⟨c,b,rfl,k,q⟩ | ⟨T,b,rfl,k,q⟩ | ⟨a,cs,b,rfl,sq,k,q⟩
  . cases rv
    exact PySem.W.kia_one (hBq FK) I.kIn hat k (λ z=>nomatch z) λ tk=>⟨.bl b,H,I.tok tk,rfl,q⟩
  . cases rv
    exact PySem.W.kia_one (hBq FK) I.kIn hat k (λ z=>nomatch z) λ tk=>⟨.bl b,H,I.tok tk,rfl,q⟩
  . cases rv
    obtain ⟨its,vt,⟨⟨cls,dd,data,sl⟩,h1,h2,h3⟩,_⟩:=I.tuple sq
    have e':=i5q vt
    subst e'
    simp only at h2 h3
    subst h2
    obtain ⟨n,rfl⟩:∃ n,data=.seq (cs.map Value.ref).toArray n:=by
      first | exact ⟨_,h3⟩ | exact h3 | (obtain ⟨n,h3⟩:=h3;exact ⟨n,h3⟩)
    exact PySem.W.kia_tup (hBq FK) I.kIn hat h1 k (λ z=>nomatch z) λ tk=>⟨.bl b,H,I.tok tk,rfl,q⟩
end L2
namespace L3
open PySem PySem.Spec L2
abbrev y0q:=List D->DV->(DV->Prop)->Prop
def x2q (K:PySem.W.Frag) (C:Addr) (dsp:y0q):Sp:=λ vs H _ E=>∃ ds G W,AbsL K H ds vs/\Vw K G H/\dsp ds G W/\∀ G' H',Go K G H G' H'->W G'->E (.ref C) none H'
theorem okDR {P:Program} {w:World} {K:PySem.W.Frag} {mg:Str->Option Value} {base:Heap} {x qual cx:Str} {st:Stmt} {f C:Addr} {fd:FuncData} {N ps:List Str} {k:Nat} {dsp:y0q} {bmB:List Value} {newId:String} {c:Expr} {rest:List Stmt} {np cpos rpos ipos:Pos}
    (F:Fun K x qual st f fd) (S:FnScope N ps (a5q st)) (len:∀ ds G W,dsp ds G W->ds.length=ps.length) (EC:ExcC K C bmB newId) (hmc:mg cx=some (.ref C)) (hb:b2q st=.If c [.Raise (some (.Call (.Name cx np) [] [] cpos)) none rpos] [] ipos::rest)
    (hgl:∀ (cdv:Value) (A:Around) (outer:List Env) (s:Shared) (H:Hp) (E:XK),Gl (kYq (CXR P w base) P w K mg base N qual (a5q st) f cdv A outer s H E) cx)
    (hbody:∀ (cdv:Value) (A:Around) (outer:List Env) (s:Shared) (H:Hp) (E:XK),Room k (A.deeper (PyProof.Rows.envOfC qual (a5q st) s.heap.objs.size f cdv))->∀ (ds:List D) (G:DV) (W:DV->Prop),dsp ds G W →
      ∃ t,AT (kYq (CXR P w base) P w K mg base N qual (a5q st) f cdv A outer s H E) c t/\t (eDq N ds) G (λ b G'=>b=true/\W G')) (hdb:(cx==("__debug__" : Str))=false:=by decide):FnOk P w K mg base (CXR P w base) (k+1) f fd ps (x2q K C dsp):=by
  obtain ⟨oc,od,kV,doc,pm,an,cdv,ct,osl,rfl,lk,hcd⟩:=F.ex
  refine rWq lk hcd S (λ vs H Q E h=>?_) λ A outer s H vs Q E hr hsp=>?_
  . obtain ⟨ds,G,W,r,_,h,_⟩:=h
    rw [r.len];exact len ds G W h
  . obtain ⟨ds,G,W,r,v,h,Fn⟩:=hsp
    obtain ⟨t,⟨tc,j,imp⟩,q⟩:=hbody cdv A outer s H E hr ds G W h
    rw [hb]
    refine ⟨_,kIq (t:=_) (v5q j.run (mYq (p0q (W:=λ H'=>E (.ref C) none H') EC (hgl cdv A outer s H E) hmc rfl (λ pins σ H1 s1 h' e I w hm=>sNq I hm w) hdb)) mXq) (u:=λ _ _ _=>False) (λ _ _ _ _ _ _ z=>z.elim),?_⟩
    refine imp _ _ _ (L2.cVq N vs) H _ (cZq r v) q λ b G' H' g q'=>?_
    obtain ⟨rfl,hw⟩:=q'
    exact Fn G' H' g hw
section
variable {X:Cx}
def offD (i:Nat) (DD:DEnds):DEnds:=⟨λ ρ G=>DD.nx (ρ.set i none) G,DD.rt,λ ρ G=>DD.bk (ρ.set i none) G,λ ρ G=>DD.ct (ρ.set i none) G⟩
theorem Bears.off {K:PySem.W.Frag} {ρ:DSt} {G:DV} {σ:St} {H:Hp} (b:Bears K ρ G σ H) (i:Nat):Bears K (ρ.set i none) G (σ.set i none) H where
  len:=by simp [b.len]
  vw:=b.vw
  st:=λ j e he=>by
    by_cases c:j=i
    . subst c
      rw [List.getElem?_set] at he
      split at he
      . split at he<;>cases he
      . next z=>exact absurd rfl z
    . rw [List.getElem?_set_ne (Ne.symm c)] at he
      rw [List.getElem?_set_ne (Ne.symm c)]
      exact b.st j e he
theorem EndsOk.off {K:PySem.W.Frag} {G:DV} {H:Hp} {DD:DEnds} {Dc:Ends} (F:EndsOk K G H DD Dc) (i:Nat):EndsOk K G H (offD i DD) (yKq i Dc):=
  ⟨λ ρ G' σ H' g b q=>F.nx _ G' _ H' g (b.off i) q,F.rt,λ ρ G' σ H' g b q=>F.bk _ G' _ H' g (b.off i) q,λ ρ G' σ H' g b q=>F.ct _ G' _ H' g (b.off i) q⟩
def dTry (i:Nat) (dsp:y0q) (t:DTA) (u:Addr->DTS):DTS:=λ DD ρ G=>t ρ G λ ds G1=>∃ W,dsp ds G1 W/\∀ e G2,W G2->G2 e=none->u e (offD i DD) (ρ.set i (some (.ref e))) G2
theorem xIq {k j i:Nat} {fx cx n:Str} {ps:List Str} {C:Addr} {dsp:y0q} {bmB:List Value} {newId:String} {p0 cpos epos np hpos pos:Pos} {e:Expr} {es:List Expr} {t:DTA} {b₀:Stmt} {suite:List Stmt} {u:Addr->DTS}
    (Gt:GotR X.prog X.w X.K X.mg X.base k fx ps (x2q X.K C dsp)) (hr:Room j X.A) (hk:k<=j) (hg:Gl X fx) (ha:∀ E',AA (X.wish E') (e::es) t)
    (EC:ExcC X.K C bmB newId) (hgc:Gl X cx) (hmc:X.mg cx=some (.ref C)) (hex:X.ex=[]) (hst:X.stack=X.env::X.outer) (hfr:X.env.frame=some X.env.locals) (hN:X.N.Nodup) (hi:X.N[i]?=some n) (hlo:X.env.scope.names.lookup n=some .local)
    (hs:∀ e oe,oe.cls=.ref C->AB (X.inX e oe) (b₀::suite) (u e)) (hdb:(fx==("__debug__" : Str))=false:=by decide) (hdc:(cx==("__debug__" : Str))=false:=by decide) (he:starEach (e::es) X.env=(false,eval e X.env)::starEach es X.env:=by rfl) (hpl:(backTo cpos (starEach es X.env)).any (·.1)=false:=by rfl)
    (hsw:swapsWith (.Call (.Name fx p0) (e::es) [] cpos) none epos.line X.env=pure false:=by rfl) :
    AS X (.Try [.Expr (.Call (.Name fx p0) (e::es) [] cpos) epos] [.ExceptHandler (some (.Name cx np)) (some n) (b₀::suite) hpos] [] [] pos) (dTry i dsp t u):=by
  obtain ⟨f,fd,F,hm,kp,b⟩:=Gt.ex
  have ca:∀ E',∃ tc:TA,JA (X.wish E') (e::es) tc/\∀ ρ G DQ σ H Q,Bears X.K ρ G σ H->t ρ G DQ->FinL X.K (e::es).length G H DQ Q->tc σ H Q:=λ E'=>(ha E').run
  have cs:∀ e oe,∃ tc:TS,oe.cls=.ref C->JB (X.inX e oe) (b₀::suite) tc/\∀ DD Dc ρ G σ H,Bears X.K ρ G σ H->u e DD ρ G->EndsOk X.K G H DD Dc->tc Dc σ H:=λ e oe=>by
    by_cases c:oe.cls=.ref C
    . obtain ⟨tc,h⟩:=(hs e oe c).run
      exact ⟨tc,λ _=>h⟩
    . exact ⟨λ _ _ _=>False,λ z=>absurd z c⟩
  obtain ⟨ta,hta⟩:=Classical.axiomOfChoice ca
  obtain ⟨tu,htu⟩:=Classical.axiomOfChoice λ e=>Classical.axiomOfChoice (cs e)
  refine ⟨_,⟨vGq (C:=C) (i:=i) (t:=λ σ H Q=>∀ E',ta E' σ H Q) (u:=λ e D σ H=>∀ oe,oe.cls=.ref C->tu e oe D σ H) F (hr.mono hk) hg hm kp b (λ E'=>λ cp pins s σ H Q I h=>(hta E').1.run cp pins s σ H Q I (h E')) EC hgc hmc hex hst hfr hN hi hlo
    (λ e oe c=>λ pins s σ H D I h=>(htu e oe c).1.run pins s σ H D I (h oe c)) hdb hdc he hpl hsw⟩,λ DD Dc ρ G σ H B q Fe=>?_⟩
  intro E'
  refine (hta E').2 ρ G _ σ H _ B q λ ds G1 vs H1 g1 al _ q1=>?_
  obtain ⟨W,h1,h2⟩:=q1
  refine ⟨ds,G1,W,al,g1.vw,h1,λ G2 H2 g2 w=>⟨rfl,λ e hen oe c=>?_⟩⟩
  refine (htu e oe c).2 (offD i DD) (yKq i Dc) _ G2 _ H2 ((B.go (g1.trans g2)).set (show Abs X.K H2 (.ref e) (.ref e) from rfl) i) (h2 e G2 w ?_) ((Fe.after (g1.trans g2)).off i)
  cases z:G2 e with
  | none=>rfl
  | some o=>
    obtain ⟨u',hu'⟩:=(g2.vw e o z).some
    rw [hen] at hu';cases hu'
def lOq:List D->Option (List Addr)
  | []=>some []
  | .ref a::ds=>(lOq ds).map (a::·)
  | _=>none
theorem iSq {K:PySem.W.Frag} {H:Hp}:∀ {ds:List D} {vs:List V} {cs:List Addr},lOq ds=some cs->AbsL K H ds vs->vs=cs.map V.ref
  | [],vs,cs,h,a=>by cases h;cases a;rfl
  | .ref x::ds,vs,cs,h,a=>by
    unfold lOq at h
    cases z:lOq ds with
    | none=>rw [z] at h;cases h
    | some l=>
      rw [z] at h;cases h
      obtain ⟨v,r,rfl,a1,a2⟩:=a
      rw [iSq z a2];cases a1;rfl
  | .non::_,_,_,h,_=>by cases h
  | .bl _::_,_,_,h,_=>by cases h
  | .int _::_,_,_,h,_=>by cases h
  | .str _::_,_,_,h,_=>by cases h
  | .ty _::_,_,_,h,_=>by cases h
  | .tup _::_,_,_,h,_=>by cases h
  | .frl _::_,_,_,h,_=>by cases h
def yDq (K:PySem.W.Frag) (C:Addr):D->Option Bool
  | .ref c=>PySem.W.kitOne K (.ref C) (.ref c)
  | .ty T=>PySem.W.kitOne K (.ref C) (.type T)
  | .tup ds=>match lOq ds with
    | some cs=>PySem.W.kitAny K (.ref C) (cs.map Value.ref)
    | none=>none
  | _=>none
@[irreducible] def isE (K:PySem.W.Frag) (C e:Addr):D->D->DV->DK->Prop:=λ x y G Q=>x=.ref e/\∃ b,yDq K C y=some b/\Q (.bl b) G
theorem qZq {K:PySem.W.Frag} {C e:Addr} {x y:D} {G:DV} {Q:DK}:isE K C e x y G Q=(x=.ref e/\∃ b,yDq K C y=some b/\Q (.bl b) G):=by unfold isE;rfl
theorem mNq {K:PySem.W.Frag} {C e:Addr} {y:D} {G:DV} {Q:DK} {b:Bool} (k:yDq K C y=some b) (q:Q (.bl b) G):isE K C e (.ref e) y G Q:=by rw [qZq];exact ⟨rfl,b,k,q⟩
theorem f6q {e C:Addr} {oe:Obj} (FK:ExcK X.K C) (hc:oe.cls=.ref C):ACall (X.inX e oe) (.builtin "isinstance") (yHq (isE X.K C e)):=by
  refine ⟨_,⟨pOq FK hc⟩,λ xs vs G H DQ Q v a r F=>?_⟩
  obtain ⟨x,y,u,w,rfl,rfl,ax,ay,r1⟩:=k6q r a
  clear r
  rw [qZq] at r1
  obtain ⟨rfl,b,k,q⟩:=r1
  cases ax
  refine ⟨w,rfl,?_⟩
  have fin:=F (.bl b) G _ H (.refl v) rfl q
  cases y with
  | ref c=>cases ay;exact .inl ⟨c,b,rfl,k,fin⟩
  | ty T=>cases ay;exact .inr (.inl ⟨T,b,rfl,k,fin⟩)
  | tup ds=>
    obtain ⟨l,ws,rfl,sq,rl⟩:=ay
    dsimp only [yDq] at k
    cases z:lOq ds with
    | none=>rw [z] at k;cases k
    | some cs=>
      rw [z] at k
      rw [iSq z rl] at sq
      exact .inr (.inr ⟨l,cs,b,rfl,sq,k,fin⟩)
  | _=>cases k
end
end L3
set_option Elab.async false
set_option linter.all false
set_option maxRecDepth 100000
namespace L2
open PySem PySem.Spec PyProof.Rows PySem.W
abbrev lNq:List Value:=[.type "ValueError", .type "Exception", .type "BaseException", .type "object"]
def w6q:Value->Bool
  | .str _ _=>true
  | _=>false
def uEq (es:Array DictEntry):Bool:=es.toList.all (λ e=>w6q e.key)&&quietNames.all λ n=>(nsFind es n).isNone
theorem mLq {es:Array DictEntry} (h:uEq es=true):StrKeys es/\∀ n∈quietNames,nsFind es n=none:=by
  unfold uEq at h
  rw [Bool.and_eq_true,List.all_eq_true,List.all_eq_true] at h
  refine ⟨λ e he=>?_,λ n hn=>Option.isNone_iff_eq_none.mp (h.2 n hn)⟩
  have z:=h.1 e (Array.mem_toList_iff.mpr he)
  cases k:e.key with
  | str n t=>exact ⟨n,t,rfl⟩
  | _=>rw [k] at z;cases z
theorem rTq {K:Frag} {C B N N2:Addr} {nm q:Str} {bs:List Value} {hdct:Bool} {sn:List Str} {sub:List Value} {ab:Bool} {col:Option Bool} {dd:Option Addr} {k0 k1 k2 k3 k5:Option Value}
    {nc:Value} {nd:Option Addr} {es es2:Array DictEntry} {ep ep2:Nat} {nsl nsl2:Array (Option Value)} {c0 nc2:Value} {dd2 nd2:Option Addr} {cd:ClassData} {sl2:Array (Option Value)}
    (x1:List.lookup C K=some (excClassObj nm q C N bs (.ref B::lNq) hdct sn sub ab col dd k0 k1 k2 k3 k5 "ValueError.__new__")) (x2:List.lookup N K=some ⟨nc,nd,.dict es ep,nsl⟩) (x3:uEq es=true)
    (x4:List.lookup B K=some ⟨c0,dd2,.cls cd,sl2⟩) (x5:cd.ns=N2) (x6:List.lookup N2 K=some ⟨nc2,nd2,.dict es2 ep2,nsl2⟩) (x7:uEq es2=true):ExcC K C lNq "ValueError.__new__":=by
  obtain ⟨a1,a2⟩:=mLq x3
  obtain ⟨b1,b2⟩:=mLq x7
  refine ⟨⟨"ValueError", "ValueError.__init__", .ref B::lNq,N,nm,q,bs,hdct,sn,sub,ab,col,dd,k0,k1,k2,k3,k5,nsFind es,PySem.F.excBase_ValueError,by rfl,λ h X=>⟨X _ _ x1,⟨_,es,ep,X _ _ x2,rfl,a1,λ _=>rfl⟩,a2,?_⟩⟩,by rfl⟩
  exact .own (X _ _ x4) (mA:=nsFind es2) (by rw [x5];exact ⟨_,es2,ep2,X _ _ x6,rfl,b1,λ _=>rfl⟩) b2 .base
theorem bKq {K:Frag} {C c:Addr} {cd:ClassData} {b:Bool} (h0:(C==c)=false) (h1:clsIn K c=some cd) (h2:typeIn K (.ref c)=some (.type "type")) (h3:subIn K (.ref C) (.ref c)=some b):kitOne K (.ref C) (.ref c)=some b:=by
  unfold kitOne
  rw [if_neg (λ q=>by cases beq_iff_eq.mp q;rw [beq_self_eq_true] at h0;cases h0)]
  unfold kitCls
  simp only [h1,h2,h3,Option.isSome_some,Bool.true_and,beq_self_eq_true,if_true]
theorem tBq:kitMeta "ValueError" = true:=by decide +kernel
theorem pDq {K:Frag} {C:Addr} {b:Bool} (h3:subIn K (.ref C) (.type "ValueError")=some b):kitOne K (.ref C) (.type "ValueError")=some b:=by
  unfold kitOne
  rw [if_neg (λ q=>by cases beq_iff_eq.mp q)]
  unfold kitCls
  simp only [tBq,h3,if_true]
theorem lDq {K:Frag} {t:Value}:kitAny K t []=some false:=rfl
theorem bSq {K:Frag} {t c:Value} {cs:List Value} (h:kitOne K t c=some false) (hs:kitAny K t cs=some false):kitAny K t (c::cs)=some false:=by
  unfold kitAny;rw [h];exact hs
theorem sKq:bootBuiltins "ValueError" = some (.type "ValueError"):=by decide +kernel
end L2
set_option Elab.async false
set_option linter.all false
set_option maxRecDepth 100000
namespace L3
open PySem L2
def Tm.rAt (t:Tm) (ns:List Int):Bool:=match t.at ns with
  | some u=>u.hasRule
  | none=>false
def oEnc:Option Tm->D
  | some u=>u.enc
  | none=>.non
def q6q:DSp:=λ ds G Q=>∃ (t:Tm) (ns:List Int),ds=[t.enc,plD ns]/\Q (oEnc (t.at ns)) G
def dEq:DSp:=λ ds G Q=>∃ (t:Tm) (ns:List Int),ds=[t.enc,plD ns]/\Q (.bl (t.rAt ns)) G
def nAq:y0q:=λ ds G W=>∃ (t:Tm) (ns:List Int),ds=[t.enc,plD ns]/\t.rAt ns=false/\W G
def eYq (n:Nat):DSp:=λ ds G Q=>∃ (t:Tm) (m l:Nat),ds=[t.enc,.int m,.int l]/\t.dp < n/\Q (t.mapN (b3q m 0) l).enc G
def iTq (n:Nat):DSp:=λ ds G Q=>∃ (t u:Tm) (w:Nat),ds=[t.enc,u.enc,.int w]/\t.dp < n/\u.dp < 40/\Q (t.mapN (d2q u) w).enc G
def jVq:DSp:=λ ds G Q=>∃ t:Tm,ds=[t.enc]/\t.hasRule=true/\t.dp < 40/\Q t.comes.enc G
def cFq (n:Nat):DSp:=λ ds G Q=>∃ (t:Tm) (ns:List Int) (u o:Tm),ds=[t.enc,plD ns,o.enc]/\t.at ns=some u/\ns.length < n/\n<=1000/\Q (Tm.rpl o ns t).enc G
def eUq:DSp:=λ ds G Q=>∃ (t:Tm) (ns:List Int),ds=[t.enc,plD ns]/\t.rAt ns=false/\Q (.bl true) G
def fUq:DSp:=λ ds G Q=>∃ (t:Tm) (ns:List Int),ds=[t.enc,plD ns,.bl (t.rAt ns)]/\Q (.bl true) G
theorem h8q {t u:Tm} {ns:List Int} (h:t.at ns=some u):t.rAt ns=u.hasRule:=by unfold Tm.rAt;rw [h]
theorem d4q:∀ {t u:Tm} {ns:List Int} (ks:List Int),t.at ns=some u->t.at (ns++ks)=u.at ks
  | t,u,[],ks,h=>by cases h;rfl
  | t,u,k::ns,ks,h=>by
    obtain ⟨h0,x,h1,h2⟩:=Tm.at_cons h
    rw [List.cons_append,Tm.at_go h0 h1]
    exact d4q ks h2
theorem qUq {t u:Tm} {ns:List Int} (h:t.at ns=some u) (hl:u.inn=[]) (k:Int):t.rAt (ns++[k])=false:=by
  unfold Tm.rAt
  rw [d4q [k] h,Tm.at]
  split
  . next v e=>
    split at e
    . rw [hl] at e;simp at e
    . cases e
  . rfl
theorem tRq {t:Tm} {k:Int} (h:3<=k):t.rAt [k]=false:=by
  have hl:=t.inn_len
  unfold Tm.rAt
  rw [Tm.at,if_pos (by omega),List.getElem?_eq_none (by omega)]
theorem j6q {α:Type} (all:α->List (List Int × α)) (P:α->Prop):∀ (xs:List α) (k:Int),(∀ x∈xs,∃ r z,all x=r++[z]/\P z.2)->xs≠[]->∃ r z,eMq all xs k=r++[z]/\P z.2
  | [],_,_,h=>absurd rfl h
  | [x],k,hx,_=>by
    obtain ⟨r,z,e,p⟩:=hx x (List.mem_cons_self ..)
    refine ⟨r.map (λ z=>(k::z.1,z.2)),(k::z.1,z.2),?_,p⟩
    simp [eMq,e]
  | x::y::xs,k,hx,_=>by
    obtain ⟨r,z,e,p⟩:=j6q all P (y::xs) (k+1) (λ x h=>hx x (List.mem_cons_of_mem _ h)) (by simp)
    refine ⟨(all x).map (λ z=>(k::z.1,z.2))++r,z,?_,p⟩
    rw [eMq,e,List.append_assoc]
theorem kUq:∀ (n:Nat) (t:Tm),t.sz<=n->∃ r z,t.all=r++[z]/\z.2.inn=[]
  | 0,t,h=>by have:=t.sz_pos;omega
  | n+1,t,h=>by
    by_cases c:t.inn=[]
    . refine ⟨[],([],t),?_,c⟩
      rw [t.all_eq,c];rfl
    . obtain ⟨r,z,e,p⟩:=j6q Tm.all (λ u=>u.inn=[]) t.inn 0 (λ x hx=>kUq n x (by have:=Tm.sz_mem hx;omega)) c
      exact ⟨([],t)::r,z,by rw [t.all_eq,e];rfl,p⟩
theorem q7q {t:Tm} (h:t.hasRule=true):t.comes.dp<=2 * t.dp:=by
  cases t with
  | give b a=>
    cases b with
    | way b=>
      have:=oXq (φ:=d2q a) (Bd:=a.dp) (λ n w=>s6q n w) b 0
      simp only [Tm.comes,Tm.dp];omega
    | _=>cases h
  | first a=>
    cases a with
    | pair a b=>simp only [Tm.comes,Tm.dp];omega
    | _=>cases h
  | second a=>
    cases a with
    | pair a b=>simp only [Tm.comes,Tm.dp];omega
    | _=>cases h
  | plus a b=>
    cases a with
    | whole i=>
      cases b with
      | whole j=>simp only [Tm.comes,Tm.dp];omega
      | _=>cases h
    | _=>cases h
  | look a b c=>
    cases a with
    | whole i=>simp only [Tm.comes];split<;>simp only [Tm.dp]<;>omega
    | _=>cases h
  | _=>cases h
theorem kZq {t o:Tm} {k:Nat}:(t.rebuild (t.inn.set k o)).dp<=max t.dp (o.dp+1):=by
  cases t<;>rcases k with _ | _ | _ | k<;>simp [Tm.inn,Tm.rebuild,Tm.dp]<;>omega
theorem rCq {o:Tm}:∀ (ns:List Int) {t u:Tm},t.at ns=some u->(Tm.rpl o ns t).dp<=t.dp+o.dp
  | [],t,u,h=>by rw [Tm.rpl];omega
  | k::ns,t,u,h=>by
    obtain ⟨h0,x,h1,h2⟩:=Tm.at_cons h
    rw [Tm.rpl,List.getD_eq_getElem?_getD,h1]
    have z:=kZq (t:=t) (o:=Tm.rpl o ns ((some x).getD (.name 0))) (k:=k.toNat)
    have y:=rCq ns (o:=o) h2
    have w:=Tm.dp_inn (List.mem_of_getElem? h1)
    have e:(some x).getD (Tm.name 0)=x:=rfl
    rw [e] at z ⊢
    omega
theorem m1q {t u:Tm} {ns:List Int} (h:t.at ns=some u) (hr:u.hasRule=true):(t.behind ns).dp<=t.dp+2 * u.dp:=by
  unfold Tm.behind
  rw [h]
  have:=rCq ns (o:=u.comes) h
  have:=q7q hr
  show (Tm.rpl u.comes ns t).dp<=_
  omega
theorem vTq:∀ (ns:List Int) {t u:Tm},t.at ns=some u->u.dp<=t.dp/\u.sz<=t.sz
  | [],t,u,h=>by cases h;exact ⟨Nat.le_refl _,Nat.le_refl _⟩
  | k::ns,t,u,h=>by
    obtain ⟨h0,x,h1,h2⟩:=Tm.at_cons h
    have:=vTq ns h2
    have:=Tm.dp_inn (List.mem_of_getElem? h1)
    have:=Tm.sz_mem (List.mem_of_getElem? h1)
    omega
theorem qKq {t:Tm} (h:t.sz<=60):tWq t:=by
  cases t with
  | give b a=>
    cases b with
    | way b=>
      have:=b.nmsR_len 0
      have:=a.nmsR_len 0
      simp only [Tm.sz] at h
      exact ⟨by omega,by omega,by omega,by omega⟩
    | _=>trivial
  | _=>trivial
theorem pFq {α:Type} (xs:List α) (y:α):atI (xs++[y]) (-1)=some y:=by
  unfold atI ixN
  rw [if_neg (by decide),List.length_append,List.length_singleton]
  rw [if_pos (by omega)]
  show (xs++[y])[((-1:Int)+((xs.length+1:Nat):Int)).toNat]?=some y
  rw [show ((-1:Int)+((xs.length+1:Nat):Int)).toNat=xs.length by omega,List.getElem?_concat_length]
theorem pUq (ns:List Int):(plD ns).data=true:=by simp only [plD,D.data];exact gGq ns
theorem wBq (ns:List Int):(plD ns).dp<=150:=by simp only [plD,D.dp,kQq];omega
theorem lUq (ns:List Int):eqD (plD ns) (.tup [])=ns.isEmpty:=by cases ns<;>rfl
end L3
namespace KB
open PySem L2
def top (i:Nat):Stmt:=PySem.Challenge.pw_kindbags_k16_rules_at_their_places.main.body.getD i (.Pass ⟨0,0,0,0⟩)
structure Blt (mg:Str->Option Value):Prop where
  len:mg "len" = none
  isinstance:mg "isinstance" = none
  range:mg "range" = none
  int:mg "int" = none
  bool:mg "bool" = none
  str:mg "str" = none
  tuple:mg "tuple" = none
  list:mg "list" = none
  zip:mg "zip" = none
  sorted:mg "sorted" = none
  set:mg "set" = none
  all:mg "all" = none
  reversed:mg "reversed" = none
  min:mg "min" = none
  ValueError:mg "ValueError" = none
end KB
namespace KB
open PySem
abbrev fGq:List Str:=["program"]
abbrev j0q:List Str:=["program"]
abbrev dDq:List Str:=["program"]
abbrev eCq:List Str:=["program", "ways"]
abbrev eEq:List Str:=["program", "many", "least"]
abbrev fQq:List Str:=["program", "other"]
abbrev e7q:List Str:=["program", "depths"]
abbrev f5q:List Str:=["program", "change"]
abbrev iGq:List Str:=["program", "place"]
abbrev gVq:List Str:=["program", "place", "other"]
abbrev dHq:List Str:=["program", "k", "other"]
abbrev fXq:List Str:=["program", "place"]
abbrev g8q:List Str:=["program"]
abbrev eSq:List Str:=["program", "place"]
abbrev f3q:List Str:=["program"]
abbrev gJq:List Str:=["_law_script", "_law_k"]
abbrev gYq:List Str:=["_law_feed_here", "_law_many"]
abbrev fPq:List Str:=["_law_feed_here"]
abbrev gPq:List Str:=["_law_feed_here", "_law_many"]
abbrev eFq:List Str:=["_law_feed_here", "_law_form", "_law_many", "_law_room", "_law_deep"]
abbrev iZq:List Str:=["_law_feed_here", "_law_many", "_law_room", "_law_deep"]
abbrev iVq:List Str:=["_law_part"]
abbrev fEq:List Str:=["_law_part", "_law_many", "_law_least"]
abbrev iUq:List Str:=["_law_part", "_law_other", "_law_ways"]
abbrev g9q:List Str:=["_law_part"]
abbrev d9q:List Str:=["_law_program", "_law_place", "_law_other"]
abbrev kGq:List Str:=["_law_program", "_law_place"]
abbrev e8q:List Str:=["_law_program"]
abbrev eVq:List Str:=["_law_found", "_law_due"]
abbrev dJq:List Str:=["_law_program", "_law_place"]
abbrev dOq:List Str:=["_law_program", "_law_place", "_law_can_here"]
end KB
namespace KB
open PySem L2 L3
section
variable {P:Program} {w:World} {K:PySem.W.Frag} {mg:Str->Option Value} {base:Heap} {f:Addr} {fd:FuncData}
set_option maxHeartbeats 4000000
abbrev jMq:Stmt:=top 31
theorem sc_take:FnScope ["_law_feed_here", "_law_many", "_law_digit", "_law_one"] ["_law_feed_here", "_law_many"] (a5q jMq):=⟨rfl,rfl,rfl,by decide +kernel,rfl,by decide +kernel,by decide +kernel⟩
theorem s4q (F:Fun K "_law_take" "_law_take" jMq f fd):FnOk P w K mg base CX0 1 f fd ["_law_feed_here", "_law_many"] (aQq K e5q):=by
  refine okD (k:=0) F sc_take (λ ds G DQ h=>?_) (λ cdv A outer s H E hr ds G DQ h=>?_)
  . unfold e5q at h;split at h
    . rfl
    . exact h.elim
  unfold e5q at h;split at h
  case h_2=>exact h.elim
  next a m=>
  obtain ⟨⟨x,y,hF⟩,h0,h1,q⟩:=h
  refine ⟨_,(a4q (aWq (aHq j3q (aDq aix (a1q 0) a2q (λ _ _=>rfl)) a2q (aBq _)) (a4q (aFq (k:=2) sc_take.nd rfl (Or.inl rfl) (aGq cBq (aDq aix (a1q 0) a2q (λ _ _=>rfl)) (a1q 1)))
      (a4q (rDq (aGq cLq (aDq aix (a1q 0) a2q (λ _ _=>rfl)) (a1q 1)) (rMq (a1q 0) a2q))
      (a7q (aAq (a1q 2))))) aJq)
      (a4q (aFq (k:=3) sc_take.nd rfl (Or.inl rfl) (aGq cBq (aGq c1q (aDq aix (a1q 0) a2q (λ _ _=>rfl)) a2q) a2q))
      (a4q (rDq (aGq aKq (aGq cBq (aGq aKq (aGq c1q (a1q 3) a2q) a2q) a2q) a2q) (rMq (a1q 0) a2q))
      (a7q (aAq (aGq cBq (aGq cLq (aGq aKq (aGq c1q (a1q 3) a2q) (aDq aix (a1q 0) a2q (λ _ _=>rfl))) a2q) (a1q 1))))))),?_⟩
  refine aRq hF ⟨λ c=>?_,λ c=>?_⟩
  . refine aRq hF ⟨h0,aRq hF ⟨⟨h0,by omega⟩,bEq hF ⟨0,rfl,Dr.of (q _ _ .mk (Int.emod_nonneg _ (by omega)) (Int.emod_lt_of_pos _ h0))⟩⟩⟩
  . refine aRq hF ⟨.inr ⟨by decide,by decide⟩,by simp,.inr ⟨by decide,by decide⟩,by simp,bEq hF ⟨1,rfl,.inr ⟨by decide,by decide⟩,aRq a8q ⟨⟨by decide,by decide⟩,h0,Dr.of (q _ _ .mk (Int.emod_nonneg _ (by omega)) (Int.emod_lt_of_pos _ h0))⟩⟩⟩
abbrev jTq:Stmt:=top 30
theorem sc_feed:FnScope ["_law_script", "_law_k", "_law_cell", "_law_own"] ["_law_script", "_law_k"] (a5q jTq):=⟨rfl,rfl,rfl,by decide +kernel,rfl,by decide +kernel,by decide +kernel⟩
theorem sPq (B:Blt mg) (F:Fun K "_law_feed" "_law_feed" jTq f fd):FnOk P w K mg base CX0 1 f fd ["_law_script", "_law_k"] (aQq K iXq):=by
  refine okD (k:=0) F sc_feed (λ ds G DQ h=>?_) (λ cdv A outer s H E hr ds G DQ h=>?_)
  . unfold iXq at h;split at h
    . rfl
    . exact h.elim
  unfold iXq at h;split at h
  case h_2=>exact h.elim
  next ss k=>
  obtain ⟨ns,rfl,hl,h0,h1,q⟩:=h
  have fin:∀ x y:Int,∀ p,G p=none->Dr DQ (.ref p) (up G p (fed x y)):=λ x y p hp=>Dr.of (q p x y hp)
  have at_ok:∀ j:Int,0<=j->j < ns.length->∃ v,atI (ns.map D.int) j=some (.int v):=λ j j0 j1=>by
    refine ⟨ns[j.toNat],?_⟩
    have e:=bWq (xs:=ns.map D.int) (j:=j.toNat) (v:=D.int ns[j.toNat]) (by simp [show j.toNat < ns.length by omega])
    rwa [show ((j.toNat:Nat):Int)=j by omega] at e
  refine ⟨_,(a4q (aFq (k:=2) sc_feed.nd rfl (Or.inl rfl) (aGq aKq (aGq c1q a2q (a1q 1)) a2q))
      (a4q (aWq (aHq c4q (a1q 1) (aXq bFq rfl B.len PySem.boot_len (a0q (a1q 0) a3q)) (aBq _)) (a7q (aFq (k:=2) sc_feed.nd rfl (Or.inl rfl) (aDq aix (a1q 0) (a1q 1) (λ _ _=>rfl)))) (a7q (aWq (aHq j3q (aXq bFq rfl B.len PySem.boot_len (a0q (a1q 0) a3q)) a2q (aBq _)) (a7q (aFq (k:=2) sc_feed.nd rfl (Or.inl rfl) (aGq aKq (aGq c1q (aGq cBq (aDq aix (a1q 0) (aGq cBq (a1q 1) (aXq bFq rfl B.len PySem.boot_len (a0q (a1q 0) a3q))) (λ _ _=>rfl)) a2q) a2q) (aGq c1q a2q (a1q 1))))) aJq)))
      (a4q (aFq (k:=3) sc_feed.nd rfl (Or.inl rfl) a2q)
      (a4q (aWq (aHq iBq (a1q 2) (aGq s1q a2q a2q) (aBq _)) (a7q (aFq (k:=3) sc_feed.nd rfl (Or.inl rfl) (a1q 2))) aJq)
      (a7q (aAq (eBq (a0q (a1q 3) (a0q (aGq aKq (aGq cBq (aGq aKq (aGq c1q (aGq cBq (a1q 2) a2q) a2q) (aGq c1q a2q (a1q 1))) a2q) a2q) a3q))))))))),?_⟩
  refine ⟨.inl ⟨by decide,by decide⟩,⟨λ c=>?_,λ c=>?_⟩⟩
  . have c':k < ns.length:=by simpa using c
    obtain ⟨v,hv⟩:=at_ok k h0 c'
    refine (rLq hv ⟨⟨by decide,by decide,by decide⟩,λ c=>?_,λ c=>?_⟩)
    . exact ⟨by simp,.inr ⟨by decide,by decide⟩,.inl ⟨by decide,by decide⟩,by simp,λ p hp=>fin _ _ p hp⟩
    . exact ⟨by simp,.inr ⟨by decide,by decide⟩,.inl ⟨by decide,by decide⟩,by simp,λ p hp=>fin _ _ p hp⟩
  . refine ⟨λ c=>?_,λ c=>?_⟩
    . have c':0 < ns.length:=by
        have:(0:Int) < (ns.map D.int).length:=by simpa using c
        simpa using this
      obtain ⟨v,hv⟩:=at_ok (k % (ns.map D.int).length) (Int.emod_nonneg _ (show ((ns.map D.int).length:Int)≠0 by rw [List.length_map];omega)) (by have:=Int.emod_lt_of_pos k (show (0:Int) < (ns.map D.int).length by simpa using c');simpa using this)
      refine ⟨by simpa using c',?_⟩
      refine (rLq hv ⟨by simp,.inr ⟨by decide,by decide⟩,.inl ⟨by decide,by decide⟩,⟨by decide,by decide,by decide⟩,λ c=>?_,λ c=>?_⟩)
      . exact ⟨by simp,.inr ⟨by decide,by decide⟩,.inl ⟨by decide,by decide⟩,by simp,λ p hp=>fin _ _ p hp⟩
      . exact ⟨by simp,.inr ⟨by decide,by decide⟩,.inl ⟨by decide,by decide⟩,by simp,λ p hp=>fin _ _ p hp⟩
    . refine ⟨⟨by decide,by decide,by decide⟩,λ c=>?_,λ c=>?_⟩
      . exact ⟨by simp,.inr ⟨by decide,by decide⟩,.inl ⟨by decide,by decide⟩,by simp,λ p hp=>fin _ _ p hp⟩
      . exact ⟨by simp,.inr ⟨by decide,by decide⟩,.inl ⟨by decide,by decide⟩,by simp,λ p hp=>fin _ _ p hp⟩
abbrev h5q:Stmt:=top 32
theorem sc_whole:FnScope ["_law_feed_here", "_law_form"] ["_law_feed_here"] (a5q h5q):=⟨rfl,rfl,rfl,by decide +kernel,rfl,by decide +kernel,by decide +kernel⟩
theorem pHq (g_take:Got P w K mg base 1 "_law_take" ["_law_feed_here", "_law_many"] (aQq K e5q)) (F:Fun K "_law_whole" "_law_whole" h5q f fd):FnOk P w K mg base CX0 2 f fd ["_law_feed_here"] (aQq K e1q):=by
  refine okD (k:=1) F sc_whole (λ ds G DQ h=>?_) (λ cdv A outer s H E hr ds G DQ h=>?_)
  . unfold e1q at h;split at h
    . rfl
    . exact h.elim
  unfold e1q at h;split at h
  case h_2=>exact h.elim
  next a=>
  obtain ⟨hF,q⟩:=h
  refine ⟨_,(a4q (aFq (k:=1) sc_whole.nd rfl (Or.inl rfl) (a6q g_take hr (by omega) rfl (a0q (a1q 0) (a0q a2q a3q))))
      (a4q (aWq (aHq c4q (a1q 1) a2q (aBq _)) (a7q (aAq (aMq (a0q aCq (a0q (cHq (a0q a2q (a0q a2q (a0q (qTq hSq a2q) (a0q a2q a3q)))) (a1q 1) (λ _ _=>rfl)) a3q))))) aJq)
      (a4q (aWq (aHq c4q (a1q 1) a2q (aBq _)) (a7q (aAq (aMq (a0q aCq (a0q (aGq aOq (a6q g_take hr (by omega) rfl (a0q (a1q 0) (a0q a2q a3q))) a2q) a3q))))) aJq)
      (a7q (aAq (aMq (a0q aCq (a0q (aGq aOq (a6q g_take hr (by omega) rfl (a0q (a1q 0) (a0q a2q a3q))) a2q) a3q)))))))),?_⟩
  refine ⟨hF,by decide,by decide,λ d G1 u1 d0 d1=>⟨λ c=>?_,λ c=>⟨λ c2=>?_,λ c2=>?_⟩⟩⟩
  . exact at4 d0 (by simpa using c) (λ _=>Dr.of (q 0 _ u1 (by decide) (by decide))) (λ _=>Dr.of (q 1 _ u1 (by decide) (by decide))) (λ _=>Dr.of (q (-1) _ u1 (by decide) (by decide))) (λ _=>Dr.of (q 2 _ u1 (by decide) (by decide)))
  . exact ⟨u1.fd,by decide,by decide,λ e G2 u2 e0 e1=>Dr.of (q (e - 5) _ (u1.trans u2) (by omega) (by omega))⟩
  . exact ⟨u1.fd,by decide,by decide,λ e G2 u2 e0 e1=>Dr.of (q (e - 999999999) _ (u1.trans u2) (by omega) (by omega))⟩
abbrev hWq:Stmt:=top 11
theorem p2q:FnScope ["program"] ["program"] (a5q hWq):=⟨rfl,rfl,rfl,by decide +kernel,rfl,by decide +kernel,by decide +kernel⟩
theorem pCq (F:Fun K "inner" "inner" hWq f fd):FnOk P w K mg base CX0 1 f fd ["program"] (aQq K (jOq Tm.enc Tm.inn)):=by
  refine okD (k:=0) F p2q (λ ds G DQ h=>?_) (λ cdv A outer s H E hr ds G DQ h=>?_)
  . obtain ⟨t,rfl,_⟩:=h;rfl
  obtain ⟨t,rfl,q⟩:=h
  refine ⟨_,(a4q (aWq (AW.at (kXq (aHq (aIq (aVq hr)) (aDq aix (a1q 0) a2q (λ _ _=>rfl)) aCq (aBq _)) (g6q (aHq (aIq (aVq hr)) (aDq aix (a1q 0) a2q (λ _ _=>rfl)) aCq (aBq _))))) (a7q (aAq (aMq a3q))) aJq)
      (a7q (aAq (bVq asl (a1q 0) (c8q a2q) c9q)))),?_⟩
  cases t with
  | name k=>exact ⟨λ _=>⟨λ _=>Dr.of q,nofun⟩,λ c=>absurd c (by decide)⟩
  | whole k=>exact ⟨λ c=>absurd c (by decide),λ _=>⟨λ _=>Dr.of q,λ c=>absurd c (by decide)⟩⟩
  | _=>exact ⟨λ c=>absurd c (by decide),λ _=>⟨λ c=>absurd c (by decide),λ _=>Dr.of q⟩⟩
abbrev k0q:Stmt:=top 26
theorem sc_hasr:FnScope ["program", "word"] ["program"] (a5q k0q):=⟨rfl,rfl,rfl,by decide +kernel,rfl,by decide +kernel,by decide +kernel⟩
theorem tHq (F:Fun K "has_rule" "has_rule" k0q f fd):FnOk P w K mg base CX0 1 f fd ["program"] (aQq K (dTq Tm.hasRule)):=by
  refine okD (k:=0) F sc_hasr (λ ds G DQ h=>?_) (λ cdv A outer s H E hr ds G DQ h=>?_)
  . obtain ⟨t,rfl,_⟩:=h;rfl
  obtain ⟨t,rfl,q⟩:=h
  refine ⟨_,(a4q (aFq (k:=1) sc_hasr.nd rfl (Or.inl rfl) (aDq aix (a1q 0) a2q (λ _ _=>rfl)))
      (a4q (aWq (aHq (aIq (aVq hr)) (a1q 1) aCq (aBq _)) (a7q (aAq (bAq (aIq (aVq hr)) (aDq aix (aDq aix (a1q 0) a2q (λ _ _=>rfl)) a2q (λ _ _=>rfl)) aCq (aBq _)))) aJq)
      (a4q (aWq (AW.at (kXq (aHq (aIq (aVq hr)) (a1q 1) aCq (aBq _)) (g6q (aHq (aIq (aVq hr)) (a1q 1) aCq (aBq _))))) (a7q (aAq (bAq (aIq (aVq hr)) (aDq aix (aDq aix (a1q 0) a2q (λ _ _=>rfl)) a2q (λ _ _=>rfl)) aCq (aBq _)))) aJq)
      (a4q (aWq (aHq (aIq (aVq hr)) (a1q 1) aCq (aBq _)) (a7q (aAq (bZq (bAq (aIq (aVq hr)) (aDq aix (aDq aix (a1q 0) a2q (λ _ _=>rfl)) a2q (λ _ _=>rfl)) aCq (aBq _)) (c2q (bAq (aIq (aVq hr)) (aDq aix (aDq aix (a1q 0) a2q (λ _ _=>rfl)) a2q (λ _ _=>rfl)) aCq (aBq _)))))) aJq)
      (a7q (aAq (bZq (bAq (aIq (aVq hr)) (a1q 1) aCq (aBq _)) (c2q (bAq (aIq (aVq hr)) (aDq aix (aDq aix (a1q 0) a2q (λ _ _=>rfl)) a2q (λ _ _=>rfl)) aCq (aBq _)))))))))),?_⟩
  cases t with
  | give t u=>
    rw [eGq] at q
    simp only [Tm.enc];rw [t.enc_eq]
    exact ⟨λ _=>Dr.of q,λ c=>absurd c (by decide)⟩
  | first t=>
    rw [d8q] at q
    simp only [Tm.enc];rw [t.enc_eq]
    exact ⟨λ c=>absurd c (by decide),λ _=>⟨λ _=>⟨λ _=>Dr.of q,nofun⟩,λ c=>absurd c (by decide)⟩⟩
  | second t=>
    rw [cOq] at q
    simp only [Tm.enc];rw [t.enc_eq]
    exact ⟨λ c=>absurd c (by decide),λ _=>⟨λ c=>absurd c (by decide),λ _=>⟨λ _=>Dr.of q,λ c=>absurd c (by decide)⟩⟩⟩
  | plus t u=>
    rw [e4q] at q
    simp only [Tm.enc];rw [t.enc_eq,u.enc_eq]
    refine ⟨λ c=>absurd c (by decide),λ _=>⟨λ c=>absurd c (by decide),λ _=>⟨λ c=>absurd c (by decide),λ _=>⟨λ _=>⟨λ c=>?_,λ c=>?_⟩,λ c=>absurd c (by decide)⟩⟩⟩⟩
    . rw [show (t.word==Str.ofString "whole")=true from c] at q;exact Dr.of q
    . rw [show (t.word==Str.ofString "whole")=false from c] at q;exact Dr.of q
  | look t u v=>
    rw [eAq] at q
    simp only [Tm.enc];rw [t.enc_eq]
    exact ⟨λ c=>absurd c (by decide),λ _=>⟨λ c=>absurd c (by decide),λ _=>⟨λ c=>absurd c (by decide),λ _=>⟨λ c=>absurd c (by decide),λ _=>⟨λ _=>Dr.of q,λ c=>absurd c (by decide)⟩⟩⟩⟩⟩
  | _=>exact ⟨λ c=>absurd c (by decide),λ _=>⟨λ c=>absurd c (by decide),λ _=>⟨λ c=>absurd c (by decide),λ _=>⟨λ c=>absurd c (by decide),λ _=>⟨λ c=>absurd c (by decide),λ _=>Dr.of q⟩⟩⟩⟩⟩
abbrev oIq:Stmt:=top 35
theorem sc_any:FnScope ["_law_feed_here", "_law_many", "_law_room", "_law_deep", "_law_form", "_law_half", "_law_one", "_law_other"] ["_law_feed_here", "_law_many", "_law_room", "_law_deep"] (a5q oIq):=⟨rfl,rfl,rfl,by decide +kernel,rfl,by decide +kernel,by decide +kernel⟩
theorem xQq:FnOk P w K mg base CX0 4 f fd ["_law_feed_here", "_law_many", "_law_room", "_law_deep"] (aQq K (hCq 0)):=uFq λ ds G DQ h=>by
  unfold hCq at h;split at h
  . obtain ⟨_,_,_,_,h1,h2,_⟩:=h;omega
  . exact h
theorem uWq {n:Nat} (g_take:Got P w K mg base 1 "_law_take" ["_law_feed_here", "_law_many"] (aQq K e5q)) (g_leaf:Got P w K mg base 3 "_law_leaf" ["_law_feed_here", "_law_many"] (aQq K gWq)) (g_headed:Got P w K mg base (2 * n+5) "_law_headed" ["_law_feed_here", "_law_form", "_law_many", "_law_room", "_law_deep"] (aQq K (dMq n))) (g_any:Got P w K mg base (2 * n+4) "_law_any" ["_law_feed_here", "_law_many", "_law_room", "_law_deep"] (aQq K (hCq n)))
    (F:Fun K "_law_any" "_law_any" oIq f fd):FnOk P w K mg base CX0 (2 * n+6) f fd ["_law_feed_here", "_law_many", "_law_room", "_law_deep"] (aQq K (hCq (n+1))):=by
  refine okD (k:=2 * n+5) F sc_any (λ ds G DQ h=>?_) (λ cdv A outer s H E hr ds G DQ h=>?_)
  . unfold hCq at h;split at h
    . rfl
    . exact h.elim
  unfold hCq at h;split at h
  case h_2=>exact h.elim
  next a many room deep=>
  obtain ⟨hF,m0,m1,r1,dp0,dp1,q⟩:=h
  have fin:∀ (p:Tm) (G':DV),Fx a G G'->Fit p (max room 1) deep->Dr DQ p.enc G':=λ p G' u z=>Dr.of (q p G' u z)
  refine ⟨_,(a4q (aFq (k:=4) sc_any.nd rfl (Or.inl rfl) (a6q g_take hr (by omega) rfl (a0q (a1q 0) (a0q a2q a3q))))
      (a4q (aFq (k:=5) sc_any.nd rfl (Or.inl rfl) (aGq cLq (aGq aOq (a1q 2) a2q) a2q))
      (a4q (aWq (AW.at (kXq (aHq c4q (a1q 2) a2q (aBq _)) (g6q (aHq c4q (a1q 3) a2q (aBq _))))) (a7q (aAq (a6q g_leaf hr (by omega) rfl (a0q (a1q 0) (a0q (a1q 1) a3q))))) aJq)
      (a4q (aWq (aHq c4q (a1q 4) a2q (aBq _)) (a7q (aAq (a6q g_headed hr (by omega) rfl (a0q (a1q 0) (a0q (a1q 4) (a0q (a1q 1) (a0q (a1q 2) (a0q (a1q 3) a3q)))))))) aJq)
      (a4q (aWq (aHq c4q (a1q 4) a2q (aBq _)) (a7q (aAq (aMq (a0q aCq (a0q (a6q g_any hr (by omega) rfl (a0q (a1q 0) (a0q (aGq aKq (a1q 1) a2q) (a0q (aGq aOq (a1q 2) a2q) (a0q (aGq aOq (a1q 3) a2q) a3q))))) a3q))))) aJq)
      (a4q (aWq (aHq c4q (a1q 4) a2q (aBq _)) (a7q (aAq (aMq (a0q (cHq (a0q aCq (a0q aCq a3q)) (aGq aOq (a1q 4) a2q) (λ _ _=>rfl)) (a0q (a6q g_any hr (by omega) rfl (a0q (a1q 0) (a0q (a1q 1) (a0q (aGq aOq (a1q 2) a2q) (a0q (aGq aOq (a1q 3) a2q) a3q))))) a3q))))) aJq)
      (a4q (aWq (aHq (aIq (aVq hr)) (a1q 4) a2q (aBq _)) (a4q (aFq (k:=6) sc_any.nd rfl (Or.inl rfl) (a6q g_any hr (by omega) rfl (a0q (a1q 0) (a0q (a1q 1) (a0q (aGq cLq (a1q 5) a2q) (a0q (aGq aOq (a1q 3) a2q) a3q))))))
      (a4q (aFq (k:=7) sc_any.nd rfl (Or.inl rfl) (a6q g_any hr (by omega) rfl (a0q (a1q 0) (a0q (a1q 1) (a0q (aGq cLq (a1q 5) a2q) (a0q (aGq aOq (a1q 3) a2q) a3q))))))
      (a7q (aAq (aMq (a0q aCq (a0q (a1q 6) (a0q (a1q 7) (a0q (a6q g_any hr (by omega) rfl (a0q (a1q 0) (a0q (a1q 1) (a0q (aGq aOq (a1q 5) a2q) (a0q (aGq aOq (a1q 3) a2q) a3q))))) a3q))))))))) aJq)
      (a4q (aFq (k:=6) sc_any.nd rfl (Or.inl rfl) (a6q g_any hr (by omega) rfl (a0q (a1q 0) (a0q (a1q 1) (a0q (a1q 5) (a0q (aGq aOq (a1q 3) a2q) a3q))))))
      (a7q (aAq (aMq (a0q (cHq (a0q aCq (a0q aCq a3q)) (aGq aOq (a1q 4) a2q) (λ _ _=>rfl)) (a0q (a1q 6) (a0q (a6q g_any hr (by omega) rfl (a0q (a1q 0) (a0q (a1q 1) (a0q (a1q 5) (a0q (aGq aOq (a1q 3) a2q) a3q))))) a3q)))))))))))))),?_⟩
  refine ⟨hF,by decide,by decide,λ form G1 u1 f0 f1=>⟨⟨by decide,by decide⟩,λ c1=>⟨λ _=>?leaf1,nofun⟩,λ c1=>⟨λ c2=>?leaf2,λ c2=>?rest⟩⟩⟩
  case leaf1 | leaf2=>exact ⟨u1.fd,m0,by omega,λ p G2 u2 h1 h2=>fin p G2 (u1.trans u2) ⟨by omega,by omega⟩⟩
  have d1:¬ room < 6:=by simpa using c1
  have d2:¬ deep < 3:=by simpa using c2
  refine ⟨λ c3=>?_,λ c3=>⟨λ c4=>?_,λ c4=>⟨λ c5=>?_,λ c5=>⟨λ c6=>?_,λ c6=>?_⟩⟩⟩⟩
  . exact ⟨u1.fd,f0,by simpa using c3,m0,by omega,by omega,by omega,by omega,by omega,λ p G2 u2 z=>fin p G2 (u1.trans u2) ⟨by have:=z.sz;omega,z.dp⟩⟩
  . refine ⟨u1.fd,by omega,by omega,by omega,by omega,by omega,λ p G2 u2 z=>fin (.way p) G2 (u1.trans u2) ?_⟩
    obtain ⟨z1,z2⟩:=z
    exact ⟨by simp only [Tm.sz];omega,by simp only [Tm.dp];omega⟩
  . have e4:¬ form < 13:=by simpa using c4
    have e5:form < 15:=by simpa using c5
    refine at2 (i:=form - 13) (by omega) (by omega) (λ _=>?_) (λ _=>?_)
    . refine ⟨u1.fd,by omega,by omega,by omega,by omega,by omega,λ p G2 u2 z=>fin (.first p) G2 (u1.trans u2) ?_⟩
      obtain ⟨z1,z2⟩:=z
      exact ⟨by simp only [Tm.sz];omega,by simp only [Tm.dp];omega⟩
    . refine ⟨u1.fd,by omega,by omega,by omega,by omega,by omega,λ p G2 u2 z=>fin (.second p) G2 (u1.trans u2) ?_⟩
      obtain ⟨z1,z2⟩:=z
      exact ⟨by simp only [Tm.sz];omega,by simp only [Tm.dp];omega⟩
  . refine ⟨⟨by decide,by decide⟩,u1.fd,by omega,by omega,by omega,by omega,by omega,λ p G2 u2 z=>⟨⟨by decide,by decide⟩,(u1.trans u2).fd,by omega,by omega,by omega,by omega,by omega,λ p2 G3 u3 z2=>⟨((u1.trans u2).trans u3).fd,by omega,by omega,by omega,by omega,by omega,λ p3 G4 u4 z3=>fin (.look p p2 p3) G4 (((u1.trans u2).trans u3).trans u4) ?_⟩⟩⟩
    obtain ⟨z1,y1⟩:=z
    obtain ⟨z2,y2⟩:=z2
    obtain ⟨z3,y3⟩:=z3
    exact ⟨by simp only [Tm.sz];omega,by simp only [Tm.dp];omega⟩
  . have e5:¬ form < 15:=by simpa using c5
    have e6:form≠17:=by simpa using c6
    refine ⟨u1.fd,by omega,by omega,by omega,by omega,by omega,λ p G2 u2 z=>?_⟩
    refine at2 (i:=form - 15) (by omega) (by omega) (λ _=>?_) (λ _=>?_)
    . refine ⟨(u1.trans u2).fd,by omega,by omega,by omega,by omega,by omega,λ p2 G3 u3 z2=>fin (.pair p p2) G3 ((u1.trans u2).trans u3) ?_⟩
      obtain ⟨z1,y1⟩:=z
      obtain ⟨z2,y2⟩:=z2
      exact ⟨by simp only [Tm.sz];omega,by simp only [Tm.dp];omega⟩
    . refine ⟨(u1.trans u2).fd,by omega,by omega,by omega,by omega,by omega,λ p2 G3 u3 z2=>fin (.plus p p2) G3 ((u1.trans u2).trans u3) ?_⟩
      obtain ⟨z1,y1⟩:=z
      obtain ⟨z2,y2⟩:=z2
      exact ⟨by simp only [Tm.sz];omega,by simp only [Tm.dp];omega⟩
abbrev f7q:Stmt:=top 34
theorem sc_headed:FnScope ["_law_feed_here", "_law_form", "_law_many", "_law_room", "_law_deep", "_law_half", "_law_body", "_law_one", "_law_word", "_law_head"] ["_law_feed_here", "_law_form", "_law_many", "_law_room", "_law_deep"] (a5q f7q):=⟨rfl,rfl,rfl,by decide +kernel,rfl,by decide +kernel,by decide +kernel⟩
theorem n7q {n:Nat} (g_whole:Got P w K mg base 2 "_law_whole" ["_law_feed_here"] (aQq K e1q)) (g_leaf:Got P w K mg base 3 "_law_leaf" ["_law_feed_here", "_law_many"] (aQq K gWq)) (g_any:Got P w K mg base (2 * n+4) "_law_any" ["_law_feed_here", "_law_many", "_law_room", "_law_deep"] (aQq K (hCq n)))
    (F:Fun K "_law_headed" "_law_headed" f7q f fd):FnOk P w K mg base CX0 (2 * n+5) f fd ["_law_feed_here", "_law_form", "_law_many", "_law_room", "_law_deep"] (aQq K (dMq n)):=by
  refine okD (k:=2 * n+4) F sc_headed (λ ds G DQ h=>?_) (λ cdv A outer s H E hr ds G DQ h=>?_)
  . unfold dMq at h;split at h
    . rfl
    . exact h.elim
  unfold dMq at h;split at h
  case h_2=>exact h.elim
  next a form many room deep=>
  obtain ⟨hF,f0,f1,m0,m1,r0,r1,dp0,dp1,q⟩:=h
  have fin:∀ (p:Tm) (G':DV),Fx a G G'->Fit p room deep->Dr DQ p.enc G':=λ p G' u z=>Dr.of (q p G' u z)
  refine ⟨_,(a4q (aFq (k:=5) sc_headed.nd rfl (Or.inl rfl) (aGq cLq (aGq aOq (a1q 3) a2q) a2q))
      (a4q (aWq (aHq c4q (a1q 1) a2q (aBq _)) (a4q (aFq (k:=6) sc_headed.nd rfl (Or.inl rfl) (a6q g_any hr (by omega) rfl (a0q (a1q 0) (a0q (aGq aKq (a1q 2) a2q) (a0q (a1q 5) (a0q (aGq aOq (a1q 4) a2q) a3q))))))
      (a7q (aAq (aMq (a0q aCq (a0q (aMq (a0q aCq (a0q (a1q 6) a3q))) (a0q (a6q g_any hr (by omega) rfl (a0q (a1q 0) (a0q (a1q 2) (a0q (a1q 5) (a0q (aGq aOq (a1q 4) a2q) a3q))))) a3q))))))) aJq)
      (a4q (aWq (aHq (aIq (aVq hr)) (a1q 1) a2q (aBq _)) (a7q (aAq (aMq (a0q aCq (a0q (a6q g_whole hr (by omega) rfl (a0q (a1q 0) a3q)) (a0q (a6q g_whole hr (by omega) rfl (a0q (a1q 0) a3q)) a3q)))))) aJq)
      (a4q (aWq (aHq (aIq (aVq hr)) (a1q 1) a2q (aBq _)) (a4q (aFq (k:=7) sc_headed.nd rfl (Or.inl rfl) (a6q g_any hr (by omega) rfl (a0q (a1q 0) (a0q (a1q 2) (a0q (a1q 5) (a0q (aGq aOq (a1q 4) a2q) a3q))))))
      (a7q (aAq (aMq (a0q aCq (a0q (a6q g_whole hr (by omega) rfl (a0q (a1q 0) a3q)) (a0q (a1q 7) (a0q (a6q g_any hr (by omega) rfl (a0q (a1q 0) (a0q (a1q 2) (a0q (a1q 5) (a0q (aGq aOq (a1q 4) a2q) a3q))))) a3q)))))))) aJq)
      (a4q (aFq (k:=7) sc_headed.nd rfl (Or.inl rfl) (a6q g_any hr (by omega) rfl (a0q (a1q 0) (a0q (a1q 2) (a0q (a1q 5) (a0q (aGq aOq (a1q 4) a2q) a3q))))))
      (a4q (aFq (k:=8) sc_headed.nd rfl (Or.inl rfl) (cHq (a0q aCq (a0q aCq (a0q aCq (a0q aCq (a0q aCq a3q))))) (aGq aOq (a1q 1) a2q) (λ _ _=>rfl)))
      (a4q (aWq (aHq c4q (a1q 1) a2q (aBq _)) (a7q (aAq (aMq (a0q (a1q 8) (a0q (aMq (a0q aCq (a0q (a1q 7) (a0q (a6q g_any hr (by omega) rfl (a0q (a1q 0) (a0q (a1q 2) (a0q (a1q 5) (a0q (aGq aOq (a1q 4) a2q) a3q))))) a3q)))) a3q))))) aJq)
      (a4q (aWq (aHq (aIq (aVq hr)) (a1q 1) a2q (aBq _)) (a7q (aAq (aMq (a0q aCq (a0q (aMq (a0q aCq (a0q (a1q 7) a3q))) (a0q (aMq (a0q aCq (a0q a2q a3q))) (a0q (a6q g_leaf hr (by omega) rfl (a0q (a1q 0) (a0q (a1q 2) a3q))) a3q))))))) aJq)
      (a4q (aFq (k:=9) sc_headed.nd rfl (Or.inl rfl) (cHq (a0q (aMq (a0q aCq (a0q (a1q 7) (a0q (a6q g_leaf hr (by omega) rfl (a0q (a1q 0) (a0q (a1q 2) a3q))) a3q)))) (a0q (aMq (a0q aCq (a0q a2q a3q))) a3q)) (aGq aOq (a1q 1) a2q) (λ _ _=>rfl)))
      (a7q (aAq (aMq (a0q (a1q 8) (a0q (a1q 9) (a0q (a6q g_any hr (by omega) rfl (a0q (a1q 0) (a0q (a1q 2) (a0q (aGq aOq (a1q 5) a2q) (a0q (aGq aOq (a1q 4) a2q) a3q))))) a3q))))))))))))))),?_⟩
  refine ⟨⟨by decide,by decide⟩,λ c1=>?_,λ c1=>⟨λ c2=>?_,λ c2=>⟨λ c3=>?_,λ c3=>?_⟩⟩⟩
  . refine ⟨hF,by omega,by omega,by omega,by omega,by omega,λ p G1 u1 z1=>⟨u1.fd,by omega,by omega,by omega,by omega,by omega,λ p2 G2 u2 z2=>fin (.give (.way p) p2) G2 (u1.trans u2) ?_⟩⟩
    obtain ⟨z1,y1⟩:=z1
    obtain ⟨z2,y2⟩:=z2
    exact ⟨by simp only [Tm.sz];omega,by simp only [Tm.dp];omega⟩
  . exact ⟨hF,λ k G1 u1 _ _=>⟨u1.fd,λ k2 G2 u2 _ _=>fin (.plus (.whole k) (.whole k2)) G2 (u1.trans u2) ⟨by simp only [Tm.sz];omega,by simp only [Tm.dp];omega⟩⟩⟩
  . refine ⟨hF,by omega,by omega,by omega,by omega,by omega,λ p G1 u1 z1=>⟨u1.fd,λ k G2 u2 _ _=>⟨(u1.trans u2).fd,by omega,by omega,by omega,by omega,by omega,λ p2 G3 u3 z2=>fin (.look (.whole k) p p2) G3 ((u1.trans u2).trans u3) ?_⟩⟩⟩
    obtain ⟨z1,y1⟩:=z1
    obtain ⟨z2,y2⟩:=z2
    exact ⟨by simp only [Tm.sz];omega,by simp only [Tm.dp];omega⟩
  . have e1:¬ form < 4:=by simpa using c1
    have e2:form≠4:=by simpa using c2
    have e3:form≠5:=by simpa using c3
    refine ⟨hF,by omega,by omega,by omega,by omega,by omega,λ p G1 u1 z1=>?_⟩
    obtain ⟨z1,y1⟩:=z1
    refine at5 (i:=form - 6) (by omega) (by omega) (λ e=>?_) (λ e=>?_) (λ e=>?_) (λ e=>?_) (λ e=>?_)
    . refine ⟨λ _=>?_,λ c=>absurd (show form < 8 by omega) (by simpa using c)⟩
      refine ⟨u1.fd,by omega,by omega,by omega,by omega,by omega,λ p2 G2 u2 z2=>fin (.first (.pair p p2)) G2 (u1.trans u2) ?_⟩
      obtain ⟨z2,y2⟩:=z2
      exact ⟨by simp only [Tm.sz];omega,by simp only [Tm.dp];omega⟩
    . refine ⟨λ _=>?_,λ c=>absurd (show form < 8 by omega) (by simpa using c)⟩
      refine ⟨u1.fd,by omega,by omega,by omega,by omega,by omega,λ p2 G2 u2 z2=>fin (.second (.pair p p2)) G2 (u1.trans u2) ?_⟩
      obtain ⟨z2,y2⟩:=z2
      exact ⟨by simp only [Tm.sz];omega,by simp only [Tm.dp];omega⟩
    . refine ⟨λ c=>absurd (show ¬ form < 8 by omega) (by simpa using c),λ _=>⟨λ c=>absurd (show form≠10 by omega) (by simpa using c),λ _=>⟨u1.fd,m0,by omega,λ p3 G2 u2 s3 d3=>?_⟩⟩⟩
      refine at2 (i:=form - 8) (by omega) (by omega) (λ _=>?_) (λ z=>by omega)
      refine ⟨(u1.trans u2).fd,by omega,by omega,by omega,by omega,by omega,λ p2 G3 u3 z2=>fin (.give (.pair p p3) p2) G3 ((u1.trans u2).trans u3) ?_⟩
      obtain ⟨z2,y2⟩:=z2
      exact ⟨by simp only [Tm.sz];omega,by simp only [Tm.dp];omega⟩
    . refine ⟨λ c=>absurd (show ¬ form < 8 by omega) (by simpa using c),λ _=>⟨λ c=>absurd (show form≠10 by omega) (by simpa using c),λ _=>⟨u1.fd,m0,by omega,λ p3 G2 u2 s3 d3=>?_⟩⟩⟩
      refine at2 (i:=form - 8) (by omega) (by omega) (λ z=>by omega) (λ _=>?_)
      refine ⟨(u1.trans u2).fd,by omega,by omega,by omega,by omega,by omega,λ p2 G3 u3 z2=>fin (.plus (.whole 0) p2) G3 ((u1.trans u2).trans u3) ?_⟩
      obtain ⟨z2,y2⟩:=z2
      exact ⟨by simp only [Tm.sz];omega,by simp only [Tm.dp];omega⟩
    . refine ⟨λ c=>absurd (show ¬ form < 8 by omega) (by simpa using c),λ _=>⟨λ _=>⟨u1.fd,m0,by omega,λ p3 G2 u2 s3 d3=>fin (.look (.way p) (.whole 0) p3) G2 (u1.trans u2) ?_⟩,λ c=>absurd (show form=10 by omega) (by simpa using c)⟩⟩
      exact ⟨by simp only [Tm.sz];omega,by simp only [Tm.dp];omega⟩
abbrev m4q:Stmt:=top 36
theorem v7q:FnScope ["_law_part"] ["_law_part"] (a5q m4q):=⟨rfl,rfl,rfl,by decide +kernel,rfl,by decide +kernel,by decide +kernel⟩
theorem uZq (F:Fun K "_law_can" "_law_can" m4q f fd):FnOk P w K mg base CX0 1 f fd ["_law_part"] (aQq K (dTq Tm.hasRule)):=by
  refine okD (k:=0) F v7q (λ ds G DQ h=>?_) (λ cdv A outer s H E hr ds G DQ h=>?_)
  . obtain ⟨t,rfl,_⟩:=h;rfl
  obtain ⟨t,rfl,q⟩:=h
  refine ⟨_,(a4q (aWq (aHq (aIq (aVq hr)) (aDq aix (a1q 0) a2q (λ _ _=>rfl)) aCq (aBq _)) (a7q (aAq (bAq (aIq (aVq hr)) (aDq aix (aDq aix (a1q 0) a2q (λ _ _=>rfl)) a2q (λ _ _=>rfl)) aCq (aBq _)))) aJq)
      (a4q (aWq (aHq vZq (aDq aix (a1q 0) a2q (λ _ _=>rfl)) (aMq (a0q aCq (a0q aCq a3q))) (by with_unfolding_all rfl)) (a7q (aAq (bAq (aIq (aVq hr)) (aDq aix (aDq aix (a1q 0) a2q (λ _ _=>rfl)) a2q (λ _ _=>rfl)) aCq (aBq _)))) aJq)
      (a4q (aWq (aHq (aIq (aVq hr)) (aDq aix (a1q 0) a2q (λ _ _=>rfl)) aCq (aBq _)) (a7q (aAq (bZq (bAq (aIq (aVq hr)) (aDq aix (aDq aix (a1q 0) a2q (λ _ _=>rfl)) a2q (λ _ _=>rfl)) aCq (aBq _)) (c2q (bAq (aIq (aVq hr)) (aDq aix (aDq aix (a1q 0) a2q (λ _ _=>rfl)) a2q (λ _ _=>rfl)) aCq (aBq _)))))) aJq)
      (a7q (aAq (bZq (bAq (aIq (aVq hr)) (aDq aix (a1q 0) a2q (λ _ _=>rfl)) aCq (aBq _)) (c2q (bAq (aIq (aVq hr)) (aDq aix (aDq aix (a1q 0) a2q (λ _ _=>rfl)) a2q (λ _ _=>rfl)) aCq (aBq _))))))))),?_⟩
  cases t with
  | give t u=>
    rw [eGq] at q
    simp only [Tm.enc];rw [t.enc_eq]
    exact ⟨λ _=>Dr.of q,λ c=>absurd c (by decide)⟩
  | first t=>
    rw [d8q] at q
    simp only [Tm.enc];rw [t.enc_eq]
    exact ⟨λ c=>absurd c (by decide),λ _=>⟨rfl,rfl,λ _=>Dr.of q,λ c=>absurd c (by decide)⟩⟩
  | second t=>
    rw [cOq] at q
    simp only [Tm.enc];rw [t.enc_eq]
    exact ⟨λ c=>absurd c (by decide),λ _=>⟨rfl,rfl,λ _=>Dr.of q,λ c=>absurd c (by decide)⟩⟩
  | plus t u=>
    rw [e4q] at q
    simp only [Tm.enc];rw [t.enc_eq,u.enc_eq]
    refine ⟨λ c=>absurd c (by decide),λ _=>⟨rfl,rfl,λ c=>absurd c (by decide),λ _=>⟨λ _=>⟨λ c=>?_,λ c=>?_⟩,λ c=>absurd c (by decide)⟩⟩⟩
    . rw [show (t.word==Str.ofString "whole")=true from c] at q;exact Dr.of q
    . rw [show (t.word==Str.ofString "whole")=false from c] at q;exact Dr.of q
  | look t u v=>
    rw [eAq] at q
    simp only [Tm.enc];rw [t.enc_eq]
    exact ⟨λ c=>absurd c (by decide),λ _=>⟨rfl,rfl,λ c=>absurd c (by decide),λ _=>⟨λ c=>absurd c (by decide),λ _=>⟨λ _=>Dr.of q,λ c=>absurd c (by decide)⟩⟩⟩⟩
  | _=>exact ⟨λ c=>absurd c (by decide),λ _=>⟨rfl,rfl,λ c=>absurd c (by decide),λ _=>⟨λ c=>absurd c (by decide),λ _=>⟨λ c=>absurd c (by decide),λ _=>Dr.of q⟩⟩⟩⟩
abbrev g0q:Stmt:=top 15
theorem nFq:FnScope ["program", "ways"] ["program", "ways"] (a5q g0q):=⟨rfl,rfl,rfl,by decide +kernel,rfl,by decide +kernel,by decide +kernel⟩
theorem oOq (F:Fun K "ways_below" "ways_below" g0q f fd):FnOk P w K mg base CX0 1 f fd ["program", "ways"] (aQq K hHq):=by
  refine okD (k:=0) F nFq (λ ds G DQ h=>?_) (λ cdv A outer s H E hr ds G DQ h=>?_)
  . obtain ⟨_,_,rfl,_⟩:=h;rfl
  obtain ⟨t,w,rfl,q⟩:=h
  refine ⟨_,(a7q (aAq (dNq (aHq (aIq (aVq hr)) (aDq aix (a1q 0) a2q (λ _ _=>rfl)) aCq (aBq _)) (aGq aKq (a1q 1) a2q) (a1q 1)))),?_⟩
  cases t with
  | way a=>exact ⟨λ _=>Dr.of (by simpa [Tm.wbl] using q),λ c=>absurd c (by decide)⟩
  | _=>exact ⟨λ c=>absurd c (by decide),λ _=>Dr.of q⟩
abbrev dAq:Stmt:=top 16
theorem sc_lifted:FnScope ["program", "many", "least", "moved"] ["program", "many", "least"] (a5q dAq):=⟨rfl,rfl,rfl,by decide +kernel,rfl,by decide +kernel,by decide +kernel⟩
abbrev aPq:Stmt:=(b2q dAq).getD 0 (.Pass ⟨0,0,0,0⟩)
theorem fVq:CloScope ["number", "ways", "many", "least"] ["number", "ways"] ["many", "least"] (a5q aPq):=⟨rfl,rfl,rfl,by decide +kernel,rfl,rfl,by decide +kernel,by decide +kernel,by decide +kernel,by decide +kernel,by decide +kernel⟩
theorem fWq {m l:Nat}:CloD P w K mg base 1 "moved" "lifted.<locals>.moved" aPq ["many", "least"] [.int m,.int l] ["number", "ways"] (clD (b3q m l) (λ _ _=>True) []):=by
  refine wZq (k:=0) fVq (λ ds G DQ h=>?_) (λ _ _ _ _ _ us hl=>match us,hl with | [_,_],_=>rfl) (λ f cdv cl A outer s H hr ds G DQ h=>?_)
  . obtain ⟨_,_,rfl,_⟩:=h;rfl
  obtain ⟨n,w,rfl,_,_,q⟩:=h
  refine ⟨_,(a7q (aAq (aMq (a0q aCq (a0q (dNq (aHq iBq (a1q 0) (aGq aKq (a1q 1) (a1q 3)) (aBq _)) (aGq aKq (a1q 0) (a1q 2)) (a1q 0)) a3q))))),?_⟩
  refine ⟨λ c=>⟨Sub.refl _,?_⟩,λ c=>⟨Sub.refl _,?_⟩⟩
  . have c':(w:Int)+l<=n:=by simpa using c
    rw [b3q,if_pos (by omega),Tm.enc,Int.natCast_add] at q
    exact q
  . have c':¬ (w:Int)+l<=n:=by simpa using c
    rw [b3q,if_neg (by omega),Tm.enc] at q
    exact q
theorem n6q {c T_lifted:Addr} (hC:PySem.W.CodeHd base c T_lifted) (hB:fJq mg base) (g_withn:Got P w K mg base 3 "with_names" ["program", "change"] (aQq K (kSq P w K mg base 1))) (F:FunC K "lifted" "lifted" dAq f fd c):FnOk P w K mg base CX0 4 f fd ["program", "many", "least"] (aQq K (m0q T_lifted (c5q aPq))):=by
  refine okDc (k:=3) F sc_lifted (λ ds G DQ h=>?_) (λ A outer s H E hr ds G DQ h=>?_)
  . obtain ⟨_,_,_,rfl,_⟩:=h;rfl
  obtain ⟨t,m,l,rfl,hT,hz,q⟩:=h
  refine ⟨_,(a4q (rEq (i:=3) (T:=T_lifted) (fr:=["many", "least"]) sc_lifted.nd rfl (Or.inl rfl) rfl hC hB (by kernel_rfl) rfl rfl rfl)
      (a7q (aAq (k9q (name:="moved") (qual:="lifted.<locals>.moved") (st:=aPq) (fr:=["many", "least"]) (ix:=[1,2]) g_withn hr (by omega) rfl (by decide +kernel) (by kernel_rfl) (a0q (a1q 0) (a0q (a1q 3) a3q)))))),?_⟩
  refine ⟨hT,λ f hf=>⟨f,[.int m,.int l],a8q,rfl,λ i j h=>?_,t,f,_,_,_,_,_,_,b3q m l,λ _ _=>True,[],rfl,a8q,fWq,λ y hy=>absurd hy (List.not_mem_nil),hz,λ _ _=>trivial,rfl,G,Sub.new (Sub.refl _) hf,q⟩⟩
  rcases i with _ | _ | i
  . cases h;exact ⟨_,rfl,rfl⟩
  . cases h;exact ⟨_,rfl,rfl⟩
  . cases h
abbrev hAq:Stmt:=top 19
theorem sc_withn:FnScope ["program", "change", "made", "pending", "entry", "one", "inners", "below"] ["program", "change"] (a5q hAq):=⟨rfl,rfl,rfl,by decide +kernel,rfl,by decide +kernel,by decide +kernel⟩
theorem qLq {k0:Nat} (B:Blt mg) (g_inner:Got P w K mg base 1 "inner" ["program"] (aQq K (jOq Tm.enc Tm.inn))) (g_wbelow:Got P w K mg base 1 "ways_below" ["program", "ways"] (aQq K hHq)) (F:Fun K "with_names" "with_names" hAq f fd):FnOk P w K mg base CX0 (k0+2) f fd ["program", "change"] (aQq K (kSq P w K mg base k0)):=by
  refine okD (k:=k0+1) F sc_withn (λ ds G DQ h=>?_) (λ cdv A outer s H E hr ds G DQ h=>?_)
  . obtain ⟨_,_,_,_,_,_,_,_,_,_,_,rfl,_⟩:=h;rfl
  obtain ⟨t,fc,name,qual,st0,fr,vals,ps,φ,C,L,rfl,hf,C_change,hL,hz,hC,q⟩:=h
  refine ⟨_,(a4q (aFq (k:=2) sc_withn.nd rfl (Or.inr rfl) (eBq a3q))
      (a4q (aFq (k:=3) sc_withn.nd rfl (Or.inl rfl) (eBq (a0q (aMq (a0q (a1q 0) (a0q a2q (a0q fLq a3q)))) a3q)))
      (a4q (kTq PassesOwn.never (b6q (a1q 3)) (a4q (aFq (k:=4) sc_withn.nd rfl (Or.inl rfl) (k3q PySem.F.plainAttrs_list PySem.F.slot_list_pop PySem.F.type_list_pop hVq (a1q 3)))
      (a4q (aFq (k:=5) sc_withn.nd rfl (Or.inl rfl) (aDq aix (a1q 4) a2q (λ _ _=>rfl)))
      (a7q (aWq (aHq (aIq (aVq hr)) (aDq aix (a1q 5) a2q (λ _ _=>rfl)) aCq (aBq _)) (a7q (c6q (iDq PySem.F.plainAttrs_list PySem.F.slot_list_append PySem.F.type_list_append bQq (a1q 2) (a0q (aB6q 1 C_change hr (by omega) (a0q (aDq aix (a1q 5) a2q (λ _ _=>rfl)) (a0q (aDq aix (a1q 4) a2q (λ _ _=>rfl)) a3q))) a3q)))) (a7q (aWq (aHq (aIq (aVq hr)) (aDq aix (a1q 5) a2q (λ _ _=>rfl)) aCq (aBq _)) (a7q (c6q (iDq PySem.F.plainAttrs_list PySem.F.slot_list_append PySem.F.type_list_append bQq (a1q 2) (a0q (a1q 5) a3q)))) (a7q (aWq (b6q (aDq aix (a1q 4) a2q (λ _ _=>rfl))) (a4q (lIq (k:=6) rfl sc_withn.nd rfl (Or.inl rfl) (CompOk.of (N':=["part", "made"]) (nt:=1) (cap:=[2]) rfl (by kernel_rfl)) (b4q (k:=0) (by decide)) (bYq (a6q g_inner hr (by omega) rfl (a0q (a1q 5) a3q))) (λ _ _ _ _=>(b8q (k:=0) (show List.Nodup (["part", "made"]:List Str) by decide +kernel) rfl (Or.inl rfl)))  (λ _ _ _ _=>(k3q PySem.F.plainAttrs_list PySem.F.slot_list_pop PySem.F.type_list_pop hVq (a1q 1))))
      (a7q (c6q (iDq PySem.F.plainAttrs_list PySem.F.slot_list_append PySem.F.type_list_append bQq (a1q 2) (a0q (aGq aKq (aMq (a0q (aDq aix (a1q 5) a2q (λ _ _=>rfl)) a3q)) (bLq cWq rfl B.tuple PyProof.Rows.boot_tuple (a0q (a1q 6) a3q))) a3q))))) (a4q (c6q (iDq PySem.F.plainAttrs_list PySem.F.slot_list_append PySem.F.type_list_append bQq (a1q 3) (a0q (aMq (a0q (a1q 5) (a0q (aDq aix (a1q 4) a2q (λ _ _=>rfl)) (a0q fLq a3q)))) a3q)))
      (a4q (aFq (k:=7) sc_withn.nd rfl (Or.inr rfl) (a6q g_wbelow hr (by omega) rfl (a0q (a1q 5) (a0q (aDq aix (a1q 4) a2q (λ _ _=>rfl)) a3q))))
      (a7q (c6q (iDq PySem.F.plainAttrs_list PySem.F.slot_list_extend PySem.F.type_list_extend gLq (a1q 3) (a0q (dWq rfl (CompOk.of (N':=["part", "below"]) (nt:=1) (cap:=[7]) rfl (by kernel_rfl)) (b4q (k:=0) (by decide)) (bYq (a6q g_inner hr (by omega) rfl (a0q (a1q 5) a3q))) (λ _ _ _ _=>(b8q (k:=0) (show List.Nodup (["part", "below"]:List Str) by decide +kernel) rfl (Or.inl rfl))) (λ _ _ _ _=>(aMq (a0q (a1q 0) (a0q (a1q 1) (a0q fLq a3q)))))) a3q)))))))))))))))
      (a7q (aAq (k3q PySem.F.plainAttrs_list PySem.F.slot_list_pop PySem.F.type_list_pop hVq (a1q 2))))))),?_⟩
  intro a ha b hb
  obtain ⟨-,hb0,hne⟩:=cAq (o:=.lst []) hb
  have nfa:fc≠a:=by rintro rfl;rw [hf] at ha;cases ha
  have nfb:fc≠b:=by rintro rfl;rw [hf] at hb0;cases hb0
  refine ⟨λ μ ρ G'=>∃ (st:List Ent) (m:List Tm) (o4 o5 o6 o7:Option D),ρ=[some t.enc,some (.ref fc),some (.ref a),some (.ref b),o4,o5,o6,o7]/\G'=up (up G a (.lst (m.reverse.map Tm.enc))) b (.lst (st.reverse.map p6q))/\oDq φ st m=some [t.mapN φ 0]/\(∀ z∈st,(z.2.2=false\/z.1.leaf=true)->∀ y∈z.1.nmsR z.2.1,C y.1 y.2)/\m.length+wtS st<=2 * t.sz/\μ=wtS st,
    ⟨_,[(t,0,false)],[],_,_,_,_,rfl,rfl,by simp [oDq,fTq],by intro z hz _;simp at hz;subst hz;exact hC,by simp [wtS,wtE],rfl⟩,?_⟩
  rintro μ ρ G' ⟨st,m,o4,o5,o6,o7,rfl,rfl,heff,hnm,hsz,rfl⟩
  refine aRq a8q ⟨λ c=>?_,λ c=>?_⟩
  . obtain ⟨u,w,fl,qs,rfl⟩:∃ u w fl qs,st=(u,w,fl)::qs:=by
      cases st with
      | nil=>simp at c
      | cons z qs=>exact ⟨z.1,z.2.1,z.2.2,qs,rfl⟩
    rw [eHq] at hsz ⊢
    have hql:=oCq qs
    have hnq:∀ z∈qs,(z.2.2=false\/z.1.leaf=true)->∀ y∈z.1.nmsR z.2.1,C y.1 y.2:=λ z hz=>hnm z (List.mem_cons_of_mem _ hz)
    have hnu:=hnm (u,w,fl) (List.mem_cons_self ..)
    refine ⟨aRq a8q trivial,bEq a8q ⟨qs.reverse.map p6q,p6q (u,w,fl),by simp,?_⟩⟩
    rw [g5q]
    have ha1:∀ (o:DO) (ds:List D),up (up G a (.lst ds)) b o a=some (.lst ds):=λ o ds=>by rw [aZq (Ne.symm hne)];exact a8q
    have hf1:∀ (o p:DO),up (up G a o) b p fc=some (.clo name qual st0 fr vals):=λ o p=>by rw [aZq nfb,aZq nfa];exact hf
    have hL1:∀ (o p:DO),∀ q∈L,up (up G a o) b p q.1=some q.2:=λ o p q hq=>by
      rw [aZq (by rintro e;rw [<- e,hL q hq] at hb0;cases hb0),aZq (by rintro e;rw [<- e,hL q hq] at ha;cases ha)];exact hL q hq
    have hw1:1<=wtE (u,w,fl):=by have:=u.sz_pos;show 1<=(if fl=true then 1 else 2 * u.sz);split<;>omega
    refine (show ixD u.enc (.int 0) _ _ from xKq ⟨λ c=>?_,λ c=>?_⟩)
    . obtain ⟨k,rfl⟩:=kWq c
      have hfl:m.length+1<=2 * t.sz:=by omega
      refine ⟨aRq (ha1 _ _) trivial,fc,rfl,hf1 _ _,hf1 _ _,k,w,rfl,?_,hL1 _ _,bEq (ha1 _ _) ⟨aUq (by simp only [List.length_map,List.length_reverse];omega),?_⟩⟩
      . exact hnu (.inr rfl) (k,w) (List.mem_cons_self ..)
      rw [up3 hne]
      exact Wk.of ⟨wtS qs,by omega,qs,φ k w::m,_,_,_,_,rfl,by simp,heff,hnq,by simp only [List.length_cons];omega,rfl⟩
    refine (show ixD u.enc (.int 0) _ _ from xKq ⟨λ c2=>?_,λ c2=>?_⟩)
    . obtain ⟨k,rfl⟩:=mAq c2
      refine ⟨aRq (ha1 _ _) trivial,bEq (ha1 _ _) ⟨aUq (by simp only [List.length_map,List.length_reverse];omega),?_⟩⟩
      rw [up3 hne]
      exact Wk.of ⟨wtS qs,by omega,qs,.whole k::m,_,_,_,_,rfl,by simp,heff,hnq,by simp only [List.length_cons];omega,rfl⟩
    have hlf:=vSq c c2
    have hil:=Tm.inn_len u
    cases fl with
    | true=>
      refine ⟨λ _=>?_,nofun⟩
      rw [oDq,kAq (t:=u) hlf] at heff
      have hk:(Tm.inn u).length<=m.length:=by
        rcases Nat.lt_or_ge m.length (Tm.inn u).length with z | z
        . rw [if_neg (by omega)] at heff;cases heff
        . exact z
      rw [if_pos hk] at heff
      simp only [] at heff
      generalize hkk:(Tm.inn u).length=kk at hk heff hil
      refine ⟨u,rfl,qBq (λ i ds G'=>ds=(m.take i).map Tm.enc/\i<=kk/\G'=up (up G a (.lst ((m.drop i).reverse.map Tm.enc))) b (.lst (qs.reverse.map p6q))) ?_ ⟨rfl,Nat.zero_le _,by rw [List.drop_zero]⟩ (λ _ _ _ _ _=>trivial) ?_ ?_⟩
      . show ((Tm.inn u).map Tm.enc).length < sizeLine
        rw [List.length_map,hkk];exact aUq (by omega)
      . rintro i d ds G' hd ⟨rfl,hi,rfl⟩
        have hi':i < kk:=by
          have z:=(List.getElem?_eq_some_iff.mp hd).1
          have z':i < ((Tm.inn u).map Tm.enc).length:=z
          rw [List.length_map,hkk] at z';exact z'
        have hx:m.drop i=m[i]::m.drop (i+1):=List.drop_eq_getElem_cons (by omega)
        refine ⟨aRq (ha1 _ _) trivial,bEq (ha1 _ _) ⟨(m.drop (i+1)).reverse.map Tm.enc,(m[i]'(by omega)).enc,by rw [hx,List.reverse_cons,List.map_append];rfl,?_⟩⟩
        rw [up3 hne]
        refine WkV.of ⟨?_,by omega,rfl⟩
        rw [List.take_add_one,List.getElem?_eq_getElem (by omega),Option.toList_some,List.map_append];rfl
      . rintro ds G' ⟨rfl,_,rfl⟩ p hp
        have eL:List.length (List.map Tm.enc (Tm.inn u))=kk:=by rw [List.length_map];exact hkk
        rw [show (⟨List.map Tm.enc (Tm.inn u),_⟩:DIt).items.length=kk from eL] at hp ⊢
        have npa:a≠p:=by rintro rfl;rw [ha1] at hp;cases hp
        refine ⟨aRq (by rw [aZq npa];exact ha1 _ _) trivial,(show ixD u.enc (.int 0) _ _ from xKq (aRq a8q ⟨small (by simp only [List.length_map,List.length_take,List.length_cons,List.length_nil];omega),bEq (by rw [aZq npa];exact ha1 _ _) ⟨aUq (by simp only [List.length_map,List.length_reverse,List.length_drop];omega),?_⟩⟩))⟩
        refine ⟨_,up (up G a (.lst ((m.drop kk).reverse.map Tm.enc++[.tup (.str (Tm.word u)::(m.take kk).map Tm.enc)]))) b (.lst (qs.reverse.map p6q)),.refl _,?_,wtS qs,by omega,qs,Tm.rebuild u (m.take kk)::m.drop kk,_,_,_,_,rfl,?_,heff,hnq,?_,rfl⟩
        . rw [<- up3 (x:=.lst ((m.drop kk).reverse.map Tm.enc)) hne]
          exact Sub.put (Sub.new (Sub.refl _) hp)
        . congr 2
          rw [List.reverse_cons,List.map_append,List.map_cons,List.map_nil,Tm.enc_rebuild (t:=u) hlf (by rw [List.length_take,hkk];omega)]
        . simp only [List.length_cons,List.length_drop];omega
    | false=>
      refine ⟨nofun,λ _=>?_⟩
      have hss:=Tm.sz_sum (t:=u) hlf
      simp only [wtE,Bool.false_eq_true,if_false] at hsz
      refine ⟨aRq a8q trivial,bEq a8q ⟨aUq (by simp only [List.length_map,List.length_reverse];omega),?_⟩⟩
      rw [g5q]
      refine ⟨u,w,rfl,aRq a8q trivial,u,rfl,?_⟩
      refine b0q (Tm.inn u) Tm.enc (λ x=>p6q (x,Tm.wbl u w,false)) rfl (aUq (by omega)) trivial (λ x _ R hR=>hR) (λ p hp=>?_)
      have np:b≠p:=by rintro rfl;rw [a8q] at hp;cases hp
      refine bEq (by rw [aZq np];exact a8q) (bEq a8q ⟨small (by simp only [List.length_map,List.length_reverse,List.length_append,List.length_cons,List.length_nil];omega),?_⟩)
      have hwt:wtS ((Tm.inn u |>.map λ x=>((x,Tm.wbl u w,false):Ent)).reverse++(u,w,true)::qs)+1=2 * Tm.sz u+wtS qs:=by
        rw [<- List.map_reverse,nCq,List.map_reverse,List.sum_reverse,eHq]
        simp only [wtE,if_true];omega
      refine ⟨_,up (up G a (.lst (m.reverse.map Tm.enc))) b (.lst (qs.reverse.map p6q++[p6q (u,w,true)]++(Tm.inn u).map λ x=>p6q (x,Tm.wbl u w,false))),.refl _,Sub.put (Sub.trans (Sub.new (Sub.refl _) (by rw [aZq hne];exact hb0)) (Sub.new (Sub.refl _) hp)),_,?_,(Tm.inn u |>.map λ x=>((x,Tm.wbl u w,false):Ent)).reverse++(u,w,true)::qs,m,_,_,_,_,rfl,?_,?_,?_,?_,rfl⟩
      . simp only [wtE,Bool.false_eq_true,if_false];omega
      . congr 2
        simp [List.map_map,Function.comp_def]
      . rw [o8q (t:=u) hlf];exact heff
      . intro z hz hz2 y hy
        rcases List.mem_append.mp hz with hz | hz
        . obtain ⟨x,hx,rfl⟩:=List.mem_map.mp (List.mem_reverse.mp hz)
          exact hnu (.inl rfl) y (Tm.nmsR_mem (t:=u) hlf hx hy)
        . rcases List.mem_cons.mp hz with rfl | hz
          . rcases hz2 with z | z
            . cases z
            . exact absurd (hlf.symm.trans z) (by decide)
          . exact hnq z hz hz2 y hy
      . omega
  . have e:st=[]:=by
      cases st with
      | nil=>rfl
      | cons _ _=>simp at c
    subst e
    have e2:m=[t.mapN φ 0]:=Option.some.inj heff
    subst e2
    have ha1:∀ (o:DO) (ds:List D),up (up G a (.lst ds)) b o a=some (.lst ds):=λ o ds=>by rw [aZq (Ne.symm hne)];exact a8q
    refine ⟨aRq (ha1 _ _) trivial,bEq (ha1 _ _) ⟨[],(t.mapN φ 0).enc,rfl,?_⟩⟩
    rw [up3 hne]
    exact ⟨G,Sub.trans (Sub.new (Sub.refl _) ha) (Sub.new (Sub.refl _) (by rw [aZq hne];exact hb0)),q⟩
abbrev dPq:Stmt:=top 14
theorem sc_namesin:FnScope ["program", "found", "pending", "entry", "one", "below"] ["program"] (a5q dPq):=⟨rfl,rfl,rfl,by decide +kernel,rfl,by decide +kernel,by decide +kernel⟩
theorem lLq (B:Blt mg) (g_inner:Got P w K mg base 1 "inner" ["program"] (aQq K (jOq Tm.enc Tm.inn))) (g_wbelow:Got P w K mg base 1 "ways_below" ["program", "ways"] (aQq K hHq)) (F:Fun K "names_in" "names_in" dPq f fd):FnOk P w K mg base CX0 2 f fd ["program"] (aQq K dIq):=by
  refine okD (k:=1) F sc_namesin (λ ds G DQ h=>?_) (λ cdv A outer s H E hr ds G DQ h=>?_)
  . obtain ⟨_,rfl,_⟩:=h;rfl
  obtain ⟨t,rfl,hz,q⟩:=h
  refine ⟨_,(a4q (aFq (k:=1) sc_namesin.nd rfl (Or.inl rfl) (eBq a3q))
      (a4q (aFq (k:=2) sc_namesin.nd rfl (Or.inl rfl) (eBq (a0q (aMq (a0q (a1q 0) (a0q a2q a3q))) a3q)))
      (a4q (kTq PassesOwn.never (b6q (a1q 2)) (a4q (aFq (k:=3) sc_namesin.nd rfl (Or.inl rfl) (k3q PySem.F.plainAttrs_list PySem.F.slot_list_pop PySem.F.type_list_pop hVq (a1q 2)))
      (a4q (aFq (k:=4) sc_namesin.nd rfl (Or.inl rfl) (aDq aix (a1q 3) a2q (λ _ _=>rfl)))
      (a4q (aWq (aHq (aIq (aVq hr)) (aDq aix (a1q 4) a2q (λ _ _=>rfl)) aCq (aBq _)) (a7q (c6q (iDq PySem.F.plainAttrs_list PySem.F.slot_list_append PySem.F.type_list_append bQq (a1q 1) (a0q (aMq (a0q (aDq aix (a1q 4) a2q (λ _ _=>rfl)) (a0q (aDq aix (a1q 3) a2q (λ _ _=>rfl)) a3q))) a3q)))) aJq)
      (a4q (aFq (k:=5) sc_namesin.nd rfl (Or.inr rfl) (a6q g_wbelow hr (by omega) rfl (a0q (a1q 4) (a0q (aDq aix (a1q 3) a2q (λ _ _=>rfl)) a3q))))
      (a7q (c6q (iDq PySem.F.plainAttrs_list PySem.F.slot_list_extend PySem.F.type_list_extend gLq (a1q 2) (a0q (dWq rfl (CompOk.of (N':=["part", "below"]) (nt:=1) (cap:=[5]) rfl (by kernel_rfl)) (b4q (k:=0) (by decide)) (bYq (a6q g_inner hr (by omega) rfl (a0q (a1q 4) a3q))) (λ _ _ _ _=>(b8q (k:=0) (show List.Nodup (["part", "below"]:List Str) by decide +kernel) rfl (Or.inl rfl))) (λ _ _ _ _=>(aMq (a0q (a1q 0) (a0q (a1q 1) a3q))))) a3q)))))))))
      (a7q (aAq (a1q 1)))))),?_⟩
  intro a ha b hb
  obtain ⟨-,hb0,hne⟩:=cAq (o:=.lst []) hb
  refine ⟨λ m ρ G'=>∃ (ps:List (Tm × Nat)) (fs:List (Nat × Nat)) (o3 o4 o5:Option D),ρ=[some t.enc,some (.ref a),some (.ref b),o3,o4,o5]/\G'=up (up G a (.lst (fs.map prD))) b (.lst (ps.reverse.map e2D))/\fs++ps.flatMap (λ z=>z.1.nmsR z.2)=t.nmsR 0/\sz2 ps<=t.sz/\m=sz2 ps,⟨_,[(t,0)],[],_,_,_,rfl,rfl,by simp,by simp [sz2],rfl⟩,?_⟩
  rintro m ρ G' ⟨ps,fs,o3,o4,o5,rfl,rfl,hfs,hsz,rfl⟩
  have hlen:=t.nmsR_len 0
  have hfl:fs.length<=t.sz:=by rw [<- hfs,List.length_append] at hlen;omega
  refine aRq a8q ⟨λ c=>?_,λ c=>?_⟩
  . obtain ⟨u,w,qs,rfl⟩:∃ u w qs,ps=(u,w)::qs:=by
      cases ps with
      | nil=>simp at c
      | cons z qs=>exact ⟨z.1,z.2,qs,rfl⟩
    rw [h3q] at hsz ⊢
    rw [List.flatMap_cons] at hfs
    have hql:=nZq qs
    have hu:=u.sz_pos
    refine ⟨aRq a8q trivial,bEq a8q ⟨qs.reverse.map e2D,e2D (u,w),by simp,?_⟩⟩
    rw [g5q]
    have ha1:∀ o,up (up G a (.lst (fs.map prD))) b o a=some (.lst (fs.map prD)):=λ o=>by rw [aZq (Ne.symm hne)];exact a8q
    refine (show ixD u.enc (.int 0) _ _ from xKq ⟨λ c=>?_,λ c=>?_⟩)
    . obtain ⟨k,rfl⟩:=kWq c
      refine ⟨aRq (ha1 _) trivial,bEq (ha1 _) ⟨aUq (by rw [List.length_map];omega),?_⟩⟩
      rw [up3 hne]
      refine ⟨(.name k:Tm),w,rfl,aRq a8q trivial,(.name k:Tm),rfl,?_⟩
      refine b0q (Tm.inn (.name k:Tm)) Tm.enc (λ x=>e2D (x,Tm.wbl (.name k:Tm) w)) rfl (aUq (by have:=Tm.inn_len (.name k:Tm);omega)) trivial (λ x _ R hR=>hR) (λ p hp=>?_)
      have np:b≠p:=by rintro rfl;rw [a8q] at hp;cases hp
      refine bEq (by rw [aZq np];exact a8q) (bEq a8q ⟨small (by have:=Tm.inn_len (.name k:Tm);simp only [List.length_map,List.length_reverse];omega),?_⟩)
      refine ⟨_,up (up G a (.lst (fs.map prD++[.tup [.int k,.int w]]))) b (.lst (qs.reverse.map e2D++(Tm.inn (.name k:Tm)).map λ x=>e2D (x,Tm.wbl (.name k:Tm) w))),.refl _,Sub.put (Sub.trans (Sub.new (Sub.refl _) (by rw [aZq hne];exact hb0)) (Sub.new (Sub.refl _) hp)),sz2 (((Tm.inn (.name k:Tm)).map λ x=>(x,Tm.wbl (.name k:Tm) w)).reverse++qs),?_,((Tm.inn (.name k:Tm)).map λ x=>(x,Tm.wbl (.name k:Tm) w)).reverse++qs,fs++[(k,w)],_,_,_,rfl,?_,?_,?_,rfl⟩
      . have:=Tm.sz_inns (.name k:Tm)
        rw [<- List.map_reverse,fKq,List.map_reverse,List.sum_reverse];simp only [];omega
      . congr 2
        . simp [prD]
        . simp [List.map_map,Function.comp_def]
      . rw [<- hfs];simp [Tm.inn,Tm.nmsR]
      . have:=Tm.sz_inns (.name k:Tm)
        rw [<- List.map_reverse,fKq,List.map_reverse,List.sum_reverse];simp only [] at hsz;omega
    refine ⟨u,w,rfl,aRq a8q trivial,u,rfl,?_⟩
    refine b0q (Tm.inn u) Tm.enc (λ x=>e2D (x,Tm.wbl u w)) rfl (aUq (by have:=Tm.inn_len u;omega)) trivial (λ x _ R hR=>hR) (λ p hp=>?_)
    have np:b≠p:=by rintro rfl;rw [a8q] at hp;cases hp
    refine bEq (by rw [aZq np];exact a8q) (bEq a8q ⟨small (by have:=Tm.inn_len u;simp only [List.length_map,List.length_reverse];omega),?_⟩)
    refine ⟨_,up (up G a (.lst (fs.map prD))) b (.lst (qs.reverse.map e2D++(Tm.inn u).map λ x=>e2D (x,Tm.wbl u w))),.refl _,Sub.put (Sub.trans (Sub.new (Sub.refl _) (by rw [aZq hne];exact hb0)) (Sub.new (Sub.refl _) hp)),sz2 (((Tm.inn u).map λ x=>(x,Tm.wbl u w)).reverse++qs),?_,((Tm.inn u).map λ x=>(x,Tm.wbl u w)).reverse++qs,fs,_,_,_,rfl,?_,?_,?_,rfl⟩
    . have:=Tm.sz_inns u
      rw [<- List.map_reverse,fKq,List.map_reverse,List.sum_reverse];simp only [];omega
    . congr 2
      simp [List.map_map,Function.comp_def]
    . rw [<- hfs,List.flatMap_append,<- List.map_reverse,List.flatMap_map];congr 2;exact (vAq c w).symm
    . have:=Tm.sz_inns u
      rw [<- List.map_reverse,fKq,List.map_reverse,List.sum_reverse];simp only [] at hsz;omega
  . have e:ps=[]:=by
      cases ps with
      | nil=>rfl
      | cons _ _=>simp at c
    subst e
    have e2:fs=t.nmsR 0:=by simpa using hfs
    subst e2
    exact ⟨up G a (.lst ((t.nmsR 0).map prD)),Sub.new (Sub.refl _) (by rw [aZq hne];exact hb0),q a ha⟩
abbrev sRq:Stmt:=top 41
theorem sc_at:FnScope ["_law_program", "_law_place", "_law_k"] ["_law_program", "_law_place"] (a5q sRq):=⟨rfl,rfl,rfl,by decide +kernel,rfl,by decide +kernel,by decide +kernel⟩
theorem zSq (F:Fun K "_law_at" "_law_at" sRq f fd):FnOk P w K mg base CX0 1 f fd ["_law_program", "_law_place"] (aQq K zXq):=by
  refine okD (k:=0) F sc_at (λ ds G DQ h=>?_) (λ cdv A outer s H E hr ds G DQ h=>?_)
  . obtain ⟨_,_,_,rfl,_⟩:=h;rfl
  obtain ⟨t,ns,u,rfl,hu,q⟩:=h
  refine ⟨_,(a4q (f1q PassesOwn.never rfl (bYq (a1q 1)) (b8q (k:=2) sc_at.nd rfl (Or.inl rfl)) (a7q (aFq (k:=0) sc_at.nd rfl (Or.inl rfl) (aDq aix (a1q 0) (aGq aKq a2q (a1q 2)) (λ _ _=>rfl)))))
      (a7q (aAq (a1q 0)))),?_⟩
  refine ⟨λ i ρ G'=>∃ v o,ρ=[some (Tm.enc v),some (plD ns),o]/\G'=G/\t.at (ns.take i)=some v,⟨t,_,rfl,rfl,rfl⟩,λ _ _ _ _ _=>trivial,?_,?_⟩
  . rintro i d ρ G' hd ⟨v,o,rfl,rfl,hv⟩
    have hd':(ns.map D.int)[i]?=some d:=hd
    rw [List.getElem?_map] at hd'
    cases e:ns[i]? with
    | none=>rw [e] at hd';cases hd'
    | some k=>
      rw [e] at hd';cases hd'
      obtain ⟨v',x,h1,h2,h3,h4⟩:=Tm.at_take hu e
      rw [hv] at h1;cases h1
      exact x4q h3 (by omega) (Wk.of ⟨x,_,rfl,rfl,h4⟩)
  . rintro ρ G' ⟨v,o,rfl,rfl,hv⟩
    have e:(ns.map D.int).length=ns.length:=List.length_map ..
    have hv':t.at (ns.take (ns.map D.int).length)=some v:=hv
    rw [e,List.take_length,hu] at hv'
    cases hv'
    exact Dr.of q
abbrev f8q:Stmt:=top 42
theorem sc_places:FnScope ["_law_program", "_law_found", "_law_k"] ["_law_program"] (a5q f8q):=⟨rfl,rfl,rfl,by decide +kernel,rfl,by decide +kernel,by decide +kernel⟩
theorem m9q:FnOk P w K mg base CX0 1 f fd ["_law_program"] (aQq K (d3q 0)):=uFq λ ds G DQ h=>by
  obtain ⟨_,_,h,_⟩:=h;omega
theorem nRq {n:Nat} (B:Blt mg) (g_places:Got P w K mg base (n+1) "_law_places" ["_law_program"] (aQq K (d3q n))) (F:Fun K "_law_places" "_law_places" f8q f fd):FnOk P w K mg base CX0 (n+2) f fd ["_law_program"] (aQq K (d3q (n+1))):=by
  refine okD (k:=n+1) F sc_places (λ ds G DQ h=>?_) (λ cdv A outer s H E hr ds G DQ h=>?_)
  . obtain ⟨_,rfl,_⟩:=h;rfl
  obtain ⟨t,rfl,hd,hz,q⟩:=h
  refine ⟨_,(a4q (aFq (k:=1) sc_places.nd rfl (Or.inl rfl) (eBq (a0q (aMq a3q) a3q)))
      (a4q (f1q PassesOwn.never rfl (m2q rfl B.range (a0q (aGq aOq (aXq bFq rfl B.len PySem.boot_len (a0q (a1q 0) a3q)) a2q) a3q)) (b8q (k:=2) sc_places.nd rfl (Or.inr rfl)) (a7q (aWq (b6q (aXq bNq rfl B.isinstance PyProof.Rows.boot_isinstance (a0q (aDq aix (a1q 0) (aGq aKq a2q (a1q 2)) (λ _ _=>rfl)) (a0q (c0q rfl B.tuple PyProof.Rows.boot_tuple) a3q)))) (a7q (aFq (k:=1) sc_places.nd rfl (Or.inl rfl) (ePq (aGq aKq (a1q 1) (dWq rfl (CompOk.of (N':=["_law_place", "_law_k"]) (nt:=1) (cap:=[2]) rfl (by kernel_rfl)) (b4q (k:=0) (by decide)) (bYq (a6q g_places hr (by omega) rfl (a0q (aDq aix (a1q 0) (aGq aKq a2q (a1q 2)) (λ _ _=>rfl)) a3q))) (λ _ _ _ _=>(b8q (k:=0) (show List.Nodup (["_law_place", "_law_k"]:List Str) by decide +kernel) rfl (Or.inl rfl))) (λ _ _ _ _=>(aGq aKq (aMq (a0q (a1q 1) a3q)) (a1q 0)))))))) aJq)))
      (a7q (aAq (a1q 1))))),?_⟩
  rw [t.enc_eq]
  intro p hp
  have hal:=t.args_len
  refine rZq (by rw [List.length_cons];omega) ?_
  refine ⟨λ i ρ G'=>∃ q' o2 o3,ρ=[some (.tup (.str t.word::t.args)),some (.ref q'),o2]/\o3=o2/\G q'=none/\G'=up G q' (.lst ((([],t)::eMq Tm.all (t.inn.take i) 0).map λ z=>plD z.1)),⟨p,_,_,rfl,rfl,hp,rfl⟩,λ _ _ _ _ _=>trivial,?_,?_⟩
  . rintro i d ρ G' hgi ⟨q',o2,o3,rfl,rfl,hq,rfl⟩
    obtain ⟨hi,rfl⟩:=gIq hgi
    have hi':i < t.args.length:=by
      have hi2:i < ((((D.str t.word::t.args).length:Nat):Int) - 1).toNat:=hi
      rw [List.length_cons] at hi2;omega
    have e1:(1:Int)+(0+(i:Int))=((i+1:Nat):Int):=by omega
    rcases t.leaf_or with ⟨hl,m,ha⟩ | ha
    . have hi0:i=0:=by rw [ha] at hi';simpa using hi'
      subst hi0
      refine cQq (d:=.int m) (by rw [e1];exact bWq (by rw [ha];rfl)) ?_
      refine ⟨false,rfl,nofun,λ _=>Wk.of ⟨q',_,_,rfl,rfl,hq,by rw [hl];rfl⟩⟩
    . rw [ha,List.length_map] at hi'
      have ei:t.inn[i]?=some t.inn[i]:=List.getElem?_eq_getElem hi'
      have hm:=List.mem_of_getElem? ei
      have h1:=Tm.dp_inn hm
      have h2:=Tm.sz_mem hm
      have eix:atI (D.str t.word::t.args) (1+(0+(i:Int)))=some t.inn[i].enc:=by
        rw [e1];exact bWq (by rw [List.getElem?_cons_succ,ha,List.getElem?_map,ei];rfl)
      refine cQq eix ?_
      refine u2q ⟨λ _=>?_,nofun⟩
      refine cQq eix ?_
      refine ⟨t.inn[i],rfl,by omega,by omega,λ l hl=>dQq a8q ?_⟩
      refine b0q t.inn[i].all (λ z=>plD z.1) (λ z=>plD ((0+(i:Int))::z.1)) ?_ ?_ ?_ ?_ ?_
      . rfl
      . rw [Tm.all_len];exact aUq (by omega)
      . exact a8q
      . intro z hz' R hR
        have:=(Tm.all_at (Nat.le_refl _) hz').2
        have:=t.inn[i].dp_sz
        refine ⟨small ?_,hR⟩
        show 1+(z.1.map D.int).length<=200000
        rw [List.length_map];omega
      . intro p2 hp2
        obtain ⟨_,n1,nl⟩:=cAq (o:=.lst []) hp2
        obtain ⟨_,n2,n3⟩:=cAq (o:=.lst []) n1
        obtain ⟨_,n4,n5⟩:=cAq (o:=.lst []) hl
        have eq1:up (up (up G q' (.lst ((([],t)::eMq Tm.all (t.inn.take i) 0).map λ z=>plD z.1))) l (.lst (t.inn[i].all.map λ z=>plD z.1))) p2 (.lst (t.inn[i].all.map λ z=>plD ((0+(i:Int))::z.1))) q'=some (.lst ((([],t)::eMq Tm.all (t.inn.take i) 0).map λ z=>plD z.1)):=by
          rw [aZq (Ne.symm n3),aZq (Ne.symm n5)];exact a8q
        have esub:eMq Tm.all (t.inn.take (i+1)) 0=eMq Tm.all (t.inn.take i) 0++(t.inn[i].all.map λ z=>((0+(i:Int))::z.1,z.2)):=by
          rw [List.take_add_one,ei,cYq,List.length_take,Nat.min_eq_left (Nat.le_of_lt hi')]
          simp [eMq]
        have hlen:(eMq Tm.all (t.inn.take (i+1)) 0).length<=t.all.length:=by
          have es:eMq Tm.all (t.inn.take (i+1)++t.inn.drop (i+1)) 0=_:=cYq Tm.all (t.inn.take (i+1)) (t.inn.drop (i+1)) 0
          rw [List.take_append_drop] at es
          rw [t.all_eq,es,List.length_cons,List.length_append];omega
        refine bEq eq1 (bEq a8q ⟨small ?_,λ p3 hp3=>?_⟩)
        . rw [esub,List.length_append,List.length_map,Tm.all_len] at hlen
          have a1:=t.all_len
          have a2:=t.inn[i].all_len
          simp only [List.length_map,List.length_cons];omega
        . obtain ⟨_,m1,m2⟩:=cAq (o:=.lst []) hp3
          obtain ⟨_,m3,m4⟩:=cAq (o:=.lst []) m1
          obtain ⟨_,m5,m6⟩:=cAq (o:=.lst []) m3
          refine ⟨up G p3 (.lst ((([],t)::eMq Tm.all (t.inn.take (i+1)) 0).map λ z=>plD z.1)),?_,Wk.of ⟨p3,_,_,rfl,rfl,m5,rfl⟩⟩
          rw [esub,<- List.cons_append,List.map_append,List.map_map]
          exact Sub.put (Sub.new (Sub.new (Sub.new (Sub.refl _) hq) n4) n2)
  . rintro ρ G' ⟨q',o2,o3,rfl,rfl,hq,rfl⟩
    refine Dr.of ?_
    have e:t.inn.take (cSq 0 ((((D.str t.word::t.args).length:Nat):Int) - 1).toNat).length=t.inn:=by
      rw [gUq]
      refine List.take_of_length_le ?_
      rcases t.leaf_or with ⟨hl,_⟩ | ha
      . rw [hl];exact Nat.zero_le _
      . rw [List.length_cons,ha,List.length_map];omega
    have z:=q q' hq
    rw [t.all_eq] at z
    rw [e]
    exact z
abbrev hMq:Stmt:=top 43
theorem qMq:FnScope ["_law_found", "_law_due"] ["_law_found", "_law_due"] (a5q hMq):=⟨rfl,rfl,rfl,by decide +kernel,rfl,by decide +kernel,by decide +kernel⟩
theorem pXq:FnOk P w K mg base CX0 1 f fd ["_law_found", "_law_due"] (aQq K (fMq 0)):=uFq λ ds G DQ h=>by
  obtain ⟨_,_,_,h,_⟩:=h;omega
theorem q5q {n:Nat} (B:Blt mg) (g_alike:Got P w K mg base (n+1) "_law_alike" ["_law_found", "_law_due"] (aQq K (fMq n))) (F:Fun K "_law_alike" "_law_alike" hMq f fd):FnOk P w K mg base CX0 (n+2) f fd ["_law_found", "_law_due"] (aQq K (fMq (n+1))):=by
  refine okD (k:=n+1) F qMq (λ ds G DQ h=>?_) (λ cdv A outer s H E hr ds G DQ h=>?_)
  . obtain ⟨_,rfl,_⟩:=h;rfl
  obtain ⟨d,rfl,hp,hd,q⟩:=h
  refine ⟨_,(a4q (aWq (b6q (aXq bNq rfl B.isinstance PyProof.Rows.boot_isinstance (a0q (a1q 1) (a0q (c0q rfl B.tuple PyProof.Rows.boot_tuple) a3q)))) (a4q (aWq (AW.at (kXq (dKq (b6q (aXq bNq rfl B.isinstance PyProof.Rows.boot_isinstance (a0q (a1q 0) (a0q (c0q rfl B.tuple PyProof.Rows.boot_tuple) a3q))))) (g6q (aHq (rFq (aVq hr)) (aXq bFq rfl B.len PySem.boot_len (a0q (a1q 0) a3q)) (aXq bFq rfl B.len PySem.boot_len (a0q (a1q 1) a3q)) (aBq _))))) (a7q (aAq fLq)) aJq)
      (a7q (aAq (ePq (aXq (mPq rfl) rfl B.all PyProof.Rows.boot_all (a0q (dWq rfl (CompOk.of (N':=["_law_one", "_law_other"]) (nt:=2) (cap:=[]) rfl (by kernel_rfl)) (f2q (bHq bPq (fCq bPq cJq) (b4q (k:=0) (by decide)) (bHq bPq cJq (b4q (k:=1) (by decide)) dXq))) (wTq rfl B.zip (a0q (a1q 0) (a0q (a1q 1) a3q))) (λ _ _ _ _=>(lZq (n:=2) rfl (cKq (b8q (k:=0) (show List.Nodup (["_law_one", "_law_other"]:List Str) by decide +kernel) rfl (Or.inl rfl)) (cKq (b8q (k:=1) (show List.Nodup (["_law_one", "_law_other"]:List Str) by decide +kernel) rfl (Or.inl rfl)) jXq)))) (λ _ _ _ _=>(a6q g_alike hr (by omega) rfl (a0q (a1q 0) (a0q (a1q 1) a3q))))) a3q)))))) aJq)
      (a4q (aWq (b6q (aXq bNq rfl B.isinstance PyProof.Rows.boot_isinstance (a0q (a1q 1) (a0q (c0q rfl B.str PyProof.Rows.boot_str) a3q)))) (a7q (aAq (bZq (aXq bNq rfl B.isinstance PyProof.Rows.boot_isinstance (a0q (a1q 0) (a0q (c0q rfl B.str PyProof.Rows.boot_str) a3q))) (c2q (bAq (aIq (aVq hr)) (a1q 0) (a1q 1) (aBq _)))))) aJq)
      (a7q (aAq (bZq (aXq bNq rfl B.isinstance PyProof.Rows.boot_isinstance (a0q (a1q 0) (a0q (c0q rfl B.int PyProof.Rows.boot_int) a3q))) (bZq (rOq (aXq bNq rfl B.isinstance PyProof.Rows.boot_isinstance (a0q (a1q 0) (a0q (c0q rfl B.bool PyProof.Rows.boot_bool) a3q)))) (c2q (bAq (aIq (aVq hr)) (a1q 0) (a1q 1) (aBq _))))))))),?_⟩
  cases d with
  | int i=>exact ⟨false,rfl,nofun,λ _=>⟨false,rfl,nofun,λ _=>⟨true,rfl,λ _=>⟨false,rfl,λ _=>Dr.of (by simpa using q),nofun⟩,nofun⟩⟩⟩
  | str x=>exact ⟨false,rfl,nofun,λ _=>⟨true,rfl,λ _=>⟨true,rfl,λ _=>Dr.of (by simpa using q),nofun⟩,nofun⟩⟩
  | tup ds=>
    simp only [D.plain,Bool.and_eq_true,decide_eq_true_eq] at hp
    simp only [D.dp] at hd
    refine ⟨true,rfl,λ _=>⟨true,rfl,nofun,λ _=>⟨λ c=>absurd c (by simp),λ _=>⟨Nat.le_refl _,?_⟩⟩⟩,nofun⟩
    refine b0q ds (λ x=>.tup [x,x]) (λ _=>.bl true) ?_ ?_ ?_ ?_ ?_
    . exact kRq _ ds
    . exact aUq (by omega)
    . trivial
    . intro x hx R hR
      have h1:=kBq hx
      exact ⟨x,rfl,gCq hp.2 hx,by omega,hR⟩
    . intro p hp'
      refine aRq a8q ⟨ds.map λ _=>true,?_,G,Sub.new (Sub.refl _) hp',Dr.of ?_⟩
      . rw [show (ds.map λ _=>D.bl true)=(ds.map λ _=>true).map D.bl by simp];exact f9q _
      . rw [show (ds.map λ _=>true).all id=true by simp];exact q
  | _=>simp [D.plain] at hp
abbrev mIq:Stmt:=top 13
theorem x7q:FnScope ["program"] ["program"] (a5q mIq):=⟨rfl,rfl,rfl,by decide +kernel,rfl,by decide +kernel,by decide +kernel⟩
theorem wOq (B:Blt mg) (g_namesin:Got P w K mg base 2 "names_in" ["program"] (aQq K dIq)) (F:Fun K "open_names" "open_names" mIq f fd):FnOk P w K mg base CX0 3 f fd ["program"] (aQq K m5q):=by
  refine okD (k:=2) F x7q (λ ds G DQ h=>?_) (λ cdv A outer s H E hr ds G DQ h=>?_)
  . obtain ⟨_,rfl,_⟩:=h;rfl
  obtain ⟨t,rfl,hz,hn,q⟩:=h
  refine ⟨_,(a7q (aAq (j7q rfl B.sorted rfl B.set (jBq rfl (CompOk.of (N':=["number", "ways"]) (nt:=2) (cap:=[]) rfl (by kernel_rfl)) (f2q (bHq bPq (fCq bPq cJq) (b4q (k:=0) (by decide)) (bHq bPq cJq (b4q (k:=1) (by decide)) dXq))) (bYq (a6q g_namesin hr (by omega) rfl (a0q (a1q 0) a3q))) (λ _ _ _ _=>(lZq (n:=2) rfl (cKq (b8q (k:=0) (show List.Nodup (["number", "ways"]:List Str) by decide +kernel) rfl (Or.inl rfl)) (cKq (b8q (k:=1) (show List.Nodup (["number", "ways"]:List Str) by decide +kernel) rfl (Or.inl rfl)) jXq)))) (λ _ _ _ _=>(aHq iBq (a1q 0) (a1q 1) (aBq _))) (λ _ _ _ _=>(aGq aOq (a1q 0) (a1q 1))))))),?_⟩
  refine ⟨t,rfl,hz,λ l1 h1=>dQq a8q ?_⟩
  refine gMq (t.nmsR 0) prD (λ z=>if z.2<=z.1 then some (.int ((z.1:Int) - z.2)) else none) rfl (aUq (by have:=t.nmsR_len 0;omega)) a8q ?_ ?_
  . intro z hz' R S hR hS
    refine ⟨λ c=>?_,λ c=>?_⟩
    . have c':(z.2:Int)<=z.1:=by simpa using c
      exact hR _ (by rw [if_pos (by omega)])
    . have c':¬ (z.2:Int)<=z.1:=by simpa using c
      exact hS (by rw [if_neg (by omega)])
  . intro p hp
    have e:((t.nmsR 0).filterMap λ z=>if z.2<=z.1 then some (D.int ((z.1:Int) - z.2)) else none)=t.opn.map D.int:=by
      unfold Tm.opn vRq
      rw [List.map_filterMap]
      congr 1
      funext z
      split<;>rfl
    rw [e]
    have hol:=t.opn_len
    refine aRq a8q ⟨t.opn,dRq _,by omega,λ ms hs l' hl'=>?_⟩
    obtain ⟨_,n1,_⟩:=cAq (o:=.lst []) hl'
    obtain ⟨_,n2,_⟩:=cAq (o:=.lst []) n1
    exact ⟨up G l' (.lst (ms.map D.int)),Sub.put (Sub.trans (Sub.new (Sub.refl _) h1) (Sub.new (Sub.refl _) hp)),q ms hs l' n2⟩
abbrev fHq:Stmt:=top 18
theorem sc_copies:FnScope ["program", "depths", "deeper", "closed", "copies", "ways"] ["program", "depths"] (a5q fHq):=⟨rfl,rfl,rfl,by decide +kernel,rfl,by decide +kernel,by decide +kernel⟩
theorem mOq {T:Addr} {tp:Pos} (B:Blt mg) (g_opn:Got P w K mg base 3 "open_names" ["program"] (aQq K m5q)) (g_lifted:Got P w K mg base 4 "lifted" ["program", "many", "least"] (aQq K (m0q T tp))) (F:Fun K "copies_for" "copies_for" fHq f fd):FnOk P w K mg base CX0 5 f fd ["program", "depths"] (aQq K (h1q T tp)):=by
  refine okD (k:=4) F sc_copies (λ ds G DQ h=>?_) (λ cdv A outer s H E hr ds G DQ h=>?_)
  . obtain ⟨_,_,_,rfl,_⟩:=h;rfl
  obtain ⟨u,l,ws,rfl,hl,hw,hz,hn,hT,q⟩:=h
  refine ⟨_,(a4q (aFq (k:=2) sc_copies.nd rfl (Or.inl rfl) (h2q rfl B.sorted rfl B.set (a1q 1) (eBq (a0q a2q a3q))))
      (a4q (aFq (k:=3) sc_copies.nd rfl (Or.inl rfl) (bZq (bAq j3q (aXq bFq rfl B.len PySem.boot_len (a0q (a1q 2) a3q)) a2q (aBq _)) (c2q (u1q (a6q g_opn hr (by omega) rfl (a0q (a1q 0) a3q))))))
      (a4q (aFq (k:=4) sc_copies.nd rfl (Or.inl rfl) (p1q a2q (a1q 0)))
      (a4q (f1q PassesOwn.never rfl (bYq (a1q 2)) (b8q (k:=5) sc_copies.nd rfl (Or.inl rfl)) (a7q (q2q (aVq hr) (a1q 4) (a1q 5) (dNq (b6q (a1q 3)) (a1q 0) (a6q g_lifted hr (by omega) rfl (a0q (a1q 0) (a0q (a1q 5) (a0q a2q a3q))))))))
      (a7q (aAq (a1q 4))))))),?_⟩
  refine aRq hl ⟨ws.map (λ(w:Nat)=>(w:Int)),by rw [<- dRq,List.map_map];rfl,by rw [List.length_map];exact hw,?_⟩
  refine λ p0 hp0=>aRq a8q ⟨0,rfl,λ ms hs l2 hl2=>?_⟩
  have S0:Sub G (up (up G p0 (.lst [.int 0])) l2 (.lst (ms.map D.int))):=Sub.trans (Sub.new (Sub.refl _) hp0) (Sub.new (Sub.refl _) hl2)
  have e20:up (up G p0 (.lst [.int 0])) l2 (.lst (ms.map D.int)) l2=some (.lst (ms.map D.int)):=a8q
  have hT0:=S0 _ _ hT
  generalize up (up G p0 (.lst [.int 0])) l2 (.lst (ms.map D.int))=V0 at *
  refine aRq e20 ⟨λ c=>?_,λ c=>?_⟩
  . refine ⟨u,rfl,hz,hn,λ ms' hs' l3 h3=>aRq a8q ?_⟩
    have hGV:=Sub.trans S0 (Sub.new (o:=.lst (ms'.map D.int)) (Sub.refl _) h3)
    have e2:=kp (o:=.lst (ms'.map D.int)) h3 e20
    have hTV:=kp (o:=.lst (ms'.map D.int)) h3 hT0
    have hb:(!(!(ms'.map D.int).isEmpty))=true->u.opn=[]:=λ c=>by
      have:ms'=[]:=by cases ms' with | nil=>rfl | cons _ _=>simp at c
      subst this
      cases ho:u.opn with
      | nil=>rfl
      | cons x xs=>have:=(hs'.2 x).mpr (by rw [ho];exact List.mem_cons_self ..);cases this
    generalize up V0 l3 (.lst (ms'.map D.int))=V at *
    intro d hd
    have hdl:l2≠d:=by rintro rfl;rw [e2] at hd;cases hd
    refine ⟨a8q,.inl 0,rfl,?_⟩
    rw [g5q]
    refine dQq (by rw [aZq hdl];exact e2) ⟨λ i ρ G'=>∃ (kvs:List (Key × D)) (o5:Option D),ρ=[some u.enc,some (.ref l),some (.ref l2),some (.bl (!(!(ms'.map D.int).isEmpty))),some (.ref d),o5]/\G'=up V d (.dK kvs)/\(∀ j∈(0:Int)::ms.take i,eIq kvs (.inl j)=some (u.mapN (b3q j.toNat 0) 0).enc)/\kvs.length<=i+1,⟨[(.inl 0,u.enc)],_,rfl,rfl,?_,Nat.le_refl _⟩,λ i ρ G' _ ⟨kvs,o5,_,h,_⟩=>(show G' l2=some (.lst (ms.map D.int)) by rw [h,aZq hdl];exact e2),?_,?_⟩
    . intro j hj
      rw [List.take_zero] at hj
      rw [List.mem_singleton.mp hj]
      show some u.enc=some (u.mapN (b3q 0 0) 0).enc
      rw [i6q]
    . rintro i x ρ G' hx ⟨kvs,o5,rfl,rfl,hk,hkl⟩
      have hx':(ms.map D.int)[i]?=some x:=hx
      rw [List.getElem?_map] at hx'
      cases ej:ms[i]? with
      | none=>rw [ej] at hx';cases hx'
      | some j=>
        rw [ej] at hx';cases hx'
        have hjm:=List.mem_of_getElem? ej
        have hjw:=(hs.2 j).mp hjm
        rw [List.mem_filter,List.mem_map] at hjw
        obtain ⟨⟨w,hw1,rfl⟩,hw0⟩:=hjw
        have il:i < ms.length:=(List.getElem?_eq_some_iff.mp ej).1
        have lm:ms.length<=64:=by
          have nd:ms.Nodup:=hs.1.imp λ h=>by omega
          have:=oHq nd λ j hj=>(hs.2 j).mp hj
          have:=List.length_filter_le (λ j:Int=>decide (j≠0)) (ws.map λ(w:Nat)=>(w:Int))
          rw [List.length_map] at this
          omega
        have nxt:∀ y,y=(u.mapN (b3q w 0) 0).enc->∀ j∈(0:Int)::ms.take (i+1),eIq (putKD kvs (.inl (w:Int)) y) (.inl j)=some (u.mapN (b3q j.toNat 0) 0).enc:=λ y hy j hj=>by
          rw [kHq]
          by_cases c:(Sum.inl j:Key)=.inl (w:Int)
          . rw [if_pos c]
            obtain rfl:j=(w:Int):=Sum.inl.inj c
            rw [hy,Int.toNat_natCast]
          . rw [if_neg c]
            refine hk j ?_
            rcases List.mem_cons.mp hj with h | h
            . exact List.mem_cons.mpr (.inl h)
            . rw [List.take_add_one,ej] at h
              rcases List.mem_append.mp h with h | h
              . exact List.mem_cons.mpr (.inr h)
              . have hj2:j=(w:Int):=by simpa using h
                exact absurd (by rw [hj2]) c
        have fin:∀ y,y=(u.mapN (b3q w 0) 0).enc->onD (up V d (.dK kvs)) d λ kvs'=>∃ k,fOq (.int (w:Int))=some k/\kvs'.length < sizeLine/\Wk (λ ρ G'=>∃ (kvs:List (Key × D)) (o5:Option D),ρ=[some u.enc,some (.ref l),some (.ref l2),some (.bl (!(!(ms'.map D.int).isEmpty))),some (.ref d),o5]/\G'=up V d (.dK kvs)/\(∀ j∈(0:Int)::ms.take (i+1),eIq kvs (.inl j)=some (u.mapN (b3q j.toNat 0) 0).enc)/\kvs.length<=i+1+1) [some u.enc,some (.ref l),some (.ref l2),some (.bl (!(!(ms'.map D.int).isEmpty))),some (.ref d),some (.int (w:Int))] (up (up V d (.dK kvs)) d (.dK (putKD kvs' k y))):=λ y hy=>by
          refine nVq a8q ⟨.inl (w:Int),rfl,aUq (by omega),Wk.of ⟨_,_,rfl,g5q,nxt y hy,?_⟩⟩
          have:=iRq kvs (.inl (w:Int)) y
          omega
        refine ⟨λ c=>fin _ ?_,λ c=>⟨u,w,0,rfl,by rw [aZq (by rintro rfl;rw [hTV] at hd;cases hd)];exact hTV,hz,fin _ rfl⟩⟩
        rw [fSq w u 0 (nHq (hb c))]
    . rintro ρ G' ⟨kvs,o5,rfl,rfl,hk,_⟩
      refine ⟨up G d (.dK kvs),Sub.put hGV,q d kvs (hGV.none hd) λ w hw1=>?_⟩
      have z:=hk (w:Int) ?_
      . rw [Int.toNat_natCast] at z;exact z
      . by_cases c:w=0
        . rw [c];exact List.mem_cons.mpr (.inl rfl)
        . refine List.mem_cons.mpr (.inr ?_)
          have e:ms.take (ms.map D.int).length=ms:=by rw [List.length_map];exact List.take_length ..
          show (w:Int)∈ms.take (ms.map D.int).length
          rw [e,hs.2,List.mem_filter]
          exact ⟨List.mem_map.mpr ⟨w,hw1,rfl⟩,by simpa using c⟩
  . have hGV:=S0
    have e2:=e20
    have hTV:=hT0
    have hb:false=true->u.opn=[]:=nofun
    generalize V0=V at *
    intro d hd
    have hdl:l2≠d:=by rintro rfl;rw [e2] at hd;cases hd
    refine ⟨a8q,.inl 0,rfl,?_⟩
    rw [g5q]
    refine dQq (by rw [aZq hdl];exact e2) ⟨λ i ρ G'=>∃ (kvs:List (Key × D)) (o5:Option D),ρ=[some u.enc,some (.ref l),some (.ref l2),some (.bl false),some (.ref d),o5]/\G'=up V d (.dK kvs)/\(∀ j∈(0:Int)::ms.take i,eIq kvs (.inl j)=some (u.mapN (b3q j.toNat 0) 0).enc)/\kvs.length<=i+1,⟨[(.inl 0,u.enc)],_,rfl,rfl,?_,Nat.le_refl _⟩,λ i ρ G' _ ⟨kvs,o5,_,h,_⟩=>(show G' l2=some (.lst (ms.map D.int)) by rw [h,aZq hdl];exact e2),?_,?_⟩
    . intro j hj
      rw [List.take_zero] at hj
      rw [List.mem_singleton.mp hj]
      show some u.enc=some (u.mapN (b3q 0 0) 0).enc
      rw [i6q]
    . rintro i x ρ G' hx ⟨kvs,o5,rfl,rfl,hk,hkl⟩
      have hx':(ms.map D.int)[i]?=some x:=hx
      rw [List.getElem?_map] at hx'
      cases ej:ms[i]? with
      | none=>rw [ej] at hx';cases hx'
      | some j=>
        rw [ej] at hx';cases hx'
        have hjm:=List.mem_of_getElem? ej
        have hjw:=(hs.2 j).mp hjm
        rw [List.mem_filter,List.mem_map] at hjw
        obtain ⟨⟨w,hw1,rfl⟩,hw0⟩:=hjw
        have il:i < ms.length:=(List.getElem?_eq_some_iff.mp ej).1
        have lm:ms.length<=64:=by
          have nd:ms.Nodup:=hs.1.imp λ h=>by omega
          have:=oHq nd λ j hj=>(hs.2 j).mp hj
          have:=List.length_filter_le (λ j:Int=>decide (j≠0)) (ws.map λ(w:Nat)=>(w:Int))
          rw [List.length_map] at this
          omega
        have nxt:∀ y,y=(u.mapN (b3q w 0) 0).enc->∀ j∈(0:Int)::ms.take (i+1),eIq (putKD kvs (.inl (w:Int)) y) (.inl j)=some (u.mapN (b3q j.toNat 0) 0).enc:=λ y hy j hj=>by
          rw [kHq]
          by_cases c:(Sum.inl j:Key)=.inl (w:Int)
          . rw [if_pos c]
            obtain rfl:j=(w:Int):=Sum.inl.inj c
            rw [hy,Int.toNat_natCast]
          . rw [if_neg c]
            refine hk j ?_
            rcases List.mem_cons.mp hj with h | h
            . exact List.mem_cons.mpr (.inl h)
            . rw [List.take_add_one,ej] at h
              rcases List.mem_append.mp h with h | h
              . exact List.mem_cons.mpr (.inr h)
              . have hj2:j=(w:Int):=by simpa using h
                exact absurd (by rw [hj2]) c
        have fin:∀ y,y=(u.mapN (b3q w 0) 0).enc->onD (up V d (.dK kvs)) d λ kvs'=>∃ k,fOq (.int (w:Int))=some k/\kvs'.length < sizeLine/\Wk (λ ρ G'=>∃ (kvs:List (Key × D)) (o5:Option D),ρ=[some u.enc,some (.ref l),some (.ref l2),some (.bl false),some (.ref d),o5]/\G'=up V d (.dK kvs)/\(∀ j∈(0:Int)::ms.take (i+1),eIq kvs (.inl j)=some (u.mapN (b3q j.toNat 0) 0).enc)/\kvs.length<=i+1+1) [some u.enc,some (.ref l),some (.ref l2),some (.bl false),some (.ref d),some (.int (w:Int))] (up (up V d (.dK kvs)) d (.dK (putKD kvs' k y))):=λ y hy=>by
          refine nVq a8q ⟨.inl (w:Int),rfl,aUq (by omega),Wk.of ⟨_,_,rfl,g5q,nxt y hy,?_⟩⟩
          have:=iRq kvs (.inl (w:Int)) y
          omega
        refine ⟨λ c=>fin _ ?_,λ c=>⟨u,w,0,rfl,by rw [aZq (by rintro rfl;rw [hTV] at hd;cases hd)];exact hTV,hz,fin _ rfl⟩⟩
        rw [fSq w u 0 (nHq (hb c))]
    . rintro ρ G' ⟨kvs,o5,rfl,rfl,hk,_⟩
      refine ⟨up G d (.dK kvs),Sub.put hGV,q d kvs (hGV.none hd) λ w hw1=>?_⟩
      have z:=hk (w:Int) ?_
      . rw [Int.toNat_natCast] at z;exact z
      . by_cases c:w=0
        . rw [c];exact List.mem_cons.mpr (.inl rfl)
        . refine List.mem_cons.mpr (.inr ?_)
          have e:ms.take (ms.map D.int).length=ms:=by rw [List.length_map];exact List.take_length ..
          show (w:Int)∈ms.take (ms.map D.int).length
          rw [e,hs.2,List.mem_filter]
          exact ⟨List.mem_map.mpr ⟨w,hw1,rfl⟩,by simpa using c⟩
abbrev eOq:Stmt:=top 17
theorem sc_putin:FnScope ["program", "other", "copies", "taken"] ["program", "other"] (a5q eOq):=⟨rfl,rfl,rfl,by decide +kernel,rfl,by decide +kernel,by decide +kernel⟩
abbrev b1q:Stmt:=(b2q eOq).getD 1 (.Pass ⟨0,0,0,0⟩)
theorem g2q:CloScope ["number", "ways", "copies"] ["number", "ways"] ["copies"] (a5q b1q):=⟨rfl,rfl,rfl,by decide +kernel,rfl,rfl,by decide +kernel,by decide +kernel,by decide +kernel,by decide +kernel,by decide +kernel⟩
theorem g4q {u:Tm} {d:Addr} {kvs:List (Key × D)} (C:Nat->Nat->Prop) (hC:∀ n w:Nat,C n w->n=w->eIq kvs (.inl w)=some (u.mapN (b3q w 0) 0).enc):CloD P w K mg base 1 "taken" "put_in.<locals>.taken" b1q ["copies"] [.ref d] ["number", "ways"] (clD (d2q u) C [(d,.dK kvs)]):=by
  refine wZq (k:=0) g2q (λ ds G DQ h=>?_) (λ _ _ _ _ _ us hl=>match us,hl with | [_,_],_=>rfl) (λ f cdv cl A outer s H hr ds G DQ h=>?_)
  . obtain ⟨_,_,rfl,_⟩:=h;rfl
  obtain ⟨n,w,rfl,hc,hL,q⟩:=h
  refine ⟨_,(a4q (aWq (aHq (aIq (aVq hr)) (a1q 0) (a1q 1) (aBq _)) (a7q (aAq (qPq (aVq hr) (a1q 2) (a1q 1) (λ _ _=>rfl)))) aJq)
      (a7q (aAq (aMq (a0q aCq (a0q (dNq (aHq j3q (a1q 0) (a1q 1) (aBq _)) (aGq aOq (a1q 0) a2q) (a1q 0)) a3q)))))),?_⟩
  refine ⟨λ c=>?_,λ c=>⟨λ c2=>⟨Sub.refl _,?_⟩,λ c2=>⟨Sub.refl _,?_⟩⟩⟩
  . have c':(n:Int)=w:=by simpa using c
    obtain rfl:n=w:=by omega
    have hv:=hC n n hc rfl
    have e:d2q u n n=u.mapN (b3q n 0) 0:=by unfold d2q;rw [if_pos rfl]
    rw [e] at q
    exact nVq (vry_get.mpr ⟨hL _ (List.mem_cons_self ..),rfl⟩) ⟨.inl (n:Int),_,rfl,hv,Sub.refl _,q⟩
  . have c':¬ (n:Int)=w:=by simpa using c
    have c2':(w:Int) < n:=by simpa using c2
    have e:(d2q u n w).enc=.tup [.str "name", .int ((n:Int) - 1)]:=by
      unfold d2q;rw [if_neg (by omega),if_pos (by omega)]
      show D.tup [.str "name", .int ((n - 1:Nat):Int)]=_
      rw [show ((n - 1:Nat):Int)=(n:Int) - 1 by omega]
    rw [e] at q
    exact q
  . have c':¬ (n:Int)=w:=by simpa using c
    have c2':¬ (w:Int) < n:=by simpa using c2
    have e:(d2q u n w).enc=.tup [.str "name", .int (n:Int)]:=by
      unfold d2q;rw [if_neg (by omega),if_neg (by omega)];rfl
    rw [e] at q
    exact q
theorem pSq {c T T_putin:Addr} {tp:Pos} (hC:PySem.W.CodeHd base c T_putin) (hB:fJq mg base) (B:Blt mg) (g_namesin:Got P w K mg base 2 "names_in" ["program"] (aQq K dIq)) (g_copies:Got P w K mg base 5 "copies_for" ["program", "depths"] (aQq K (h1q T tp))) (g_withn:Got P w K mg base 3 "with_names" ["program", "change"] (aQq K (kSq P w K mg base 1))) (F:FunC K "put_in" "put_in" eOq f fd c):FnOk P w K mg base CX0 6 f fd ["program", "other"] (aQq K (sOq T tp T_putin (c5q b1q))):=by
  refine okDc (k:=5) F sc_putin (λ ds G DQ h=>?_) (λ A outer s H E hr ds G DQ h=>?_)
  . obtain ⟨_,_,rfl,_⟩:=h;rfl
  obtain ⟨t,u,rfl,hz,hzu,hn,hnu,hT,hT2,q⟩:=h
  refine ⟨_,(a4q (aFq (k:=2) sc_putin.nd rfl (Or.inr rfl) (a6q g_copies hr (by omega) rfl (a0q (a1q 1) (a0q (jBq rfl (CompOk.of (N':=["number", "ways"]) (nt:=2) (cap:=[]) rfl (by kernel_rfl)) (f2q (bHq bPq (fCq bPq cJq) (b4q (k:=0) (by decide)) (bHq bPq cJq (b4q (k:=1) (by decide)) dXq))) (bYq (a6q g_namesin hr (by omega) rfl (a0q (a1q 0) a3q))) (λ _ _ _ _=>(lZq (n:=2) rfl (cKq (b8q (k:=0) (show List.Nodup (["number", "ways"]:List Str) by decide +kernel) rfl (Or.inl rfl)) (cKq (b8q (k:=1) (show List.Nodup (["number", "ways"]:List Str) by decide +kernel) rfl (Or.inl rfl)) jXq)))) (λ _ _ _ _=>(aHq (aIq (aVq hr)) (a1q 0) (a1q 1) (aBq _))) (λ _ _ _ _=>(a1q 1))) a3q))))
      (a4q (rEq (i:=3) (T:=T_putin) (fr:=["copies"]) sc_putin.nd rfl (Or.inl rfl) rfl hC hB (by kernel_rfl) rfl rfl rfl)
      (a7q (aAq (k9q (name:="taken") (qual:="put_in.<locals>.taken") (st:=b1q) (fr:=["copies"]) (ix:=[2]) g_withn hr (by omega) rfl (by decide +kernel) (by kernel_rfl) (a0q (a1q 0) (a0q (a1q 3) a3q))))))),?_⟩
  refine ⟨t,rfl,hz,λ l1 h1=>dQq a8q ?_⟩
  refine gMq (t.nmsR 0) prD (λ z=>if z.1=z.2 then some (.int (z.2:Int)) else none) rfl (aUq (by have:=t.nmsR_len 0;omega)) a8q ?_ ?_
  . intro z hz' R S hR hS
    refine ⟨λ c=>?_,λ c=>?_⟩
    . have c':(z.1:Int)=z.2:=by simpa using c
      exact hR _ (by rw [if_pos (by omega)])
    . have c':¬ (z.1:Int)=z.2:=by simpa using c
      exact hS (by rw [if_neg (by omega)])
  intro l2 h2
  have e:((t.nmsR 0).filterMap λ z=>if z.1=z.2 then some (D.int (z.2:Int)) else none)=(rGq t).map λ(w:Nat)=>D.int (w:Int):=by
    unfold rGq
    rw [List.map_map]
    induction t.nmsR 0 with
    | nil=>rfl
    | cons z zs ih=>by_cases c:z.1=z.2<;>simp_all [List.filterMap_cons,List.filter_cons]
  rw [e]
  have hwl:=p7q t
  have S2:Sub G (up (up G l1 (.lst ((t.nmsR 0).map prD))) l2 (.lst ((rGq t).map λ(w:Nat)=>D.int (w:Int)))):=Sub.trans (Sub.new (Sub.refl _) h1) (Sub.new (Sub.refl _) h2)
  refine ⟨u,l2,rGq t,rfl,a8q,by omega,hzu,hnu,S2 _ _ hT,λ d kvs hd hcop=>?_⟩
  generalize up (up G l1 (.lst ((t.nmsR 0).map prD))) l2 (.lst ((rGq t).map λ(w:Nat)=>D.int (w:Int)))=V at *
  refine ⟨kp hd (S2 _ _ hT2),λ fc hf=>?_⟩
  obtain ⟨_,hfV,nfd⟩:=cAq (o:=.lst []) hf
  refine ⟨fc,[.ref d],a8q,rfl,λ i j h=>?_,t,fc,_,_,_,_,_,_,d2q u,λ n w=>(n,w)∈t.nmsR 0,[(d,.dK kvs)],rfl,a8q,g4q _ (λ n w hn e=>?_),λ y hy=>?_,hz,λ z hz=>hz,rfl,?_⟩
  . match i,j,h with
    | 0,_,rfl=>exact ⟨_,rfl,rfl⟩
  . subst e;exact hcop n (qAq hn)
  . rw [List.mem_singleton.mp hy,aZq (Ne.symm nfd),aZq (Ne.symm nfd)];exact a8q
  . exact ⟨G,Sub.trans S2 (Sub.trans (Sub.new (Sub.refl _) hd) (Sub.new (Sub.refl _) hf)),q⟩
abbrev jHq:Stmt:=top 33
theorem sc_leaf:FnScope ["_law_feed_here", "_law_many", "_law_form"] ["_law_feed_here", "_law_many"] (a5q jHq):=⟨rfl,rfl,rfl,by decide +kernel,rfl,by decide +kernel,by decide +kernel⟩
theorem rRq (g_take:Got P w K mg base 1 "_law_take" ["_law_feed_here", "_law_many"] (aQq K e5q)) (g_whole:Got P w K mg base 2 "_law_whole" ["_law_feed_here"] (aQq K e1q)) (F:Fun K "_law_leaf" "_law_leaf" jHq f fd):FnOk P w K mg base CX0 3 f fd ["_law_feed_here", "_law_many"] (aQq K gWq):=by
  refine okD (k:=2) F sc_leaf (λ ds G DQ h=>?_) (λ cdv A outer s H E hr ds G DQ h=>?_)
  . unfold gWq at h;split at h
    . rfl
    . exact h.elim
  unfold gWq at h;split at h
  case h_2=>exact h.elim
  next a many=>
  obtain ⟨hF,m0,m1,q⟩:=h
  have nm:∀ (k:Int) G3,0<=k->Fx a G G3->Dr DQ (.tup [.str "name", .int k]) G3:=λ k G3 k0 u=>by
    have z:=Dr.of (q (.name k.toNat) G3 u rfl rfl)
    rwa [Tm.enc,show ((k.toNat:Nat):Int)=k by omega] at z
  refine ⟨_,(a4q (aFq (k:=2) sc_leaf.nd rfl (Or.inl rfl) (a6q g_take hr (by omega) rfl (a0q (a1q 0) (a0q a2q a3q))))
      (a4q (aWq (aHq c4q (a1q 2) a2q (aBq _)) (a7q (aAq (a6q g_whole hr (by omega) rfl (a0q (a1q 0) a3q)))) aJq)
      (a4q (aWq (aHq (aIq (aVq hr)) (a1q 2) a2q (aBq _)) (a7q (aAq (aMq (a0q aCq (a0q (aGq aOq a2q (a6q g_take hr (by omega) rfl (a0q (a1q 0) (a0q a2q a3q)))) a3q))))) aJq)
      (a7q (aAq (aMq (a0q aCq (a0q (a6q g_take hr (by omega) rfl (a0q (a1q 0) (a0q (aGq aKq (a1q 1) a2q) a3q))) a3q)))))))),?_⟩
  refine ⟨hF,by decide,by decide,λ form G1 u1 f0 f1=>⟨λ _=>?_,λ _=>⟨λ _=>?_,λ _=>?_⟩⟩⟩
  . exact ⟨u1.fd,λ k G3 u3 _ _=>Dr.of (q (.whole k) G3 (u1.trans u3) rfl rfl)⟩
  . exact ⟨u1.fd,by decide,by decide,λ k G3 u3 k0 k1=>nm _ G3 (by omega) (u1.trans u3)⟩
  . exact ⟨u1.fd,by omega,by omega,λ k G3 u3 k0 k1=>nm k G3 k0 (u1.trans u3)⟩
abbrev e0q:Stmt:=top 23
theorem sc_withinn:FnScope ["program", "k", "other", "inners"] ["program", "k", "other"] (a5q e0q):=⟨rfl,rfl,rfl,by decide +kernel,rfl,by decide +kernel,by decide +kernel⟩
theorem l6q (g_inner:Got P w K mg base 1 "inner" ["program"] (aQq K (jOq Tm.enc Tm.inn))) (F:Fun K "with_inner" "with_inner" e0q f fd):FnOk P w K mg base CX0 2 f fd ["program", "k", "other"] (aQq K f0q):=by
  refine okD (k:=1) F sc_withinn (λ ds G DQ h=>?_) (λ cdv A outer s H E hr ds G DQ h=>?_)
  . obtain ⟨_,_,_,rfl,_⟩:=h;rfl
  obtain ⟨t,k,o,rfl,hlf,hk,q⟩:=h
  refine ⟨_,(a4q (aFq (k:=3) sc_withinn.nd rfl (Or.inl rfl) (a6q g_inner hr (by omega) rfl (a0q (a1q 0) a3q)))
      (a7q (aAq (aGq aKq (aGq aKq (aGq aKq (aMq (a0q (aDq aix (a1q 0) a2q (λ _ _=>rfl)) a3q)) (bVq asl (a1q 3) c9q (c8q (a1q 1)))) (aMq (a0q (a1q 2) a3q))) (bVq asl (a1q 3) (c8q (aGq aKq (a1q 1) a2q)) c9q))))),?_⟩
  have hil:=t.inn_len
  have hm:(t.inn.map Tm.enc).length=t.inn.length:=List.length_map ..
  refine ⟨t,rfl,(show ixD t.enc (.int 0) _ _ from xKq ?_)⟩
  have e1:((t.inn.map Tm.enc).take k).length<=3:=by rw [List.length_take,hm];omega
  have e2:((t.inn.map Tm.enc).drop (k+1)).length<=3:=by rw [List.length_drop,hm];omega
  have c1:cut (t.inn.map Tm.enc) none (some (k:Int))=(t.inn.map Tm.enc).take k:=rNq (by omega)
  have c2:cut (t.inn.map Tm.enc) (some ((k:Int)+1)) none=(t.inn.map Tm.enc).drop (k+1):=h4q (by omega)
  refine ⟨small ?_,small ?_,small ?_,Dr.of ?_⟩
  . rw [c1];simp only [List.length_cons,List.length_nil];omega
  . rw [c1];simp only [List.length_append,List.length_cons,List.length_nil];omega
  . rw [c1,c2];simp only [List.length_append,List.length_cons,List.length_nil];omega
  . rw [c1,c2]
    rw [Tm.enc_rebuild hlf (List.length_set ..)] at q
    have z:(t.inn.set k o).map Tm.enc=(t.inn.map Tm.enc).take k++o.enc::(t.inn.map Tm.enc).drop (k+1):=by
      rw [List.map_set,List.set_eq_take_append_cons_drop,if_pos (by omega)]
    rw [z] at q
    simpa using q
abbrev jDq:Stmt:=top 22
theorem sc_repl:FnScope ["program", "place", "other", "around", "one", "k", "made", "depth"] ["program", "place", "other"] (a5q jDq):=⟨rfl,rfl,rfl,by decide +kernel,rfl,by decide +kernel,by decide +kernel⟩
theorem sCq (B:Blt mg) (g_inner:Got P w K mg base 1 "inner" ["program"] (aQq K (jOq Tm.enc Tm.inn))) (g_withinn:Got P w K mg base 2 "with_inner" ["program", "k", "other"] (aQq K f0q)) (F:Fun K "replaced" "replaced" jDq f fd):FnOk P w K mg base CX0 3 f fd ["program", "place", "other"] (aQq K oAq):=by
  refine okD (k:=2) F sc_repl (λ ds G DQ h=>?_) (λ cdv A outer s H E hr ds G DQ h=>?_)
  . obtain ⟨_,_,_,_,rfl,_⟩:=h;rfl
  obtain ⟨t,ns,u,o,rfl,hu,hl,q⟩:=h
  refine ⟨_,(a4q (aFq (k:=3) sc_repl.nd rfl (Or.inl rfl) (eBq a3q))
      (a4q (aFq (k:=4) sc_repl.nd rfl (Or.inl rfl) (a1q 0))
      (a4q (f1q PassesOwn.never rfl (bYq (a1q 1)) (b8q (k:=5) sc_repl.nd rfl (Or.inl rfl)) (a4q (c6q (iDq PySem.F.plainAttrs_list PySem.F.slot_list_append PySem.F.type_list_append bQq (a1q 3) (a0q (a1q 4) a3q)))
      (a7q (aFq (k:=4) sc_repl.nd rfl (Or.inl rfl) (aDq aix (a6q g_inner hr (by omega) rfl (a0q (a1q 4) a3q)) (a1q 5) (λ _ _=>rfl))))))
      (a4q (aFq (k:=6) sc_repl.nd rfl (Or.inl rfl) (a1q 2))
      (a4q (f1q PassesOwn.never rfl (nMq rfl B.range (a0q (aGq aOq (aXq bFq rfl B.len PySem.boot_len (a0q (a1q 1) a3q)) a2q) (a0q (qTq hSq a2q) (a0q (qTq hSq a2q) a3q)))) (b8q (k:=7) sc_repl.nd rfl (Or.inl rfl)) (a7q (aFq (k:=6) sc_repl.nd rfl (Or.inl rfl) (a6q g_withinn hr (by omega) rfl (a0q (aDq aix (a1q 3) (a1q 7) (λ _ _=>rfl)) (a0q (aDq aix (a1q 1) (a1q 7) (λ _ _=>rfl)) (a0q (a1q 6) a3q)))))))
      (a7q (aAq (a1q 6)))))))),?_⟩
  intro a ha
  refine ⟨λ i ρ G'=>∃ o5:Option D,ρ=[some t.enc,some (plD ns),some o.enc,some (.ref a),some (t.along ns i).enc,o5,none,none]/\up G a (.lst ((List.range i).map λ j=>(t.along ns j).enc))=G',⟨_,rfl,rfl⟩,λ _ _ _ _ _=>trivial,?_,?_⟩
  . rintro i d ρ G' hd ⟨o5,rfl,rfl⟩
    have hd':(ns.map D.int)[i]?=some d:=hd
    rw [List.getElem?_map] at hd'
    cases e:ns[i]? with
    | none=>rw [e] at hd';cases hd'
    | some k=>
      rw [e] at hd';cases hd'
      obtain ⟨k0,hin⟩:=Tm.along_step hu e
      have hi:=(List.getElem?_eq_some_iff.mp e).1
      refine ⟨aRq a8q trivial,bEq a8q ⟨aUq (by rw [List.length_map,List.length_range];omega),?_⟩⟩
      rw [g5q]
      refine ⟨t.along ns i,rfl,cQq (d:=(t.along ns (i+1)).enc) ?_ (Wk.of ⟨_,rfl,?_⟩)⟩
      . have z:=bWq (xs:=(t.along ns i).inn.map Tm.enc) (j:=k.toNat) (v:=(t.along ns (i+1)).enc) (by rw [List.getElem?_map,hin];rfl)
        rwa [show ((k.toNat:Nat):Int)=k by omega] at z
      . rw [List.range_succ,List.map_append];rfl
  . rintro ρ G' ⟨o5,hρ,rfl⟩
    have eL:(⟨ns.map D.int,λ _=>True⟩:DIt).items.length=ns.length:=List.length_map ..
    rw [eL] at hρ ⊢
    subst hρ
    refine ⟨rfl,rfl,small62_iff.mpr (by rw [List.length_map];omega),?_⟩
    rw [List.length_map]
    refine ⟨λ j ρ G'=>∃ o7:Option D,ρ=[some t.enc,some (plD ns),some o.enc,some (.ref a),some (t.along ns ns.length).enc,o5,some (Tm.rpl o (ns.drop (ns.length - j)) (t.along ns (ns.length - j))).enc,o7]/\up G a (.lst ((List.range ns.length).map λ j=>(t.along ns j).enc))=G',⟨none,?_,rfl⟩,λ _ _ _ _ _=>trivial,?_,?_⟩
    . rw [Nat.sub_zero,List.drop_length];rfl
    . rintro j d ρ G' hd ⟨o7,rfl,rfl⟩
      obtain ⟨hj,rfl⟩:=iQq hd
      have hj':j < ns.length:=by omega
      rw [show ((ns.length:Nat):Int) - 1 - (j:Int)=((ns.length - 1 - j:Nat):Int) by omega]
      generalize hdd:ns.length - 1 - j=dd
      have hlt:dd < ns.length:=by omega
      rw [show ns.length - j=dd+1 by omega]
      have hk:ns[dd]?=some ns[dd]:=List.getElem?_eq_getElem hlt
      obtain ⟨k0,hin⟩:=Tm.along_step hu hk
      refine r7q a8q (d:=(t.along ns dd).enc) (bWq (by rw [List.getElem?_map,List.getElem?_range hlt];rfl)) (cQq (d:=.int ns[dd]) (bWq (by rw [List.getElem?_map,hk];rfl)) ?_)
      refine ⟨t.along ns dd,ns[dd].toNat,_,by rw [Int.toNat_of_nonneg k0],kVq hin,(List.getElem?_eq_some_iff.mp hin).1,Wk.of ⟨some (.int (dd:Nat)),?_,rfl⟩⟩
      have e:Tm.rpl o (ns.drop dd) (t.along ns dd)=(t.along ns dd).rebuild ((t.along ns dd).inn.set ns[dd].toNat (Tm.rpl o (ns.drop (dd+1)) (t.along ns (dd+1)))):=by
        rw [List.drop_eq_getElem_cons hlt,Tm.rpl,List.getD_eq_getElem?_getD,hin];rfl
      rw [show ns.length - (j+1)=dd by omega,e];rfl
    . rintro ρ G' ⟨o7,rfl,rfl⟩
      rw [iFq,show ns.length - (((ns.length:Nat):Int) - 1+1).toNat=0 by omega,List.drop_zero]
      exact ⟨G,Sub.new (Sub.refl _) ha,q⟩
abbrev hEq:Stmt:=top 28
theorem sc_comes:FnScope ["program", "word", "held"] ["program"] (a5q hEq):=⟨rfl,rfl,rfl,by decide +kernel,rfl,by decide +kernel,by decide +kernel⟩
theorem qNq {T T2:Addr} {pos pos2:Pos} (g_putin:Got P w K mg base 6 "put_in" ["program", "other"] (aQq K (sOq T pos T2 pos2))) (F:Fun K "comes_of" "comes_of" hEq f fd):FnOk P w K mg base CX0 7 f fd ["program"] (aQq K (jZq T pos T2 pos2)):=by
  refine okD (k:=6) F sc_comes (λ ds G DQ h=>?_) (λ cdv A outer s H E hr ds G DQ h=>?_)
  . obtain ⟨_,rfl,_⟩:=h;rfl
  obtain ⟨t,rfl,hr',hp,hT,q⟩:=h
  refine ⟨_,(a4q (aFq (k:=1) sc_comes.nd rfl (Or.inl rfl) (aDq aix (a1q 0) a2q (λ _ _=>rfl)))
      (a4q (aFq (k:=2) sc_comes.nd rfl (Or.inl rfl) (aDq aix (a1q 0) a2q (λ _ _=>rfl)))
      (a4q (aWq (aHq (aIq (aVq hr)) (a1q 1) aCq (aBq _)) (a7q (aAq (a6q g_putin hr (by omega) rfl (a0q (aDq aix (a1q 2) a2q (λ _ _=>rfl)) (a0q (aDq aix (a1q 0) a2q (λ _ _=>rfl)) a3q))))) aJq)
      (a4q (aWq (aHq (aIq (aVq hr)) (a1q 1) aCq (aBq _)) (a7q (aAq (aDq aix (a1q 2) a2q (λ _ _=>rfl)))) aJq)
      (a4q (aWq (aHq (aIq (aVq hr)) (a1q 1) aCq (aBq _)) (a7q (aAq (aDq aix (a1q 2) a2q (λ _ _=>rfl)))) aJq)
      (a4q (aWq (aHq (aIq (aVq hr)) (a1q 1) aCq (aBq _)) (a7q (aAq (aMq (a0q aCq (a0q (aGq aKq (aDq aix (a1q 2) a2q (λ _ _=>rfl)) (aDq aix (aDq aix (a1q 0) a2q (λ _ _=>rfl)) a2q (λ _ _=>rfl))) a3q))))) aJq)
      (a7q (aAq (dNq (aHq (aIq (aVq hr)) (aDq aix (a1q 2) a2q (λ _ _=>rfl)) a2q (aBq _)) (aDq aix (a1q 0) a2q (λ _ _=>rfl)) (aDq aix (a1q 0) a2q (λ _ _=>rfl))))))))))),?_⟩
  cases t with
  | give b a=>
    cases b with
    | way b=>exact Br.yes rfl ⟨b,a,rfl,hp.1,hp.2.1,hp.2.2.1,hp.2.2.2,hT.1,hT.2,Dr.of q⟩
    | _=>cases hr'
  | first a=>
    cases a with
    | pair a b=>exact Br.no rfl (Br.yes rfl (Dr.of q))
    | _=>cases hr'
  | second a=>
    cases a with
    | pair a b=>exact Br.no rfl (Br.no rfl (Br.yes rfl (Dr.of q)))
    | _=>cases hr'
  | plus a b=>
    cases a with
    | whole i=>
      cases b with
      | whole j=>exact Br.no rfl (Br.no rfl (Br.no rfl (Br.yes rfl (Dr.of q))))
      | _=>cases hr'
    | _=>cases hr'
  | look a b c=>
    cases a with
    | whole i=>
      refine Br.no rfl (Br.no rfl (Br.no rfl (Br.no rfl ⟨λ c=>?_,λ c=>?_⟩)))
      . have e:i=0:=by simpa using c
        have q':=q
        rw [show (Tm.look (.whole i) b _).comes=b from if_pos e] at q'
        exact Dr.of q'
      . have e:¬ i=0:=by simpa using c
        have q':=q
        rw [show (Tm.look (.whole i) b _).comes=_ from if_neg e] at q'
        exact Dr.of q'
    | _=>cases hr'
  | _=>cases hr'
abbrev nLq:Stmt:=top 21
theorem sc_atp:FnScope ["program", "place", "one", "k", "inners"] ["program", "place"] (a5q nLq):=⟨rfl,rfl,rfl,by decide +kernel,rfl,by decide +kernel,by decide +kernel⟩
theorem uNq (B:Blt mg) (g_inner:Got P w K mg base 1 "inner" ["program"] (aQq K (jOq Tm.enc Tm.inn))) (F:Fun K "at_place" "at_place" nLq f fd):FnOk P w K mg base CX0 2 f fd ["program", "place"] (aQq K q6q):=by
  refine okD (k:=1) F sc_atp (λ ds G DQ h=>?_) (λ cdv A outer s H E hr ds G DQ h=>?_)
  . obtain ⟨_,_,rfl,_⟩:=h;rfl
  obtain ⟨t,ns,rfl,q⟩:=h
  refine ⟨_,(a4q (aFq (k:=2) sc_atp.nd rfl (Or.inl rfl) (a1q 0))
      (a4q (f1q PassesOwn.never rfl (bYq (a1q 1)) (b8q (k:=3) sc_atp.nd rfl (Or.inl rfl)) (a4q (aFq (k:=4) sc_atp.nd rfl (Or.inl rfl) (a6q g_inner hr (by omega) rfl (a0q (a1q 2) a3q)))
      (a4q (aWq (AW.at (kXq (aHq c4q (a1q 3) a2q (aBq _)) (g6q (aHq iBq (a1q 3) (aXq bFq rfl B.len PySem.boot_len (a0q (a1q 4) a3q)) (aBq _))))) (a7q (aAq r8q)) aJq)
      (a7q (aFq (k:=2) sc_atp.nd rfl (Or.inl rfl) (aDq aix (a1q 4) (a1q 3) (λ _ _=>rfl)))))))
      (a7q (aAq (a1q 2))))),?_⟩
  refine ⟨λ i ρ G'=>∃ v o p,ρ=[some (Tm.enc t),some (plD ns),some (Tm.enc v),o,p]/\G'=G/\t.at (ns.take i)=some v,⟨t,_,_,rfl,rfl,rfl⟩,λ _ _ _ _ _=>trivial,?_,?_⟩
  . rintro i d ρ G' hd ⟨v,o,p,rfl,rfl,hv⟩
    have hd':(ns.map D.int)[i]?=some d:=hd
    rw [List.getElem?_map] at hd'
    cases e:ns[i]? with
    | none=>rw [e] at hd';cases hd'
    | some k=>
      rw [e] at hd';cases hd'
      have es:ns=ns.take i++k::ns.drop (i+1):=by
        obtain ⟨hi,e2⟩:=List.getElem?_eq_some_iff.mp e
        rw [<- e2,<- List.drop_eq_getElem_cons hi,List.take_append_drop]
      have eat:t.at ns=v.at (k::ns.drop (i+1)):=by
        have z:=d4q (k::ns.drop (i+1)) hv
        rw [<- es] at z;exact z
      have enext:t.at (ns.take (i+1))=v.at [k]:=by
        have z:=d4q [k] hv
        rw [List.take_add_one,e];exact z
      have non:v.at (k::ns.drop (i+1))=none->Dr DQ .non G':=λ z=>Dr.of (by rw [eat,z] at q;exact q)
      refine ⟨v,rfl,⟨λ c=>?_,λ c=>⟨λ c2=>?_,λ c2=>?_⟩⟩⟩
      . have c':k < 0:=by simpa using c
        exact Br.yes rfl (non (by rw [Tm.at,if_neg (by omega)]))
      . have c':(v.inn.map Tm.enc).length<=k:=by simpa using c2
        rw [List.length_map] at c'
        refine non ?_
        rw [Tm.at,if_pos (by omega),List.getElem?_eq_none (by omega)]
      . have c':¬ k < 0:=by simpa using c
        have c3:¬ ((v.inn.map Tm.enc).length:Int)<=k:=by simpa using c2
        rw [List.length_map] at c3
        have hk:k.toNat < v.inn.length:=by omega
        have h3:v.inn[k.toNat]?=some v.inn[k.toNat]:=List.getElem?_eq_getElem hk
        refine cQq (d:=(v.inn[k.toNat]).enc) ?_ (Wk.of ⟨_,_,_,rfl,rfl,?_⟩)
        . have z:=bWq (xs:=v.inn.map Tm.enc) (j:=k.toNat) (v:=(v.inn[k.toNat]).enc) (by rw [List.getElem?_map,h3];rfl)
          rwa [show ((k.toNat:Nat):Int)=k by omega] at z
        . rw [enext,Tm.at,if_pos (by omega),h3];rfl
  . rintro ρ G' ⟨v,o,p,rfl,rfl,hv⟩
    have e:(ns.map D.int).length=ns.length:=List.length_map ..
    have hv':t.at (ns.take (ns.map D.int).length)=some v:=hv
    rw [e,List.take_length] at hv'
    rw [hv'] at q
    exact Dr.of q
abbrev hIq:Stmt:=top 25
theorem sc_cango:FnScope ["program", "place", "one"] ["program", "place"] (a5q hIq):=⟨rfl,rfl,rfl,by decide +kernel,rfl,by decide +kernel,by decide +kernel⟩
theorem pMq (g_atp:Got P w K mg base 2 "at_place" ["program", "place"] (aQq K q6q)) (g_hasr:Got P w K mg base 1 "has_rule" ["program"] (aQq K (dTq Tm.hasRule))) (F:Fun K "can_go" "can_go" hIq f fd):FnOk P w K mg base CX0 3 f fd ["program", "place"] (aQq K dEq):=by
  refine okD (k:=2) F sc_cango (λ ds G DQ h=>?_) (λ cdv A outer s H E hr ds G DQ h=>?_)
  . obtain ⟨_,_,rfl,_⟩:=h;rfl
  obtain ⟨t,ns,rfl,q⟩:=h
  refine ⟨_,(a4q (aFq (k:=2) sc_cango.nd rfl (Or.inl rfl) (a6q g_atp hr (by omega) rfl (a0q (a1q 0) (a0q (a1q 1) a3q))))
      (a7q (aAq (bZq (bAq mRq (a1q 2) r8q (aBq _)) (c2q (a6q g_hasr hr (by omega) rfl (a0q (a1q 2) a3q))))))),?_⟩
  refine ⟨t,ns,rfl,?_⟩
  unfold Tm.rAt at q
  cases e:t.at ns with
  | none=>
    rw [e] at q
    exact ⟨nofun,λ _=>Dr.of q⟩
  | some u=>
    rw [e] at q
    show _/\_
    simp only [oEnc]
    rw [u.enc_eq]
    refine ⟨λ _=>⟨u,?_,Dr.of q⟩,nofun⟩
    rw [u.enc_eq]
abbrev kEq:Stmt:=top 27
theorem r1q:FnScope ["program", "place"] ["program", "place"] (a5q kEq):=⟨rfl,rfl,rfl,by decide +kernel,rfl,by decide +kernel,by decide +kernel⟩
theorem wIq {T T2:Addr} {pos pos2:Pos} (g_cango:Got P w K mg base 3 "can_go" ["program", "place"] (aQq K dEq)) (g_atp:Got P w K mg base 2 "at_place" ["program", "place"] (aQq K q6q)) (g_comes:Got P w K mg base 7 "comes_of" ["program"] (aQq K (jZq T pos T2 pos2))) (g_repl:Got P w K mg base 3 "replaced" ["program", "place", "other"] (aQq K oAq)) (F:Fun K "behind" "behind" kEq f fd):FnOk P w K mg base CX0 8 f fd ["program", "place"] (aQq K (sUq T pos T2 pos2)):=by
  refine okD (k:=7) F r1q (λ ds G DQ h=>?_) (λ cdv A outer s H E hr ds G DQ h=>?_)
  . obtain ⟨_,_,_,rfl,_⟩:=h;rfl
  obtain ⟨t,ns,u,rfl,hu,hr',hp,hl,hT,q⟩:=h
  refine ⟨_,(a4q (aWq (dKq (b6q (a6q g_cango hr (by omega) rfl (a0q (a1q 0) (a0q (a1q 1) a3q))))) (a7q s2q) aJq)
      (a7q (aAq (a6q g_repl hr (by omega) rfl (a0q (a1q 0) (a0q (a1q 1) (a0q (a6q g_comes hr (by omega) rfl (a0q (a6q g_atp hr (by omega) rfl (a0q (a1q 0) (a0q (a1q 1) a3q))) a3q)) a3q))))))),?_⟩
  refine ⟨t,ns,rfl,Br.no (by rw [h8q hu,hr'];rfl) ⟨t,ns,rfl,?_⟩⟩
  rw [hu]
  refine ⟨u,rfl,hr',hp,hT,t,ns,u,u.comes,rfl,hu,hl,Dr.of ?_⟩
  unfold Tm.behind at q
  rw [hu] at q
  exact q
theorem tQq {cNR:Addr} (EC:ExcC K cNR lNq "ValueError.__new__") (m_NoRule:mg "NoRule" = some (.ref cNR)) (g_cango:Got P w K mg base 3 "can_go" ["program", "place"] (aQq K dEq)) (F:Fun K "behind" "behind" kEq f fd):FnOk P w K mg base (CXR P w base) 8 f fd ["program", "place"] (x2q K cNR nAq):=by
  refine okDR (k:=7) F r1q (λ ds G W h=>?_) EC m_NoRule rfl (λ _ _ _ _ _ _=>rfl) (λ cdv A outer s H E hr ds G W h=>?_)
  . obtain ⟨_,_,rfl,_⟩:=h;rfl
  obtain ⟨t,ns,rfl,hn,q⟩:=h
  refine ⟨_,(dKq (b6q (a6q g_cango hr (by omega) rfl (a0q (a1q 0) (a0q (a1q 1) a3q))))),?_⟩
  refine ⟨t,ns,rfl,?_⟩
  rw [hn]
  exact ⟨rfl,q⟩
abbrev i0q:Stmt:=top 37
theorem sc_shift:FnScope ["_law_part", "_law_many", "_law_least", "_law_under"] ["_law_part", "_law_many", "_law_least"] (a5q i0q):=⟨rfl,rfl,rfl,by decide +kernel,rfl,by decide +kernel,by decide +kernel⟩
theorem qDq:FnOk P w K mg base CX0 1 f fd ["_law_part", "_law_many", "_law_least"] (aQq K (eYq 0)):=uFq λ ds G DQ h=>by
  obtain ⟨_,_,_,_,h,_⟩:=h;omega
theorem pNq {n:Nat} (B:Blt mg) (g_shift:Got P w K mg base (n+1) "_law_shift" ["_law_part", "_law_many", "_law_least"] (aQq K (eYq n))) (F:Fun K "_law_shift" "_law_shift" i0q f fd):FnOk P w K mg base CX0 (n+2) f fd ["_law_part", "_law_many", "_law_least"] (aQq K (eYq (n+1))):=by
  refine okD (k:=n+1) F sc_shift (λ ds G DQ h=>?_) (λ cdv A outer s H E hr ds G DQ h=>?_)
  . obtain ⟨_,_,_,rfl,_⟩:=h;rfl
  obtain ⟨t,m,l,rfl,hd,q⟩:=h
  refine ⟨_,(a4q (aWq (aHq (aIq (aVq hr)) (aDq aix (a1q 0) a2q (λ _ _=>rfl)) aCq (aBq _)) (a7q (aAq (a1q 0))) aJq)
      (a4q (aWq (aHq (aIq (aVq hr)) (aDq aix (a1q 0) a2q (λ _ _=>rfl)) aCq (aBq _)) (a7q (aAq (aMq (a0q aCq (a0q (aGq aKq (aDq aix (a1q 0) a2q (λ _ _=>rfl)) (aGq c1q (a1q 1) (bLq cDq rfl B.int PyProof.Rows.boot_int (a0q (bAq iBq (aDq aix (a1q 0) a2q (λ _ _=>rfl)) (a1q 2) (aBq _)) a3q)))) a3q))))) aJq)
      (a4q (aFq (k:=3) sc_shift.nd rfl (Or.inr rfl) (aGq aKq (a1q 2) (bLq cDq rfl B.int PyProof.Rows.boot_int (a0q (bAq (aIq (aVq hr)) (aDq aix (a1q 0) a2q (λ _ _=>rfl)) aCq (aBq _)) a3q))))
      (a7q (aAq (aGq aKq (aMq (a0q (aDq aix (a1q 0) a2q (λ _ _=>rfl)) a3q)) (ePq (bLq cWq rfl B.tuple PyProof.Rows.boot_tuple (a0q (dWq rfl (CompOk.of (N':=["_law_one", "_law_many", "_law_under"]) (nt:=1) (cap:=[1,3]) rfl (by kernel_rfl)) (b4q (k:=0) (by decide)) (bYq (bVq asl (a1q 0) (c8q a2q) c9q)) (λ _ _ _ _=>(b8q (k:=0) (show List.Nodup (["_law_one", "_law_many", "_law_under"]:List Str) by decide +kernel) rfl (Or.inl rfl))) (λ _ _ _ _=>(a6q g_shift hr (by omega) rfl (a0q (a1q 0) (a0q (a1q 1) (a0q (a1q 2) a3q)))))) a3q))))))))),?_⟩
  cases t with
  | whole k=>exact ⟨λ _=>Dr.of q,λ c=>absurd c (by decide)⟩
  | name k=>
    refine ⟨λ c=>absurd c (by decide),λ _=>⟨λ _=>⟨.inr ⟨?_,?_⟩,Dr.of ?_⟩,λ c=>absurd c (by decide)⟩⟩
    . split<;>decide
    . split<;>decide
    . have e:(Tm.mapN (b3q m 0) l (.name k)).enc=.tup [.str "name", .int ((k:Int)+m * (if decide ((l:Int)<=(k:Int))=true then 1 else 0))]:=by
        show (b3q m 0 k l).enc=_
        unfold b3q
        by_cases c:k ≥ l+0
        . rw [if_pos c,if_pos (by simp;omega)];simp [Tm.enc]
        . rw [if_neg c,if_neg (by simp;omega)];simp [Tm.enc]
      rw [e] at q
      exact q
  | way x1=>
    refine ⟨λ c=>absurd c (by decide),λ _=>⟨λ c=>absurd c (by decide),λ _=>?_⟩⟩
    refine b0q (Tm.inn (.way x1:Tm)) Tm.enc (λ u=>(u.mapN (b3q m 0) (Tm.wbl (.way x1:Tm) l)).enc) rfl (aUq (by have:=Tm.inn_len (.way x1:Tm);omega)) trivial (λ u hu R hR=>?_) (λ p hp=>?_)
    . have h1:=Tm.dp_inn hu
      exact ⟨u,m,Tm.wbl (.way x1:Tm) l,by simp [Tm.wbl,b5q],by omega,hR⟩
    . refine aRq a8q ⟨G,Sub.new (Sub.refl _) hp,small (by have:=Tm.inn_len (.way x1:Tm);simp only [List.length_map];show 1+_<=_;omega),Dr.of ?_⟩
      have e:=Tm.enc_rebuild (t:=(.way x1:Tm)) (cs:=(Tm.inn (.way x1:Tm)).map λ u=>u.mapN (b3q m 0) (Tm.wbl (.way x1:Tm) l)) rfl (by rw [List.length_map])
      rw [Tm.mapN_eq (t:=(.way x1:Tm)) rfl,e,List.map_map] at q
      exact q
  | give x1 x2=>
    refine ⟨λ c=>absurd c (by decide),λ _=>⟨λ c=>absurd c (by decide),λ _=>?_⟩⟩
    refine b0q (Tm.inn (.give x1 x2:Tm)) Tm.enc (λ u=>(u.mapN (b3q m 0) (Tm.wbl (.give x1 x2:Tm) l)).enc) rfl (aUq (by have:=Tm.inn_len (.give x1 x2:Tm);omega)) trivial (λ u hu R hR=>?_) (λ p hp=>?_)
    . have h1:=Tm.dp_inn hu
      exact ⟨u,m,Tm.wbl (.give x1 x2:Tm) l,by simp [Tm.wbl,b5q],by omega,hR⟩
    . refine aRq a8q ⟨G,Sub.new (Sub.refl _) hp,small (by have:=Tm.inn_len (.give x1 x2:Tm);simp only [List.length_map];show 1+_<=_;omega),Dr.of ?_⟩
      have e:=Tm.enc_rebuild (t:=(.give x1 x2:Tm)) (cs:=(Tm.inn (.give x1 x2:Tm)).map λ u=>u.mapN (b3q m 0) (Tm.wbl (.give x1 x2:Tm) l)) rfl (by rw [List.length_map])
      rw [Tm.mapN_eq (t:=(.give x1 x2:Tm)) rfl,e,List.map_map] at q
      exact q
  | pair x1 x2=>
    refine ⟨λ c=>absurd c (by decide),λ _=>⟨λ c=>absurd c (by decide),λ _=>?_⟩⟩
    refine b0q (Tm.inn (.pair x1 x2:Tm)) Tm.enc (λ u=>(u.mapN (b3q m 0) (Tm.wbl (.pair x1 x2:Tm) l)).enc) rfl (aUq (by have:=Tm.inn_len (.pair x1 x2:Tm);omega)) trivial (λ u hu R hR=>?_) (λ p hp=>?_)
    . have h1:=Tm.dp_inn hu
      exact ⟨u,m,Tm.wbl (.pair x1 x2:Tm) l,by simp [Tm.wbl,b5q],by omega,hR⟩
    . refine aRq a8q ⟨G,Sub.new (Sub.refl _) hp,small (by have:=Tm.inn_len (.pair x1 x2:Tm);simp only [List.length_map];show 1+_<=_;omega),Dr.of ?_⟩
      have e:=Tm.enc_rebuild (t:=(.pair x1 x2:Tm)) (cs:=(Tm.inn (.pair x1 x2:Tm)).map λ u=>u.mapN (b3q m 0) (Tm.wbl (.pair x1 x2:Tm) l)) rfl (by rw [List.length_map])
      rw [Tm.mapN_eq (t:=(.pair x1 x2:Tm)) rfl,e,List.map_map] at q
      exact q
  | first x1=>
    refine ⟨λ c=>absurd c (by decide),λ _=>⟨λ c=>absurd c (by decide),λ _=>?_⟩⟩
    refine b0q (Tm.inn (.first x1:Tm)) Tm.enc (λ u=>(u.mapN (b3q m 0) (Tm.wbl (.first x1:Tm) l)).enc) rfl (aUq (by have:=Tm.inn_len (.first x1:Tm);omega)) trivial (λ u hu R hR=>?_) (λ p hp=>?_)
    . have h1:=Tm.dp_inn hu
      exact ⟨u,m,Tm.wbl (.first x1:Tm) l,by simp [Tm.wbl,b5q],by omega,hR⟩
    . refine aRq a8q ⟨G,Sub.new (Sub.refl _) hp,small (by have:=Tm.inn_len (.first x1:Tm);simp only [List.length_map];show 1+_<=_;omega),Dr.of ?_⟩
      have e:=Tm.enc_rebuild (t:=(.first x1:Tm)) (cs:=(Tm.inn (.first x1:Tm)).map λ u=>u.mapN (b3q m 0) (Tm.wbl (.first x1:Tm) l)) rfl (by rw [List.length_map])
      rw [Tm.mapN_eq (t:=(.first x1:Tm)) rfl,e,List.map_map] at q
      exact q
  | second x1=>
    refine ⟨λ c=>absurd c (by decide),λ _=>⟨λ c=>absurd c (by decide),λ _=>?_⟩⟩
    refine b0q (Tm.inn (.second x1:Tm)) Tm.enc (λ u=>(u.mapN (b3q m 0) (Tm.wbl (.second x1:Tm) l)).enc) rfl (aUq (by have:=Tm.inn_len (.second x1:Tm);omega)) trivial (λ u hu R hR=>?_) (λ p hp=>?_)
    . have h1:=Tm.dp_inn hu
      exact ⟨u,m,Tm.wbl (.second x1:Tm) l,by simp [Tm.wbl,b5q],by omega,hR⟩
    . refine aRq a8q ⟨G,Sub.new (Sub.refl _) hp,small (by have:=Tm.inn_len (.second x1:Tm);simp only [List.length_map];show 1+_<=_;omega),Dr.of ?_⟩
      have e:=Tm.enc_rebuild (t:=(.second x1:Tm)) (cs:=(Tm.inn (.second x1:Tm)).map λ u=>u.mapN (b3q m 0) (Tm.wbl (.second x1:Tm) l)) rfl (by rw [List.length_map])
      rw [Tm.mapN_eq (t:=(.second x1:Tm)) rfl,e,List.map_map] at q
      exact q
  | plus x1 x2=>
    refine ⟨λ c=>absurd c (by decide),λ _=>⟨λ c=>absurd c (by decide),λ _=>?_⟩⟩
    refine b0q (Tm.inn (.plus x1 x2:Tm)) Tm.enc (λ u=>(u.mapN (b3q m 0) (Tm.wbl (.plus x1 x2:Tm) l)).enc) rfl (aUq (by have:=Tm.inn_len (.plus x1 x2:Tm);omega)) trivial (λ u hu R hR=>?_) (λ p hp=>?_)
    . have h1:=Tm.dp_inn hu
      exact ⟨u,m,Tm.wbl (.plus x1 x2:Tm) l,by simp [Tm.wbl,b5q],by omega,hR⟩
    . refine aRq a8q ⟨G,Sub.new (Sub.refl _) hp,small (by have:=Tm.inn_len (.plus x1 x2:Tm);simp only [List.length_map];show 1+_<=_;omega),Dr.of ?_⟩
      have e:=Tm.enc_rebuild (t:=(.plus x1 x2:Tm)) (cs:=(Tm.inn (.plus x1 x2:Tm)).map λ u=>u.mapN (b3q m 0) (Tm.wbl (.plus x1 x2:Tm) l)) rfl (by rw [List.length_map])
      rw [Tm.mapN_eq (t:=(.plus x1 x2:Tm)) rfl,e,List.map_map] at q
      exact q
  | look x1 x2 x3=>
    refine ⟨λ c=>absurd c (by decide),λ _=>⟨λ c=>absurd c (by decide),λ _=>?_⟩⟩
    refine b0q (Tm.inn (.look x1 x2 x3:Tm)) Tm.enc (λ u=>(u.mapN (b3q m 0) (Tm.wbl (.look x1 x2 x3:Tm) l)).enc) rfl (aUq (by have:=Tm.inn_len (.look x1 x2 x3:Tm);omega)) trivial (λ u hu R hR=>?_) (λ p hp=>?_)
    . have h1:=Tm.dp_inn hu
      exact ⟨u,m,Tm.wbl (.look x1 x2 x3:Tm) l,by simp [Tm.wbl,b5q],by omega,hR⟩
    . refine aRq a8q ⟨G,Sub.new (Sub.refl _) hp,small (by have:=Tm.inn_len (.look x1 x2 x3:Tm);simp only [List.length_map];show 1+_<=_;omega),Dr.of ?_⟩
      have e:=Tm.enc_rebuild (t:=(.look x1 x2 x3:Tm)) (cs:=(Tm.inn (.look x1 x2 x3:Tm)).map λ u=>u.mapN (b3q m 0) (Tm.wbl (.look x1 x2 x3:Tm) l)) rfl (by rw [List.length_map])
      rw [Tm.mapN_eq (t:=(.look x1 x2 x3:Tm)) rfl,e,List.map_map] at q
      exact q
abbrev m7q:Stmt:=top 38
theorem sc_put:FnScope ["_law_part", "_law_other", "_law_ways", "_law_under"] ["_law_part", "_law_other", "_law_ways"] (a5q m7q):=⟨rfl,rfl,rfl,by decide +kernel,rfl,by decide +kernel,by decide +kernel⟩
theorem xVq:FnOk P w K mg base CX0 41 f fd ["_law_part", "_law_other", "_law_ways"] (aQq K (iTq 0)):=uFq λ ds G DQ h=>by
  obtain ⟨_,_,_,_,h,_⟩:=h;omega
theorem uHq {n:Nat} (B:Blt mg) (hn:n<=60) (g_shift:Got P w K mg base 41 "_law_shift" ["_law_part", "_law_many", "_law_least"] (aQq K (eYq 40))) (g_put:Got P w K mg base (n+41) "_law_put" ["_law_part", "_law_other", "_law_ways"] (aQq K (iTq n))) (F:Fun K "_law_put" "_law_put" m7q f fd):FnOk P w K mg base CX0 (n+42) f fd ["_law_part", "_law_other", "_law_ways"] (aQq K (iTq (n+1))):=by
  refine okD (k:=n+41) F sc_put (λ ds G DQ h=>?_) (λ cdv A outer s H E hr ds G DQ h=>?_)
  . obtain ⟨_,_,_,rfl,_⟩:=h;rfl
  obtain ⟨t,v,l,rfl,hd,hdu,q⟩:=h
  refine ⟨_,(a4q (aWq (aHq (aIq (aVq hr)) (aDq aix (a1q 0) a2q (λ _ _=>rfl)) aCq (aBq _)) (a7q (aAq (a1q 0))) aJq)
      (a4q (aWq (aHq (aIq (aVq hr)) (aDq aix (a1q 0) a2q (λ _ _=>rfl)) aCq (aBq _)) (a4q (aWq (aHq (aIq (aVq hr)) (aDq aix (a1q 0) a2q (λ _ _=>rfl)) (a1q 2) (aBq _)) (a7q (aAq (a6q g_shift hr (by omega) rfl (a0q (a1q 1) (a0q (a1q 2) (a0q a2q a3q)))))) aJq)
      (a7q (aAq (aMq (a0q aCq (a0q (aGq aOq (aDq aix (a1q 0) a2q (λ _ _=>rfl)) (bLq cDq rfl B.int PyProof.Rows.boot_int (a0q (bAq j3q (aDq aix (a1q 0) a2q (λ _ _=>rfl)) (a1q 2) (aBq _)) a3q))) a3q)))))) aJq)
      (a4q (aFq (k:=3) sc_put.nd rfl (Or.inr rfl) (aGq aKq (a1q 2) (bLq cDq rfl B.int PyProof.Rows.boot_int (a0q (bAq (aIq (aVq hr)) (aDq aix (a1q 0) a2q (λ _ _=>rfl)) aCq (aBq _)) a3q))))
      (a7q (aAq (aGq aKq (aMq (a0q (aDq aix (a1q 0) a2q (λ _ _=>rfl)) a3q)) (ePq (bLq cWq rfl B.tuple PyProof.Rows.boot_tuple (a0q (dWq rfl (CompOk.of (N':=["_law_one", "_law_other", "_law_under"]) (nt:=1) (cap:=[1,3]) rfl (by kernel_rfl)) (b4q (k:=0) (by decide)) (bYq (bVq asl (a1q 0) (c8q a2q) c9q)) (λ _ _ _ _=>(b8q (k:=0) (show List.Nodup (["_law_one", "_law_other", "_law_under"]:List Str) by decide +kernel) rfl (Or.inl rfl))) (λ _ _ _ _=>(a6q g_put hr (by omega) rfl (a0q (a1q 0) (a0q (a1q 1) (a0q (a1q 2) a3q)))))) a3q))))))))),?_⟩
  cases t with
  | whole k=>exact ⟨λ _=>Dr.of q,λ c=>absurd c (by decide)⟩
  | name k=>
    have q0:DQ (d2q v k l).enc G:=q
    unfold d2q at q0
    refine ⟨λ c=>absurd c (by decide),λ _=>⟨λ _=>⟨λ c=>?_,λ c=>?_⟩,λ c=>absurd c (by decide)⟩⟩
    . have c1:(k:Int)=l:=by simpa using c
      have c':k=l:=by omega
      rw [if_pos c'] at q0
      exact ⟨v,l,0,rfl,hdu,Dr.of q0⟩
    . have c1:¬ (k:Int)=l:=by simpa using c
      have c':¬ k=l:=by omega
      rw [if_neg c'] at q0
      refine Dr.of ?_
      have e:(Tm.name (if l < k then k - 1 else k)).enc=.tup [.str "name", .int ((k:Int) - (if decide ((l:Int) < (k:Int))=true then 1 else 0))]:=by
        by_cases c:l < k
        . rw [if_pos c,if_pos (by simp;omega)];simp [Tm.enc];omega
        . rw [if_neg c,if_neg (by simp;omega)];simp [Tm.enc]
      rw [e] at q0
      exact q0
  | way x1=>
    refine ⟨λ c=>absurd c (by decide),λ _=>⟨λ c=>absurd c (by decide),λ _=>?_⟩⟩
    refine b0q (Tm.inn (.way x1:Tm)) Tm.enc (λ u=>(u.mapN (d2q v) (Tm.wbl (.way x1:Tm) l)).enc) rfl (aUq (by have:=Tm.inn_len (.way x1:Tm);omega)) trivial (λ u hu R hR=>?_) (λ p hp=>?_)
    . have h1:=Tm.dp_inn hu
      exact ⟨u,v,Tm.wbl (.way x1:Tm) l,by simp [Tm.wbl,b5q],by omega,hdu,hR⟩
    . refine aRq a8q ⟨G,Sub.new (Sub.refl _) hp,small (by have:=Tm.inn_len (.way x1:Tm);simp only [List.length_map];show 1+_<=_;omega),Dr.of ?_⟩
      have e:=Tm.enc_rebuild (t:=(.way x1:Tm)) (cs:=(Tm.inn (.way x1:Tm)).map λ u=>u.mapN (d2q v) (Tm.wbl (.way x1:Tm) l)) rfl (by rw [List.length_map])
      rw [Tm.mapN_eq (t:=(.way x1:Tm)) rfl,e,List.map_map] at q
      exact q
  | give x1 x2=>
    refine ⟨λ c=>absurd c (by decide),λ _=>⟨λ c=>absurd c (by decide),λ _=>?_⟩⟩
    refine b0q (Tm.inn (.give x1 x2:Tm)) Tm.enc (λ u=>(u.mapN (d2q v) (Tm.wbl (.give x1 x2:Tm) l)).enc) rfl (aUq (by have:=Tm.inn_len (.give x1 x2:Tm);omega)) trivial (λ u hu R hR=>?_) (λ p hp=>?_)
    . have h1:=Tm.dp_inn hu
      exact ⟨u,v,Tm.wbl (.give x1 x2:Tm) l,by simp [Tm.wbl,b5q],by omega,hdu,hR⟩
    . refine aRq a8q ⟨G,Sub.new (Sub.refl _) hp,small (by have:=Tm.inn_len (.give x1 x2:Tm);simp only [List.length_map];show 1+_<=_;omega),Dr.of ?_⟩
      have e:=Tm.enc_rebuild (t:=(.give x1 x2:Tm)) (cs:=(Tm.inn (.give x1 x2:Tm)).map λ u=>u.mapN (d2q v) (Tm.wbl (.give x1 x2:Tm) l)) rfl (by rw [List.length_map])
      rw [Tm.mapN_eq (t:=(.give x1 x2:Tm)) rfl,e,List.map_map] at q
      exact q
  | pair x1 x2=>
    refine ⟨λ c=>absurd c (by decide),λ _=>⟨λ c=>absurd c (by decide),λ _=>?_⟩⟩
    refine b0q (Tm.inn (.pair x1 x2:Tm)) Tm.enc (λ u=>(u.mapN (d2q v) (Tm.wbl (.pair x1 x2:Tm) l)).enc) rfl (aUq (by have:=Tm.inn_len (.pair x1 x2:Tm);omega)) trivial (λ u hu R hR=>?_) (λ p hp=>?_)
    . have h1:=Tm.dp_inn hu
      exact ⟨u,v,Tm.wbl (.pair x1 x2:Tm) l,by simp [Tm.wbl,b5q],by omega,hdu,hR⟩
    . refine aRq a8q ⟨G,Sub.new (Sub.refl _) hp,small (by have:=Tm.inn_len (.pair x1 x2:Tm);simp only [List.length_map];show 1+_<=_;omega),Dr.of ?_⟩
      have e:=Tm.enc_rebuild (t:=(.pair x1 x2:Tm)) (cs:=(Tm.inn (.pair x1 x2:Tm)).map λ u=>u.mapN (d2q v) (Tm.wbl (.pair x1 x2:Tm) l)) rfl (by rw [List.length_map])
      rw [Tm.mapN_eq (t:=(.pair x1 x2:Tm)) rfl,e,List.map_map] at q
      exact q
  | first x1=>
    refine ⟨λ c=>absurd c (by decide),λ _=>⟨λ c=>absurd c (by decide),λ _=>?_⟩⟩
    refine b0q (Tm.inn (.first x1:Tm)) Tm.enc (λ u=>(u.mapN (d2q v) (Tm.wbl (.first x1:Tm) l)).enc) rfl (aUq (by have:=Tm.inn_len (.first x1:Tm);omega)) trivial (λ u hu R hR=>?_) (λ p hp=>?_)
    . have h1:=Tm.dp_inn hu
      exact ⟨u,v,Tm.wbl (.first x1:Tm) l,by simp [Tm.wbl,b5q],by omega,hdu,hR⟩
    . refine aRq a8q ⟨G,Sub.new (Sub.refl _) hp,small (by have:=Tm.inn_len (.first x1:Tm);simp only [List.length_map];show 1+_<=_;omega),Dr.of ?_⟩
      have e:=Tm.enc_rebuild (t:=(.first x1:Tm)) (cs:=(Tm.inn (.first x1:Tm)).map λ u=>u.mapN (d2q v) (Tm.wbl (.first x1:Tm) l)) rfl (by rw [List.length_map])
      rw [Tm.mapN_eq (t:=(.first x1:Tm)) rfl,e,List.map_map] at q
      exact q
  | second x1=>
    refine ⟨λ c=>absurd c (by decide),λ _=>⟨λ c=>absurd c (by decide),λ _=>?_⟩⟩
    refine b0q (Tm.inn (.second x1:Tm)) Tm.enc (λ u=>(u.mapN (d2q v) (Tm.wbl (.second x1:Tm) l)).enc) rfl (aUq (by have:=Tm.inn_len (.second x1:Tm);omega)) trivial (λ u hu R hR=>?_) (λ p hp=>?_)
    . have h1:=Tm.dp_inn hu
      exact ⟨u,v,Tm.wbl (.second x1:Tm) l,by simp [Tm.wbl,b5q],by omega,hdu,hR⟩
    . refine aRq a8q ⟨G,Sub.new (Sub.refl _) hp,small (by have:=Tm.inn_len (.second x1:Tm);simp only [List.length_map];show 1+_<=_;omega),Dr.of ?_⟩
      have e:=Tm.enc_rebuild (t:=(.second x1:Tm)) (cs:=(Tm.inn (.second x1:Tm)).map λ u=>u.mapN (d2q v) (Tm.wbl (.second x1:Tm) l)) rfl (by rw [List.length_map])
      rw [Tm.mapN_eq (t:=(.second x1:Tm)) rfl,e,List.map_map] at q
      exact q
  | plus x1 x2=>
    refine ⟨λ c=>absurd c (by decide),λ _=>⟨λ c=>absurd c (by decide),λ _=>?_⟩⟩
    refine b0q (Tm.inn (.plus x1 x2:Tm)) Tm.enc (λ u=>(u.mapN (d2q v) (Tm.wbl (.plus x1 x2:Tm) l)).enc) rfl (aUq (by have:=Tm.inn_len (.plus x1 x2:Tm);omega)) trivial (λ u hu R hR=>?_) (λ p hp=>?_)
    . have h1:=Tm.dp_inn hu
      exact ⟨u,v,Tm.wbl (.plus x1 x2:Tm) l,by simp [Tm.wbl,b5q],by omega,hdu,hR⟩
    . refine aRq a8q ⟨G,Sub.new (Sub.refl _) hp,small (by have:=Tm.inn_len (.plus x1 x2:Tm);simp only [List.length_map];show 1+_<=_;omega),Dr.of ?_⟩
      have e:=Tm.enc_rebuild (t:=(.plus x1 x2:Tm)) (cs:=(Tm.inn (.plus x1 x2:Tm)).map λ u=>u.mapN (d2q v) (Tm.wbl (.plus x1 x2:Tm) l)) rfl (by rw [List.length_map])
      rw [Tm.mapN_eq (t:=(.plus x1 x2:Tm)) rfl,e,List.map_map] at q
      exact q
  | look x1 x2 x3=>
    refine ⟨λ c=>absurd c (by decide),λ _=>⟨λ c=>absurd c (by decide),λ _=>?_⟩⟩
    refine b0q (Tm.inn (.look x1 x2 x3:Tm)) Tm.enc (λ u=>(u.mapN (d2q v) (Tm.wbl (.look x1 x2 x3:Tm) l)).enc) rfl (aUq (by have:=Tm.inn_len (.look x1 x2 x3:Tm);omega)) trivial (λ u hu R hR=>?_) (λ p hp=>?_)
    . have h1:=Tm.dp_inn hu
      exact ⟨u,v,Tm.wbl (.look x1 x2 x3:Tm) l,by simp [Tm.wbl,b5q],by omega,hdu,hR⟩
    . refine aRq a8q ⟨G,Sub.new (Sub.refl _) hp,small (by have:=Tm.inn_len (.look x1 x2 x3:Tm);simp only [List.length_map];show 1+_<=_;omega),Dr.of ?_⟩
      have e:=Tm.enc_rebuild (t:=(.look x1 x2 x3:Tm)) (cs:=(Tm.inn (.look x1 x2 x3:Tm)).map λ u=>u.mapN (d2q v) (Tm.wbl (.look x1 x2 x3:Tm) l)) rfl (by rw [List.length_map])
      rw [Tm.mapN_eq (t:=(.look x1 x2 x3:Tm)) rfl,e,List.map_map] at q
      exact q
abbrev jWq:Stmt:=top 39
theorem tIq:FnScope ["_law_part"] ["_law_part"] (a5q jWq):=⟨rfl,rfl,rfl,by decide +kernel,rfl,by decide +kernel,by decide +kernel⟩
theorem t7q (B:Blt mg) (g_put:Got P w K mg base 81 "_law_put" ["_law_part", "_law_other", "_law_ways"] (aQq K (iTq 40))) (F:Fun K "_law_rule" "_law_rule" jWq f fd):FnOk P w K mg base CX0 82 f fd ["_law_part"] (aQq K jVq):=by
  refine okD (k:=81) F tIq (λ ds G DQ h=>?_) (λ cdv A outer s H E hr ds G DQ h=>?_)
  . obtain ⟨_,rfl,_⟩:=h;rfl
  obtain ⟨t,rfl,hr',hd,q⟩:=h
  refine ⟨_,(a4q (aWq (aHq (aIq (aVq hr)) (aDq aix (a1q 0) a2q (λ _ _=>rfl)) aCq (aBq _)) (a7q (aAq (a6q g_put hr (by omega) rfl (a0q (aDq aix (aDq aix (a1q 0) a2q (λ _ _=>rfl)) a2q (λ _ _=>rfl)) (a0q (aDq aix (a1q 0) a2q (λ _ _=>rfl)) (a0q a2q a3q)))))) aJq)
      (a4q (aWq (aHq (aIq (aVq hr)) (aDq aix (a1q 0) a2q (λ _ _=>rfl)) aCq (aBq _)) (a7q (aAq (aDq aix (aDq aix (a1q 0) a2q (λ _ _=>rfl)) a2q (λ _ _=>rfl)))) aJq)
      (a4q (aWq (aHq (aIq (aVq hr)) (aDq aix (a1q 0) a2q (λ _ _=>rfl)) aCq (aBq _)) (a7q (aAq (aDq aix (aDq aix (a1q 0) a2q (λ _ _=>rfl)) a2q (λ _ _=>rfl)))) aJq)
      (a4q (aWq (aHq (aIq (aVq hr)) (aDq aix (a1q 0) a2q (λ _ _=>rfl)) aCq (aBq _)) (a7q (aAq (aMq (a0q aCq (a0q (aGq aKq (aDq aix (aDq aix (a1q 0) a2q (λ _ _=>rfl)) a2q (λ _ _=>rfl)) (aDq aix (aDq aix (a1q 0) a2q (λ _ _=>rfl)) a2q (λ _ _=>rfl))) a3q))))) aJq)
      (a7q (aAq (aDq aix (a1q 0) (aGq aKq a2q (bLq cDq rfl B.int PyProof.Rows.boot_int (a0q (bAq (rFq (aVq hr)) (aDq aix (aDq aix (a1q 0) a2q (λ _ _=>rfl)) a2q (λ _ _=>rfl)) a2q (aBq _)) a3q))) (λ _ _=>rfl)))))))),?_⟩
  cases t with
  | give b a=>
    cases b with
    | way b=>exact Br.yes rfl ⟨b,a,0,rfl,by simp only [Tm.dp] at hd;omega,by simp only [Tm.dp] at hd;omega,Dr.of q⟩
    | _=>cases hr'
  | first a=>
    cases a with
    | pair a b=>exact Br.no rfl (Br.yes rfl (Dr.of q))
    | _=>cases hr'
  | second a=>
    cases a with
    | pair a b=>exact Br.no rfl (Br.no rfl (Br.yes rfl (Dr.of q)))
    | _=>cases hr'
  | plus a b=>
    cases a with
    | whole i=>
      cases b with
      | whole j=>exact Br.no rfl (Br.no rfl (Br.no rfl (Br.yes rfl (Dr.of q))))
      | _=>cases hr'
    | _=>cases hr'
  | look a b c=>
    cases a with
    | whole i=>
      refine Br.no rfl (Br.no rfl (Br.no rfl (Br.no rfl ?_)))
      have q':=q
      by_cases e:i=0
      . rw [show (Tm.look (.whole i) b c).comes=b from if_pos e] at q'
        refine cQq (d:=b.enc) ?_ (Dr.of q')
        subst e;rfl
      . rw [show (Tm.look (.whole i) b c).comes=c from if_neg e] at q'
        refine cQq (d:=c.enc) ?_ (Dr.of q')
        rw [show (i==0)=false by simpa using e];rfl
    | _=>cases hr'
  | _=>cases hr'
abbrev dSq:Stmt:=top 40
theorem sc_changed:FnScope ["_law_program", "_law_place", "_law_other", "_law_k"] ["_law_program", "_law_place", "_law_other"] (a5q dSq):=⟨rfl,rfl,rfl,by decide +kernel,rfl,by decide +kernel,by decide +kernel⟩
theorem lKq:FnOk P w K mg base CX0 1 f fd ["_law_program", "_law_place", "_law_other"] (aQq K (cFq 0)):=uFq λ ds G DQ h=>by
  obtain ⟨_,_,_,_,_,_,h,_⟩:=h;omega
theorem lTq {n:Nat} (g_changed:Got P w K mg base (n+1) "_law_changed" ["_law_program", "_law_place", "_law_other"] (aQq K (cFq n))) (F:Fun K "_law_changed" "_law_changed" dSq f fd):FnOk P w K mg base CX0 (n+2) f fd ["_law_program", "_law_place", "_law_other"] (aQq K (cFq (n+1))):=by
  refine okD (k:=n+1) F sc_changed (λ ds G DQ h=>?_) (λ cdv A outer s H E hr ds G DQ h=>?_)
  . obtain ⟨_,_,_,_,rfl,_⟩:=h;rfl
  obtain ⟨t,ns,u,o,rfl,hu,hl,hn,q⟩:=h
  refine ⟨_,(a4q (aWq (aHq (aIq (aVq hr)) (a1q 1) (aMq a3q) (aBq _)) (a7q (aAq (a1q 2))) aJq)
      (a4q (aFq (k:=3) sc_changed.nd rfl (Or.inl rfl) (aGq aKq a2q (aDq aix (a1q 1) a2q (λ _ _=>rfl))))
      (a7q (aAq (aGq aKq (aGq aKq (bVq asl (a1q 0) c9q (c8q (a1q 3))) (aMq (a0q (a6q g_changed hr (by omega) rfl (a0q (aDq aix (a1q 0) (a1q 3) (λ _ _=>rfl)) (a0q (bVq asl (a1q 1) (c8q a2q) c9q) (a0q (a1q 2) a3q)))) a3q))) (bVq asl (a1q 0) (c8q (aGq aKq (a1q 3) a2q)) c9q)))))),?_⟩
  cases ns with
  | nil=>exact nDq rfl rfl (by show 1<=150;omega) ⟨λ _=>Dr.of q,λ c=>absurd c (by decide)⟩
  | cons k ns=>
    obtain ⟨h0,x,h1,h2⟩:=Tm.at_cons hu
    refine nDq (pUq (k::ns)) rfl (wBq (k::ns)) ⟨λ c=>absurd c (by rw [lUq];simp),λ _=>?_⟩
    have elf:=kVq h1
    have hil:=t.inn_len
    obtain ⟨kn,rfl⟩:∃ kn:Nat,k=kn:=⟨k.toNat,by omega⟩
    rw [Int.toNat_natCast] at h1
    have hk:kn < t.inn.length:=(List.getElem?_eq_some_iff.mp h1).1
    have hl2:ns.length < n:=by simpa using hl
    rw [Tm.rpl,Int.toNat_natCast,List.getD_eq_getElem?_getD,h1,Option.getD_some,Tm.enc_rebuild elf (List.length_set ..)] at q
    rw [Tm.enc_node elf]
    have hm:(D.str t.word::t.inn.map Tm.enc).length=t.inn.length+1:=by simp
    have e0:(1:Int)+(kn:Int)=((kn+1:Nat):Int):=by omega
    have c1:cut (D.str t.word::t.inn.map Tm.enc) none (some ((1:Int)+(kn:Int)))=(D.str t.word::t.inn.map Tm.enc).take (kn+1):=by rw [e0];exact rNq (by omega)
    have c2:cut (D.str t.word::t.inn.map Tm.enc) (some ((1:Int)+(kn:Int)+1)) none=(D.str t.word::t.inn.map Tm.enc).drop (kn+2):=by rw [e0];exact h4q (by omega)
    have c3:cut (D.int kn::ns.map D.int) (some 1) none=ns.map D.int:=h4q (k:=0) (by simp)
    have e1:((D.str t.word::t.inn.map Tm.enc).take (kn+1)).length<=4:=by rw [List.length_take,hm];omega
    have e2:((D.str t.word::t.inn.map Tm.enc).drop (kn+2)).length<=4:=by rw [List.length_drop,hm];omega
    have ea:atI (D.str t.word::t.inn.map Tm.enc) ((1:Int)+(kn:Int))=some x.enc:=by
      rw [e0];exact bWq (by rw [List.getElem?_cons_succ,List.getElem?_map,h1];rfl)
    conv=>whnf
    rw [show atN (D.str t.word::t.inn.map Tm.enc) ((1:Int)+(kn:Int))=some x.enc from (oRq _ _).trans ea]
    refine ⟨x,ns,u,o,?_,h2,hl2,by omega,small ?_,small ?_,Dr.of ?_⟩
    . show [x.enc,D.tup (cut (D.int kn::ns.map D.int) (some 1) none),o.enc]=_
      rw [c3];rfl
    . rw [c1];simp only [List.length_cons,List.length_nil];omega
    . rw [c1,c2];simp only [List.length_append,List.length_cons,List.length_nil];omega
    . rw [c1,c2]
      have z:(t.inn.set kn (Tm.rpl o ns x)).map Tm.enc=(t.inn.map Tm.enc).take kn++(Tm.rpl o ns x).enc::(t.inn.map Tm.enc).drop (kn+1):=by
        rw [List.map_set,List.set_eq_take_append_cons_drop,if_pos (by rw [List.length_map];omega)]
      rw [z] at q
      simpa using q
abbrev e2q:Stmt:=top 44
theorem sc_refused:FnScope ["_law_program", "_law_place", "_law_right", "e"] ["_law_program", "_law_place"] (a5q e2q):=⟨rfl,rfl,rfl,by decide +kernel,rfl,by decide +kernel,by decide +kernel⟩
theorem l9q {cNR cBE c1 c2 c3 c4 c5 c6 c7:Addr} (B:Blt mg) (EC_NoRule:ExcC K cNR lNq "ValueError.__new__") (FK_NoRule:ExcK K cNR) (m_NoRule:mg "NoRule" = some (.ref cNR)) (m_BagError:mg "BagError" = some (.ref cBE))
    (m_NoText:mg "NoText" = some (.ref c1)) (m_NoName:mg "NoName" = some (.ref c2)) (m_NoPaper:mg "NoPaper" = some (.ref c3)) (m_NoFit:mg "NoFit" = some (.ref c4)) (m_NoData:mg "NoData" = some (.ref c5)) (m_NoRoom:mg "NoRoom" = some (.ref c6)) (m_NoRow:mg "NoRow" = some (.ref c7))
 (k1:PySem.W.kitOne K (.ref cNR) (.ref cBE)=some true) (k2:PySem.W.kitOne K (.ref cNR) (.type "ValueError")=some true) (k3:PySem.W.kitAny K (.ref cNR) [.ref c1,.ref c2,.ref c3,.ref c4,.ref c5,.ref c6,.ref c7]=some false)
    (G_beh:GotR P w K mg base 8 "behind" ["program", "place"] (x2q K cNR nAq)) (F:Fun K "_law_refused" "_law_refused" e2q f fd):FnOk P w K mg base CX0 9 f fd ["_law_program", "_law_place"] (aQq K eUq):=by
  refine okD (k:=8) F sc_refused (λ ds G DQ h=>?_) (λ cdv A outer s H E hr ds G DQ h=>?_)
  . obtain ⟨_,_,rfl,_⟩:=h;rfl
  obtain ⟨t,ns,rfl,hn,q⟩:=h
  refine ⟨_,(a4q (aFq (k:=2) sc_refused.nd rfl (Or.inl rfl) fLq)
      (a4q (xIq (i:=3) G_beh hr (by omega) rfl (λ _=>(a0q (a1q 0) (a0q (a1q 1) a3q))) EC_NoRule rfl m_NoRule rfl rfl rfl sc_refused.nd rfl rfl (λ _ _ hc_=>(a4q (aFq (k:=2) sc_refused.nd rfl (Or.inl rfl) (bZq (aXq (f6q FK_NoRule hc_) rfl B.isinstance PyProof.Rows.boot_isinstance (a0q (a1q 3) (a0q (cEq (d:=.ref _) (v:=.ref _) rfl m_BagError rfl (λ _=>rfl)) a3q))) (c2q (aXq (f6q FK_NoRule hc_) rfl B.isinstance PyProof.Rows.boot_isinstance (a0q (a1q 3) (a0q (c0q rfl B.ValueError sKq) a3q))))))
      (a7q (aFq (k:=2) sc_refused.nd rfl (Or.inl rfl) (bZq (a1q 2) (c2q (rOq (aXq (f6q FK_NoRule hc_) rfl B.isinstance PyProof.Rows.boot_isinstance (a0q (a1q 3) (a0q (aMq (a0q (cEq (d:=.ref _) (v:=.ref _) rfl m_NoText rfl (λ _=>rfl)) (a0q (cEq (d:=.ref _) (v:=.ref _) rfl m_NoName rfl (λ _=>rfl)) (a0q (cEq (d:=.ref _) (v:=.ref _) rfl m_NoPaper rfl (λ _=>rfl)) (a0q (cEq (d:=.ref _) (v:=.ref _) rfl m_NoFit rfl (λ _=>rfl)) (a0q (cEq (d:=.ref _) (v:=.ref _) rfl m_NoData rfl (λ _=>rfl)) (a0q (cEq (d:=.ref _) (v:=.ref _) rfl m_NoRoom rfl (λ _=>rfl)) (a0q (cEq (d:=.ref _) (v:=.ref _) rfl m_NoRow rfl (λ _=>rfl)) a3q)))))))) a3q)))))))))))
      (a7q (aAq (a1q 2))))),?_⟩
  refine ⟨λ G'=>G'=G,⟨t,ns,rfl,hn,rfl⟩,λ e G2 hG he=>?_⟩
  subst hG
  refine mNq (b:=true) k1 ⟨λ _=>mNq (b:=true) k2 ⟨λ _=>mNq (b:=false) k3 ?_,nofun⟩,nofun⟩
  exact Dr.of q
abbrev dZq:Stmt:=top 45
theorem sc_answers:FnScope ["_law_program", "_law_place", "_law_can_here", "_law_found"] ["_law_program", "_law_place", "_law_can_here"] (a5q dZq):=⟨rfl,rfl,rfl,by decide +kernel,rfl,by decide +kernel,by decide +kernel⟩
theorem l7q (B:Blt mg) (g_cango:Got P w K mg base 3 "can_go" ["program", "place"] (aQq K dEq)) (F:Fun K "_law_answers" "_law_answers" dZq f fd):FnOk P w K mg base CX0 4 f fd ["_law_program", "_law_place", "_law_can_here"] (aQq K fUq):=by
  refine okD (k:=3) F sc_answers (λ ds G DQ h=>?_) (λ cdv A outer s H E hr ds G DQ h=>?_)
  . obtain ⟨_,_,rfl,_⟩:=h;rfl
  obtain ⟨t,ns,rfl,q⟩:=h
  refine ⟨_,(a4q (aFq (k:=3) sc_answers.nd rfl (Or.inl rfl) (a6q g_cango hr (by omega) rfl (a0q (a1q 0) (a0q (a1q 1) a3q))))
      (a7q (aAq (bZq (aXq bNq rfl B.isinstance PyProof.Rows.boot_isinstance (a0q (a1q 3) (a0q (c0q rfl B.bool PyProof.Rows.boot_bool) a3q))) (c2q (bAq (aIq (aVq hr)) (a1q 3) (a1q 2) (aBq _))))))),?_⟩
  refine ⟨t,ns,rfl,true,rfl,λ _=>?_,nofun⟩
  refine nDq rfl rfl (by simp [D.dp]) (Dr.of ?_)
  rw [hQq rfl];exact q
abbrev gFq:Stmt:=top 46
theorem sc_law:FnScope ["_law_script", "_law_feed_here", "_law_room", "_law_program", "_law_place", "_law_part", "_law_last", "_law_far"] ["_law_script"] (a5q gFq):=⟨rfl,rfl,rfl,by decide +kernel,rfl,by decide +kernel,by decide +kernel⟩
theorem wNq {T T2:Addr} {pos pos2:Pos} (B:Blt mg) (g_feed:Got P w K mg base 1 "_law_feed" ["_law_script", "_law_k"] (aQq K iXq)) (g_take:Got P w K mg base 1 "_law_take" ["_law_feed_here", "_law_many"] (aQq K e5q)) (g_any:Got P w K mg base 62 "_law_any" ["_law_feed_here", "_law_many", "_law_room", "_law_deep"] (aQq K (hCq 29))) (g_places:Got P w K mg base 41 "_law_places" ["_law_program"] (aQq K (d3q 40)))
    (g_at:Got P w K mg base 1 "_law_at" ["_law_program", "_law_place"] (aQq K zXq)) (g_can:Got P w K mg base 1 "_law_can" ["_law_part"] (aQq K (dTq Tm.hasRule))) (g_answers:Got P w K mg base 4 "_law_answers" ["_law_program", "_law_place", "_law_can_here"] (aQq K fUq)) (g_refused:Got P w K mg base 9 "_law_refused" ["_law_program", "_law_place"] (aQq K eUq))
    (g_beh:Got P w K mg base 8 "behind" ["program", "place"] (aQq K (sUq T pos T2 pos2))) (g_rule:Got P w K mg base 82 "_law_rule" ["_law_part"] (aQq K jVq)) (g_changed:Got P w K mg base 41 "_law_changed" ["_law_program", "_law_place", "_law_other"] (aQq K (cFq 40))) (g_alike:Got P w K mg base 101 "_law_alike" ["_law_found", "_law_due"] (aQq K (fMq 100)))
    (F:Fun K "law" "law" gFq f fd):FnOk P w K mg base CX0 117 f fd ["_law_script"] (aQq K (eZq [(T,pos,"lifted.<locals>.moved"),(T2,pos2,"put_in.<locals>.taken")])):=by
  refine okD (k:=116) F sc_law (λ ds G DQ h=>?_) (λ cdv A outer s H E hr ds G DQ h=>?_)
  . obtain ⟨_,rfl,_⟩:=h;rfl
  obtain ⟨ns,rfl,hl,hTs,q⟩:=h
  have hT:G T=some (.tab pos "lifted.<locals>.moved"):=hTs _ (List.mem_cons_self ..)
  have hT2:G T2=some (.tab pos2 "put_in.<locals>.taken"):=hTs _ (List.mem_cons_of_mem _ (List.mem_cons_self ..))
  refine ⟨_,(a4q (aFq (k:=1) sc_law.nd rfl (Or.inl rfl) (a6q g_feed hr (by omega) rfl (a0q (a1q 0) (a0q a2q a3q))))
      (a4q (aFq (k:=2) sc_law.nd rfl (Or.inl rfl) (aGq aKq a2q (a6q g_take hr (by omega) rfl (a0q (a1q 1) (a0q a2q a3q)))))
      (a4q (aWq (aHq (aIq (aVq hr)) (a6q g_take hr (by omega) rfl (a0q (a1q 1) (a0q a2q a3q))) a2q (aBq _)) (a7q (aFq (k:=2) sc_law.nd rfl (Or.inl rfl) a2q)) aJq)
      (a4q (aFq (k:=3) sc_law.nd rfl (Or.inl rfl) (a6q g_any hr (by omega) rfl (a0q (a1q 1) (a0q a2q (a0q (a1q 2) (a0q a2q a3q))))))
      (a4q (f1q PassesOwn.never rfl (bYq (a6q g_places hr (by omega) rfl (a0q (a1q 3) a3q))) (b8q (k:=4) sc_law.nd rfl (Or.inl rfl)) (a4q (aFq (k:=5) sc_law.nd rfl (Or.inl rfl) (a6q g_at hr (by omega) rfl (a0q (a1q 3) (a0q (a1q 4) a3q))))
      (a4q (aWq (dKq (b6q (a6q g_answers hr (by omega) rfl (a0q (a1q 3) (a0q (a1q 4) (a0q (a6q g_can hr (by omega) rfl (a0q (a1q 5) a3q)) a3q)))))) (a7q (aAq fLq)) aJq)
      (a7q (aWq (dKq (b6q (a6q g_can hr (by omega) rfl (a0q (a1q 5) a3q)))) (a7q (aWq (dKq (b6q (a6q g_refused hr (by omega) rfl (a0q (a1q 3) (a0q (a1q 4) a3q))))) (a7q (aAq fLq)) aJq)) (a7q (aWq (dKq (b6q (a6q g_alike hr (by omega) rfl (a0q (a6q g_beh hr (by omega) rfl (a0q (a1q 3) (a0q (a1q 4) a3q))) (a0q (a6q g_changed hr (by omega) rfl (a0q (a1q 3) (a0q (a1q 4) (a0q (a6q g_rule hr (by omega) rfl (a0q (a1q 5) a3q)) a3q)))) a3q))))) (a7q (aAq fLq)) aJq)))))))
      (a4q (aFq (k:=6) sc_law.nd rfl (Or.inl rfl) (aGq aKq (aDq aix (a6q g_places hr (by omega) rfl (a0q (a1q 3) a3q)) (qTq hSq a2q) (λ _ _=>rfl)) (aMq (a0q (a6q g_take hr (by omega) rfl (a0q (a1q 1) (a0q a2q a3q))) a3q))))
      (a4q (aFq (k:=7) sc_law.nd rfl (Or.inl rfl) (aMq (a0q (aGq aKq a2q (a6q g_take hr (by omega) rfl (a0q (a1q 1) (a0q a2q a3q)))) a3q)))
      (a4q (aWq (AW.at (kXq (dKq (b6q (a6q g_refused hr (by omega) rfl (a0q (a1q 3) (a0q (a1q 6) a3q))))) (g6q (dKq (b6q (a6q g_refused hr (by omega) rfl (a0q (a1q 3) (a0q (a1q 7) a3q)))))))) (a7q (aAq fLq)) aJq)
      (a7q (aAq (bZq (a6q g_answers hr (by omega) rfl (a0q (a1q 3) (a0q (a1q 6) (a0q fLq a3q)))) (c2q (a6q g_answers hr (by omega) rfl (a0q (a1q 3) (a0q (a1q 7) (a0q fLq a3q)))))))))))))))),?_⟩
  refine ⟨ns,rfl,hl,by omega,by omega,λ a xa ya ha=>?_⟩
  have hTa:T≠a:=by rintro rfl;rw [ha] at hT;cases hT
  have hTa2:T2≠a:=by rintro rfl;rw [ha] at hT2;cases hT2
  refine ⟨.up,by decide,by decide,λ d G1 u1 d0 d1=>⟨u1.fd,by decide,by decide,λ d2 G2 u2 e0 e1=>?_⟩⟩
  refine ⟨λ _=>⟨u2.fd,by decide,by decide,by decide,by decide,by decide,λ t G3 u3 z=>?one⟩,λ _=>⟨u2.fd,by decide,by decide,by omega,by decide,by decide,λ t G3 u3 z=>?two⟩⟩
  case one | two=>
    have z1:t.sz<=60:=by have:=z.sz;omega
    have z2:t.dp<=28:=by have:=z.dp;omega
    have hG1:=(u1.trans u2).trans u3
    have hT':G3 T=some (.tab pos "lifted.<locals>.moved"):=hG1.kp hTa (by rw [aZq hTa];exact hT)
    have hT2':G3 T2=some (.tab pos2 "put_in.<locals>.taken"):=hG1.kp hTa2 (by rw [aZq hTa2];exact hT2)
    have hfd:=u3.fd
    clear u3 u2 u1 hG1
    refine ⟨t,rfl,by omega,by omega,λ l1 h1=>dQq a8q ?_⟩
    refine ⟨λ i ρ G'=>∃ (o4 o5:Option D) (o2:D),ρ=[some (.frl (ns.map D.int)),some (.ref a),some o2,some t.enc,o4,o5,none,none]/\G'=up G3 l1 (.lst (t.all.map λ z=>plD z.1)),⟨_,_,_,rfl,rfl⟩,λ i ρ G' _ ⟨_,_,_,_,e⟩=>by rw [e];exact a8q,?_,?_⟩
    . rintro i d3 ρ G' hd ⟨o4,o5,o2,rfl,rfl⟩
      have hd':(t.all.map λ z=>plD z.1)[i]?=some d3:=hd
      rw [List.getElem?_map] at hd'
      cases ez:t.all[i]? with
      | none=>rw [ez] at hd';cases hd'
      | some zz=>
        rw [ez] at hd';cases hd'
        obtain ⟨hz,hzl⟩:=Tm.all_at (Nat.le_refl _) (List.mem_of_getElem? ez)
        obtain ⟨hzd,hzs⟩:=vTq zz.1 hz
        have hTT:Tabs2 T pos T2 pos2 (up G3 l1 (.lst (t.all.map λ z=>plD z.1))):=Tabs2.new ⟨hT',hT2'⟩ h1
        refine ⟨t,zz.1,zz.2,rfl,hz,zz.2,rfl,t,zz.1,by rw [h8q hz],Br.no rfl ⟨zz.2,rfl,⟨λ c=>?_,λ c=>?_⟩⟩⟩
        . have c':zz.2.hasRule=false:=by simpa using c
          exact ⟨t,zz.1,rfl,by rw [h8q hz,c'],Br.no rfl (Wk.of ⟨_,_,o2,rfl,rfl⟩)⟩
        . have c':zz.2.hasRule=true:=by simpa using c
          refine ⟨t,zz.1,zz.2,rfl,hz,c',qKq (by omega),by omega,hTT,zz.2,rfl,c',by omega,t,zz.1,zz.2,zz.2.comes,rfl,hz,by omega,by omega,(t.behind zz.1).enc,?_,Tm.plain_enc _,?_,Br.no rfl (Wk.of ⟨_,_,o2,rfl,rfl⟩)⟩
          . unfold Tm.behind;rw [hz]
          . rw [Tm.enc_dp]
            have:=m1q hz c'
            omega
    . rintro ρ G' ⟨o4,o5,o2,rfl,rfl⟩
      obtain ⟨r,zz,ea,hlf⟩:=kUq t.sz t (Nat.le_refl _)
      have hz:=(Tm.all_at (Nat.le_refl _) (z:=zz) (by rw [ea];simp)).1
      refine ⟨t,rfl,by omega,by omega,λ l2 h2=>r7q a8q (d:=plD zz.1) ?_ ?_⟩
      . rw [ea,List.map_append];exact pFq _ _
      have hfd2:=(hfd.new (o:=.lst (t.all.map λ z=>plD z.1)) h1).new (o:=.lst (t.all.map λ z=>plD z.1)) h2
      have hzl:=(Tm.all_at (Nat.le_refl _) (z:=zz) (t:=t) (by rw [ea];simp)).2
      refine ⟨hfd2,by decide,by decide,λ k G4 u4 k0 k1=>⟨small (by rw [List.length_map];simp only [List.length_cons,List.length_nil];omega),⟨u4.fd,by decide,by decide,λ k2 G5 u5 k20 k21=>?_⟩⟩⟩
      have e1:D.tup (zz.1.map D.int++[D.int k])=plD (zz.1++[k]):=by simp [plD]
      have r1:=qUq hz hlf k
      have r2:t.rAt [3+k2]=false:=tRq (by omega)
      refine ⟨t,zz.1++[k],by rw [<- e1],r1,Br.no rfl ⟨t,[3+k2],rfl,r2,Br.no rfl ⟨t,zz.1++[k],by rw [r1,<- e1],⟨λ _=>⟨t,[3+k2],by rw [r2];rfl,Dr.of (q _)⟩,nofun⟩⟩⟩⟩
end
end KB
namespace KB
open PySem L2 L3
set_option maxHeartbeats 4000000
abbrev sAq:List (Addr × Addr):=[(174,170),(179,177)]
abbrev tl9:List (Addr × Pos × Str):=[(170,c5q aPq,"lifted.<locals>.moved"),(177,c5q b1q,"put_in.<locals>.taken")]
theorem y1q {l:PySem.W.OpenLaw} {w:World} {K:PySem.W.Frag} {h:Heap} {mg:Str->Option Value} {fa  : Addr} (X:K.In h) (G:h.Ns mainGlobals mg) (hfa:mg "law" = some (.ref fa))
    (d0:DT K "inner" hWq) (d1:DT K "open_names" mIq) (d2:DT K "names_in" dPq) (d3:DT K "ways_below" g0q) (d4:DTc K "lifted" dAq 174) (d5:DTc K "put_in" eOq 179) (d6:DT K "copies_for" fHq) (d7:DT K "with_names" hAq) (d8:DT K "at_place" nLq) (d9:DT K "replaced" jDq) (d10:DT K "with_inner" e0q) (d11:DT K "can_go" hIq) (d12:DT K "has_rule" k0q) (d13:DT K "behind" kEq) (d14:DT K "comes_of" hEq) (d15:DT K "_law_feed" jTq) (d16:DT K "_law_take" jMq) (d17:DT K "_law_whole" h5q) (d18:DT K "_law_leaf" jHq) (d19:DT K "_law_headed" f7q) (d20:DT K "_law_any" oIq) (d21:DT K "_law_can" m4q) (d22:DT K "_law_shift" i0q) (d23:DT K "_law_put" m7q) (d24:DT K "_law_rule" jWq) (d25:DT K "_law_changed" dSq) (d26:DT K "_law_at" sRq) (d27:DT K "_law_places" f8q) (d28:DT K "_law_alike" hMq) (d29:DT K "_law_refused" e2q) (d30:DT K "_law_answers" dZq) (d31:DT K "law" gFq) (z0:PySem.W.nsIn K mainGlobals "len" = some none) (z1:PySem.W.nsIn K mainGlobals "isinstance" = some none) (z2:PySem.W.nsIn K mainGlobals "range" = some none) (z3:PySem.W.nsIn K mainGlobals "int" = some none) (z4:PySem.W.nsIn K mainGlobals "bool" = some none) (z5:PySem.W.nsIn K mainGlobals "str" = some none) (z6:PySem.W.nsIn K mainGlobals "tuple" = some none) (z7:PySem.W.nsIn K mainGlobals "list" = some none) (z8:PySem.W.nsIn K mainGlobals "zip" = some none) (z9:PySem.W.nsIn K mainGlobals "sorted" = some none) (z10:PySem.W.nsIn K mainGlobals "set" = some none) (z11:PySem.W.nsIn K mainGlobals "all" = some none) (z12:PySem.W.nsIn K mainGlobals "reversed" = some none) (z13:PySem.W.nsIn K mainGlobals "min" = some none) (z14:PySem.W.nsIn K mainGlobals "ValueError" = some none)
    {cNR cBE nNR nBE:Addr} {nm q:Str} {bs:List Value} {hdct:Bool} {sn:List Str} {sub:List Value} {ab:Bool} {col:Option Bool} {dd:Option Addr} {k0 k1 k2 k3 k5:Option Value} {nc:Value} {nd:Option Addr} {es es2:Array DictEntry} {ep ep2:Nat} {nsl nsl2:Array (Option Value)} {c0 nc2:Value} {dd2 nd2:Option Addr} {cd:ClassData} {sl2:Array (Option Value)}
 (x0:PySem.W.nsIn K mainGlobals "NoRule" = some (some (.ref cNR)))
    (x1:List.lookup cNR K=some (excClassObj nm q cNR nNR bs (.ref cBE::lNq) hdct sn sub ab col dd k0 k1 k2 k3 k5 "ValueError.__new__"))
    (x2:List.lookup nNR K=some ⟨nc,nd,.dict es ep,nsl⟩)
    (x3:uEq es=true)
    (x4:List.lookup cBE K=some ⟨c0,dd2,.cls cd,sl2⟩)
    (x5:cd.ns=nBE)
    (x6:List.lookup nBE K=some ⟨nc2,nd2,.dict es2 ep2,nsl2⟩)
    (x7:uEq es2=true)
 (e0:PySem.W.findIn K (.ref cNR) "__getattribute__" = some (some (.builtin "BaseException.__getattribute__")))
 (e1:PySem.W.findIn K (.ref cNR) "__getattr__" = some none)
 (e2:PySem.W.findIn K (.ref cNR) "__class__" = some (some (.builtin "object.__class__")))
 (e3:PySem.W.specialIn K (.builtin "object.__class__") "__get__" = some (some (.builtin "getset_descriptor.__get__")))
 (e4:PySem.W.takesIn K (.builtin "object.__class__")=some true)
 (e5:PySem.W.mroIn K cNR (.type "object")=some true)
 (e6:PySem.W.subIn K (.ref cNR) (.type "BaseException")=some true)
    {cd9:ClassData}
 (e7:PySem.W.clsIn K cNR=some cd9)
 (v0:PySem.W.subIn K (.ref cNR) (.type "ValueError")=some true)
    {cd_0:ClassData}
 (y00:PySem.W.nsIn K mainGlobals "BagError" = some (some (.ref cBE)))
 (y01:PySem.W.clsIn K cBE=some cd_0)
 (y02:PySem.W.typeIn K (.ref cBE)=some (.type "type"))
 (y03:PySem.W.subIn K (.ref cNR) (.ref cBE)=some true)
    (y04:(cNR==cBE)=false)
    {c1:Addr} {cd_1:ClassData}
 (y10:PySem.W.nsIn K mainGlobals "NoText" = some (some (.ref c1)))
 (y11:PySem.W.clsIn K c1=some cd_1)
 (y12:PySem.W.typeIn K (.ref c1)=some (.type "type"))
 (y13:PySem.W.subIn K (.ref cNR) (.ref c1)=some false)
    (y14:(cNR==c1)=false)
    {c2:Addr} {cd_2:ClassData}
 (y20:PySem.W.nsIn K mainGlobals "NoName" = some (some (.ref c2)))
 (y21:PySem.W.clsIn K c2=some cd_2)
 (y22:PySem.W.typeIn K (.ref c2)=some (.type "type"))
 (y23:PySem.W.subIn K (.ref cNR) (.ref c2)=some false)
    (y24:(cNR==c2)=false)
    {c3:Addr} {cd_3:ClassData}
 (y30:PySem.W.nsIn K mainGlobals "NoPaper" = some (some (.ref c3)))
 (y31:PySem.W.clsIn K c3=some cd_3)
 (y32:PySem.W.typeIn K (.ref c3)=some (.type "type"))
 (y33:PySem.W.subIn K (.ref cNR) (.ref c3)=some false)
    (y34:(cNR==c3)=false)
    {c4:Addr} {cd_4:ClassData}
 (y40:PySem.W.nsIn K mainGlobals "NoFit" = some (some (.ref c4)))
 (y41:PySem.W.clsIn K c4=some cd_4)
 (y42:PySem.W.typeIn K (.ref c4)=some (.type "type"))
 (y43:PySem.W.subIn K (.ref cNR) (.ref c4)=some false)
    (y44:(cNR==c4)=false)
    {c5:Addr} {cd_5:ClassData}
 (y50:PySem.W.nsIn K mainGlobals "NoData" = some (some (.ref c5)))
 (y51:PySem.W.clsIn K c5=some cd_5)
 (y52:PySem.W.typeIn K (.ref c5)=some (.type "type"))
 (y53:PySem.W.subIn K (.ref cNR) (.ref c5)=some false)
    (y54:(cNR==c5)=false)
    {c6:Addr} {cd_6:ClassData}
 (y60:PySem.W.nsIn K mainGlobals "NoRoom" = some (some (.ref c6)))
 (y61:PySem.W.clsIn K c6=some cd_6)
 (y62:PySem.W.typeIn K (.ref c6)=some (.type "type"))
 (y63:PySem.W.subIn K (.ref cNR) (.ref c6)=some false)
    (y64:(cNR==c6)=false)
    {c7:Addr} {cd_7:ClassData}
 (y70:PySem.W.nsIn K mainGlobals "NoRow" = some (some (.ref c7)))
 (y71:PySem.W.clsIn K c7=some cd_7)
 (y72:PySem.W.typeIn K (.ref c7)=some (.type "type"))
 (y73:PySem.W.subIn K (.ref cNR) (.ref c7)=some false)
    (y74:(cNR==c7)=false)
    : ∃ fd:FuncData,(∀ (s:Shared) (v:Value),BindsTo s fd ⟨[v],[]⟩ [("_law_script", v)])/\∀ base:Heap,K.In base->base.Ns mainGlobals mg->(∀ q∈sAq,PySem.W.CodeHd base q.1 q.2)->fJq mg base->FnOk l.prog w K mg base CX0 117 fa fd ["_law_script"] ((λ K=>aQq K (eZq tl9)) K):=by
  obtain ⟨f0,_,a_inner,F_inner⟩:=d0.ok
  have b_inner:=F_inner.binds (ps:=fGq) λ _ _ _ _ _ _ us hl=>match us,hl with | [_],_=>rfl
  have m_inner:=PySem.W.mg_of X G a_inner
  have kp_inner:=F_inner.kp
  obtain ⟨f1,_,a_opn,F_opn⟩:=d1.ok
  have b_opn:=F_opn.binds (ps:=j0q) λ _ _ _ _ _ _ us hl=>match us,hl with | [_],_=>rfl
  have m_opn:=PySem.W.mg_of X G a_opn
  have kp_opn:=F_opn.kp
  obtain ⟨f2,_,a_namesin,F_namesin⟩:=d2.ok
  have b_namesin:=F_namesin.binds (ps:=dDq) λ _ _ _ _ _ _ us hl=>match us,hl with | [_],_=>rfl
  have m_namesin:=PySem.W.mg_of X G a_namesin
  have kp_namesin:=F_namesin.kp
  obtain ⟨f3,_,a_wbelow,F_wbelow⟩:=d3.ok
  have b_wbelow:=F_wbelow.binds (ps:=eCq) λ _ _ _ _ _ _ us hl=>match us,hl with | [_,_],_=>rfl
  have m_wbelow:=PySem.W.mg_of X G a_wbelow
  have kp_wbelow:=F_wbelow.kp
  obtain ⟨f4,_,a_lifted,F_lifted,kp_lifted⟩:=d4.ok
  have b_lifted:=(F_lifted.fun kp_lifted).binds (ps:=eEq) λ _ _ _ _ _ _ us hl=>match us,hl with | [_,_,_],_=>rfl
  have m_lifted:=PySem.W.mg_of X G a_lifted
  obtain ⟨f5,_,a_putin,F_putin,kp_putin⟩:=d5.ok
  have b_putin:=(F_putin.fun kp_putin).binds (ps:=fQq) λ _ _ _ _ _ _ us hl=>match us,hl with | [_,_],_=>rfl
  have m_putin:=PySem.W.mg_of X G a_putin
  obtain ⟨f6,_,a_copies,F_copies⟩:=d6.ok
  have b_copies:=F_copies.binds (ps:=e7q) λ _ _ _ _ _ _ us hl=>match us,hl with | [_,_],_=>rfl
  have m_copies:=PySem.W.mg_of X G a_copies
  have kp_copies:=F_copies.kp
  obtain ⟨f7,_,a_withn,F_withn⟩:=d7.ok
  have b_withn:=F_withn.binds (ps:=f5q) λ _ _ _ _ _ _ us hl=>match us,hl with | [_,_],_=>rfl
  have m_withn:=PySem.W.mg_of X G a_withn
  have kp_withn:=F_withn.kp
  obtain ⟨f8,_,a_atp,F_atp⟩:=d8.ok
  have b_atp:=F_atp.binds (ps:=iGq) λ _ _ _ _ _ _ us hl=>match us,hl with | [_,_],_=>rfl
  have m_atp:=PySem.W.mg_of X G a_atp
  have kp_atp:=F_atp.kp
  obtain ⟨f9,_,a_repl,F_repl⟩:=d9.ok
  have b_repl:=F_repl.binds (ps:=gVq) λ _ _ _ _ _ _ us hl=>match us,hl with | [_,_,_],_=>rfl
  have m_repl:=PySem.W.mg_of X G a_repl
  have kp_repl:=F_repl.kp
  obtain ⟨f10,_,a_withinn,F_withinn⟩:=d10.ok
  have b_withinn:=F_withinn.binds (ps:=dHq) λ _ _ _ _ _ _ us hl=>match us,hl with | [_,_,_],_=>rfl
  have m_withinn:=PySem.W.mg_of X G a_withinn
  have kp_withinn:=F_withinn.kp
  obtain ⟨f11,_,a_cango,F_cango⟩:=d11.ok
  have b_cango:=F_cango.binds (ps:=fXq) λ _ _ _ _ _ _ us hl=>match us,hl with | [_,_],_=>rfl
  have m_cango:=PySem.W.mg_of X G a_cango
  have kp_cango:=F_cango.kp
  obtain ⟨f12,_,a_hasr,F_hasr⟩:=d12.ok
  have b_hasr:=F_hasr.binds (ps:=g8q) λ _ _ _ _ _ _ us hl=>match us,hl with | [_],_=>rfl
  have m_hasr:=PySem.W.mg_of X G a_hasr
  have kp_hasr:=F_hasr.kp
  obtain ⟨f13,_,a_beh,F_beh⟩:=d13.ok
  have b_beh:=F_beh.binds (ps:=eSq) λ _ _ _ _ _ _ us hl=>match us,hl with | [_,_],_=>rfl
  have m_beh:=PySem.W.mg_of X G a_beh
  have kp_beh:=F_beh.kp
  obtain ⟨f14,_,a_comes,F_comes⟩:=d14.ok
  have b_comes:=F_comes.binds (ps:=f3q) λ _ _ _ _ _ _ us hl=>match us,hl with | [_],_=>rfl
  have m_comes:=PySem.W.mg_of X G a_comes
  have kp_comes:=F_comes.kp
  obtain ⟨f15,_,a_feed,F_feed⟩:=d15.ok
  have b_feed:=F_feed.binds (ps:=gJq) λ _ _ _ _ _ _ us hl=>match us,hl with | [_,_],_=>rfl
  have m_feed:=PySem.W.mg_of X G a_feed
  have kp_feed:=F_feed.kp
  obtain ⟨f16,_,a_take,F_take⟩:=d16.ok
  have b_take:=F_take.binds (ps:=gYq) λ _ _ _ _ _ _ us hl=>match us,hl with | [_,_],_=>rfl
  have m_take:=PySem.W.mg_of X G a_take
  have kp_take:=F_take.kp
  obtain ⟨f17,_,a_whole,F_whole⟩:=d17.ok
  have b_whole:=F_whole.binds (ps:=fPq) λ _ _ _ _ _ _ us hl=>match us,hl with | [_],_=>rfl
  have m_whole:=PySem.W.mg_of X G a_whole
  have kp_whole:=F_whole.kp
  obtain ⟨f18,_,a_leaf,F_leaf⟩:=d18.ok
  have b_leaf:=F_leaf.binds (ps:=gPq) λ _ _ _ _ _ _ us hl=>match us,hl with | [_,_],_=>rfl
  have m_leaf:=PySem.W.mg_of X G a_leaf
  have kp_leaf:=F_leaf.kp
  obtain ⟨f19,_,a_headed,F_headed⟩:=d19.ok
  have b_headed:=F_headed.binds (ps:=eFq) λ _ _ _ _ _ _ us hl=>match us,hl with | [_,_,_,_,_],_=>rfl
  have m_headed:=PySem.W.mg_of X G a_headed
  have kp_headed:=F_headed.kp
  obtain ⟨f20,_,a_any,F_any⟩:=d20.ok
  have b_any:=F_any.binds (ps:=iZq) λ _ _ _ _ _ _ us hl=>match us,hl with | [_,_,_,_],_=>rfl
  have m_any:=PySem.W.mg_of X G a_any
  have kp_any:=F_any.kp
  obtain ⟨f21,_,a_can,F_can⟩:=d21.ok
  have b_can:=F_can.binds (ps:=iVq) λ _ _ _ _ _ _ us hl=>match us,hl with | [_],_=>rfl
  have m_can:=PySem.W.mg_of X G a_can
  have kp_can:=F_can.kp
  obtain ⟨f22,_,a_shift,F_shift⟩:=d22.ok
  have b_shift:=F_shift.binds (ps:=fEq) λ _ _ _ _ _ _ us hl=>match us,hl with | [_,_,_],_=>rfl
  have m_shift:=PySem.W.mg_of X G a_shift
  have kp_shift:=F_shift.kp
  obtain ⟨f23,_,a_put,F_put⟩:=d23.ok
  have b_put:=F_put.binds (ps:=iUq) λ _ _ _ _ _ _ us hl=>match us,hl with | [_,_,_],_=>rfl
  have m_put:=PySem.W.mg_of X G a_put
  have kp_put:=F_put.kp
  obtain ⟨f24,_,a_rule,F_rule⟩:=d24.ok
  have b_rule:=F_rule.binds (ps:=g9q) λ _ _ _ _ _ _ us hl=>match us,hl with | [_],_=>rfl
  have m_rule:=PySem.W.mg_of X G a_rule
  have kp_rule:=F_rule.kp
  obtain ⟨f25,_,a_changed,F_changed⟩:=d25.ok
  have b_changed:=F_changed.binds (ps:=d9q) λ _ _ _ _ _ _ us hl=>match us,hl with | [_,_,_],_=>rfl
  have m_changed:=PySem.W.mg_of X G a_changed
  have kp_changed:=F_changed.kp
  obtain ⟨f26,_,a_at,F_at⟩:=d26.ok
  have b_at:=F_at.binds (ps:=kGq) λ _ _ _ _ _ _ us hl=>match us,hl with | [_,_],_=>rfl
  have m_at:=PySem.W.mg_of X G a_at
  have kp_at:=F_at.kp
  obtain ⟨f27,_,a_places,F_places⟩:=d27.ok
  have b_places:=F_places.binds (ps:=e8q) λ _ _ _ _ _ _ us hl=>match us,hl with | [_],_=>rfl
  have m_places:=PySem.W.mg_of X G a_places
  have kp_places:=F_places.kp
  obtain ⟨f28,_,a_alike,F_alike⟩:=d28.ok
  have b_alike:=F_alike.binds (ps:=eVq) λ _ _ _ _ _ _ us hl=>match us,hl with | [_,_],_=>rfl
  have m_alike:=PySem.W.mg_of X G a_alike
  have kp_alike:=F_alike.kp
  obtain ⟨f29,_,a_refused,F_refused⟩:=d29.ok
  have b_refused:=F_refused.binds (ps:=dJq) λ _ _ _ _ _ _ us hl=>match us,hl with | [_,_],_=>rfl
  have m_refused:=PySem.W.mg_of X G a_refused
  have kp_refused:=F_refused.kp
  obtain ⟨f30,_,a_answers,F_answers⟩:=d30.ok
  have b_answers:=F_answers.binds (ps:=dOq) λ _ _ _ _ _ _ us hl=>match us,hl with | [_,_,_],_=>rfl
  have m_answers:=PySem.W.mg_of X G a_answers
  have kp_answers:=F_answers.kp
  have B:Blt mg:=⟨PySem.W.mg_none_of X G z0,PySem.W.mg_none_of X G z1,PySem.W.mg_none_of X G z2,PySem.W.mg_none_of X G z3,PySem.W.mg_none_of X G z4,PySem.W.mg_none_of X G z5,PySem.W.mg_none_of X G z6,PySem.W.mg_none_of X G z7,PySem.W.mg_none_of X G z8,PySem.W.mg_none_of X G z9,PySem.W.mg_none_of X G z10,PySem.W.mg_none_of X G z11,PySem.W.mg_none_of X G z12,PySem.W.mg_none_of X G z13,PySem.W.mg_none_of X G z14⟩
  obtain ⟨f31,_,a_law,F_law⟩:=d31.ok
  cases hfa.symm.trans (PySem.W.mg_of X G a_law)
  obtain ⟨_,_,kV,dc,pm,an,cd,ct,_,rfl,l9,c9⟩:=F_law.ex
  refine ⟨PySem.W.fnOf "law" "law" (bGq gFq) (b2q gFq) (a5q gFq) .none kV dc pm an cd ct,λ s v=>.of_eq rfl,λ base _ _ hCs hB=>?_⟩
  have m_NoRule:=PySem.W.mg_of X G x0
  have EC_NoRule:=rTq x1 x2 x3 x4 x5 x6 x7
  have FK_NoRule:ExcK K cNR:=⟨e0,e1,e2,e3,e4,e5,e6,by rw [e7];rfl⟩
  have m_BagError:=PySem.W.mg_of X G y00
  have m_NoText:=PySem.W.mg_of X G y10
  have m_NoName:=PySem.W.mg_of X G y20
  have m_NoPaper:=PySem.W.mg_of X G y30
  have m_NoFit:=PySem.W.mg_of X G y40
  have m_NoData:=PySem.W.mg_of X G y50
  have m_NoRoom:=PySem.W.mg_of X G y60
  have m_NoRow:=PySem.W.mg_of X G y70
  have g_inner:Got l.prog w K mg base 1 "inner" fGq (aQq K (jOq Tm.enc Tm.inn)):=⟨_,_,pCq F_inner,m_inner,kp_inner,b_inner⟩
  have g_wbelow:Got l.prog w K mg base 1 "ways_below" eCq (aQq K hHq):=⟨_,_,oOq F_wbelow,m_wbelow,kp_wbelow,b_wbelow⟩
  have g_namesin:Got l.prog w K mg base 2 "names_in" dDq (aQq K dIq):=⟨_,_,lLq B g_inner g_wbelow F_namesin,m_namesin,kp_namesin,b_namesin⟩
  have g_withn:Got l.prog w K mg base 3 "with_names" f5q (aQq K (kSq l.prog w K mg base 1)):=⟨_,_,qLq B g_inner g_wbelow F_withn,m_withn,kp_withn,b_withn⟩
  have g_lifted:Got l.prog w K mg base 4 "lifted" eEq (aQq K (m0q 170 (c5q aPq))):=⟨_,_,n6q (hCs (174,170) (List.mem_cons_self ..)) hB g_withn F_lifted,m_lifted,kp_lifted,b_lifted⟩
  have g_opn:Got l.prog w K mg base 3 "open_names" j0q (aQq K m5q):=⟨_,_,wOq B g_namesin F_opn,m_opn,kp_opn,b_opn⟩
  have g_copies:Got l.prog w K mg base 5 "copies_for" e7q (aQq K (h1q 170 (c5q aPq))):=⟨_,_,mOq B g_opn g_lifted F_copies,m_copies,kp_copies,b_copies⟩
  have g_putin:Got l.prog w K mg base 6 "put_in" fQq (aQq K (sOq 170 (c5q aPq) 177 (c5q b1q))):=⟨_,_,pSq (hCs (179,177) (List.mem_cons_of_mem _ (List.mem_cons_self ..))) hB B g_namesin g_copies g_withn F_putin,m_putin,kp_putin,b_putin⟩
  have g_atp:Got l.prog w K mg base 2 "at_place" iGq (aQq K q6q):=⟨_,_,uNq B g_inner F_atp,m_atp,kp_atp,b_atp⟩
  have g_hasr:Got l.prog w K mg base 1 "has_rule" g8q (aQq K (dTq Tm.hasRule)):=⟨_,_,tHq F_hasr,m_hasr,kp_hasr,b_hasr⟩
  have g_cango:Got l.prog w K mg base 3 "can_go" fXq (aQq K dEq):=⟨_,_,pMq g_atp g_hasr F_cango,m_cango,kp_cango,b_cango⟩
  have g_withinn:Got l.prog w K mg base 2 "with_inner" dHq (aQq K f0q):=⟨_,_,l6q g_inner F_withinn,m_withinn,kp_withinn,b_withinn⟩
  have g_repl:Got l.prog w K mg base 3 "replaced" gVq (aQq K oAq):=⟨_,_,sCq B g_inner g_withinn F_repl,m_repl,kp_repl,b_repl⟩
  have g_comes:Got l.prog w K mg base 7 "comes_of" f3q (aQq K (jZq 170 (c5q aPq) 177 (c5q b1q))):=⟨_,_,qNq g_putin F_comes,m_comes,kp_comes,b_comes⟩
  have g_beh:Got l.prog w K mg base 8 "behind" eSq (aQq K (sUq 170 (c5q aPq) 177 (c5q b1q))):=⟨_,_,wIq g_cango g_atp g_comes g_repl F_beh,m_beh,kp_beh,b_beh⟩
  have G_beh:GotR l.prog w K mg base 8 "behind" eSq (x2q K cNR nAq):=⟨_,_,tQq EC_NoRule m_NoRule g_cango F_beh,m_beh,kp_beh,b_beh⟩
  have g_feed:Got l.prog w K mg base 1 "_law_feed" gJq (aQq K iXq):=⟨_,_,sPq B F_feed,m_feed,kp_feed,b_feed⟩
  have g_take:Got l.prog w K mg base 1 "_law_take" gYq (aQq K e5q):=⟨_,_,s4q F_take,m_take,kp_take,b_take⟩
  have g_whole:Got l.prog w K mg base 2 "_law_whole" fPq (aQq K e1q):=⟨_,_,pHq g_take F_whole,m_whole,kp_whole,b_whole⟩
  have g_leaf:Got l.prog w K mg base 3 "_law_leaf" gPq (aQq K gWq):=⟨_,_,rRq g_take g_whole F_leaf,m_leaf,kp_leaf,b_leaf⟩
  have g_any:∀ n:Nat,Got l.prog w K mg base (2 * n+4) "_law_any" iZq (aQq K (hCq n)):=λ n=>by
    induction n with
    | zero=>exact ⟨f20,_,xQq,m_any,kp_any,b_any⟩
    | succ n ih=>
      have g_headed:Got l.prog w K mg base (2 * n+5) "_law_headed" eFq (aQq K (dMq n)):=⟨f19,_,n7q g_whole g_leaf ih F_headed,m_headed,kp_headed,b_headed⟩
      exact ⟨f20,_,uWq g_take g_leaf g_headed ih F_any,m_any,kp_any,b_any⟩
  have g_can:Got l.prog w K mg base 1 "_law_can" iVq (aQq K (dTq Tm.hasRule)):=⟨_,_,uZq F_can,m_can,kp_can,b_can⟩
  have g_shift:∀ n:Nat,Got l.prog w K mg base (n+1) "_law_shift" fEq (aQq K (eYq n)):=λ n=>by
    induction n with
    | zero=>exact ⟨f22,_,qDq,m_shift,kp_shift,b_shift⟩
    | succ n ih=>exact ⟨f22,_,pNq B ih F_shift,m_shift,kp_shift,b_shift⟩
  have g_put:∀ n:Nat,n<=60->Got l.prog w K mg base (n+41) "_law_put" iUq (aQq K (iTq n)):=λ n=>by
    induction n with
    | zero=>exact λ _=>⟨f23,_,xVq,m_put,kp_put,b_put⟩
    | succ n ih=>exact λ h=>⟨f23,_,uHq B (by omega) (g_shift 40) (ih (by omega)) F_put,m_put,kp_put,b_put⟩
  have g_rule:Got l.prog w K mg base 82 "_law_rule" g9q (aQq K jVq):=⟨_,_,t7q B (g_put 40 (by omega)) F_rule,m_rule,kp_rule,b_rule⟩
  have g_changed:∀ n:Nat,Got l.prog w K mg base (n+1) "_law_changed" d9q (aQq K (cFq n)):=λ n=>by
    induction n with
    | zero=>exact ⟨f25,_,lKq,m_changed,kp_changed,b_changed⟩
    | succ n ih=>exact ⟨f25,_,lTq ih F_changed,m_changed,kp_changed,b_changed⟩
  have g_at:Got l.prog w K mg base 1 "_law_at" kGq (aQq K zXq):=⟨_,_,zSq F_at,m_at,kp_at,b_at⟩
  have g_places:∀ n:Nat,Got l.prog w K mg base (n+1) "_law_places" e8q (aQq K (d3q n)):=λ n=>by
    induction n with
    | zero=>exact ⟨f27,_,m9q,m_places,kp_places,b_places⟩
    | succ n ih=>exact ⟨f27,_,nRq B ih F_places,m_places,kp_places,b_places⟩
  have g_alike:∀ n:Nat,Got l.prog w K mg base (n+1) "_law_alike" eVq (aQq K (fMq n)):=λ n=>by
    induction n with
    | zero=>exact ⟨f28,_,pXq,m_alike,kp_alike,b_alike⟩
    | succ n ih=>exact ⟨f28,_,q5q B ih F_alike,m_alike,kp_alike,b_alike⟩
  have g_refused:Got l.prog w K mg base 9 "_law_refused" dJq (aQq K eUq):=⟨_,_,l9q B EC_NoRule FK_NoRule m_NoRule m_BagError m_NoText m_NoName m_NoPaper m_NoFit m_NoData m_NoRoom m_NoRow (bKq y04 y01 y02 y03) (pDq v0) (bSq (bKq y14 y11 y12 y13) (bSq (bKq y24 y21 y22 y23) (bSq (bKq y34 y31 y32 y33) (bSq (bKq y44 y41 y42 y43) (bSq (bKq y54 y51 y52 y53) (bSq (bKq y64 y61 y62 y63) (bSq (bKq y74 y71 y72 y73) lDq))))))) G_beh F_refused,m_refused,kp_refused,b_refused⟩
  have g_answers:Got l.prog w K mg base 4 "_law_answers" dOq (aQq K fUq):=⟨_,_,l7q B g_cango F_answers,m_answers,kp_answers,b_answers⟩
  exact wNq B g_feed g_take (g_any 29) (g_places 40) g_at g_can g_answers g_refused g_beh g_rule (g_changed 40) (g_alike 100) F_law
theorem walk {l:PySem.W.OpenLaw} {q:Program} {loose:List Str} {XP:(Str->Option Value)->Heap->Prop} {YP:World->Heap->Prop} {d:DefRec} {K:Params->PySem.W.Frag} (hn:l.most=some 63) (hdf:d.params.defaults=[])
    (hY:∀ (w:World) (h:Heap),YP w h->(K w.params).In h) (hK:∀ w:World,PySem.W.noTabs (K w.params)=true) (hTab:∀ (w:World) (h:Heap),YP w h->PySem.W.TabsAt sAq h)
    (F:∀ (w:World) (mg:Str->Option Value) (fa:Addr) (h:Heap),(K w.params).In h->h.Ns mainGlobals mg->mg d.name=some (.ref fa) →
      ∃ fd:FuncData,(∀ (s:Shared) (u:Value),BindsTo s fd ⟨[u],[]⟩ [("_law_script", u)])/\∀ base:Heap,(K w.params).In base->base.Ns mainGlobals mg->(∀ q∈sAq,PySem.W.CodeHd base q.1 q.2)->fJq mg base->FnOk l.prog w (K w.params) mg base CX0 117 fa fd ["_law_script"] ((λ K=>aQq K (eZq tl9)) (K w.params))) :
    PySem.W.WalkO q loose XP YP l.row.toRowW d [] (λ f vs=>PySem.call f vs):=
  L2.pVq (n:=63) (k:=117) (x:="_law_script") (sp:=λ K=>(λ K=>aQq K (eZq tl9)) K) hn (by decide) hdf ⟨rfl,by decide,by decide⟩ hY hK hTab F λ _ _ _ _ hl hE hS=>pQq rfl (by decide) hl hE hS
end KB
def PySem.W.Fast.tw17983027318682745226:=0
def PySem.W.Fast.tw3068174622479467356:=0
def PySem.W.Fast.tw7152468613615600001:=0
def PySem.W.Fast.tw18426830555170172931:=0
def PySem.W.Fast.tw9108305433531714209:=0
def PySem.W.Fast.tw17539922120566781341:=0
def PySem.W.Fast.tw358541478534524764:=0
def PySem.W.Fast.tw8593579926655556476:=0
def PySem.W.Fast.tw3467959172169025165:=0
def PySem.W.Fast.tw10832517440665262534:=0
def PySem.W.Fast.tw5324707634111114783:=0
def PySem.W.Fast.tw6607457542307559170:=0
def PySem.W.Fast.tw6854265349996670388:=0
def PySem.W.Fast.tw15393110023781121571:=0
def PySem.W.Fast.tw6189783937248580751:=0
def PySem.W.Fast.tw9728656830396020882:=0
def PySem.W.Fast.tw8851801592283549954:=0
def PySem.W.Fast.tw5700238653529640257:=0
def PySem.W.Fast.tw16699589926030520604:=0
def PySem.W.Fast.tw11961734237767393290:=0
def PySem.W.Fast.tw2212273483874472413:=0
def PySem.W.Fast.tw9522246767150650236:=0
def PySem.W.Fast.tw6591594828372463849:=0
def PySem.W.Fast.tw5101260413098613600:=0
def PySem.W.Fast.tw1913078793101066801:=0
def PySem.W.Fast.tw7521529178853042708:=0
def PySem.W.Fast.tw3219024065466961458:=0
def PySem.W.Fast.tw14282667036223829210:=0
def PySem.W.Fast.tw12603480920643505827:=0
def PySem.W.Fast.tw12510861721589112510:=0
def PySem.W.Fast.tw1069250080021840349:=0
def PySem.W.Fast.tw12789032865082795382:=0
def PySem.W.Fast.tw10813016316727791956:=0
def PySem.W.Fast.tw1864697610491683868:=0
def PySem.W.Fast.tw3832872905002076598:=0
def PySem.W.Fast.tw18283246115742857519:=0
def PySem.W.Fast.tw16761713557776872090:=0
def PySem.W.Fast.tw9852304609273561671:=0
def PySem.W.Fast.tw3582342992856725531:=0
def PySem.W.Fast.tw17553166955092211971:=0
def PySem.W.Fast.tw324886231133185056:=0
def PySem.W.Fast.tw6306268751108520790:=0
def PySem.W.Fast.tw6423858659289898382:=0
def PySem.W.Fast.tw3689100834410199882:=0
def PySem.W.Fast.tw1339155971920105303:=0
def PySem.W.Fast.tw15901493169172233590:=0
def PySem.W.Fast.tw2967242037907219708:=0
def PySem.W.Fast.tw10237333304741134685:=0
def PySem.W.Fast.tw9895018842997868231:=0
def PySem.W.Fast.tw8685389971884429405:=0
def PySem.W.Fast.tw308857134291540174:=0
def PySem.W.Fast.tw17669725243519220851:=0
def PySem.W.Fast.tw13512580422673708785:=0
def PySem.W.Fast.tw3704995704003324496:=0
def PySem.W.Fast.tw2724975372924470199:=0
def PySem.W.Fast.tw1553578037981407133:=0
def PySem.W.Fast.tw13100070429730698635:=0
def PySem.W.Fast.tw7087799286642404244:=0
def PySem.W.Fast.tw824359341991810666:=0
def PySem.W.Fast.tw14387385212113847865:=0
open PySem PySem.W PyProof.Rows
set_option maxRecDepth 100000 in
set_option maxHeartbeats 0 in
theorem PySem.Challenge.cw_kindbags_k16_rules_at_their_places_holds : PySem.Challenge.rw_kindbags_k16_rules_at_their_places.Holds := by
  w_on; o_law; k_head; (case hw => w_witness2)
  k_fill
  refine KB.walk (l := PySem.Challenge.rw_kindbags_k16_rules_at_their_places) rfl rfl (fun w h Y => PySem.W.km_in_of Y) (fun w => by kernel_rfl) (fun w h Y => List.forall_mem_cons.mpr ⟨⟨PySem.W.codeHd_of_K (c := 174) (P := 170) (PySem.W.km_in_of Y) (by kernel_rfl), PySem.W.km_tabs_of Y 170 (by k_mem)⟩, List.forall_mem_cons.mpr ⟨⟨PySem.W.codeHd_of_K (c := 179) (P := 177) (PySem.W.km_in_of Y) (by kernel_rfl), PySem.W.km_tabs_of Y 177 (by k_mem)⟩, fun _ h => nomatch h⟩⟩) ?F
  case F =>
    intro w mg fa h KX G hmg
    refine' KB.y1q KX G hmg ?_ ?_ ?_ ?_ ?_ ?_ ?_ ?_ ?_ ?_ ?_ ?_ ?_ ?_ ?_ ?_ ?_ ?_ ?_ ?_ ?_ ?_ ?_ ?_ ?_ ?_ ?_ ?_ ?_ ?_ ?_ ?_ ?_ ?_ ?_ ?_ ?_ ?_ ?_ ?_ ?_ ?_ ?_ ?_ ?_ ?_ ?_ ?x0 ?x1 ?x2 ?x3 ?x4 ?x5 ?x6 ?x7 ?e0 ?e1 ?e2 ?e3 ?e4 ?e5 ?e6 ?e7 ?v0 ?y00 ?y01 ?y02 ?y03 ?y04 ?y10 ?y11 ?y12 ?y13 ?y14 ?y20 ?y21 ?y22 ?y23 ?y24 ?y30 ?y31 ?y32 ?y33 ?y34 ?y40 ?y41 ?y42 ?y43 ?y44 ?y50 ?y51 ?y52 ?y53 ?y54 ?y60 ?y61 ?y62 ?y63 ?y64 ?y70 ?y71 ?y72 ?y73 ?y74
    (case x0 => k_is)
    (case x1 => k_is)
    (case x2 => k_is)
    (case x3 => kernel_rfl)
    (case x4 => k_is)
    (case x5 => rfl)
    (case x6 => k_is)
    (case x7 => kernel_rfl)
    (case e0 => k_is)
    (case e1 => k_is)
    (case e2 => k_is)
    (case e3 => k_is)
    (case e4 => k_is)
    (case e5 => k_is)
    (case e6 => k_is)
    (case e7 => k_is)
    (case v0 => k_is)
    (case y00 => k_is)
    (case y01 => k_is)
    (case y02 => k_is)
    (case y03 => k_is)
    (case y04 => rfl)
    (case y10 => k_is)
    (case y11 => k_is)
    (case y12 => k_is)
    (case y13 => k_is)
    (case y14 => rfl)
    (case y20 => k_is)
    (case y21 => k_is)
    (case y22 => k_is)
    (case y23 => k_is)
    (case y24 => rfl)
    (case y30 => k_is)
    (case y31 => k_is)
    (case y32 => k_is)
    (case y33 => k_is)
    (case y34 => rfl)
    (case y40 => k_is)
    (case y41 => k_is)
    (case y42 => k_is)
    (case y43 => k_is)
    (case y44 => rfl)
    (case y50 => k_is)
    (case y51 => k_is)
    (case y52 => k_is)
    (case y53 => k_is)
    (case y54 => rfl)
    (case y60 => k_is)
    (case y61 => k_is)
    (case y62 => k_is)
    (case y63 => k_is)
    (case y64 => rfl)
    (case y70 => k_is)
    (case y71 => k_is)
    (case y72 => k_is)
    (case y73 => k_is)
    (case y74 => rfl)
    all_goals first | k_is | (refine' L3.DT.mk ?_ ?_ ?_ ?_ <;> try k_is) | (refine' L3.DM.mk ?_ ?_ ?_ ?_ ?_ <;> try k_is) | (refine' L3.DTc.mk ?_ ?_ ?_ ?_ <;> try k_is) | (refine' L3.DMc.mk ?_ ?_ ?_ ?_ ?_ <;> try k_is) | skip
