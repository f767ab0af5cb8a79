import PyProof.Rows.All
import Wide.All
import OpenK.AllK
import Wide.FinOn
import Lean
import PyProof.EqAt
import PyProof.EqKinds
import PyProof.TupleCall
import PySem.Challenge.RW_kindbags_k20_what_grows_great
set_option Elab.async false
set_option linter.all false
set_option maxRecDepth 100000
namespace L2
open PySem PySem.Spec PyProof.Rows
abbrev Key:=Sum Int Str
def mMq:Key->Value->Bool
  | .inl k,v=>Value.isInt k v
  | .inr x,v=>Value.isStrOf x v
def keyH (w:World):Key->Int
  | .inl k=>hashInt k
  | .inr x=>hashStr w x
theorem b6q:∀ {k:Key} {v:Value},mMq k v=true->(∃ i t,k=Sum.inl i/\v=Value.int i t)\/(∃ x t,k=Sum.inr x/\v=Value.str x t)
  | .inl i,v,h=>by
    obtain ⟨t,e⟩:=Value.isInt_shape (k:=i) (v:=v) h
    exact .inl ⟨i,t,rfl,e⟩
  | .inr x,v,h=>by
    obtain ⟨t,e⟩:=Value.isStrOf_shape (x:=x) (v:=v) h
    exact .inr ⟨x,t,rfl,e⟩
theorem nWq (i:Int) (t:Tok):mMq (.inl i) (.int i t)=true:=by simp [mMq,Value.isInt]
theorem qEq (x:Str) (t:Tok):mMq (.inr x) (.str x t)=true:=by simp [mMq,Value.isStrOf]
theorem aA8q (a b:Int):decide ((Sum.inl a:Key)=Sum.inl b)=(a==b):=by
  by_cases e:a=b
  . subst e;simp
  . have h:¬ (Sum.inl a:Key)=Sum.inl b:=λ q=>e (Sum.inl.inj q)
    rw [decide_eq_false h]
    exact (beq_eq_false_iff_ne.mpr e).symm
theorem aC4q (a b:Str):decide ((Sum.inr a:Key)=Sum.inr b)=decide (a=b):=by
  by_cases e:a=b
  . subst e;simp
  . have h:¬ (Sum.inr a:Key)=Sum.inr b:=λ q=>e (Sum.inr.inj q)
    rw [decide_eq_false h,decide_eq_false e]
theorem xTq (a:Int) (b:Str):decide ((Sum.inl a:Key)=Sum.inr b)=false:=decide_eq_false (λ q=>nomatch q)
theorem yRq (a:Str) (b:Int):decide ((Sum.inr a:Key)=Sum.inl b)=false:=decide_eq_false (λ q=>nomatch q)
def bEq (prog:Program) (w:World):PySem.KeyKind prog w Key where
  is:=mMq
  hash:=keyH w
  inj:=λ v a b ha hb=>by
    rcases b6q ha with ⟨i,t,rfl,rfl⟩ | ⟨x,t,rfl,rfl⟩
    . rcases b6q hb with ⟨j,u,rfl,e⟩ | ⟨y,u,rfl,e⟩
      . injection e with e1 _;rw [e1]
      . exact nomatch e
    . rcases b6q hb with ⟨j,u,rfl,e⟩ | ⟨y,u,rfl,e⟩
      . exact nomatch e
      . injection e with e1 _;rw [e1]
  byValue:=λ k v h=>by
    rcases b6q h with ⟨i,t,rfl,rfl⟩ | ⟨x,t,rfl,rfl⟩<;>rfl
  pyHash:=λ hv h=>by
    rcases b6q hv with ⟨i,t,rfl,rfl⟩ | ⟨x,t,rfl,rfl⟩
    . exact wpAny_pyHash_int h
    . exact wpAny_pyHash_str h
  eqBool:=λ hu hv h=>by
    rcases b6q hu with ⟨i,t,rfl,rfl⟩ | ⟨x,t,rfl,rfl⟩
    . rcases b6q hv with ⟨j,u,rfl,rfl⟩ | ⟨y,u,rfl,rfl⟩
      . rw [aA8q] at h;exact wpAny_eqBool_int h
      . rw [xTq] at h;exact SeqAt.EqAt.int_str i t y u _ _ _ _ h
    . rcases b6q hv with ⟨j,u,rfl,rfl⟩ | ⟨y,u,rfl,rfl⟩
      . rw [yRq] at h;exact SeqAt.EqAt.str_int x t j u _ _ _ _ h
      . rw [aC4q] at h;exact wpAny_eqBool_str h
  «strs»:=λ k x t v h=>by
    rcases b6q h with ⟨i,u,rfl,e⟩ | ⟨y,u,rfl,e⟩
    . exact nomatch e
    . injection e with e1 _
      subst e1
      cases v<;>rfl
theorem kOq (prog:Program) (w:World) (i:Int) (t:Tok):(bEq prog w).is (.inl i) (.int i t)=true:=nWq i t
theorem kVq (prog:Program) (w:World) (x:Str) (t:Tok):(bEq prog w).is (.inr x) (.str x t)=true:=qEq x t
inductive V where
  | non | bl (b:Bool) | int (i:Int) | str (x:Str) | byt (b:Array UInt8) | flt (b:UInt64) | ref (a:Addr) | ty (n:String)
  deriving DecidableEq
def RelV:V->Value->Prop
  | .non,u=>u=Value.none
  | .bl b,u=>u=Value.bool b
  | .int i,u=>∃ t,u=Value.int i t
  | .str x,u=>∃ t,u=Value.str x t
  | .byt b,u=>∃ t,u=Value.bytes b t
  | .flt b,u=>∃ t,u=Value.float b t
  | .ref a,u=>u=Value.ref a
  | .ty n,u=>u=Value.type n
abbrev Vals:List V->List Value->Prop:=Paired RelV
theorem Vals.length {xs:List V} {us:List Value} (r:Vals xs us):xs.length=us.length:=Paired.length r
theorem Vals.get:∀ {xs:List V} {us:List Value} {i:Nat} {x:V},Vals xs us->xs[i]?=some x->∃ u,us[i]?=some u/\RelV x u
  | _,_,_,_,.nil,e=>by simp at e
  | _,_,0,_,.cons r _,e=>by simp at e;subst e;exact ⟨_,rfl,r⟩
  | _,_,i+1,x,.cons _ t,e=>by
    obtain ⟨u,h1,h2⟩:=Vals.get (i:=i) (x:=x) t (by simpa using e)
    exact ⟨u,by simpa using h1,h2⟩
theorem Vals.set {x:V} {u:Value} (r:RelV x u):∀ {xs:List V} {us:List Value} (i:Nat),Vals xs us->Vals (xs.set i x) (us.set i u)
  | _,_,_,.nil=>.nil
  | _,_,0,.cons _ t=>.cons r t
  | _,_,i+1,.cons q t=>.cons q (Vals.set r i t)
theorem Vals.append:∀ {xs ys:List V} {us ws:List Value},Vals xs us->Vals ys ws->Vals (xs++ys) (us++ws)
  | _,_,_,_,.nil,s=>s
  | _,_,_,_,.cons r t,s=>.cons r (Vals.append t s)
theorem Vals.take:∀ {xs:List V} {us:List Value} (n:Nat),Vals xs us->Vals (xs.take n) (us.take n)
  | _,_,0,_=>.nil
  | _,_,_+1,.nil=>.nil
  | _,_,n+1,.cons r t=>.cons r (Vals.take n t)
theorem Vals.drop:∀ {xs:List V} {us:List Value} (n:Nat),Vals xs us->Vals (xs.drop n) (us.drop n)
  | _,_,0,r=>r
  | _,_,_+1,.nil=>.nil
  | _,_,n+1,.cons _ t=>Vals.drop n t
def RelO:Option V->Option Value->Prop
  | some v,some u=>RelV v u
  | none,none=>True
  | _,_=>False
def KV {κ:Type}:List (κ × V)->List (κ × Value)->Prop:=Paired λ(p:κ × V) (q:κ × Value)=>p.1=q.1/\RelV p.2 q.2
def kV:Key->V
  | .inl i=>.int i
  | .inr x=>.str x
inductive HO where
  | lst (xs:List V)
  | tup (xs:List V)
  | dK (kvs:List (Key × V)) | dT (kvs:List (List Key × V))
  | set (S:Int->Bool) (n:Nat)
  | ins (C dx:Addr) (fs:List (Str × V))
  | own (x:Addr)
  | xd (fs:List (Str × V))
  | met (f x:Addr)
  | rng (lo hi:Int)
  | frz (o:Obj) (u:HO)
  | tbl (ps:Array Value)
  | ext (φ:Heap->Prop)
abbrev Hp:=Addr->Option HO
def upd (H:Hp) (a:Addr) (o:HO):Hp:=λ b=>if b=a then some o else H b
theorem aPq {H:Hp} {a:Addr} {o:HO}:upd H a o a=some o:=by unfold upd;rw [if_pos rfl]
theorem aFq {H:Hp} {a b:Addr} {o:HO} (h:b≠a):upd H a o b=H b:=by unfold upd;rw [if_neg h]
theorem aF6q {H:Hp} {a b:Addr} {o u:HO} (h:H a=some o) (h':H b=some u) (d:o≠u):a≠b:=by
  intro e;subst e;rw [h] at h';exact d (Option.some.inj h')
theorem aSq {H:Hp} {a b:Addr} {o:HO} (h:H a=some o) (h':H b=none):a≠b:=by
  intro e;subst e;rw [h] at h';cases h'
section
variable (P:Program) (w:World)
def ObjOk (H:Hp) (h:Heap) (a:Addr):HO->Prop
  | .lst xs=>xs.length<=sizeLine/\∃ (its:List Value) (n:Nat),Vals xs its/\h.get? a=some { cls:=.type "list", data:=.seq its.toArray n }
  | .tup xs=>xs.length<=sizeLine/\∃ its:List Value,Vals xs its/\IsTup h a its.toArray
  | .dK kvs=>kvs.length<=sizeLine/\(a==sysModules)=false/\∃ vs,KV kvs vs/\h.DictOf (bEq P w) a vs
  | .dT kvs=>kvs.length<=sizeLine/\(a==sysModules)=false/\∃ xs:List (List Key × Addr × Value),
      Paired (λ(p:List Key × V) (q:List Key × Addr × Value)=>p.1=q.1/\H q.2.1=some (.tup (p.1.map kV))/\RelV p.2 q.2.2) kvs xs ∧
      ∃ o es ep,h.get? a=some o/\o.ExactDict/\o.data=.dict es ep/\es.toList=xs.map (entryOfKey (tupleKind (bEq P w)))/\(xs.map (·.1)).Nodup
  | .set S n=>h.SetOf (intKind P w) a S n
  | .ins C dx fs=>H dx=some (.own a)/\fs.length<=1000/\dx≠a/\h.get? a=some (PySem.W.instObj C dx) ∧
      ∃ mA,h.Ns1 dx mA/\(∀ f,RelO (fs.lookup f) (mA f))/\PySem.Within mA (fs.map (·.1))
  | .own _=>∃ o,h.get? a=some o
  | .xd fs=>∃ mA,h.Ns1 a mA/\∀ f,RelO (fs.lookup f) (mA f)
  | .rng lo hi=>∃ t u v,h.get? a=some { cls:=.type "range", data:=.fields #[.int lo t,.int hi u,.int 1 v] }
  | .frz o u=>h.get? a=some o/\ObjOk H h a u
  | .tbl ps=>h.get? a=some { cls:=.none,data:=.fields ps }
  | .met f x=>h.get? a=some (PySem.W.methodObj (.ref f) (.ref x))
  | .ext φ=>φ h/\(∃ o,h.get? a=some o)/\∀ h1 h2:Heap,φ h1->(∀ o,h1.get? a=some o->h2.get? a=some o)->φ h2
def HOk (H:Hp) (h:Heap):Prop:=∀ a o,H a=some o->ObjOk P w H h a o
end
section
variable {P:Program} {w:World} {H H':Hp} {h h':Heap} {a:Addr} {o:HO}
theorem ObjOk.lt (x:ObjOk P w H h a o):a < h.objs.size:=by
  cases o with
  | lst xs=>obtain ⟨_,_,_,_,e⟩:=x;exact Heap.lt_size e
  | tup xs=>obtain ⟨_,_,_,p⟩:=x;exact p.lt
  | dK kvs=>obtain ⟨_,_,_,_,o,_,_,e,_⟩:=x;exact Heap.lt_size e
  | dT kvs=>obtain ⟨_,_,_,_,o,_,_,e,_⟩:=x;exact Heap.lt_size e
  | set S n=>obtain ⟨o,_,_,_,e,_⟩:=x;exact Heap.lt_size e
  | ins C dx fs=>obtain ⟨_,_,_,e,_⟩:=x;exact Heap.lt_size e
  | own y=>obtain ⟨_,e⟩:=x;exact Heap.lt_size e
  | xd fs=>obtain ⟨_,⟨_,_,_,e,_⟩,_⟩:=x;exact Heap.lt_size e
  | rng lo hi=>obtain ⟨_,_,_,e⟩:=x;exact Heap.lt_size e
  | frz ob u=>obtain ⟨e,_⟩:=x;exact Heap.lt_size e
  | tbl ps=>exact Heap.lt_size (show h.get? a=some _ from x)
  | met f y=>exact Heap.lt_size (show h.get? a=some _ from x)
  | ext φ=>obtain ⟨_,⟨_,e⟩,_⟩:=x;exact Heap.lt_size e
theorem Paired.mapP {α β:Type} {F G:α->β->Prop}:∀ {l₁:List α} {l₂:List β},Paired F l₁ l₂->(∀ a b,F a b->G a b)->Paired G l₁ l₂
  | _,_,.nil,_=>.nil
  | _,_,.cons r t,f=>.cons (f _ _ r) (Paired.mapP t f)
theorem ObjOk.stay (x:ObjOk P w H h a o) (k:∀ b u,(b=a\/H b=some (.own a))->h.get? b=some u->h'.get? b=some u)
    (ho:∀ b,H b=some (.own a)->H' b=some (.own a)) (ht:∀ b xs,H b=some (.tup xs)->H' b=some (.tup xs)):ObjOk P w H' h' a o:=by
  induction o with
  | lst xs=>obtain ⟨z,its,n,r,e⟩:=x;exact ⟨z,its,n,r,k _ _ (.inl rfl) e⟩
  | tup xs=>obtain ⟨z,its,r,ob,e,c⟩:=x;exact ⟨z,its,r,ob,k _ _ (.inl rfl) e,c⟩
  | dK kvs=>obtain ⟨z,y,vs,r,ob,es,ep,e,c⟩:=x;exact ⟨z,y,vs,r,ob,es,ep,k _ _ (.inl rfl) e,c⟩
  | dT kvs=>
    obtain ⟨z,y,xs,r,ob,es,ep,e,c⟩:=x
    exact ⟨z,y,xs,Paired.mapP r λ p q z=>⟨z.1,ht _ _ z.2.1,z.2.2⟩,ob,es,ep,k _ _ (.inl rfl) e,c⟩
  | set S n=>obtain ⟨ob,es,ep,t,e,c⟩:=x;exact ⟨ob,es,ep,t,k _ _ (.inl rfl) e,c⟩
  | ins C dx fs=>
    obtain ⟨d,z,ne,e,mA,⟨od,es,ep,e2,c⟩,r⟩:=x
    exact ⟨ho _ d,z,ne,k _ _ (.inl rfl) e,mA,⟨od,es,ep,k _ _ (.inr d) e2,c⟩,r⟩
  | own y=>obtain ⟨ob,e⟩:=x;exact ⟨ob,k _ _ (.inl rfl) e⟩
  | xd fs=>obtain ⟨mA,⟨od,es,ep,e,c⟩,r⟩:=x;exact ⟨mA,⟨od,es,ep,k _ _ (.inl rfl) e,c⟩,r⟩
  | rng lo hi=>obtain ⟨t,u,v,e⟩:=x;exact ⟨t,u,v,k _ _ (.inl rfl) e⟩
  | frz ob u ih=>obtain ⟨e,q⟩:=x;exact ⟨k _ _ (.inl rfl) e,ih q⟩
  | tbl ps=>
    have e:h.get? a=some { cls:=.none,data:=.fields ps }:=x
    show h'.get? a=some { cls:=.none,data:=.fields ps }
    exact k a _ (.inl rfl) e
  | met f y=>
    have e:h.get? a=some (PySem.W.methodObj (.ref f) (.ref y)):=x
    show h'.get? a=some (PySem.W.methodObj (.ref f) (.ref y))
    exact k a _ (.inl rfl) e
  | ext φ=>obtain ⟨p,⟨o,e⟩,st⟩:=x;exact ⟨st _ _ p λ o q=>k _ _ (.inl rfl) q,⟨o,k _ _ (.inl rfl) e⟩,st⟩
theorem HOk.lt (x:HOk P w H h) (e:H a=some o):a < h.objs.size:=(x a o e).lt
theorem HOk.fresh (x:HOk P w H h) (e:h.objs.size<=a):H a=none:=by
  cases q:H a with
  | none=>rfl
  | some u=>exact absurd (Nat.lt_of_lt_of_le (x.lt q) e) (Nat.lt_irrefl _)
theorem HOk.kept (x:HOk P w H h) (k:∀ b u,h.get? b=some u->h'.get? b=some u):HOk P w H h':=λ a o e=>
  (x a o e).stay (λ b u _ q=>k b u q) (λ _ q=>q) λ _ _ q=>q
theorem HOk.laid (x:HOk P w H h) (k:∀ b u,h.get? b=some u->h'.get? b=some u) (hp:h.objs.size<=a) (new:ObjOk P w (upd H a o) h' a o):HOk P w (upd H a o) h':=λ b u e=>by
  have hn:=x.fresh hp
  by_cases hb:b=a
  . subst hb;rw [aPq] at e;cases e;exact new
  . rw [aFq hb] at e
    exact (x b u e).stay (λ c v _ q=>k c v q) (λ c q=>by rw [aFq (aSq q hn)];exact q) λ c xs q=>by rw [aFq (aSq q hn)];exact q
end
def Rd (H:Hp) (a:Addr) (u:HO):Prop:=H a=some u\/∃ o,H a=some (.frz o u)
theorem Rd.ok {P:Program} {w:World} {H:Hp} {h:Heap} {a:Addr} {u:HO} (r:Rd H a u) (x:HOk P w H h):ObjOk P w H h a u:=by
  rcases r with r | ⟨o,r⟩
  . exact x a u r
  . obtain ⟨_,q⟩:=x a _ r
    exact q
def Mut:Option HO->Prop
  | some (.lst _)=>True
  | some (.dK _)=>True
  | some (.dT _)=>True
  | some (.set _ _)=>True
  | some (.ins _ _ _)=>True
  | some (.ext _)=>True
  | _=>False
section
variable {P:Program} {w:World} {H:Hp} {h h':Heap} {x e:Addr} {o':HO}
theorem HOk.write (ok:HOk P w H h) (mu:Mut (H x)) (he:e=x\/H e=some (.own x)) (k:∀ b u,b≠e->h.get? b=some u->h'.get? b=some u) (heo:∃ u,h'.get? e=some u)
    (new:ObjOk P w (upd H x o') h' x o'):HOk P w (upd H x o') h':=λ b u q=>by
  have nown:∀ c y,H c=some (.own y)->c≠x:=λ c y r z=>by subst z;rw [r] at mu;exact mu
  have ntup:∀ c xs,H c=some (.tup xs)->c≠x:=λ c xs r z=>by subst z;rw [r] at mu;exact mu
  by_cases hb:b=x
  . subst hb;rw [aPq] at q;cases q;exact new
  . rw [aFq hb] at q
    by_cases hbe:b=e
    . have q':H b=some (.own x):=by
        rcases he with z | z
        . exact absurd (hbe.trans z) hb
        . rw [hbe];exact z
      rw [q] at q';cases q'
      obtain ⟨v,hv⟩:=heo
      exact ⟨v,by rw [hbe];exact hv⟩
    . refine (ok b u q).stay (λ c v hc r=>k c v ?_ r) (λ c r=>by rw [aFq (nown c b r)];exact r) λ c xs r=>by rw [aFq (ntup c xs r)];exact r
      rcases hc with rfl | hc
      . exact hbe
      . rintro rfl
        rcases he with z | z
        . exact nown c b hc z
        . rw [hc] at z;cases z;exact hb rfl
end
structure Un (fs ex:List Addr) (H H':Hp) (h h':Heap):Prop where
  keep:∀ b o,h.get? b=some o->H b=none->b ∉ fs->b ∉ ex->h'.get? b=some o
  slot:∀ b o,h.get? b=some o->H b=none->b∈fs->b ∉ ex->∃ sl,h'.get? b=some { o with slots:=sl }
  free:∀ b o,h.get? b=some o->H b=none->b ∉ ex->H' b=none
  there:∀ b o,h.get? b=some o->b ∉ ex->∃ o',h'.get? b=some o'
  tups:∀ b xs,H b=some (.tup xs)->H' b=some (.tup xs)
  frzs:∀ b o u,H b=some (.frz o u)->H' b=some (.frz o u)
  tbls:∀ b ps,H b=some (.tbl ps)->∃ more,H' b=some (.tbl (ps++more))
section
variable {fs fs' ex ex':List Addr} {H H1 H2:Hp} {h h1 h2 h':Heap} {a x e:Addr} {o:HO}
theorem Un.any (u:Un fs ex H H1 h h1) {b:Addr} {ob:Obj} (q:h.get? b=some ob) (n:H b=none) (hx:b ∉ ex):∃ sl,h1.get? b=some { ob with slots:=sl }:=by
  by_cases hb:b∈fs
  . exact u.slot b ob q n hb hx
  . exact ⟨ob.slots,u.keep b ob q n hb hx⟩
theorem Un.kept (k:∀ b u,h.get? b=some u->h'.get? b=some u):Un fs ex H H h h':=
  ⟨λ b ob q _ _ _=>k b ob q,λ b ob q _ _ _=>⟨ob.slots,k b ob q⟩,λ _ _ _ n _=>n,λ b ob q _=>⟨ob,k b ob q⟩,λ _ _ q=>q,λ _ _ _ q=>q,λ _ ps q=>⟨#[],by rw [q];simp⟩⟩
theorem Un.refl:Un fs ex H H h h:=Un.kept λ _ _ q=>q
theorem Un.laid (k:∀ b u,h.get? b=some u->h'.get? b=some u) (hp:h.objs.size<=a) (hn:H a=none):Un fs ex H (upd H a o) h h' where
  keep:=λ b u q _ _ _=>k b u q
  slot:=λ b u q _ _ _=>⟨u.slots,k b u q⟩
  free:=λ b u q n _=>by rw [aFq (Nat.ne_of_lt (Nat.lt_of_lt_of_le (Heap.lt_size q) hp))];exact n
  there:=λ b u q _=>⟨u,k b u q⟩
  tups:=λ b xs q=>by rw [aFq (aSq q hn)];exact q
  frzs:=λ b u xs q=>by rw [aFq (aSq q hn)];exact q
  tbls:=λ b ps q=>⟨#[],by rw [aFq (aSq q hn),q];simp⟩
theorem Un.write (mu:Mut (H x)) (he:e=x\/H e=some (.own x)) (k:∀ b u,b≠e->h.get? b=some u->h'.get? b=some u) (heo:∃ u,h'.get? e=some u):Un fs ex H (upd H x o) h h':=by
  have hx:∀ b,H b=none->b≠x:=λ b n z=>by subst z;rw [n] at mu;exact mu
  have hb:∀ b,H b=none->b≠e:=λ b n z=>by
    subst z
    rcases he with r | r
    . exact hx b n r
    . rw [n] at r;cases r
  have hm:∀ b u,H b=some u->¬ Mut (some u)->b≠x:=λ b u q nm z=>by subst z;rw [q] at mu;exact nm mu
  refine ⟨λ b u q n _ _=>k b u (hb b n) q,λ b u q n _ _=>⟨u.slots,k b u (hb b n) q⟩,λ b u q n _=>by rw [aFq (hx b n)];exact n,λ b u q _=>?_,
    λ b xs q=>by rw [aFq (hm b _ q λ z=>z)];exact q,λ b u xs q=>by rw [aFq (hm b _ q λ z=>z)];exact q,λ b ps q=>⟨#[],by rw [aFq (hm b _ q λ z=>z),q];simp⟩⟩
  by_cases hbe:b=e
  . subst hbe;exact heo
  . exact ⟨u,k b u hbe q⟩
end
def trk (h:Heap) (H:Hp):List Addr:=(List.range h.objs.size).filter λ a=>(H a).isSome
def qNq (h:Heap) (H:Hp):Heap:=PySem.W.hideAll h (trk h H)
theorem pEq (h:Heap) (H:Hp):(qNq h H).objs.size=h.objs.size:=PySem.W.hideAll_size _ _
theorem sCq {h:Heap} {H:Hp} {b:Addr} {o:Obj} (e:h.get? b=some o) (n:H b=none):(qNq h H).get? b=some o:=
  PySem.W.hideAll_get _ e λ hm=>by
    have q:(H b).isSome=true:=(List.mem_filter.mp hm).2
    rw [n] at q;simp at q
theorem vEq {h:Heap} {H:Hp} {b:Addr} {o:Obj} (e:(qNq h H).get? b=some o):h.get? b=some o/\H b=none:=by
  have e':h.get? b=some o:=PySem.W.of_hideAll (trk h H) e
  refine ⟨e',?_⟩
  cases q:H b with
  | none=>rfl
  | some x=>
    have hm:b∈trk h H:=List.mem_filter.mpr ⟨List.mem_range.mpr (Heap.lt_size e'),by simp [q]⟩
    have z:(qNq h H).get? b=none:=PySem.W.hideAll_none (trk h H) hm
    rw [z] at e;cases e
structure Mod (K:PySem.W.Frag) (mg:Str->Option Value) (base:Heap):Prop where
  kin:K.In base
  glob:base.Ns mainGlobals mg
  blt:∃ mb,base.Ns builtinsNs mb/\∀ x:Str,x≠"__name__"->mb x=bootBuiltins x
  nolimit:base.NoLimit
structure Cx where
  prog:Program
  w:World
  K:PySem.W.Frag
  mg:Str->Option Value
  base:Heap
  A:Around
  N:List Str
  s₀:Shared
  H₀:Hp
  env:Env
  outer:List Env
  stack:List Env
  ex:List Addr
  fn:Str->Bool
  calm:Bool
  pn:List (Addr × Obj)
  xe:Value->Shared->Prop
def frs (l:List Env):List Addr:=l.filterMap (·.frame)
abbrev Cx.fs (X:Cx):List Addr:=frs X.outer
def Vis (sc:Scope) (x:Str):Prop:=sc.names.lookup x=some .local\/sc.names.lookup x=some .cell\/sc.names.lookup x=some .free
def Loc (sc:Scope) (x:Str):Prop:=sc.names.lookup x=some .local\/sc.names.lookup x=some .cell
def Look (env:Env) (h:Heap) (m:Str->Option Value) (x:Str) (u:Value):Prop:=
  (env.kindOf x=some .local/\m x=some u)\/((env.kindOf x=some .cell\/env.kindOf x=some .free)/\∃ c,env.cells.lookup x=some c/\h.IsCell c (some u))
structure Cx.Ok (X:Cx):Prop where
  mod:Mod X.K X.mg X.base
  kind:X.env.scope.kind=.function
  glob:X.env.globals=mainGlobals
  blt:X.env.builtins=builtinsNs
  above:X.s₀.heap.objs.size<=X.env.locals
  inj:∀ x y c,X.env.cells.lookup x=some c->X.env.cells.lookup y=some c->x=y
  has:∀ x,(X.env.kindOf x=some .cell\/X.env.kindOf x=some .free)->∃ c,X.env.cells.lookup x=some c
  cab:∀ x c,X.fn x=true->X.env.cells.lookup x=some c->X.s₀.heap.objs.size<=c
  hd:X.calm=true->X.A.handled=none
  frames:X.A.frames=some X.stack
  stk:X.stack=X.outer\/(X.stack=X.env::X.outer/\X.env.frame=some X.env.locals)
  exf:∀ b∈X.ex,b≠X.env.locals/\∀ x c,X.env.cells.lookup x=some c->c≠b
  bs:∀ b o,X.base.get? b=some o->X.s₀.heap.get? b=some o/\X.H₀ b=none
  bsz:X.base.objs.size<=X.s₀.heap.objs.size
  noex:∀ b o,X.base.get? b=some o->b ∉ X.ex
  exfs:∀ b∈X.ex,b ∉ X.fs
  funs:X.s₀.heap.FunFrames X.base X.outer
  frf:∀ b∈X.fs,X.H₀ b=none
structure Inv (X:Cx) (pins:List (Addr × Obj)) (σ:List (Option V)) (H:Hp) (s:Shared):Prop where
  ok:X.Ok
  os:s.os=X.s₀.os
  bare:AllBare s.gens
  base:Un X.fs X.ex X.H₀ H X.s₀.heap s.heap
  loc:∃ m,s.heap.Ns X.env.locals m/\∀ (i:Nat) (x:Str) (v:V),X.N[i]?=some x->σ[i]?=some (some v)->Vis X.env.scope x->∃ u,RelV v u/\Look X.env s.heap m x u
  cell:∀ x c,X.env.cells.lookup x=some c->∃ v,s.heap.IsCell c v
  free:H X.env.locals=none
  freeC:∀ x c,X.env.cells.lookup x=some c->H c=none
  pin:∀ p∈X.pn++pins,s.heap.get? p.1=some p.2/\H p.1=none/\p.1≠X.env.locals/\p.1 ∉ X.fs/\∀ v,p.2.data≠.cell v
  hok:HOk X.prog X.w H s.heap
  len:σ.length=X.N.length
section
variable {X:Cx} {pins:List (Addr × Obj)} {σ:List (Option V)} {H H':Hp} {s:Shared} {h':Heap}
theorem Cx.Ok.nofr (ok:X.Ok) {b:Addr} {o:Obj} (e:X.base.get? b=some o):b ∉ X.fs:=λ hb=>by
  have:=(ok.funs.mem hb).1
  rw [e] at this;cases this
theorem Inv.bs (I:Inv X pins σ H s):∀ b o,X.base.get? b=some o->s.heap.get? b=some o/\H b=none:=λ b o e=>
  ⟨I.base.keep b o (I.ok.bs b o e).1 (I.ok.bs b o e).2 (I.ok.nofr e) (I.ok.noex b o e),I.base.free b o (I.ok.bs b o e).1 (I.ok.bs b o e).2 (I.ok.noex b o e)⟩
theorem Inv.bk (I:Inv X pins σ H s):∀ b o,X.base.get? b=some o->s.heap.get? b=some o:=λ b o e=>(I.bs b o e).1
theorem Inv.mod (I:Inv X pins σ H s):Mod X.K X.mg X.base:=I.ok.mod
theorem Inv.kIn (I:Inv X pins σ H s):X.K.In s.heap:=I.ok.mod.kin.keeps I.bk
theorem Inv.lt (I:Inv X pins σ H s):X.env.locals < s.heap.objs.size:=let ⟨_,hn,_⟩:=I.loc;hn.lt
theorem Inv.sz (I:Inv X pins σ H s):X.s₀.heap.objs.size<=s.heap.objs.size:=Nat.le_trans I.ok.above (Nat.le_of_lt I.lt)
theorem Inv.nofs (I:Inv X pins σ H s) {a:Addr} (h:s.heap.objs.size<=a):a ∉ X.fs:=λ hb=>by
  obtain ⟨_,o,ho,_⟩:=I.ok.funs.mem hb
  exact absurd (Nat.lt_of_lt_of_le (Heap.lt_size ho) (Nat.le_trans I.sz h)) (Nat.lt_irrefl _)
theorem Inv.cne (I:Inv X pins σ H s):∀ x c,X.env.cells.lookup x=some c->c≠X.env.locals:=λ x c e z=>by
  obtain ⟨v,o,ho,hd⟩:=I.cell x c e
  obtain ⟨m,⟨o',es,ep,ho',hd',_⟩,_⟩:=I.loc
  rw [z,ho'] at ho;cases ho;rw [hd'] at hd;cases hd
theorem Inv.funs (I:Inv X pins σ H s):s.heap.FunFrames X.base X.outer:=by
  have all:∀ (l:List Env),(∀ b∈frs l,b∈X.fs)->X.s₀.heap.FunFrames X.base l->s.heap.FunFrames X.base l:=by
    intro l
    induction l with
    | nil=>intro _ _;trivial
    | cons env r ih=>
      intro hs hl
      obtain ⟨hk,⟨L,o,hf,hn,ho,hd⟩,hr⟩:=hl
      have hL:L∈X.fs:=hs L (by unfold frs;rw [List.filterMap_cons,hf];exact List.mem_cons_self)
      obtain ⟨sl,e⟩:=I.base.slot L o ho (I.ok.frf L hL) hL λ z=>I.ok.exfs L z hL
      exact ⟨hk,⟨L,_,hf,hn,e,hd⟩,ih (λ b hb=>hs b (by unfold frs;rw [List.filterMap_cons,hf];exact List.mem_cons_of_mem _ hb)) hr⟩
  exact all X.outer (λ _ hb=>hb) I.ok.funs
theorem Inv.stack (I:Inv X pins σ H s):s.heap.FunFrames X.base X.stack:=by
  rcases I.ok.stk with e | ⟨e,hf⟩
  . rw [e];exact I.funs
  . rw [e]
    obtain ⟨m,hn,_⟩:=I.loc
    refine .cons (by rw [I.ok.kind];decide) hf hn ?_ I.funs
    exact Heap.get?_none_of_le (Nat.le_trans I.ok.bsz I.ok.above)
theorem Inv.stkSub (I:Inv X pins σ H s):∀ b∈frs X.stack,b∈X.env.locals::X.fs:=λ b hb=>by
  rcases I.ok.stk with e | ⟨e,hf⟩
  . rw [e] at hb;exact List.mem_cons_of_mem _ hb
  . rw [e] at hb
    unfold frs at hb
    rw [List.filterMap_cons,hf] at hb
    exact hb
theorem Inv.stkFree (I:Inv X pins σ H s):∀ b∈frs X.stack,H b=none:=λ b hb=>by
  rcases List.mem_cons.mp (I.stkSub b hb) with e | hb
  . rw [e];exact I.free
  . obtain ⟨_,o,ho,_⟩:=I.ok.funs.mem hb
    exact I.base.free b o ho (I.ok.frf b hb) λ z=>I.ok.exfs b z hb
theorem Inv.step {g':Array GenState} {t':Nat} {d':Drawn} {ch:List Addr} (I:Inv X pins σ H s)
    (hch:∀ b∈ch,(b∈X.ex\/X.s₀.heap.objs.size<=b)/\b≠X.env.locals/\(∀ x c,X.env.cells.lookup x=some c->c≠b)/\∀ p∈X.pn++pins,p.1≠b)
    (keep:∀ b o,b≠X.env.locals->b ∉ X.fs->b ∉ ch->s.heap.get? b=some o->H b=none->h'.get? b=some o)
    (slot:∀ b o,b≠X.env.locals->b∈X.fs->b ∉ ch->s.heap.get? b=some o->H b=none->∃ sl,h'.get? b=some { o with slots:=sl }) (free:∀ b o,b ∉ ch->s.heap.get? b=some o->H b=none->H' b=none)
    (there:∀ b o,b ∉ ch->s.heap.get? b=some o->∃ o',h'.get? b=some o')
    (tups:∀ b xs,H b=some (.tup xs)->H' b=some (.tup xs)) (frzs:∀ b o u,H b=some (.frz o u)->H' b=some (.frz o u)) (tbls:∀ b ps,H b=some (.tbl ps)->∃ more,H' b=some (.tbl (ps++more)))
    (ns:∀ m,s.heap.Ns X.env.locals m->h'.Ns X.env.locals m) (hok:HOk X.prog X.w H' h') (hg:AllBare g') :
    Inv X pins σ H' { s with heap:=h',gens:=g',drawn:=d',toks:=t' }:=by
  have neL:∀ b o,X.s₀.heap.get? b=some o->b≠X.env.locals:=λ b o e=>Nat.ne_of_lt (Nat.lt_of_lt_of_le (Heap.lt_size e) I.ok.above)
  have neC:∀ b o,X.s₀.heap.get? b=some o->b ∉ X.ex->b ∉ ch:=λ b o e hx hb=>by
    rcases (hch b hb).1 with z | z
    . exact hx z
    . exact absurd (Nat.lt_of_lt_of_le (Heap.lt_size e) z) (Nat.lt_irrefl _)
  have cellK:∀ x c,X.env.cells.lookup x=some c->∀ v,s.heap.IsCell c v->h'.IsCell c v:=λ x c e v ⟨o,ho,hd⟩=>by
    have nch:c ∉ ch:=λ z=>(hch c z).2.2.1 x c e rfl
    by_cases hc:c∈X.fs
    . obtain ⟨sl,q⟩:=slot c o (I.cne x c e) hc nch ho (I.freeC x c e)
      exact ⟨_,q,hd⟩
    . exact ⟨o,keep c o (I.cne x c e) hc nch ho (I.freeC x c e),hd⟩
  refine ⟨I.ok,I.os,hg,⟨λ b o e n hb hx=>?_,λ b o e n hb hx=>?_,λ b o e n hx=>?_,λ b o e hx=>?_,λ b xs e=>tups b xs (I.base.tups b xs e),λ b o xs e=>frzs b o xs (I.base.frzs b o xs e),λ b ps e=>?_⟩,?_,λ x c e=>?_,?_,λ x c e=>?_,λ p hp=>?_,hok,I.len⟩
  . exact keep b o (neL b o e) hb (neC b o e hx) (I.base.keep b o e n hb hx) (I.base.free b o e n hx)
  . obtain ⟨sl,e1⟩:=I.base.slot b o e n hb hx
    obtain ⟨sl',e2⟩:=slot b _ (neL b o e) hb (neC b o e hx) e1 (I.base.free b o e n hx)
    exact ⟨sl',e2⟩
  . obtain ⟨o',e1⟩:=I.base.there b o e hx
    exact free b o' (neC b o e hx) e1 (I.base.free b o e n hx)
  . obtain ⟨o',e1⟩:=I.base.there b o e hx
    exact there b o' (neC b o e hx) e1
  . obtain ⟨m1,e1⟩:=I.base.tbls b ps e
    obtain ⟨m2,e2⟩:=tbls b _ e1
    exact ⟨m1++m2,by rw [e2,Array.append_assoc]⟩
  . obtain ⟨m,hn,hl⟩:=I.loc
    refine ⟨m,ns m hn,λ i x v e1 e2 e3=>?_⟩
    obtain ⟨u,r,l⟩:=hl i x v e1 e2 e3
    refine ⟨u,r,?_⟩
    rcases l with l | ⟨k,c,e,z⟩
    . exact .inl l
    . exact .inr ⟨k,c,e,cellK x c e _ z⟩
  . obtain ⟨v,z⟩:=I.cell x c e
    exact ⟨v,cellK x c e v z⟩
  . obtain ⟨m,⟨o,_,_,ho,_⟩,_⟩:=I.loc
    exact free _ o (λ z=>(hch _ z).2.1 rfl) ho I.free
  . obtain ⟨v,o,ho,hd⟩:=I.cell x c e
    exact free c o (λ z=>(hch c z).2.2.1 x c e rfl) ho (I.freeC x c e)
  . obtain ⟨e,n,ne,nf,d⟩:=I.pin p hp
    have nch:p.1 ∉ ch:=λ z=>(hch p.1 z).2.2.2 p hp rfl
    exact ⟨keep p.1 p.2 ne nf nch e n,free p.1 p.2 nch e n,ne,nf,d⟩
theorem Inv.un {t':Nat} (I:Inv X pins σ H s) (u:Un X.fs [] H H' s.heap h') (hok:HOk X.prog X.w H' h'):Inv X pins σ H' { s with heap:=h',toks:=t' }:=by
  obtain ⟨m,⟨o,es,ep,ho,r⟩,_⟩:=id I.loc
  obtain ⟨sl,hL⟩:=u.any ho I.free (by simp)
  exact I.step (g':=s.gens) (d':=s.drawn) (ch:=[]) (λ _ z=>nomatch z) (λ b o _ hb _ e n=>u.keep b o e n hb (by simp)) (λ b o _ hb _ e n=>u.slot b o e n hb (by simp)) (λ b o _ e n=>u.free b o e n (by simp)) (λ b o _ e=>u.there b o e (by simp)) u.tups u.frzs u.tbls (λ m' hm=>by
    obtain ⟨o',es',ep',ho',r'⟩:=hm
    rw [ho] at ho';cases ho'
    exact ⟨_,es',ep',hL,r'⟩) hok I.bare
theorem Inv.call {g':Array GenState} {t':Nat} {d':Drawn} {ch:List Addr} (I:Inv X pins σ H s) (u:Un (frs X.stack) ch H H' s.heap h') (hok:HOk X.prog X.w H' h') (hg:AllBare g')
    (hch:∀ b∈ch,(b∈X.ex\/X.s₀.heap.objs.size<=b)/\b≠X.env.locals/\(∀ x c,X.env.cells.lookup x=some c->c≠b)/\∀ p∈X.pn++pins,p.1≠b) :
    Inv X pins σ H' { s with heap:=h',gens:=g',drawn:=d',toks:=t' }:=by
  obtain ⟨m,⟨o,es,ep,ho,r⟩,_⟩:=id I.loc
  obtain ⟨sl,hL⟩:=u.any ho I.free λ z=>(hch _ z).2.1 rfl
  exact I.step (ch:=ch) hch (λ b o hL hb hc e n=>u.keep b o e n (λ z=>(List.mem_cons.mp (I.stkSub b z)).elim hL hb) hc) (λ b o _ _ hc e n=>u.any e n hc) (λ b o hc e n=>u.free b o e n hc) (λ b o hc e=>u.there b o e hc) u.tups u.frzs u.tbls (λ m' hm=>by
    obtain ⟨o',es',ep',ho',r'⟩:=hm
    rw [ho] at ho';cases ho'
    exact ⟨_,es',ep',hL,r'⟩) hok hg
theorem Inv.turned {t':Nat} {it:Addr} (I:Inv X pins σ H s) (k:∀ b o,b≠it->s.heap.get? b=some o->h'.get? b=some o) (hn:H it=none) (hL:it≠X.env.locals)
    (h1:it∈X.ex\/X.s₀.heap.objs.size<=it) (h2:∀ x c,X.env.cells.lookup x=some c->c≠it) (h3:∀ p∈X.pn++pins,p.1≠it):Inv X pins σ H { s with heap:=h',toks:=t' }:=by
  have nit:∀ b u,H b=some u->b≠it:=λ b u e z=>by rw [z,hn] at e;cases e
  refine I.step (g':=s.gens) (d':=s.drawn) (ch:=[it]) (λ b hb=>?_) (λ b o _ _ hc e _=>k b o (λ z=>hc (by simp [z])) e) (λ b o _ _ hc e _=>⟨o.slots,k b o (λ z=>hc (by simp [z])) e⟩) (λ _ _ _ _ n=>n)
    (λ b o hc e=>⟨o,k b o (λ z=>hc (by simp [z])) e⟩) (λ _ _ e=>e) (λ _ _ _ e=>e) (λ b ps e=>⟨#[],by rw [e];simp⟩) (λ m hm=>?_) (λ b u e=>?_) I.bare
  . have e:b=it:=by simpa using hb
    subst e
    exact ⟨h1,hL,h2,h3⟩
  . obtain ⟨o,es,ep,ho,r⟩:=hm
    exact ⟨o,es,ep,k _ o (Ne.symm hL) ho,r⟩
  . refine (I.hok b u e).stay (λ c v hc q=>k c v ?_ q) (λ _ q=>q) λ _ _ q=>q
    rcases hc with z | z
    . rw [z];exact nit b u e
    . exact nit c _ z
theorem Inv.tok (I:Inv X pins σ H s) (t:Nat):Inv X pins σ H { s with toks:=t }:=I.un (h':=s.heap) (t':=t) Un.refl I.hok
theorem Inv.kept {t':Nat} (I:Inv X pins σ H s) (k:∀ b u,s.heap.get? b=some u->h'.get? b=some u):Inv X pins σ H { s with heap:=h',toks:=t' }:=I.un (Un.kept k) (I.hok.kept k)
theorem Inv.laid {a:Addr} {o:HO} {t':Nat} (I:Inv X pins σ H s) (k:∀ b u,s.heap.get? b=some u->h'.get? b=some u) (hp:s.heap.objs.size<=a) (new:ObjOk X.prog X.w (upd H a o) h' a o) :
    Inv X pins σ (upd H a o) { s with heap:=h',toks:=t' }:=I.un (Un.laid k hp (I.hok.fresh hp)) (I.hok.laid k hp new)
theorem Inv.write {x e:Addr} {o:HO} {t':Nat} (I:Inv X pins σ H s) (mu:Mut (H x)) (he:e=x\/H e=some (.own x)) (k:∀ b u,b≠e->s.heap.get? b=some u->h'.get? b=some u) (heo:∃ u,h'.get? e=some u)
    (new:ObjOk X.prog X.w (upd H x o) h' x o):Inv X pins σ (upd H x o) { s with heap:=h',toks:=t' }:=I.un (Un.write mu he k heo) (I.hok.write mu he k heo new)
theorem Inv.pins_of {pins':List (Addr × Obj)} (I:Inv X pins σ H s) (h:∀ p∈pins',s.heap.get? p.1=some p.2/\H p.1=none/\p.1≠X.env.locals/\p.1 ∉ X.fs/\∀ v,p.2.data≠.cell v):Inv X pins' σ H s:=
  ⟨I.ok,I.os,I.bare,I.base,I.loc,I.cell,I.free,I.freeC,λ p hp=>(List.mem_append.mp hp).elim (λ z=>I.pin p (List.mem_append_left _ z)) (h p),I.hok,I.len⟩
theorem m9q {N:List Str} (hN:N.Nodup) {i j:Nat} {x:Str} (a:N[i]?=some x) (b:N[j]?=some x):i=j:=by
  obtain ⟨h1,e1⟩:=List.getElem?_eq_some_iff.mp a
  obtain ⟨h2,e2⟩:=List.getElem?_eq_some_iff.mp b
  exact (List.getElem_inj hN).mp (e1.trans e2.symm)
theorem jDq {M:Model} {A:Around} {E:Value->Shared->Prop} {i:Nat} {x:Str} {v:V} {u:Value} {Q:Unit->Shared->Prop} (I:Inv X pins σ H s) (hN:X.N.Nodup) (hi:X.N[i]?=some x) (hx:Loc X.env.scope x) (r:RelV v u)
    (h:∀ s',Inv X pins (σ.set i (some v)) H s'->(∃ a,Heap.SameBut a s.heap s'.heap/\(a=X.env.locals\/X.env.cells.lookup x=some a))->Q () s') (hf:X.fn x=true\/X.env.scope.names.lookup x=some .local:=by first | exact .inl rfl | exact .inr rfl | assumption):wpAny M A (storeName X.env x u) Q E s:=by
  obtain ⟨m,hn,hl⟩:=id I.loc
  have hcls:(X.env.scope.kind==.class||(X.env.scope.kind==.module&&X.env.locals !=X.env.globals))=false:=by rw [I.ok.kind];rfl
  have hiσ:i < σ.length:=by rw [I.len];exact (List.getElem?_eq_some_iff.mp hi).1
  have cne:=I.cne
  have tracked:∀ {a:Addr} {h':Heap},(∃ o,s.heap.get? a=some o/\H a=none)->Heap.SameBut a s.heap h'->HOk X.prog X.w H h':=λ{a h'} ha hs b ob e=>by
    obtain ⟨_,_,hfree⟩:=ha
    refine (I.hok b ob e).stay (λ c w' hc q=>(hs.2 c ?_).trans q) (λ _ q=>q) λ _ _ q=>q
    rintro rfl
    rcases hc with rfl | hc
    . rw [hfree] at e;cases e
    . rw [hfree] at hc;cases hc
  rcases hx with hk | hk
  . refine wpAny_storeName_local hk hn (λ h' hn' hs=>?_) hcls
    obtain ⟨oL,_,_,hoL,_⟩:=id hn
    refine h _ ⟨I.ok,I.os,I.bare,⟨λ b o e n hb hx=>?_,λ b o e n hb hx=>?_,I.base.free,λ b o e hx=>?_,I.base.tups,I.base.frzs,I.base.tbls⟩,⟨_,hn',λ j y v' e1 e2 e3=>?_⟩,λ y c e=>?_,I.free,I.freeC,λ p hp=>?_,tracked ⟨oL,hoL,I.free⟩ hs,by simpa using I.len⟩ ⟨_,hs,.inl rfl⟩
    . exact (hs.2 b (Nat.ne_of_lt (Nat.lt_of_lt_of_le (Heap.lt_size e) I.ok.above))).trans (I.base.keep b o e n hb hx)
    . obtain ⟨sl,e1⟩:=I.base.slot b o e n hb hx
      exact ⟨sl,(hs.2 b (Nat.ne_of_lt (Nat.lt_of_lt_of_le (Heap.lt_size e) I.ok.above))).trans e1⟩
    . obtain ⟨o',e1⟩:=I.base.there b o e hx
      exact ⟨o',(hs.2 b (Nat.ne_of_lt (Nat.lt_of_lt_of_le (Heap.lt_size e) I.ok.above))).trans e1⟩
    . by_cases hj:j=i
      . subst hj
        rw [hi] at e1;cases e1
        rw [List.getElem?_set_self hiσ] at e2
        cases e2
        exact ⟨u,r,.inl ⟨hk,by simp⟩⟩
      . rw [List.getElem?_set_ne (Ne.symm hj)] at e2
        obtain ⟨u',r',q⟩:=hl j y v' e1 e2 e3
        refine ⟨u',r',?_⟩
        rcases q with ⟨k,e⟩ | ⟨k,c,e,z⟩
        . refine .inl ⟨k,?_⟩
          have:y≠x:=λ e=>hj (m9q hN e1 (e ▸ hi))
          simp [this,e]
        . exact .inr ⟨k,c,e,z.sameBut hs (cne y c e)⟩
    . obtain ⟨w',z⟩:=I.cell y c e
      exact ⟨w',z.sameBut hs (cne y c e)⟩
    . obtain ⟨e,n,ne,nf,d⟩:=I.pin p hp
      exact ⟨(hs.2 p.1 ne).trans e,n,ne,nf,d⟩
  . have hfn:X.fn x=true:=by
      rcases hf with z | z
      . exact z
      . rw [z] at hk;cases hk
    obtain ⟨c,hc⟩:=I.ok.has x (.inl hk)
    obtain ⟨w',z⟩:=I.cell x c hc
    refine wpAny_storeName_cell I.ok.kind hk hc z (λ h' hc' hs=>?_)
    obtain ⟨oc,hoc,hocd⟩:=id z
    refine h { s with heap:=h' } ⟨I.ok,I.os,I.bare,⟨λ b o e n hb hx=>?_,λ b o e n hb hx=>?_,I.base.free,λ b o e hx=>?_,I.base.tups,I.base.frzs,I.base.tbls⟩,⟨m,hn.sameBut hs (Ne.symm (cne x c hc)),λ j y v' e1 e2 e3=>?_⟩,λ y c' e=>?_,I.free,I.freeC,λ p hp=>?_,tracked ⟨oc,hoc,I.freeC x c hc⟩ hs,by simpa using I.len⟩ ⟨c,hs,.inr hc⟩
    . exact (hs.2 b (Nat.ne_of_lt (Nat.lt_of_lt_of_le (Heap.lt_size e) (I.ok.cab x c hfn hc)))).trans (I.base.keep b o e n hb hx)
    . obtain ⟨sl,e1⟩:=I.base.slot b o e n hb hx
      exact ⟨sl,(hs.2 b (Nat.ne_of_lt (Nat.lt_of_lt_of_le (Heap.lt_size e) (I.ok.cab x c hfn hc)))).trans e1⟩
    . obtain ⟨o',e1⟩:=I.base.there b o e hx
      exact ⟨o',(hs.2 b (Nat.ne_of_lt (Nat.lt_of_lt_of_le (Heap.lt_size e) (I.ok.cab x c hfn hc)))).trans e1⟩
    . by_cases hj:j=i
      . subst hj
        rw [hi] at e1;cases e1
        rw [List.getElem?_set_self hiσ] at e2
        cases e2
        exact ⟨u,r,.inr ⟨.inl hk,c,hc,hc'⟩⟩
      . rw [List.getElem?_set_ne (Ne.symm hj)] at e2
        obtain ⟨u',r',q⟩:=hl j y v' e1 e2 e3
        refine ⟨u',r',?_⟩
        rcases q with q | ⟨k,c',e,z'⟩
        . exact .inl q
        . refine .inr ⟨k,c',e,z'.sameBut hs ?_⟩
          rintro rfl
          exact hj (m9q hN e1 (I.ok.inj _ _ _ e hc ▸ hi))
    . by_cases hcc:c'=c
      . subst hcc;exact ⟨_,hc'⟩
      . obtain ⟨w2,z2⟩:=I.cell y c' e
        exact ⟨w2,z2.sameBut hs hcc⟩
    . obtain ⟨e,n,ne,nf,d⟩:=I.pin p hp
      refine ⟨(hs.2 p.1 ?_).trans e,n,ne,nf,d⟩
      intro q
      rw [q,hoc] at e
      have q':oc=p.2:=Option.some.inj e
      exact d w' (by rw [<- q'];exact hocd)
theorem dTq {M:Model} {A:Around} {E:Value->Shared->Prop} {i:Nat} {x:Str} {v:V} {u:Value} {Q:Unit->Shared->Prop} (I:Inv X pins σ H s) (hN:X.N.Nodup) (hi:X.N[i]?=some x) (hx:Loc X.env.scope x) (r:RelV v u)
    (h:∀ s',Inv X pins (σ.set i (some v)) H s'->Q () s') (hf:X.fn x=true\/X.env.scope.names.lookup x=some .local:=by first | exact .inl rfl | exact .inr rfl | assumption):wpAny M A (storeName X.env x u) Q E s:=
  jDq I hN hi hx r (λ s' I' _=>h s' I') hf
theorem Inv.call' {s':Shared} {ch:List Addr} (I:Inv X pins σ H s) (ho:s'.os=s.os) (u:Un (frs X.stack) ch H H' s.heap s'.heap) (hok:HOk X.prog X.w H' s'.heap) (hg:AllBare s'.gens)
    (hch:∀ b∈ch,(b∈X.ex\/X.s₀.heap.objs.size<=b)/\b≠X.env.locals/\(∀ x c,X.env.cells.lookup x=some c->c≠b)/\∀ p∈X.pn++pins,p.1≠b):Inv X pins σ H' s':=by
  obtain ⟨h',g',d',t',o'⟩:=s'
  have e:o'=s.os:=ho
  subst e
  exact I.call (g':=g') (t':=t') (d':=d') u hok hg hch
end
abbrev XK:=Value->Option Addr->Hp->Prop
abbrev St:=List (Option V)
abbrev VK:=V->Hp->Prop
abbrev TE:=St->Hp->VK->Prop
abbrev TT:=St->Hp->(Bool->Hp->Prop)->Prop
abbrev TA:=St->Hp->(List V->Hp->Prop)->Prop
structure Ends where
  nx:St->Hp->Prop
  rt:VK
  bk:St->Hp->Prop:=λ _ _=>False
  ct:St->Hp->Prop:=λ _ _=>False
abbrev TS:=Ends->St->Hp->Prop
def EP (X:Cx) (pins:List (Addr × Obj)) (σ:St) (Q:VK) (u:Value) (s':Shared):Prop:=∃ v H',Inv X pins σ H' s'/\RelV v u/\Q v H'
def TP (X:Cx) (pins:List (Addr × Obj)) (σ:St) (Q:Bool->Hp->Prop) (b:Bool) (s':Shared):Prop:=∃ H',Inv X pins σ H' s'/\Q b H'
def AP (X:Cx) (pins:List (Addr × Obj)) (σ:St) (Q:List V->Hp->Prop) (us:List Value) (s':Shared):Prop:=∃ vs H',Inv X pins σ H' s'/\Vals vs us/\Q vs H'
def SP (X:Cx) (pins:List (Addr × Obj)) (D:Ends) (f:Flow) (s':Shared):Prop:=
  match f with
  | .next=>∃ σ' H',Inv X pins σ' H' s'/\D.nx σ' H'
  | .brk=>∃ σ' H',Inv X pins σ' H' s'/\D.bk σ' H'
  | .cont=>∃ σ' H',Inv X pins σ' H' s'/\D.ct σ' H'
  | .ret u=>∃ v σ' H',Inv X pins σ' H' s'/\RelV v u/\D.rt v H'
def PE (X:Cx) (e:Expr) (t:TE):Prop:=
  ∀ (pins:List (Addr × Obj)) (s:Shared) (σ:St) (H:Hp) (Q:VK),Inv X pins σ H s->t σ H Q->wpAny (model X.prog X.w) X.A (eval e X.env) (EP X pins σ Q) X.xe s
def PT (X:Cx) (e:Expr) (t:TT):Prop:=
  ∀ (pins:List (Addr × Obj)) (s:Shared) (σ:St) (H:Hp) (Q:Bool->Hp->Prop),Inv X pins σ H s->t σ H Q->wpAny (model X.prog X.w) X.A (isTrue e X.env (eval e X.env)) (TP X pins σ Q) X.xe s
def PW (X:Cx) (e:Expr) (t:TT):Prop:=
  ∀ (whole:Sem Value) (pins:List (Addr × Obj)) (s:Shared) (σ:St) (H:Hp) (Q:Bool->Hp->Prop),Inv X pins σ H s->t σ H Q->wpAny (model X.prog X.w) X.A (isTrue e X.env whole) (TP X pins σ Q) X.xe s
theorem PW.pt {X:Cx} {e:Expr} {t:TT} (h:PW X e t):PT X e t:=h _
def PA (X:Cx) (es:List Expr) (t:TA):Prop:=
  ∀ (pos:Pos) (pins:List (Addr × Obj)) (s:Shared) (σ:St) (H:Hp) (Q:List V->Hp->Prop),Inv X pins σ H s->t σ H Q->wpAny (model X.prog X.w) X.A (spliced (backTo pos (starEach es X.env))) (AP X pins σ Q) X.xe s
def PS (X:Cx) (st:Stmt) (t:TS):Prop:=
  ∀ (pins:List (Addr × Obj)) (s:Shared) (σ:St) (H:Hp) (D:Ends),Inv X pins σ H s->t D σ H->wpAny (model X.prog X.w) X.A (exec st X.env) (SP X pins D) X.xe s
def PSs (X:Cx) (st:List Stmt) (t:TS):Prop:=
  ∀ (pins:List (Addr × Obj)) (s:Shared) (σ:St) (H:Hp) (D:Ends),Inv X pins σ H s->t D σ H->wpAny (model X.prog X.w) X.A (execs st X.env) (SP X pins D) X.xe s
theorem thn {α:Type} {t:Sem α} {Q Q':α->Shared->Prop} {M:Model} {A:Around} {E:Value->Shared->Prop} {s:Shared} (h:wpAny M A t Q E s) (hQ:∀ a s,Q a s->Q' a s):wpAny M A t Q' E s:=wpAny_mono h hQ λ _ _ x=>x
section
variable {X:Cx}
theorem bin {a b:Expr} {ta tb:TE} (ha:PE X a ta) (hb:PE X b tb) {pins:List (Addr × Obj)} {s:Shared} {σ:St} {H:Hp} {R:V->V->Hp->Prop} (I:Inv X pins σ H s) (h:ta σ H λ x H1=>tb σ H1 λ y H2=>R x y H2)
    {α:Type} {Q:α->Shared->Prop} {f:Value->Value->Sem α}
    (hf:∀ v u s2 x y H2,Inv X pins σ H2 s2->RelV x v->RelV y u->R x y H2->wpAny (model X.prog X.w) X.A (f v u) Q X.xe s2) :
    wpAny (model X.prog X.w) X.A (eval a X.env) (λ v s₁=>wpAny (model X.prog X.w) X.A (eval b X.env) (λ u s₂=>wpAny (model X.prog X.w) X.A (f v u) Q X.xe s₂) X.xe s₁) X.xe s:=by
  refine thn (ha pins s σ H _ I h) λ v s1 ⟨x,H1,I1,r1,q1⟩=>?_
  refine thn (hb pins s1 σ H1 _ I1 q1) λ u s2 ⟨y,H2,I2,r2,q2⟩=>?_
  exact hf v u s2 x y H2 I2 r1 r2 q2
def tVar (i:Nat):TE:=λ σ H Q=>∃ v,σ[i]?=some (some v)/\Q v H
def tC (v:V):TE:=λ _ H Q=>Q v H
theorem oVq {i:Nat} {x:Str} {pos:Pos} (hN:X.N[i]?=some x) (hv:Vis X.env.scope x) (hd:(x==("__debug__" : Str))=false:=by decide) (hcd:(x==("__classdict__" : Str))=false:=by decide):PE X (.Name x pos) (tVar i):=by
  intro pins s σ H Q I h
  obtain ⟨v,e,h⟩:=h
  obtain ⟨m,hn,hl⟩:=I.loc
  obtain ⟨u,r,l⟩:=hl i x v hN e hv
  have fin:EP X pins σ Q u s:=⟨v,H,I,r,h⟩
  rcases l with ⟨hk,hm⟩ | ⟨hk,c,hc,hcell⟩
  . exact wpAny_Name (wpAny_loadName_local I.ok.kind hk hn hm fin) hd
  . rcases hk with hk | hk
    . exact wpAny_Name (wpAny_loadName_cell I.ok.kind hk hc hcell fin) hd
    . exact wpAny_Name (wpAny_loadName_free I.ok.kind hk hc hcell fin hcd) hd
theorem x2q {i j pos}:PE X (.Constant (.int i) j pos) (tC (.int i)):=λ _ _ _ H _ I h=>wpAny_Constant_int ⟨.int i,H,I.tok _,⟨_,rfl⟩,h⟩
theorem aG9q {b j pos}:PE X (.Constant (.bool b) j pos) (tC (.bl b)):=λ _ _ _ H _ I h=>Constant_bool ⟨.bl b,H,I,rfl,h⟩
theorem aB6q {j pos}:PE X (.Constant .none j pos) (tC .non):=λ _ _ _ H _ I h=>Constant_none ⟨.non,H,I,rfl,h⟩
theorem zKq {x j pos}:PE X (.Constant (.str x) j pos) (tC (.str x)):=λ _ _ _ H _ I h=>Calls.Constant_str ⟨.str x,H,I.tok _,⟨_,rfl⟩,h⟩
def Gl (X:Cx) (x:Str):Prop:=X.env.kindOf x=some .globalImplicit
theorem kKq {E:Value->Shared->Prop} {pins:List (Addr × Obj)} {s:Shared} {σ:St} {H:Hp} {x:Str} {u:Value} {pos:Pos} {Q:Value->Shared->Prop} (I:Inv X pins σ H s) (hg:Gl X x) (hm:X.mg x=some u) (h:Q u s)
    (hd:(x==("__debug__" : Str))=false:=by decide):wpAny (model X.prog X.w) X.A (eval (.Name x pos) X.env) Q E s:=
  Calls.Name_function_global I.ok.kind hg (Calls.loadGlobal_global (by rw [I.ok.glob];exact I.mod.glob.keeps I.bk) hm h) hd
theorem c0q {E:Value->Shared->Prop} {pins:List (Addr × Obj)} {s:Shared} {σ:St} {H:Hp} {x:Str} {u:Value} {pos:Pos} {Q:Value->Shared->Prop} (I:Inv X pins σ H s) (hg:Gl X x) (hm:X.mg x=none) (hv:bootBuiltins x=some u) (h:Q u s)
    (hn:x≠"__name__":=by decide) (hd:(x==("__debug__" : Str))=false:=by decide):wpAny (model X.prog X.w) X.A (eval (.Name x pos) X.env) Q E s:=by
  obtain ⟨mb,h1,h2⟩:=I.mod.blt
  exact Calls.Name_function_global I.ok.kind hg (Calls.loadGlobal_builtin (by rw [I.ok.glob];exact I.mod.glob.keeps I.bk) hm (by rw [I.ok.blt];exact h1.keeps I.bk) ((h2 x hn).trans hv) h) hd
theorem uSq {x:Str} {v:V} {u:Value} {pos:Pos} (hg:Gl X x) (hm:X.mg x=some u) (r:RelV v u) (hd:(x==("__debug__" : Str))=false:=by decide):PE X (.Name x pos) (tC v):=
  λ _ _ _ H _ I h=>kKq I hg hm ⟨v,H,I,r,h⟩ hd
theorem tPq {x:Str} {v:V} {u:Value} {pos:Pos} (hg:Gl X x) (hm:X.mg x=none) (hv:bootBuiltins x=some u) (r:RelV v u) (hn:x≠"__name__":=by decide) (hd:(x==("__debug__" : Str))=false:=by decide):PE X (.Name x pos) (tC v):=
  λ _ _ _ H _ I h=>c0q I hg hm hv ⟨v,H,I,r,h⟩ hn hd
variable {a b:Expr} {ta tb:TE} {pos:Pos}
variable {tA tB':TT} {rest:List Expr}
def tAnd (t u:TT):TT:=λ σ H Q=>t σ H λ c H1=>if c=true then u σ H1 Q else Q false H1
def tOr (t u:TT):TT:=λ σ H Q=>t σ H λ c H1=>if c=true then Q true H1 else u σ H1 Q
def tNot (t:TT):TT:=λ σ H Q=>t σ H λ c H1=>Q (!c) H1
theorem wKq (ha:PT X a tA):PW X (.BoolOp .And [a] pos) tA:=by
  intro wh pins s σ H Q I h
  refine isTrue_and (thn (ha pins s σ H Q I h) λ c s1 e=>?_)
  cases c with
  | true=>exact isTrue_and_nil e
  | false=>exact e
theorem aC1q (ha:PT X a tA):PW X (.BoolOp .Or [a] pos) tA:=by
  intro wh pins s σ H Q I h
  refine isTrue_or (thn (ha pins s σ H Q I h) λ c s1 e=>?_)
  cases c with
  | false=>exact isTrue_or_nil e
  | true=>exact e
theorem aE0q (ha:PT X a tA) (hb:PW X (.BoolOp .And (b::rest) pos) tB'):PW X (.BoolOp .And (a::b::rest) pos) (tAnd tA tB'):=by
  intro wh pins s σ H Q I h
  refine isTrue_and (thn (ha pins s σ H _ I h) λ c s1 ⟨H1,I1,q1⟩=>?_)
  cases c with
  | true=>exact hb wh pins s1 σ H1 Q I1 q1
  | false=>exact ⟨H1,I1,q1⟩
theorem aK8q (ha:PT X a tA) (hb:PW X (.BoolOp .Or (b::rest) pos) tB'):PW X (.BoolOp .Or (a::b::rest) pos) (tOr tA tB'):=by
  intro wh pins s σ H Q I h
  refine isTrue_or (thn (ha pins s σ H _ I h) λ c s1 ⟨H1,I1,q1⟩=>?_)
  cases c with
  | true=>exact ⟨H1,I1,q1⟩
  | false=>exact hb wh pins s1 σ H1 Q I1 q1
theorem zAq (ha:PT X a tA):PT X (.UnaryOp .Not a pos) (tNot tA):=by
  intro pins s σ H Q I h
  exact isTrue_not (ha pins s σ H (λ c H1=>Q (!c) H1) I h)
def aA9q (ta tb:TE):TE:=λ σ H Q=>ta σ H λ x H1=>∃ c,x=.bl c/\if c=true then tb σ H1 Q else Q (.bl false) H1
def zHq (ta:TE):TE:=λ σ H Q=>ta σ H λ x H1=>∃ c,x=.bl c/\Q (.bl (!c)) H1
theorem yYq {op} {t:TE} (h:PE X a t):PE X (.BoolOp op [a] pos) t:=λ pins s σ H Q I hw=>BoolOp_one (h pins s σ H Q I hw)
theorem xPq (ha:PE X a ta) (hb:PE X (.BoolOp .And (b::rest) pos) tb):PE X (.BoolOp .And (a::b::rest) pos) (aA9q ta tb):=by
  intro pins s σ H Q I h
  refine BoolOp_and (thn (ha pins s σ H _ I h) λ v s1 ⟨x,H1,I1,r1,q1⟩=>?_)
  obtain ⟨c,rfl,q1⟩:=q1
  cases r1
  refine wpAny_truthy_bool ?_
  cases c with
  | true=>exact hb pins s1 σ H1 Q I1 q1
  | false=>exact ⟨.bl false,H1,I1,rfl,q1⟩
theorem zFq (ha:PE X a ta):PE X (.UnaryOp .Not a pos) (zHq ta):=by
  intro pins s σ H Q I h
  refine UnaryOp_ (thn (ha pins s σ H _ I h) λ v s1 ⟨x,H1,I1,r1,q1⟩=>?_)
  obtain ⟨c,rfl,q1⟩:=q1
  cases r1
  exact not_of (wpAny_truthy_bool ⟨.bl (!c),H1,I1,rfl,q1⟩)
def tIf (t:TT) (ta tb:TE):TE:=λ σ H Q=>t σ H λ c H1=>if c=true then ta σ H1 Q else tb σ H1 Q
theorem qUq {c:Expr} (hc:PT X c tA) (ha:PE X a ta) (hb:PE X b tb):PE X (.IfExp c a b pos) (tIf tA ta tb):=by
  intro pins s σ H Q I h
  refine wpAny_IfExp (thn (hc pins s σ H _ I h) λ d s1 ⟨H1,I1,q1⟩=>?_)
  cases d with
  | true=>exact ha pins s1 σ H1 Q I1 q1
  | false=>exact hb pins s1 σ H1 Q I1 q1
end
def SqL (K:PySem.W.Frag) (H:Hp) (a:Addr) (xs:List V):Prop:=
  Rd H a (.lst xs) ∨
    ∃ (o:Obj) (its:Array Value) (n:Nat),K.lookup a=some o/\o.cls=.type "list"/\o.dict=none/\o.data=.seq its n/\its.size<=sizeLine/\Vals xs its.toList
def SqT (K:PySem.W.Frag) (H:Hp) (a:Addr) (xs:List V):Prop:=
  Rd H a (.tup xs) ∨
    ∃ (o:Obj) (its:Array Value) (n:Nat),K.lookup a=some o/\o.cls=.type "tuple"/\o.data=.seq its n/\its.size<=sizeLine/\Vals xs its.toList
def absV:Value->Option V
  | .none=>some .non
  | .bool b=>some (.bl b)
  | .int i _=>some (.int i)
  | .str x _=>some (.str x)
  | .bytes b _=>some (.byt b)
  | .float b _=>some (.flt b)
  | .ref a=>some (.ref a)
  | .type n=>some (.ty n)
  | _=>none
theorem RelV.abs {x:V} {u:Value} (r:RelV x u):absV u=some x:=by
  cases x with
  | non=>cases r;rfl
  | bl _=>cases r;rfl
  | int _=>obtain ⟨t,rfl⟩:=r;rfl
  | str _=>obtain ⟨t,rfl⟩:=r;rfl
  | byt _=>obtain ⟨t,rfl⟩:=r;rfl
  | flt _=>obtain ⟨t,rfl⟩:=r;rfl
  | ref _=>cases r;rfl
  | ty _=>cases r;rfl
theorem RelV.inj {x y:V} {u:Value} (r:RelV x u) (q:RelV y u):x=y:=Option.some.inj (r.abs.symm.trans q.abs)
theorem Vals.inj:∀ {xs ys:List V} {us:List Value},Vals xs us->Vals ys us->xs=ys
  | _,_,_,.nil,.nil=>rfl
  | _,_,_,.cons r t,.cons r' t'=>by rw [r.inj r',Vals.inj t t']
section
variable {X:Cx} {pins:List (Addr × Obj)} {σ:St} {H:Hp} {s:Shared} {a:Addr} {xs ys:List V}
theorem SqL.of {K:PySem.W.Frag} (h:H a=some (.lst xs)):SqL K H a xs:=.inl (.inl h)
theorem SqT.of {K:PySem.W.Frag} (h:H a=some (.tup xs)):SqT K H a xs:=.inl (.inl h)
theorem Inv.list (I:Inv X pins σ H s) (h:SqL X.K H a xs):∃ its:List Value,Vals xs its/\PlainL s.heap a its.toArray/\xs.length<=sizeLine:=by
  rcases h with h | ⟨o,its,n,hk,hc,hd,hs,hz,r⟩
  . obtain ⟨z,its,n,r,e⟩:=h.ok I.hok
    exact ⟨its,r,⟨_,n,e,rfl,rfl,rfl⟩,z⟩
  . refine ⟨its.toList,r,⟨o,n,I.kIn a o hk,hc,hd,by simpa using hs⟩,?_⟩
    have e:=r.length
    simp only [Array.length_toList] at e
    omega
theorem Inv.tuple (I:Inv X pins σ H s) (h:SqT X.K H a xs):∃ its:List Value,Vals xs its/\IsTup s.heap a its.toArray/\xs.length<=sizeLine:=by
  rcases h with h | ⟨o,its,n,hk,hc,hs,hz,r⟩
  . obtain ⟨z,its,r,p⟩:=h.ok I.hok
    exact ⟨its,r,p,z⟩
  . refine ⟨its.toList,r,⟨o,I.kIn a o hk,hc,n,by simpa using hs⟩,?_⟩
    have e:=r.length
    simp only [Array.length_toList] at e
    omega
theorem Inv.list_inj (I:Inv X pins σ H s) (h:SqL X.K H a xs) (h':SqL X.K H a ys):xs=ys:=by
  obtain ⟨its,r,⟨o,n,e,_,_,d⟩,_⟩:=I.list h
  obtain ⟨its',r',⟨o',n',e',_,_,d'⟩,_⟩:=I.list h'
  rw [e] at e';cases e'
  rw [d] at d'
  injection d' with d1 _
  have:its=its':=by simpa using congrArg Array.toList d1
  subst this
  exact r.inj r'
theorem Inv.tuple_inj (I:Inv X pins σ H s) (h:SqT X.K H a xs) (h':SqT X.K H a ys):xs=ys:=by
  obtain ⟨its,r,⟨o,e,_,n,d⟩,_⟩:=I.tuple h
  obtain ⟨its',r',⟨o',e',_,n',d'⟩,_⟩:=I.tuple h'
  rw [e] at e';cases e'
  rw [d] at d'
  injection d' with d1 _
  have:its=its':=by simpa using congrArg Array.toList d1
  subst this
  exact r.inj r'
end
abbrev Cx.wish (X:Cx) (E:Value->Shared->Prop):Cx:={ X with xe:=E }
abbrev Cx.nox (X:Cx):Cx:=X.wish λ _ _=>False
theorem Cx.Ok.wish {X:Cx} (ok:X.Ok) (E:Value->Shared->Prop):(X.wish E).Ok:=
  ⟨ok.mod,ok.kind,ok.glob,ok.blt,ok.above,ok.inj,ok.has,ok.cab,ok.hd,ok.frames,ok.stk,ok.exf,ok.bs,ok.bsz,ok.noex,ok.exfs,ok.funs,ok.frf⟩
theorem Cx.Ok.unwish {X:Cx} {E:Value->Shared->Prop} (ok:(X.wish E).Ok):X.Ok:=
  ⟨ok.mod,ok.kind,ok.glob,ok.blt,ok.above,ok.inj,ok.has,ok.cab,ok.hd,ok.frames,ok.stk,ok.exf,ok.bs,ok.bsz,ok.noex,ok.exfs,ok.funs,ok.frf⟩
section
variable {X:Cx} {pins:List (Addr × Obj)} {σ:St} {H:Hp} {s:Shared} {E:Value->Shared->Prop}
theorem Inv.wish (I:Inv X pins σ H s) (E:Value->Shared->Prop):Inv (X.wish E) pins σ H s:=⟨I.ok.wish E,I.os,I.bare,I.base,I.loc,I.cell,I.free,I.freeC,I.pin,I.hok,I.len⟩
theorem Inv.unwish (I:Inv (X.wish E) pins σ H s):Inv X pins σ H s:=⟨I.ok.unwish,I.os,I.bare,I.base,I.loc,I.cell,I.free,I.freeC,I.pin,I.hok,I.len⟩
theorem SP.unwish {D:Ends} {f:Flow} {s':Shared} (h:SP (X.wish E) pins D f s'):SP X pins D f s':=by
  cases f with
  | next=>obtain ⟨σ',H',I,q⟩:=h;exact ⟨σ',H',I.unwish,q⟩
  | brk=>obtain ⟨σ',H',I,q⟩:=h;exact ⟨σ',H',I.unwish,q⟩
  | cont=>obtain ⟨σ',H',I,q⟩:=h;exact ⟨σ',H',I.unwish,q⟩
  | ret u=>obtain ⟨v,σ',H',I,r,q⟩:=h;exact ⟨v,σ',H',I.unwish,r,q⟩
theorem PSs.nox {st:List Stmt} {t:TS} (h:PSs X.nox st t):PSs X st t:=λ pins s σ H D I hw=>
  wpAny_mono (h pins s σ H D (I.wish _) hw) (λ _ _ q=>q.unwish) λ _ _ z=>False.elim z
end
section
variable {X:Cx} {st:Stmt} {rest:List Stmt} {t u:TS} {e:Expr} {te:TE} {pos:Pos}
def zYq:TS:=λ D σ H=>D.nx σ H
def tSeq (t u:TS):TS:=λ D σ H=>t { D with nx:=u D } σ H
theorem u8q:PSs X [] zYq:=λ _ _ σ H _ I h=>wpAny_execs_nil ⟨σ,H,I,h⟩
theorem sGq (h1:PS X st t) (h2:PSs X rest u):PSs X (st::rest) (tSeq t u):=by
  intro pins s σ H D I h
  refine wpAny_execs_cons (thn (h1 pins s σ H { D with nx:=u D } I h) λ f s1 q=>?_)
  cases f with
  | next=>
    obtain ⟨σ',H',I',q⟩:=q
    exact h2 pins s1 σ' H' D I' q
  | ret v=>exact q
  | brk=>exact q
  | cont=>exact q
theorem u9q (h1:PS X st t):PSs X [st] t:=by
  intro pins s σ H D I h
  refine wpAny_execs_cons (thn (h1 pins s σ H D I h) λ f s1 q=>?_)
  cases f with
  | next=>exact wpAny_execs_nil q
  | ret v=>exact q
  | brk=>exact q
  | cont=>exact q
theorem Inv.quiet {pins:List (Addr × Obj)} {σ:St} {H:Hp} {s:Shared} (I:Inv X pins σ H s):interactive X.env=false:=by simp [interactive,I.ok.kind]
def zDq (te:TE):TS:=λ D σ H=>te σ H λ _ H1=>D.nx σ H1
theorem w2q (he:PE X e te) (hs:swapsWith e none pos.line X.env=pure false:=by rfl):PS X (.Expr e pos) (zDq te):=by
  intro pins s σ H D I h
  exact wpAny_Expr_any (thn (he pins s σ H _ I h) λ v s1 ⟨x,H1,I1,r1,q1⟩=>⟨σ,H1,I1,q1⟩) I.quiet hs
def tRet (te:TE):TS:=λ D σ H=>te σ H D.rt
theorem zSq (he:PE X e te):PS X (.Return (some e) pos) (tRet te):=by
  intro pins s σ H D I h
  exact wpAny_Return_some (thn (he pins s σ H _ I h) λ v s1 ⟨x,H1,I1,r1,q1⟩=>⟨x,σ,H1,I1,r1,q1⟩)
def tIfS (c:TT) (t u:TS):TS:=λ D σ H=>c σ H λ b H1=>if b=true then t D σ H1 else u D σ H1
theorem aG0q {c:Expr} {a b:List Stmt} {tc:TT} (hc:PT X c tc) (ha:PSs X a t) (hb:PSs X b u):PS X (.If c a b pos) (tIfS tc t u):=by
  intro pins s σ H D I h
  refine wpAny_If (thn (hc pins s σ H _ I h) λ d s1 ⟨H1,I1,q1⟩=>?_)
  cases d with
  | true=>exact ha pins s1 σ H1 D I1 q1
  | false=>exact hb pins s1 σ H1 D I1 q1
end
abbrev TG:=V->St->Hp->(St->Hp->Prop)->Prop
abbrev TGs:=List V->St->Hp->(St->Hp->Prop)->Prop
def PG (X:Cx) (target:Expr) (t:TG):Prop:=
  ∀ (pins:List (Addr × Obj)) (s:Shared) (σ:St) (H:Hp) (v:V) (u:Value) (Q:St->Hp->Prop),Inv X pins σ H s->RelV v u->t v σ H Q →
    wpAny (model X.prog X.w) X.A (assign target X.env u) (λ _ s'=>∃ σ' H',Inv X pins σ' H' s'/\Q σ' H') X.xe s
def PGs (X:Cx) (ts:List Expr) (t:TGs):Prop:=
  ∀ (pins:List (Addr × Obj)) (s:Shared) (σ:St) (H:Hp) (vs:List V) (us:List Value) (Q:St->Hp->Prop),Inv X pins σ H s->Vals vs us->t vs σ H Q →
    wpAny (model X.prog X.w) X.A (assignInOrder ((assignEach ts X.env).map (·.2)) us) (λ _ s'=>∃ σ' H',Inv X pins σ' H' s'/\Q σ' H') X.xe s
abbrev yCq:=V->V->V->Hp->(Hp->Prop)->Prop
def PSet (X:Cx) (t:yCq):Prop:=
  ∀ (pins:List (Addr × Obj)) (s:Shared) (σ:St) (H:Hp) (o i v:V) (ov iv u:Value) (Q:Hp->Prop),Inv X pins σ H s->RelV o ov->RelV i iv->RelV v u->t o i v H Q →
    wpAny (model X.prog X.w) X.A (setItem ov iv u) (λ _ s'=>∃ H',Inv X pins σ H' s'/\Q H') X.xe s
abbrev TIp:=V->V->Hp->VK->Prop
def PIp (X:Cx) (op:Operator) (t:TIp):Prop:=
  ∀ (pins:List (Addr × Obj)) (s:Shared) (σ:St) (H:Hp) (x y:V) (v u:Value) (Q:VK),Inv X pins σ H s->RelV x v->RelV y u->t x y H Q →
    wpAny (model X.prog X.w) X.A (inplaceOp op v u) (EP X pins σ Q) X.xe s
section
variable {X:Cx} {pos:Pos}
def mHq (i:Nat):TG:=λ v σ H Q=>Q (σ.set i (some v)) H
theorem uDq {i:Nat} {x:Str} (hN:X.N.Nodup) (hi:X.N[i]?=some x) (hx:Loc X.env.scope x) (hf:X.fn x=true\/X.env.scope.names.lookup x=some .local:=by first | exact .inl rfl | exact .inr rfl | assumption):PG X (.Name x pos) (mHq i):=by
  intro pins s σ H v u Q I r h
  exact wpAny_assign_Name (dTq I hN hi hx r (λ s' I'=>⟨_,H,I',h⟩) hf)
def gNil:TGs:=λ vs σ H Q=>vs=[]/\Q σ H
def y8q (t:TG) (u:TGs):TGs:=λ vs σ H Q=>∃ v r,vs=v::r/\t v σ H λ σ' H'=>u r σ' H' Q
theorem vCq:PGs X [] gNil:=by
  intro pins s σ H vs us Q I r h
  obtain ⟨e,h⟩:=h
  subst e
  cases r
  exact assignInOrder_nil ⟨σ,H,I,h⟩
theorem s0q {e:Expr} {es:List Expr} {t:TG} {u:TGs} (h1:PG X e t) (h2:PGs X es u)
    (hs:(assignEach (e::es) X.env).map (·.2)=assign e X.env::(assignEach es X.env).map (·.2):=by rfl):PGs X (e::es) (y8q t u):=by
  intro pins s σ H vs us Q I r h
  obtain ⟨v,vr,e1,h⟩:=h
  subst e1
  cases r with
  | cons r rr=>
    rw [hs]
    refine assignInOrder_cons (thn (h1 pins s σ H _ _ _ I r h) λ _ s1 ⟨σ1,H1,I1,q1⟩=>?_)
    exact h2 pins s1 σ1 H1 _ _ Q I1 rr q1
def gTup (K:PySem.W.Frag) (n:Nat) (t:TGs):TG:=λ v σ H Q=>∃ a xs,v=.ref a/\SqT K H a xs/\xs.length=n/\t xs σ H Q
theorem y7q {es:List Expr} {k:Nat} {t:TGs} {n:Nat} (hc:X.calm=true) (h:PGs X es t)
    (hn:(assignEach es X.env).length=n:=by rfl) (hst:(assignEach es X.env).findIdx? (·.1)=none:=by rfl):PG X (.Tuple es k pos) (gTup X.K n t):=by
  intro pins s σ H v u Q I r hw
  obtain ⟨a,xs,e1,hq,hl,hw⟩:=hw
  subst e1
  cases r
  obtain ⟨its,rv,ht,hz⟩:=I.tuple hq
  refine assign_Tuple_tuple (I.ok.hd hc) ht (by simp [hn,<- hl,rv.length]) hst λ h' hx=>?_
  have I1:Inv X pins σ H { s with heap:=h' }:=I.kept (t':=s.toks) λ b o e=>hx b o (Nat.ne_of_lt (Heap.lt_size e)) e
  exact h pins _ σ H xs _ Q I1 (by simpa using rv) hw
def gSub (to ti:TE) (t:yCq):TG:=λ v σ H Q=>to σ H λ o H1=>ti σ H1 λ i H2=>t o i v H2 λ H3=>Q σ H3
theorem aD5q {o i:Expr} {to ti:TE} {t:yCq} (ho:PE X o to) (hi:PE X i ti) (hs:PSet X t)
    (ha:∀ v,assign (.Subscript o i pos) X.env v=(do
      let ov ← holding [v] (eval o X.env)
      let iv ← holding [v,ov] (eval i X.env)
      standAt pos
      holding [v,ov,iv] (setItem ov iv v)
      release [v,ov,iv] []):=by intro _;rfl):PG X (.Subscript o i pos) (gSub to ti t):=by
  intro pins s σ H v u Q I r h
  rw [ha]
  refine wpAny_bind (wpAny_holding (thn (ho pins s σ H _ I h) λ ov s1 ⟨x,H1,I1,r1,q1⟩=>?_))
  refine wpAny_bind (wpAny_holding (thn (hi pins s1 σ H1 _ I1 q1) λ iv s2 ⟨y,H2,I2,r2,q2⟩=>?_))
  refine wpAny_bind (wpAny_standAt (wpAny_bind (wpAny_holding (thn (hs pins s2 σ H2 x y v ov iv u _ I2 r1 r2 r q2) λ _ s3 ⟨H3,I3,q3⟩=>?_))))
  exact wpAny_release ⟨σ,H3,I3,q3⟩
def wRq (te:TE) (g:TG):TS:=λ D σ H=>te σ H λ x H1=>g x σ H1 D.nx
theorem xVq {tg e:Expr} {te:TE} {g:TG} (he:PE X e te) (hg:PG X tg g) (hs:swapsWithSole [tg] e pos.line X.env=pure false:=by rfl) (hw:swappedStores [tg] e X.env=pure none:=by rfl)
    (h1:(assignEach [tg] X.env).map (·.2)=[assign tg X.env]:=by rfl):PS X (.Assign [tg] e pos) (wRq te g):=by
  intro pins s σ H D I h
  refine wpAny_Assign_stores (thn (he pins s σ H _ I h) λ v s1 ⟨x,H1,I1,r1,q1⟩=>?_) hs hw
  rw [h1]
  exact thn (hg pins s1 σ H1 x v _ I1 r1 q1) λ _ s2 q=>q
theorem x0q {i:Nat} {x:Str} {e:Expr} {te:TE} {pos':Pos} (hN:X.N.Nodup) (hi:X.N[i]?=some x) (hx:Loc X.env.scope x) (he:PE X e te) (hs:swapsWith e (some (.Name x pos')) pos.line X.env=pure false:=by rfl) (hf:X.fn x=true\/X.env.scope.names.lookup x=some .local:=by first | exact .inl rfl | exact .inr rfl | assumption) :
    PS X (.Assign [.Name x pos'] e pos) (wRq te (mHq i)):=by
  intro pins s σ H D I h
  refine wpAny_Assign_Name (thn (he pins s σ H _ I h) λ v s1 ⟨y,H1,I1,r1,q1⟩=>?_) hs
  exact dTq I1 hN hi hx r1 (λ s2 I2=>⟨_,H1,I2,q1⟩) hf
def tAug (i:Nat) (te:TE) (ti:TIp):TS:=λ D σ H=>∃ x,σ[i]?=some (some x)/\te σ H λ y H1=>ti x y H1 λ z H2=>D.nx (σ.set i (some z)) H2
theorem aB4q {i:Nat} {x:Str} {e:Expr} {te:TE} {op:Operator} {ti:TIp} {pos':Pos} (hN:X.N.Nodup) (hi:X.N[i]?=some x) (hx:Loc X.env.scope x) (he:PE X e te) (ho:PIp X op ti) (hf:X.fn x=true\/X.env.scope.names.lookup x=some .local:=by first | exact .inl rfl | exact .inr rfl | assumption) :
    PS X (.AugAssign (.Name x pos') op e pos) (tAug i te ti):=by
  intro pins s σ H D I h
  obtain ⟨v,e1,h⟩:=h
  obtain ⟨m,hn,hl⟩:=I.loc
  have vis:Vis X.env.scope x:=by rcases hx with k | k;exact .inl k;exact .inr (.inl k)
  obtain ⟨u,r,l⟩:=hl i x v hi e1 vis
  refine wpAny_AugAssign_Name ?_
  have go:wpAny (model X.prog X.w) X.A (eval e X.env) (λ w s₂=>wpAny (model X.prog X.w) X.A (inplaceOp op u w) (λ r s₃=>wpAny (model X.prog X.w) X.A (storeName X.env x r) (λ _=>SP X pins D .next) X.xe s₃) X.xe s₂) X.xe s:=by
    refine thn (he pins s σ H _ I h) λ w s1 ⟨y,H1,I1,r1,q1⟩=>?_
    refine thn (ho pins s1 σ H1 v y u w _ I1 r r1 q1) λ z s2 ⟨zv,H2,I2,r2,q2⟩=>?_
    exact dTq I2 hN hi hx r2 (λ s3 I3=>⟨_,H2,I3,q2⟩) hf
  rcases l with ⟨hk,hm⟩ | ⟨hk,c,hc,hcell⟩
  . exact wpAny_loadName_local I.ok.kind hk hn hm go
  . rcases hk with hk | hk
    . exact wpAny_loadName_cell I.ok.kind hk hc hcell go
    . rcases hx with k | k
      . have:X.env.scope.names.lookup x=some .free:=hk
        rw [k] at this;cases this
      . have:X.env.scope.names.lookup x=some .free:=hk
        rw [k] at this;cases this
def ipI (f:Int->Int->Int):TIp:=λ x y H Q=>∃ i j,x=.int i/\y=.int j/\Q (.int (f i j)) H
theorem z8q:PIp X .Add (ipI λ i j=>i+j):=by
  intro pins s σ H x y v u Q I r1 r2 h
  obtain ⟨i,j,e1,e2,q⟩:=h
  subst e1;subst e2
  obtain ⟨t,rfl⟩:=r1
  obtain ⟨t',rfl⟩:=r2
  exact iadd_int ⟨.int _,H,I.tok _,⟨_,rfl⟩,q⟩
end
section
variable {X:Cx} {pos:Pos}
def tHq (c:TT) (tb:TS):TS:=λ D σ H=>∃ W:Nat->St->Hp->Prop,(∃ m,W m σ H)/\∀ m σ H,W m σ H →
  c σ H λ b H1=>if b=true then ∃ N:St->Hp->Prop,(∀ σ' H',N σ' H'->∃ m',m' < m/\W m' σ' H')/\tb { D with nx:=N,ct:=N,bk:=D.nx } σ H1 else D.nx σ H1
theorem r9q {c:Expr} {body:List Stmt} {tc:TT} {tb:TS} (hp:PassesOwn (model X.prog X.w) X.A X.env X.xe) (hc:PT X c tc) (hb:PSs X body tb):PS X (.While c body [] pos) (tHq tc tb):=by
  intro pins s σ H D I h
  obtain ⟨W,⟨m0,w0⟩,turn⟩:=h
  refine wpAny_While (codeAny_whileLoop (λ n s'=>∃ σ' H',Inv X pins σ' H' s'/\W n σ' H') ?_ m0 ⟨σ,H,I,w0⟩)
  rintro n s1 ⟨σ1,H1,I1,w1⟩
  refine wpAny_passesOwn hp (thn (hc pins s1 σ1 H1 _ I1 (turn n σ1 H1 w1)) λ b s2 ⟨H2,I2,q2⟩=>?_)
  cases b with
  | true=>
    obtain ⟨N,hN,q2⟩:=q2
    rw [if_pos rfl]
    refine wpAny_passesOwn hp (thn (hb pins s2 σ1 H2 _ I2 q2) λ f s3 q3=>?_)
    cases f with
    | next=>
      obtain ⟨σ3,H3,I3,n3⟩:=q3
      obtain ⟨m',hm,w3⟩:=hN σ3 H3 n3
      exact ⟨m',hm,σ3,H3,I3,w3⟩
    | cont=>
      obtain ⟨σ3,H3,I3,n3⟩:=q3
      obtain ⟨m',hm,w3⟩:=hN σ3 H3 n3
      exact ⟨m',hm,σ3,H3,I3,w3⟩
    | brk=>exact q3
    | ret v=>exact q3
  | false=>
    rw [if_neg Bool.false_ne_true]
    exact wpAny_execs_nil ⟨σ1,H2,I2,q2⟩
end
structure It where
  go:Nat->Hp->Prop
  yld:Nat->Hp->V->Hp->Prop
  stop:Nat->Hp->Prop
def iHq (X:Cx) (pins:List (Addr × Obj)) (H:Hp) (b:Addr):Prop:=
  H b=none/\b≠X.env.locals/\b ∉ X.fs/\(b∈X.ex\/X.s₀.heap.objs.size<=b)/\(∀ x c,X.env.cells.lookup x=some c->c≠b)/\∀ p∈X.pn++pins,p.1≠b
theorem Inv.fpOk {X:Cx} {pins:List (Addr × Obj)} {σ:St} {H H':Hp} {s:Shared} {b:Addr} (I:Inv X pins σ H s) (hb:s.heap.objs.size<=b) (hn:H' b=none):iHq X pins H' b:=by
  refine ⟨hn,Nat.ne_of_gt (Nat.lt_of_lt_of_le I.lt hb),I.nofs hb,.inr (Nat.le_trans I.sz hb),λ x c e z=>?_,λ p hp z=>?_⟩
  . obtain ⟨v,q⟩:=I.cell x c e
    exact absurd (Nat.lt_of_lt_of_le q.lt (by rw [z];exact hb)) (Nat.lt_irrefl _)
  . exact absurd (Nat.lt_of_lt_of_le (Heap.lt_size (I.pin p hp).1) (by rw [z];exact hb)) (Nat.lt_irrefl _)
structure Turn (P:Program) (w:World) (K:PySem.W.Frag) (tg:Expr) (J:It) (fp:List Addr) (it:Addr) (tn:Nat->Heap->Prop):Prop where
  mem:it∈fp
  obj:∀ i h,tn i h->∀ b∈fp,∃ o,h.get? b=some o/\∀ v,o.data≠.cell v
  keep:∀ i h h',tn i h->(∀ b∈fp,∀ o,h.get? b=some o->h'.get? b=some o)->tn i h'
  item:∀ (X:Cx),X.prog=P->X.w=w->X.K=K->X.calm=true->∀ (i:Nat) (pins:List (Addr × Obj)) (s:Shared) (σ:St) (H:Hp) (E:Value->Shared->Prop),Inv X pins σ H s->(∀ b∈fp,iHq X pins H b)->tn i s.heap->J.go i H →
    wpAny (model P w) X.A (pyNext (.ref it)) (λ r s1=>∃ u,r=some u ∧
      wpAny (model P w) X.A (letOwnedTupleGo tg (.ref it) u) (λ _ s2=>∃ x H',Inv X pins σ H' s2/\RelV x u/\J.yld i H x H'/\tn (i+1) s2.heap/\∀ b∈fp,H' b=none) E s1) E s
  done:∀ (X:Cx),X.prog=P->X.w=w->X.K=K->X.calm=true->∀ (i:Nat) (pins:List (Addr × Obj)) (s:Shared) (σ:St) (H:Hp) (E:Value->Shared->Prop),Inv X pins σ H s->(∀ b∈fp,iHq X pins H b)->tn i s.heap->J.stop i H →
    wpAny (model P w) X.A (pyNext (.ref it)) (λ r s1=>r=none/\Inv X pins σ H s1) E s
  self:∀ (A:Around) (i:Nat) (s:Shared) (Q:Value->Shared->Prop) (E:Value->Shared->Prop),tn i s.heap->Q (.ref it) s->wpAny (model P w) A (pyIter (.ref it)) Q E s
abbrev TI:=St->Hp->(It->Hp->Prop)->Prop
def PIE (X:Cx) (pins:List (Addr × Obj)) (σ:St) (tg:Expr) (R:It->Hp->Prop) (itv:Value) (s2:Shared):Prop:=
  ∃ (it:Addr) (fp:List Addr) (tn:Nat->Heap->Prop) (J:It) (H':Hp),itv=.ref it/\Inv X pins σ H' s2/\Turn X.prog X.w X.K tg J fp it tn/\tn 0 s2.heap/\(∀ b∈fp,iHq X pins H' b)/\R J H'
def PI (X:Cx) (tg iter:Expr) (wi:TI):Prop:=
  ∀ (pins:List (Addr × Obj)) (s:Shared) (σ:St) (H:Hp) (R:It->Hp->Prop),Inv X pins σ H s->wi σ H R →
    wpAny (model X.prog X.w) X.A (eval iter X.env) (λ v s1=>wpAny (model X.prog X.w) X.A (pyIter v) (PIE X pins σ tg R) X.xe s1) X.xe s
theorem sNq {M:Model} {A:Around} {E:Value->Shared->Prop} {s:Shared} {tg:Expr} {it:Addr} {u:Value} {o:Obj} {n:String} {vs:Array Value} {Q:Unit->Shared->Prop} (ho:s.heap.get? it=some o) (hc:o.cls=.type n) (hd:o.data=.fields vs)
    (hn:["enumerate", "zip", "dict_itemiterator", "dict_reverseitemiterator", "odict_iterator", "itertools.zip_longest", "itertools.pairwise"].contains n=false) (hQ:Q () s):wpAny M A (letOwnedTupleGo tg (.ref it) u) Q E s:=by
  unfold letOwnedTupleGo
  cases tg<;>first
    | exact wpAny_pure hQ
    | (cases u<;>first
        | exact wpAny_pure hQ
        | (refine wpAny_bind (wpAny_load ho ?_)
           rw [hc,hd]
           show wpAny M A (if (["enumerate", "zip", "dict_itemiterator", "dict_reverseitemiterator", "odict_iterator", "itertools.zip_longest", "itertools.pairwise"].contains n&&vs[0]?==some (rawInt _))=true then _ else _) Q E s
           rw [if_neg (by intro h;rw [hn,Bool.false_and] at h;cases h)]
           exact wpAny_pure hQ))
def Itl (K:PySem.W.Frag) (a:Addr):It:=
  ⟨λ i H=>∃ xs x,SqL K H a xs/\xs[i]?=some x,λ i H x H'=>H'=H/\∀ xs,SqL K H a xs->xs[i]?=some x,λ i H=>∃ xs,SqL K H a xs/\xs.length<=i⟩
def Itt (K:PySem.W.Frag) (a:Addr):It:=
  ⟨λ i H=>∃ xs x,SqT K H a xs/\xs[i]?=some x,λ i H x H'=>H'=H/\∀ xs,SqT K H a xs->xs[i]?=some x,λ i H=>∃ xs,SqT K H a xs/\xs.length<=i⟩
def Itr (lo:Int) (n:Nat):It:=⟨λ i _=>i < n,λ i H x H'=>H'=H/\x=.int (lo+i),λ i _=>n<=i⟩
theorem pIq {P:Program} {w:World} {K:PySem.W.Frag} {tg:Expr} (a it:Addr):Turn P w K tg (Itl K a) [it] it (λ i h=>h.IsListIter it a i) where
  mem:=by simp
  obj:=λ i h st b hb=>by
    have e:b=it:=by simpa using hb
    subst e
    obtain ⟨o,e,c,d⟩:=st
    exact ⟨o,e,λ v z=>by rw [d] at z;cases z⟩
  keep:=λ i h h' st k=>st.at λ o e=>k it (by simp) o e
  item:=by
    intro X hP hw hK hc i pins s σ H E I hf st hg
    subst hP hw hK
    obtain ⟨xs,x,hq,hx⟩:=hg
    obtain ⟨its,rv,p,hz⟩:=I.list hq
    obtain ⟨u,hu,ru⟩:=rv.get hx
    obtain ⟨f0,f1,f2,f3,f4,f5⟩:=hf it (by simp)
    refine wpAny_pyNext_list_item st p.isList (x:=u) (by simpa using hu) λ h' st' sb=>?_
    have I1:Inv X pins σ H { s with heap:=h' }:=I.turned (t':=s.toks) (λ b o hb e=>(sb.2 b hb).trans e) f0 f1 f3 f4 f5
    obtain ⟨o,e,c,d⟩:=id st'
    exact ⟨u,rfl,sNq (s:={ s with heap:=h' }) e c d (by decide) ⟨x,H,I1,ru,⟨rfl,λ ys hy=>by rw [I.list_inj hy hq];exact hx⟩,st',λ b hb=>(hf b hb).1⟩⟩
  done:=by
    intro X hP hw hK hc i pins s σ H E I hf st hg
    subst hP hw hK
    obtain ⟨xs,hq,hx⟩:=hg
    obtain ⟨its,rv,p,hz⟩:=I.list hq
    obtain ⟨f0,f1,f2,f3,f4,f5⟩:=hf it (by simp)
    have hl:=rv.length
    exact wpAny_pyNext_list_end (I.ok.hd hc) st p.isList (by simp;omega) λ h' eb=>⟨rfl,I.turned (t':=s.toks) (λ b o hb e=>eb b o hb e) f0 f1 f3 f4 f5⟩
  self:=λ _ _ _ _ _ st h=>wpAny_pyIter_listiter st h
theorem mGq {P:Program} {w:World} {K:PySem.W.Frag} {tg:Expr} (a it:Addr):Turn P w K tg (Itt K a) [it] it (λ i h=>h.IsTupleIter it a i) where
  mem:=by simp
  obj:=λ i h st b hb=>by
    have e:b=it:=by simpa using hb
    subst e
    obtain ⟨o,e,c,d⟩:=st
    exact ⟨o,e,λ v z=>by rw [d] at z;cases z⟩
  keep:=λ i h h' st k=>st.at λ o e=>k it (by simp) o e
  item:=by
    intro X hP hw hK hc i pins s σ H E I hf st hg
    subst hP hw hK
    obtain ⟨xs,x,hq,hx⟩:=hg
    obtain ⟨its,rv,p,hz⟩:=I.tuple hq
    obtain ⟨u,hu,ru⟩:=rv.get hx
    obtain ⟨f0,f1,f2,f3,f4,f5⟩:=hf it (by simp)
    refine wpAny_pyNext_tuple_item st (show s.heap.IsTuple a its.toArray from p) (x:=u) (by simpa using hu) λ h' st' sb=>?_
    have I1:Inv X pins σ H { s with heap:=h' }:=I.turned (t':=s.toks) (λ b o hb e=>(sb.2 b hb).trans e) f0 f1 f3 f4 f5
    obtain ⟨o,e,c,d⟩:=id st'
    exact ⟨u,rfl,sNq (s:={ s with heap:=h' }) e c d (by decide) ⟨x,H,I1,ru,⟨rfl,λ ys hy=>by rw [I.tuple_inj hy hq];exact hx⟩,st',λ b hb=>(hf b hb).1⟩⟩
  done:=by
    intro X hP hw hK hc i pins s σ H E I hf st hg
    subst hP hw hK
    obtain ⟨xs,hq,hx⟩:=hg
    obtain ⟨its,rv,p,hz⟩:=I.tuple hq
    obtain ⟨f0,f1,f2,f3,f4,f5⟩:=hf it (by simp)
    have hl:=rv.length
    exact wpAny_pyNext_tuple_end (I.ok.hd hc) st (show s.heap.IsTuple a its.toArray from p) (by simp;omega) λ h' eb=>⟨rfl,I.turned (t':=s.toks) (λ b o hb e=>eb b o hb e) f0 f1 f3 f4 f5⟩
  self:=λ _ _ _ _ _ st h=>wpAny_pyIter_tupleiter st h
theorem n1q {P:Program} {w:World} {K:PySem.W.Frag} {tg:Expr} (it:Addr) (lo:Int) (n:Nat):Turn P w K tg (Itr lo n) [it] it (λ i h=>IsRangeIter h it (lo+(i:Nat) * 1) ((n:Int) - (i:Nat)) 1) where
  mem:=by simp
  obj:=λ i h st b hb=>by
    have e:b=it:=by simpa using hb
    subst e
    exact ⟨_,st,λ v z=>by
      have z':Data.fields _=Data.cell v:=z
      cases z'⟩
  keep:=λ i h h' st k=>k it (by simp) _ st
  item:=by
    intro X hP hw hK hc i pins s σ H E I hf st hg
    subst hP hw hK
    obtain ⟨f0,f1,f2,f3,f4,f5⟩:=hf it (by simp)
    have W:=Walks.range (prog:=X.prog) (w:=X.w) (I.ok.hd hc) it lo 1 n
    refine W.item i s _ _ hg st λ v h' tk hv st' kk=>?_
    obtain ⟨t,rfl⟩:=hv
    have I1:Inv X pins σ H { s with heap:=h',toks:=tk }:=I.turned (λ b o hb e=>kk b o (by simpa using hb) e) f0 f1 f3 f4 f5
    refine ⟨_,rfl,sNq (s:={ s with heap:=h',toks:=tk }) (n:="range_iterator") st' rfl rfl (by decide) ⟨.int (lo+i),H,I1,⟨t,?_⟩,⟨rfl,rfl⟩,st',λ b hb=>(hf b hb).1⟩⟩
    rw [Int.mul_one]
  done:=by
    intro X hP hw hK hc i pins s σ H E I hf st hg
    subst hP hw hK
    obtain ⟨f0,f1,f2,f3,f4,f5⟩:=hf it (by simp)
    exact wpAny_pyNext_range_end (I.ok.hd hc) st (by have:n<=i:=hg;omega) λ h' eb=>⟨rfl,I.turned (t':=s.toks) (λ b o hb e=>eb b o hb e) f0 f1 f3 f4 f5⟩
  self:=λ _ _ _ _ _ st h=>wpAny_pyIter_rangeiter st h
section
variable {X:Cx} {tg:Expr}
theorem s4q {pins:List (Addr × Obj)} {σ:St} {H:Hp} {s:Shared} {R:It->Hp->Prop} {E:Value->Shared->Prop} {lo hi:Int} {t u v:Tok} {tk:Nat} (I:Inv X pins σ H s) (h1:-(2 ^ 62)<=lo) (h2:lo < 2 ^ 62) (h3:-(2 ^ 62)<=hi) (h4:hi < 2 ^ 62)
    (q:R (Itr lo (hi - lo).toNat) H):wpAny (model X.prog X.w) X.A (pyIter (.ref s.heap.objs.size)) (PIE X pins σ tg R) E { s with heap:=s.heap.push { cls:=.type "range", data:=.fields #[.int lo t,.int hi u,.int 1 v] },toks:=tk }:=by
  refine wpAny_pyIter_range (IsRange.new ..) (small_one h1 h2 h3 h4) ?_
  have I1:Inv X pins σ H { s with heap:=s.heap.push { cls:=.type "range", data:=.fields #[.int lo t,.int hi u,.int 1 v] },toks:=tk }:=I.kept λ b o e=>Heap.get?_push_of_some _ e
  refine ⟨(s.heap.push { cls:=.type "range", data:=.fields #[.int lo t,.int hi u,.int 1 v] }).objs.size,[(s.heap.push { cls:=.type "range", data:=.fields #[.int lo t,.int hi u,.int 1 v] }).objs.size],_,_,H,rfl,
    I1.kept (t':=tk) λ b o e=>Heap.get?_push_of_some _ e,n1q _ lo (hi - lo).toNat,?_,λ b hb=>?_,q⟩
  . have e1:lo+((0:Nat):Int) * 1=lo:=by simp
    have e2:(((hi - lo).toNat:Nat):Int) - ((0:Nat):Int)=Builtin.Range.rangeSize lo hi 1:=by rw [rangeSize_one];split<;>omega
    show IsRangeIter _ _ (lo+((0:Nat):Int) * 1) ((((hi - lo).toNat:Nat):Int) - ((0:Nat):Int)) 1
    rw [e1,e2]
    exact Heap.get?_push_size _ rfl
  . have e:b=(s.heap.push { cls:=.type "range", data:=.fields #[.int lo t,.int hi u,.int 1 v] }).objs.size:=by simpa using hb
    subst e
    exact I1.fpOk (Nat.le_refl _) (I1.hok.fresh (Nat.le_refl _))
def aC5q (ta:TA):TI:=λ σ H R=>ta σ H λ vs H1=>∃ j:Int,vs=[.int j]/\-(2 ^ 62)<=j/\j < 2 ^ 62/\R (Itr 0 j.toNat) H1
theorem qFq {a:Expr} {ta:TA} {p pos:Pos} (hg:Gl X "range") (hm:X.mg "range" = none) (ha:PA X [a] ta) (hs:starEach [a] X.env=[(false,eval a X.env)]:=by rfl):PI X tg (.Call (.Name "range" p) [a] [] pos) (aC5q ta):=by
  intro pins s σ H R I h
  refine Call_ (c0q I hg hm boot_range (PyProof.Rows.callWith_type1 (thn (ha pos pins s σ H _ I h) λ us s1 ⟨vs,H1,I1,r1,q1⟩=>?_) hs rfl))
  obtain ⟨j,e,q1,q2,q⟩:=q1
  subst e
  cases r1 with
  | cons r rr=>
    cases rr
    obtain ⟨t,rfl⟩:=r
    exact call_range_1 (s4q I1 (by omega) (by omega) q1 q2 (by simpa using q))
def tFor (wi:TI) (g:TG) (tb:TS):TS:=λ D σ H=>wi σ H λ J H1=>∃ W:Nat->Nat->St->Hp->Prop,(∃ m,W 0 m σ H1)/\∀ i m σ H,W i m σ H →
  (J.stop i H/\D.nx σ H)\/(J.go i H/\∃ N:St->Hp->Prop,(∀ σ' H',N σ' H'->∃ m',m' < m/\W (i+1) m' σ' H')/\∀ x H',J.yld i H x H'->g x σ H' λ σ2 H2=>tb { D with nx:=N,ct:=N,bk:=D.nx } σ2 H2)
def jTq (fp:List Addr) (h:Heap):List (Addr × Obj):=fp.filterMap λ b=>(h.get? b).map λ o=>(b,o)
theorem b9q {fp:List Addr} {h:Heap} {b:Addr} {o:Obj} (hb:b∈fp) (e:h.get? b=some o):(b,o)∈jTq fp h:=List.mem_filterMap.mpr ⟨b,hb,by rw [e];rfl⟩
theorem q7q {fp:List Addr} {h:Heap} {p:Addr × Obj} (hp:p∈jTq fp h):p.1∈fp/\h.get? p.1=some p.2:=by
  obtain ⟨b,hb,e⟩:=List.mem_filterMap.mp hp
  cases q:h.get? b with
  | none=>rw [q] at e;cases e
  | some o=>
    rw [q] at e
    have e':(b,o)=p:=Option.some.inj e
    subst e'
    exact ⟨hb,q⟩
theorem Inv.pinned {pins:List (Addr × Obj)} {σ:St} {H:Hp} {s:Shared} {fp:List Addr} (I:Inv X pins σ H s) (hf:∀ b∈fp,iHq X pins H b) (ho:∀ b∈fp,∃ o,s.heap.get? b=some o/\∀ v,o.data≠.cell v):Inv X (pins++jTq fp s.heap) σ H s:=
  I.pins_of λ p hp=>(List.mem_append.mp hp).elim (λ z=>I.pin p (List.mem_append_right _ z)) λ z=>by
    obtain ⟨hb,e⟩:=q7q z
    obtain ⟨f0,f1,f2,_⟩:=hf p.1 hb
    obtain ⟨o,e',d⟩:=ho p.1 hb
    rw [e] at e';cases e'
    exact ⟨e,f0,f1,f2,d⟩
theorem Inv.unpinned {pins pl:List (Addr × Obj)} {σ:St} {H:Hp} {s:Shared} (I:Inv X (pins++pl) σ H s):Inv X pins σ H s:=I.pins_of λ p hp=>I.pin p (List.mem_append_right _ (List.mem_append_left _ hp))
theorem aC9q {iter:Expr} {body:List Stmt} {wi:TI} {g:TG} {tb:TS} {pos:Pos} (hp:PassesOwn (model X.prog X.w) X.A X.env X.xe) (hc:X.calm=true) (hi:PI X tg iter wi) (hg:PG X tg g) (hb:PSs X body tb)
    (hs:∀ x,foldedSetIterable iter X.env x=pure x:=by intro _;rfl):PS X (.For tg iter body [] pos) (tFor wi g tb):=by
  intro pins s σ H D I h
  refine wpAny_For (thn (hi pins s σ H _ I h) λ v s1 h1=>thn h1 λ itv s2 h2=>?_) hs
  obtain ⟨it,fp,tn,J,H2,e,I2,T,st2,f2,W,⟨m0,w0⟩,turn⟩:=h2
  subst e
  have stat:∀ {H':Hp},(∀ b∈fp,H' b=none)->∀ b∈fp,iHq X pins H' b:=λ hn b hb=>⟨hn b hb,(f2 b hb).2⟩
  refine codeAny_forLoop_any (λ n s'=>∃ i σ' H',Inv X pins σ' H' s'/\tn i s'.heap/\(∀ b∈fp,H' b=none)/\W i n σ' H') ?_ m0 ⟨0,σ,H2,I2,st2,λ b hb=>(f2 b hb).1,w0⟩
  rintro n s3 ⟨i,σ3,H3,I3,st3,fr3,w3⟩
  rcases turn i n σ3 H3 w3 with ⟨stop,qn⟩ | ⟨go,N,hN,step⟩
  . refine wpAny_passesOwn hp (thn (T.done X rfl rfl rfl hc i pins s3 σ3 H3 X.xe I3 (stat fr3) st3 stop) λ r s4 ⟨hr,I4⟩=>?_)
    subst hr
    exact wpAny_execs_nil ⟨σ3,H3,I4,qn⟩
  . refine wpAny_passesOwn hp (thn (T.item X rfl rfl rfl hc i pins s3 σ3 H3 X.xe I3 (stat fr3) st3 go) λ r s4 ⟨u,hr,h4⟩=>?_)
    subst hr
    refine wpAny_passesOwn hp (thn h4 λ _ s5 ⟨x,H5,I5,r5,y5,st5,fr5⟩=>?_)
    have I5':=I5.pinned (stat fr5) (T.obj _ _ st5)
    refine wpAny_passesOwn hp (thn (hg _ s5 σ3 H5 x u _ I5' r5 (step x H5 y5)) λ _ s6 ⟨σ6,H6,I6,q6⟩=>?_)
    refine wpAny_passesOwn hp (thn (hb _ s6 σ6 H6 _ I6 q6) λ f s7 q7=>?_)
    have again:∀ {σ7:St} {H7:Hp},Inv X (pins++jTq fp s5.heap) σ7 H7 s7->N σ7 H7->∃ m,m < n/\∃ i σ' H',Inv X pins σ' H' s7/\tn i s7.heap/\(∀ b∈fp,H' b=none)/\W i m σ' H':=λ{σ7 H7} I7 n7=>by
      obtain ⟨m',hm,w7⟩:=hN σ7 H7 n7
      refine ⟨m',hm,i+1,σ7,H7,I7.unpinned,T.keep _ _ _ st5 λ b hb o e=>(I7.pin (b,o) (List.mem_append_right _ (List.mem_append_right _ (b9q hb e)))).1,λ b hb=>?_,w7⟩
      obtain ⟨o,e,d⟩:=T.obj _ _ st5 b hb
      exact (I7.pin (b,o) (List.mem_append_right _ (List.mem_append_right _ (b9q hb e)))).2.1
    cases f with
    | next=>obtain ⟨σ7,H7,I7,n7⟩:=q7;exact again I7 n7
    | cont=>obtain ⟨σ7,H7,I7,n7⟩:=q7;exact again I7 n7
    | brk=>obtain ⟨σ7,H7,I7,q7⟩:=q7;exact ⟨σ7,H7,I7.unpinned,q7⟩
    | ret v=>obtain ⟨x7,σ7,H7,I7,r7,q7⟩:=q7;exact ⟨x7,σ7,H7,I7.unpinned,r7,q7⟩
end
abbrev R2:=V->V->Hp->VK->Prop
def OpR (X:Cx) (f:Value->Value->Sem Value) (r:R2):Prop:=
  ∀ (pins:List (Addr × Obj)) (s:Shared) (σ:St) (H:Hp) (x y:V) (v u:Value) (Q:VK),Inv X pins σ H s->RelV x v->RelV y u->r x y H Q →
    wpAny (model X.prog X.w) X.A (f v u) (EP X pins σ Q) X.xe s
def UnR (X:Cx) (f:Value->Sem Value) (r:V->Hp->VK->Prop):Prop:=
  ∀ (pins:List (Addr × Obj)) (s:Shared) (σ:St) (H:Hp) (x:V) (v:Value) (Q:VK),Inv X pins σ H s->RelV x v->r x H Q →
    wpAny (model X.prog X.w) X.A (f v) (EP X pins σ Q) X.xe s
def CallR (X:Cx) (f:Value) (r:List V->Hp->VK->Prop):Prop:=
  ∀ (pins:List (Addr × Obj)) (s:Shared) (σ:St) (H:Hp) (xs:List V) (us:List Value) (Q:VK),Inv X pins σ H s->Vals xs us->r xs H Q →
    wpAny (model X.prog X.w) X.A (call f us) (EP X pins σ Q) X.xe s
def TruR (X:Cx) (r:V->Hp->(Bool->Hp->Prop)->Prop):Prop:=
  ∀ (pins:List (Addr × Obj)) (s:Shared) (σ:St) (H:Hp) (x:V) (v:Value) (Q:Bool->Hp->Prop),Inv X pins σ H s->RelV x v->r x H Q →
    wpAny (model X.prog X.w) X.A (truthy v) (TP X pins σ Q) X.xe s
def tOp (r:R2) (ta tb:TE):TE:=λ σ H Q=>ta σ H λ x H1=>tb σ H1 λ y H2=>r x y H2 Q
def tUn (r:V->Hp->VK->Prop) (ta:TE):TE:=λ σ H Q=>ta σ H λ x H1=>r x H1 Q
def rI (C:Int->Int->Prop) (g:Int->Int->V):R2:=λ x y H Q=>∃ i j,x=.int i/\y=.int j/\C i j/\Q (g i j) H
def rI0 (g:Int->Int->V):R2:=λ x y H Q=>∃ i j,x=.int i/\y=.int j/\Q (g i j) H
def rU (g:Int->V):V->Hp->VK->Prop:=λ x H Q=>∃ i,x=.int i/\Q (g i) H
section
variable {X:Cx} {a b c:Expr} {ta tb tc:TE} {pos:Pos}
theorem binT (ha:PE X a ta) (hb:PE X b tb) {pins:List (Addr × Obj)} {s:Shared} {σ:St} {H:Hp} {R:V->V->Hp->Prop} (I:Inv X pins σ H s)
    (h:ta σ H λ x H1=>tb σ H1 λ y H2=>R x y H2) {Q:Value->Shared->Prop} {f:Value->Value->Sem Value}
    (hf:∀ v u s2 x y H2,Inv X pins σ H2 s2->RelV x v->RelV y u->R x y H2->wpAny (model X.prog X.w) X.A (f v u) Q X.xe s2) :
    wpAny (model X.prog X.w) X.A (eval a X.env) (λ v s₁=>wpAny (model X.prog X.w) X.A (eval b X.env) (λ u s₂=>wpAny (model X.prog X.w) X.A (f v u) Q X.xe s₂) X.xe s₁) X.xe s:=by
  refine thn (ha pins s σ H _ I h) λ v s1 ⟨x,H1,I1,r1,q1⟩=>?_
  refine thn (hb pins s1 σ H1 _ I1 q1) λ u s2 ⟨y,H2,I2,r2,q2⟩=>?_
  exact hf v u s2 x y H2 I2 r1 r2 q2
theorem aO4q {op:Operator} {r:R2} (ho:OpR X (binaryOp op) r) (ha:PE X a ta) (hb:PE X b tb):PE X (.BinOp a op b pos) (tOp r ta tb):=by
  intro pins s σ H Q I h
  exact wpAny_BinOp (binT ha hb I h λ v u s2 x y H2 I2 rx ry q=>ho pins s2 σ H2 x y v u Q I2 rx ry q)
theorem aJ6q {op:UnaryOp} {r:V->Hp->VK->Prop} (ho:UnR X (unaryOp op) r) (ha:PE X a ta):PE X (.UnaryOp op a pos) (tUn r ta):=by
  intro pins s σ H Q I h
  exact UnaryOp_ (thn (ha pins s σ H _ I h) λ v s1 ⟨x,H1,I1,r1,q1⟩=>ho pins s1 σ H1 x v Q I1 r1 q1)
theorem opI {f:Value->Value->Sem Value} {C:Int->Int->Prop} {g:Int->Int->Int}
    (rule:∀ (i j:Int) (t u:Tok) (s:Shared) (Q:Value->Shared->Prop) (E:Value->Shared->Prop),C i j->Q (.int (g i j) s.toks) { s with toks:=s.toks+1 }->wpAny (model X.prog X.w) X.A (f (.int i t) (.int j u)) Q E s) :
    OpR X f (rI C λ i j=>.int (g i j)):=by
  intro pins s σ H x y v u Q I rx ry h
  obtain ⟨i,j,rfl,rfl,hc,q⟩:=h
  obtain ⟨t,rfl⟩:=rx
  obtain ⟨t',rfl⟩:=ry
  exact rule i j t t' s _ _ hc ⟨.int (g i j),H,I.tok _,⟨_,rfl⟩,q⟩
theorem opI0 {f:Value->Value->Sem Value} {g:Int->Int->Int}
    (rule:∀ (i j:Int) (t u:Tok) (s:Shared) (Q:Value->Shared->Prop) (E:Value->Shared->Prop),Q (.int (g i j) s.toks) { s with toks:=s.toks+1 }->wpAny (model X.prog X.w) X.A (f (.int i t) (.int j u)) Q E s) :
    OpR X f (rI0 λ i j=>.int (g i j)):=by
  intro pins s σ H x y v u Q I rx ry h
  obtain ⟨i,j,rfl,rfl,q⟩:=h
  obtain ⟨t,rfl⟩:=rx
  obtain ⟨t',rfl⟩:=ry
  exact rule i j t t' s _ _ ⟨.int (g i j),H,I.tok _,⟨_,rfl⟩,q⟩
theorem opB0 {f:Value->Value->Sem Value} {g:Int->Int->Bool}
    (rule:∀ (i j:Int) (t u:Tok) (s:Shared) (Q:Value->Shared->Prop) (E:Value->Shared->Prop),Q (.bool (g i j)) s->wpAny (model X.prog X.w) X.A (f (.int i t) (.int j u)) Q E s) :
    OpR X f (rI0 λ i j=>.bl (g i j)):=by
  intro pins s σ H x y v u Q I rx ry h
  obtain ⟨i,j,rfl,rfl,q⟩:=h
  obtain ⟨t,rfl⟩:=rx
  obtain ⟨t',rfl⟩:=ry
  exact rule i j t t' s _ _ ⟨.bl (g i j),H,I,rfl,q⟩
def CPow (i j:Int):Prop:=0<=j/\j<=1000000/\i.natAbs < 2 ^ 64
def CMul (i j:Int):Prop:=(-(2 ^ 64) < i/\i < 2 ^ 64)\/(-(2 ^ 64) < j/\j < 2 ^ 64)
theorem CMul.ok {i j:Int} (h:CMul i j):IntMulOk i j:=by
  rcases h with ⟨h1,h2⟩ | ⟨h1,h2⟩
  . exact .of_left (intBits_le_64 h1 h2)
  . exact .of_right (intBits_le_64 h1 h2)
theorem op_add:OpR X (binaryOp .Add) (rI0 λ i j=>.int (i+j)):=opI0 λ _ _ _ _ _ _ _ q=>add_int q
theorem x8q:OpR X (binaryOp .Sub) (rI0 λ i j=>.int (i - j)):=opI0 λ _ _ _ _ _ _ _ q=>sub_int q
theorem zIq:OpR X (binaryOp .Mult) (rI CMul λ i j=>.int (i * j)):=opI λ _ _ _ _ _ _ _ hc q=>mul_int q hc.ok
theorem z0q:OpR X (binaryOp .Mod) (rI (λ _ j=>0 < j) λ i j=>.int (i % j)):=opI λ i j _ _ _ _ _ hc q=>by
  have h1:(0:Int) < j:=hc
  exact mod_int' (by omega) (by rw [Int.fmod_eq_emod_of_nonneg i (by omega)];exact q)
theorem zLq:OpR X (binaryOp .Pow) (rI CPow λ i j=>.int (i ^ j.toNat)):=opI λ _ _ _ _ _ _ _ hc q=>pow_int_small hc.1 hc.2.1 hc.2.2 q
theorem unI {f:Value->Sem Value} {g:Int->Int}
    (rule:∀ (i:Int) (t:Tok) (s:Shared) (Q:Value->Shared->Prop) (E:Value->Shared->Prop),Q (.int (g i) s.toks) { s with toks:=s.toks+1 }->wpAny (model X.prog X.w) X.A (f (.int i t)) Q E s) :
    UnR X f (rU λ i=>.int (g i)):=by
  intro pins s σ H x v Q I rx h
  obtain ⟨i,rfl,q⟩:=h
  obtain ⟨t,rfl⟩:=rx
  exact rule i t s _ _ ⟨.int (g i),H,I.tok _,⟨_,rfl⟩,q⟩
theorem yNq:UnR X (unaryOp .USub) (rU λ i=>.int (-i)):=unI λ _ _ _ _ _ q=>neg_int q
end
section
variable {X:Cx} {a b c:Expr} {ta tb tc:TE} {pos:Pos}
theorem nLq {pins:List (Addr × Obj)} {σ:St} {H:Hp} {s:Shared} {Q:VK} {k k':Bool} (I:Inv X pins σ H s) (q:Q (.bl k) H) (e:k=k'):EP X pins σ Q (.bool k') s:=by
  subst e
  exact ⟨.bl k,H,I,rfl,q⟩
theorem aI2q:OpR X (compareOp .Lt) (rI0 λ i j=>.bl (decide (i < j))):=opB0 λ _ _ _ _ _ _ _ q=>lt_int q
theorem aF4q:OpR X (compareOp .LtE) (rI0 λ i j=>.bl (decide (i<=j))):=opB0 λ _ _ _ _ _ _ _ q=>le_int q
theorem aM0q:OpR X (compareOp .Gt) (rI0 λ i j=>.bl (decide (j < i))):=opB0 λ _ _ _ _ _ _ _ q=>gt_int q
theorem aG8q:OpR X (compareOp .GtE) (rI0 λ i j=>.bl (decide (j<=i))):=opB0 λ _ _ _ _ _ _ _ q=>ge_int q
theorem oSq:OpR X (compareOp .In) (λ x y H Q=>∃ i j,x=.str i/\y=.str j/\Q (.bl (!(Builtin.Str.occurrences j i 0 j.length 1).isEmpty)) H):=by
  intro pins s σ H x y v u Q I rx ry h
  obtain ⟨i,j,rfl,rfl,q⟩:=h
  obtain ⟨t,rfl⟩:=rx
  obtain ⟨t',rfl⟩:=ry
  exact in_str (nLq I q rfl)
theorem yKq:OpR X (compareOp .Is) (λ x y H Q=>y=.non/\Q (.bl (decide (x=.non))) H):=by
  intro pins s σ H x y v u Q I rx ry h
  obtain ⟨rfl,q⟩:=h
  cases ry
  refine is_none_gen (nLq I q ?_)
  cases x<;>first
    | (cases rx;rfl)
    | (obtain ⟨t,rfl⟩:=rx;rfl)
theorem wCq:OpR X (compareOp .IsNot) (λ x y H Q=>y=.non/\Q (.bl (!decide (x=.non))) H):=by
  intro pins s σ H x y v u Q I rx ry h
  obtain ⟨rfl,q⟩:=h
  cases ry
  refine isnot_none_gen (nLq I q ?_)
  cases x<;>first
    | (cases rx;rfl)
    | (obtain ⟨t,rfl⟩:=rx;rfl)
theorem OpR.or {f:Value->Value->Sem Value} {r r':R2} (h:OpR X f r) (h':OpR X f r'):OpR X f (λ x y H Q=>r x y H Q\/r' x y H Q):=by
  intro pins s σ H x y v u Q I rx ry q
  rcases q with q | q
  . exact h pins s σ H x y v u Q I rx ry q
  . exact h' pins s σ H x y v u Q I rx ry q
theorem aGq (b:Expr) {op:CmpOp} (h:op≠.In:=by decide) (h2:op≠.NotIn:=by decide):behindInMarks op b=false:=by
  have e1:(op==CmpOp.In)=false:=by cases op<;>first | rfl | exact absurd rfl h
  have e2:(op==CmpOp.NotIn)=false:=by cases op<;>first | rfl | exact absurd rfl h2
  cases b<;>simp [behindInMarks,e1,e2]
theorem w9q {op:CmpOp} {r:R2} (ho:OpR X (compareOp op) r) (ha:PE X a ta) (hb:PE X b tb) (hm:behindInMarks op b=false):PE X (.Compare a [op] [b] pos) (tOp r ta tb):=by
  intro pins s σ H Q I h
  exact wpAny_Compare1 (binT ha hb I h λ v u s2 x y H2 I2 rx ry q=>ho pins s2 σ H2 x y v u Q I2 rx ry q) hm
def xAq (t:TE):TT:=λ σ H Q=>t σ H λ x H'=>∃ k,x=.bl k/\Q k H'
theorem u4q {op:CmpOp} {r:R2} (ho:OpR X (compareOp op) r) (ha:PE X a ta) (hb:PE X b tb) (hm:behindInMarks op b=false):PT X (.Compare a [op] [b] pos) (xAq (tOp r ta tb)):=by
  intro pins s σ H Q I h
  refine wpAny_isTrue_Compare1 (thn (ha pins s σ H _ I h) λ v s1 ⟨x,H1,I1,r1,q1⟩=>thn (hb pins s1 σ H1 _ I1 q1) λ u s2 ⟨y,H2,I2,r2,q2⟩=>
    thn (ho pins s2 σ H2 x y v u _ I2 r1 r2 q2) λ c s3 ⟨z,H3,I3,r3,k,e,q3⟩=>?_) hm
  subst e
  cases r3
  exact wpAny_truthy_bool ⟨H3,I3,q3⟩
def TruV (K:PySem.W.Frag) (x:V) (H:Hp) (k:Bool):Prop:=
  match x with
  | .non=>k=false
  | .bl b=>k=b
  | .int i=>k=(i !=0)
  | .str y=>y.length<=sizeLine/\k=((y.length:Int) !=0)
  | .byt y=>y.size<=sizeLine/\k=((y.size:Int) !=0)
  | .ref p=>(∃ xs,SqL K H p xs/\k=!xs.isEmpty)\/(∃ xs,SqT K H p xs/\k=!xs.isEmpty)\/∃ kvs,H p=some (.dK kvs)/\k=!kvs.isEmpty
  | _=>False
theorem mLq {κ:Type} {kvs:List (κ × V)} {vs:List (κ × Value)} (r:KV kvs vs):(!vs.isEmpty)=!kvs.isEmpty:=by
  cases r<;>rfl
theorem gYq {xs:List V} {its:List Value} (r:Vals xs its):(!its.toArray.isEmpty)=!xs.isEmpty:=by
  cases r<;>simp
theorem eGq:(sizeLine:Nat) < 2 ^ 63:=by rw [sizeLine_eq];decide
theorem tKq:TruR X (λ x H Q=>∃ k,TruV X.K x H k/\Q k H):=by
  intro pins s σ H x v Q I rx h
  obtain ⟨k,e,q⟩:=h
  have hl:=eGq
  have hs:sizeLine=16777216:=sizeLine_eq
  cases x with
  | non=>
    cases rx
    have e':k=false:=e
    subst e'
    exact truthy_none ⟨H,I,q⟩
  | bl b=>
    cases rx
    have e':k=b:=e
    subst e'
    exact wpAny_truthy_bool ⟨H,I,q⟩
  | int i=>
    obtain ⟨t,rfl⟩:=rx
    have e':k=(i !=0):=e
    subst e'
    exact PySem.P.truthy_int ⟨H,I,q⟩
  | str y=>
    obtain ⟨t,rfl⟩:=rx
    obtain ⟨hy,e'⟩:y.length<=sizeLine/\k=((y.length:Int) !=0):=e
    subst e'
    exact PySem.P.truthy_str (by omega) ⟨H,I.tok _,q⟩
  | byt y=>
    obtain ⟨t,rfl⟩:=rx
    obtain ⟨hy,e'⟩:y.size<=sizeLine/\k=((y.size:Int) !=0):=e
    subst e'
    exact PySem.W.truthy_bytes (by omega) ⟨H,I.tok _,q⟩
  | ref p=>
    cases rx
    have e':(∃ xs,SqL X.K H p xs/\k=!xs.isEmpty)\/(∃ xs,SqT X.K H p xs/\k=!xs.isEmpty)\/∃ kvs,H p=some (.dK kvs)/\k=!kvs.isEmpty:=e
    rcases e' with ⟨xs,hx,e'⟩ | ⟨xs,hx,e'⟩ | ⟨kvs,hx,e'⟩
    . subst e'
      obtain ⟨its,r,pl,hz⟩:=I.list hx
      have hlen:=r.length
      exact wpAny_truthy_list pl.isList (by simp only [List.size_toArray];omega) ⟨H,I.tok _,by rw [gYq r];exact q⟩
    . subst e'
      obtain ⟨its,r,pl,hz⟩:=I.tuple hx
      have hlen:=r.length
      exact truthy_tuple pl (by simp only [List.size_toArray];omega) ⟨H,I.tok _,by rw [gYq r];exact q⟩
    . subst e'
      obtain ⟨hz,hS,vs,r,m⟩:kvs.length<=sizeLine/\(p==sysModules)=false/\∃ vs,KV kvs vs/\s.heap.DictOf (bEq X.prog X.w) p vs:=I.hok p _ hx
      have hlen:kvs.length=vs.length:=Paired.length r
      exact wpAny_truthy_dict hS m (by omega) ⟨H,I.tok _,by rw [mLq r];exact q⟩
  | _=>exact (show False from e).elim
theorem rAq (ha:PE X a ta) (he:∀ whole,isTrue a X.env whole=(do let v ← whole;standAt a.pos;holding [v] (truthy v))) :
    PT X a (λ σ H Q=>ta σ H λ x H'=>∃ k,TruV X.K x H' k/\Q k H'):=by
  intro pins s σ H Q I h
  exact isTrue_plain (thn (ha pins s σ H _ I h) λ v s1 ⟨x,H1,I1,r1,q1⟩=>tKq pins s1 σ H1 x v Q I1 r1 q1) (he _)
theorem op_add_str:OpR X (binaryOp .Add) (λ x y H Q=>∃ i j,x=.str i/\y=.str j/\i.length+j.length<=sizeLine/\Q (.str (i++j)) H):=by
  intro pins s σ H x y v u Q I rx ry h
  obtain ⟨i,j,rfl,rfl,hz,q⟩:=h
  obtain ⟨t,rfl⟩:=rx
  obtain ⟨t',rfl⟩:=ry
  exact add_str (λ t' tk=>⟨.str (i++j),H,I.tok _,⟨_,rfl⟩,q⟩) hz
theorem o8q {x:V} {us:List Value} (r:Vals [x] us):∃ u,us=[u]/\RelV x u:=by
  cases r with
  | cons r1 r2=>cases r2;exact ⟨_,rfl,r1⟩
theorem aK2q {x y:V} {us:List Value} (r:Vals [x,y] us):∃ u w',us=[u,w']/\RelV x u/\RelV y w':=by
  cases r with
  | cons r1 r2=>
    cases r2 with
    | cons r3 r4=>cases r4;exact ⟨_,_,rfl,r1,r3⟩
theorem q0q (hc:X.calm=true):CallR X (.builtin "min") (λ xs H Q=>∃ i j,xs=[.int i,.int j]/\Q (.int (if j < i then j else i)) H):=by
  intro pins s σ H xs us Q I r h
  obtain ⟨i,j,rfl,q⟩:=h
  obtain ⟨u,w',rfl,⟨t,rfl⟩,⟨t',rfl⟩⟩:=aK2q r
  refine min_two_ints (I.ok.hd hc) λ h' tk k=>⟨_,H,I.kept k,?_,q⟩
  by_cases hj:j < i
  . rw [if_pos hj,if_pos hj];exact ⟨_,rfl⟩
  . rw [if_neg hj,if_neg hj];exact ⟨_,rfl⟩
theorem o7q:CallR X (.type "int") (λ xs H Q=>(∃ i,xs=[.int i]/\Q (.int i) H)\/∃ k,xs=[.bl k]/\Q (.int (if k then 1 else 0)) H):=by
  intro pins s σ H xs us Q I r h
  rcases h with ⟨i,rfl,q⟩ | ⟨k,rfl,q⟩
  . obtain ⟨u,rfl,t,rfl⟩:=o8q r
    exact call_int_int ⟨.int i,H,I,⟨_,rfl⟩,q⟩
  . obtain ⟨u,rfl,r1⟩:=o8q r
    cases r1
    exact call_int_bool ⟨.int (if k then 1 else 0),H,I.tok _,⟨_,rfl⟩,q⟩
end
structure ObjM (h:Heap) (x dx C:Addr) (mA:Str->Option Value):Prop where
  obj:h.get? x=some (PySem.W.instObj C dx)
  ns:h.Ns1 dx mA
  ne:dx≠x
theorem qAq {h:Heap} {dx:Addr} {mA:Str->Option Value} (n:h.Ns1 dx mA):∃ od,h.get? dx=some od/\∀ name,PySem.W.lookIn name od=some (mA name):=by
  obtain ⟨o,es,ep,ho,hd,hk,_,hm⟩:=n
  refine ⟨o,ho,λ name=>?_⟩
  have e:=hm name
  unfold nsFind findBy at e
  rw [<- Array.find?_toList] at e
  unfold PySem.W.lookIn
  rw [hd]
  dsimp only
  split
  . rename_i y q
    rw [q] at e
    exact congrArg some e
  . rename_i q
    rw [q] at e
    have a:es.toList.any (·.refKey)=false:=by
      rw [List.any_eq_false]
      intro y hy
      obtain ⟨z,t,hkey⟩:=hk y (Array.mem_toList_iff.mp hy)
      simp [DictEntry.refKey,hkey]
    have a':¬ es.toList.any (·.refKey)=true:=by rw [a];exact Bool.false_ne_true
    rw [if_neg a']
    exact congrArg some e
theorem ObjM.look {h:Heap} {x dx C:Addr} {mA:Str->Option Value} (I:ObjM h x dx C mA):∃ od,PySem.W.InstAt h x (PySem.W.instObj C dx) C (some od)/\∀ name,PySem.W.lookIn name od=some (mA name):=
  let ⟨od,ho,hl⟩:=qAq I.ns
  ⟨od,⟨I.obj,rfl,rfl,ho⟩,hl⟩
section
variable {prog:Program} {w:World} {A:Around} {E:Value->Shared->Prop} {s:Shared} {K:PySem.W.Frag} {x dx C f:Addr} {mA:Str->Option Value} {name:Str} {v:Value}
end
theorem RelO.some_of {v:V} {o:Option Value} (r:RelO (some v) o):∃ u,o=some u/\RelV v u:=by
  cases o with
  | none=>exact (show False from r).elim
  | some u=>exact ⟨u,rfl,r⟩
section
variable {P:Program} {w:World} {H H':Hp} {h h':Heap} {a C dx:Addr} {fs fs':List (Str × V)}
theorem tZq (hok:HOk P w H h) (e:H a=some (.ins C dx fs)):∃ mA,ObjM h a dx C mA/\(∀ f,RelO (fs.lookup f) (mA f))/\PySem.Within mA (fs.map (·.1))/\fs.length<=1000/\H dx=some (.own a):=by
  obtain ⟨d,z,ne,ob,mA,n,r,q⟩:=(show ObjOk P w H h a (.ins C dx fs) from hok a _ e)
  exact ⟨mA,⟨ob,n,ne⟩,r,q,z,d⟩
end
structure Cls (K:PySem.W.Frag) (C:Addr):Prop where
  pg:PySem.W.plainGet K C Str.empty=true
  hd:PySem.W.hasDictIn K C=true
  po:PySem.W.plainOver K C=true
  sa:PySem.W.findIn K (.ref C) "__setattr__" = some (some (.builtin "object.__setattr__"))
theorem Cls.get {K:PySem.W.Frag} {C:Addr} (c:Cls K C) (f:Str):PySem.W.plainGet K C f=true:=c.pg
section
variable {X:Cx} {pins:List (Addr × Obj)} {σ:St} {H:Hp} {s:Shared} {a C dx:Addr} {fs:List (Str × V)} {f:Str} {v:V} {A:Around} {E:Value->Shared->Prop}
end
section
variable {X:Cx} {o e value:Expr} {f:Str} {pos pos' tpos:Pos} {ta tv:TE}
end
section
variable {X:Cx} {pins:List (Addr × Obj)} {σ:St} {H:Hp} {s:Shared} {A:Around} {E:Value->Shared->Prop} {Q:Value->Shared->Prop} {c:Value} {b:Bool}
inductive TyOf (K:PySem.W.Frag) (H:Hp):V->Value->Prop where
  | non:TyOf K H .non (.type "NoneType")
  | bl (x:Bool):TyOf K H (.bl x) (.type "bool")
  | int (i:Int):TyOf K H (.int i) (.type "int")
  | str (x:Str):TyOf K H (.str x) (.type "str")
  | flt (x:UInt64):TyOf K H (.flt x) (.type "float")
  | lst {a:Addr} {xs:List V} (e:H a=some (.lst xs)):TyOf K H (.ref a) (.type "list")
  | frz {a:Addr} {o:Obj} {xs:List V} (e:H a=some (.frz o (.lst xs))):TyOf K H (.ref a) (.type "list")
  | tup {a:Addr} {xs:List V} (e:H a=some (.tup xs)):TyOf K H (.ref a) (.type "tuple")
  | dK {a:Addr} {kvs:List (Key × V)} (e:H a=some (.dK kvs)):TyOf K H (.ref a) (.type "dict")
  | dT {a:Addr} {kvs:List (List Key × V)} (e:H a=some (.dT kvs)):TyOf K H (.ref a) (.type "dict")
  | ins {a C dx:Addr} {fs:List (Str × V)} (e:H a=some (.ins C dx fs)) (cl:Cls K C) (ha:PySem.W.findIn K (.ref C) "__class__" = some (some (.builtin "object.__class__")))
      (hn:PySem.W.specialIn K (.builtin "object.__class__") "__get__" = some (some (.builtin "getset_descriptor.__get__"))) (htk:PySem.W.takesIn K (.builtin "object.__class__")=some true)
      (hm:PySem.W.mroIn K C (.type "object")=some true):TyOf K H (.ref a) (.ref C)
theorem q1q {x:V} {u t:Value} (I:Inv X pins σ H s) (rx:RelV x u) (ty:TyOf X.K H x t) (e:PySem.W.kitOne X.K t c=some b) (h:∀ tk,Q (.bool b) { s with toks:=tk }) :
    wpAny (model X.prog X.w) A (call (.builtin "isinstance") [u,c]) Q E s:=by
  cases ty with
  | non=>cases (show u=Value.none from rx);exact PySem.W.kia_one PySem.W.kitx_none I.kIn True.intro e (λ z=>nomatch z) h
  | bl y=>cases (show u=Value.bool y from rx);exact PySem.W.kia_one PySem.W.kitx_bool I.kIn True.intro e (λ z=>nomatch z) h
  | int i=>obtain ⟨t,q⟩:=(show ∃ t,u=Value.int i t from rx);cases q;exact PySem.W.kia_one PySem.W.kitx_int I.kIn True.intro e (λ z=>nomatch z) h
  | str y=>obtain ⟨t,q⟩:=(show ∃ t,u=Value.str y t from rx);cases q;exact PySem.W.kia_one PySem.W.kitx_str I.kIn True.intro e (λ z=>nomatch z) h
  | flt y=>obtain ⟨t,q⟩:=(show ∃ t,u=Value.float y t from rx);cases q;exact PySem.W.kia_one PySem.W.kitx_float I.kIn True.intro e (λ z=>nomatch z) h
  | @lst a xs ea=>
    cases (show u=Value.ref a from rx)
    obtain ⟨_,_,n,_,h1⟩:=(show ObjOk X.prog X.w H s.heap a (.lst xs) from I.hok a _ ea)
    exact PySem.W.kia_one PySem.W.kitx_list I.kIn ⟨_,h1,rfl⟩ e (λ z=>nomatch z) h
  | @frz a ob xs ea=>
    cases (show u=Value.ref a from rx)
    obtain ⟨_,_,_,n,_,h1⟩:=(show ObjOk X.prog X.w H s.heap a (.frz ob (.lst xs)) from I.hok a _ ea)
    exact PySem.W.kia_one PySem.W.kitx_list I.kIn ⟨_,h1,rfl⟩ e (λ z=>nomatch z) h
  | @tup a xs ea=>
    cases (show u=Value.ref a from rx)
    obtain ⟨_,_,_,p⟩:=(show ObjOk X.prog X.w H s.heap a (.tup xs) from I.hok a _ ea)
    obtain ⟨o,h1,h2,_⟩:=p
    exact PySem.W.kia_one PySem.W.kitx_tuple I.kIn ⟨o,h1,h2⟩ e (λ z=>nomatch z) h
  | @dK a kvs ea=>
    cases (show u=Value.ref a from rx)
    obtain ⟨_,_,vs,_,p⟩:=(show ObjOk X.prog X.w H s.heap a (.dK kvs) from I.hok a _ ea)
    obtain ⟨o,es,ep,h1,h2,_⟩:=p
    exact PySem.W.kia_one PySem.W.kitx_dict I.kIn ⟨o,h1,h2.1⟩ e (λ z=>nomatch z) h
  | @dT a kvs ea=>
    cases (show u=Value.ref a from rx)
    obtain ⟨_,_,xs,_,o,es,ep,h1,h2,_⟩:=(show ObjOk X.prog X.w H s.heap a (.dT kvs) from I.hok a _ ea)
    exact PySem.W.kia_one PySem.W.kitx_dict I.kIn ⟨o,h1,h2.1⟩ e (λ z=>nomatch z) h
  | @ins a C dx fs ea cl ha hn htk hm=>
    cases (show u=Value.ref a from rx)
    obtain ⟨mA,O,_⟩:=tZq I.hok ea
    obtain ⟨od,J,_⟩:=O.look
    exact PySem.W.kia_one (PySem.W.kitx_own (cl.get _) cl.hd ha hn htk hm) I.kIn J e (λ z=>nomatch z) h
end
structure Room (k:Nat) (A:Around):Prop where
  hd:A.handled=none
  dp:A.depth+3 * k+5 < recursionLimit
  un:A.units+16 * k+200 < cLine
theorem Room.mono {j k:Nat} {A:Around} (r:Room k A) (h:j<=k):Room j A:=⟨r.hd,by have:=r.dp;omega,by have:=r.un;omega⟩
theorem Room.deeper {k:Nat} {A:Around} (r:Room (k+1) A) (env:Env):Room k (A.deeper env):=
  ⟨r.hd,by have:=r.dp;show A.depth+1+3 * k+5 < _;omega,by have:=r.un;show A.units+3+16 * k+200 < _;omega⟩
theorem Room.depth {k:Nat} {A:Around} (r:Room k A):A.depth < recursionLimit:=by have:=r.dp;omega
def tNil:TA:=λ _ H Q=>Q [] H
def zJq (ta:TE) (tr:TA):TA:=λ σ H Q=>ta σ H λ x H1=>tr σ H1 λ xs H2=>Q (x::xs) H2
section
variable {X:Cx} {e:Expr} {es:List Expr} {te:TE} {t:TA} {pos:Pos}
theorem xQq:PA X [] tNil:=λ _ _ _ _ H Q I h=>Calls.spliced_nil ⟨[],H,I,.nil,h⟩
theorem u0q (ha:PE X e te) (hr:PA X es t) (hs:starEach (e::es) X.env=(false,eval e X.env)::starEach es X.env:=by rfl):PA X (e::es) (zJq te t):=by
  intro pos pins s σ H Q I h
  rw [hs]
  show wpAny _ _ (spliced ((false,eval e X.env)::backTo pos (starEach es X.env))) _ _ s
  refine Calls.spliced_cons (thn (ha pins s σ H _ I h) λ u s1 ⟨x,H1,I1,r1,q1⟩=>?_)
  exact thn (hr pos pins s1 σ H1 _ I1 q1) λ us s2 ⟨xs,H2,I2,r2,q2⟩=>⟨x::xs,H2,I2,.cons r1 r2,q2⟩
def tTup (t:TA):TE:=λ σ H Q=>t σ H λ xs H1=>xs.length<=sizeLine/\∀ p,H1 p=none->Q (.ref p) (upd H1 p (.tup xs))
def tLst (t:TA):TE:=λ σ H Q=>t σ H λ xs H1=>xs.length<=sizeLine/\∀ p,H1 p=none->Q (.ref p) (upd H1 p (.lst xs))
theorem wVq {x1} (h:PA X es t):PE X (.Tuple es x1 pos) (tTup t):=by
  intro pins s σ H Q I hq
  refine wpAny_Tuple_spliced (thn (h pos pins s σ H _ I hq) λ us s1 ⟨xs,H1,I1,r,z,q⟩=>⟨by rw [<- r.length];exact z,?_⟩)
  have hf:H1 s1.heap.objs.size=none:=I1.hok.fresh (Nat.le_refl _)
  refine ⟨.ref s1.heap.objs.size,upd H1 s1.heap.objs.size (.tup xs),I1.laid (t':=s1.toks) (λ b u e=>Heap.get?_push_of_some _ e) (Nat.le_refl _) ?_,rfl,q _ hf⟩
  exact ⟨z,us,r,⟨_,Heap.get?_push_size _ rfl,rfl,_,rfl⟩⟩
theorem zEq (h:PA X es t):PE X (.List es pos) (tLst t):=by
  intro pins s σ H Q I hq
  refine wpAny_List_spliced (thn (h pos pins s σ H _ I hq) λ us s1 ⟨xs,H1,I1,r,z,q⟩=>⟨by rw [<- r.length];exact z,?_⟩)
  have hf:H1 s1.heap.objs.size=none:=I1.hok.fresh (Nat.le_refl _)
  refine ⟨.ref s1.heap.objs.size,upd H1 s1.heap.objs.size (.lst xs),I1.laid (t':=s1.toks) (λ b u e=>Heap.get?_push_of_some _ e) (Nat.le_refl _) ?_,rfl,q _ hf⟩
  exact ⟨z,us,0,r,Heap.get?_push_size _ rfl⟩
end
abbrev Sp:=List V->Hp->VK->XK->Prop
abbrev CXT:=List Env->Hp->Shared->XK->Value->Shared->Prop
structure Env0 (P:Program) (w:World) (K:PySem.W.Frag) (mg:Str->Option Value) (base:Heap) (A:Around) (outer:List Env) (s:Shared) (H:Hp):Prop where
  frames:A.frames=some outer
  mod:Mod K mg base
  bs:∀ b o,base.get? b=some o->s.heap.get? b=some o/\H b=none
  bsz:base.objs.size<=s.heap.objs.size
  funs:s.heap.FunFrames base outer
  frf:∀ b∈frs outer,H b=none
  hok:HOk P w H s.heap
  bare:AllBare s.gens
def CE (outer:List Env) (P:Program) (w:World) (H:Hp) (s:Shared) (Q:VK) (u:Value) (s':Shared):Prop:=
  ∃ v H',s'.os=s.os/\AllBare s'.gens/\Un (frs outer) [] H H' s.heap s'.heap/\HOk P w H' s'.heap/\RelV v u/\Q v H'
def CR (CX:CXT) (outer:List Env) (P:Program) (w:World) (H:Hp) (s:Shared) (Q:VK) (E:XK) (r:Result) (s':Shared):Prop:=
  match r with
  | .ok (.ret u)=>CE outer P w H s Q u s'
  | .ok _=>False
  | .error e=>CX outer H s E e s'
structure FnOk (P:Program) (w:World) (K:PySem.W.Frag) (mg:Str->Option Value) (base:Heap) (CX:CXT) (k:Nat) (f:Addr) (fd:FuncData) (ps:List Str) (sp:Sp):Prop where
  len:∀ vs H Q E,sp vs H Q E->vs.length=ps.length
  run:∀ (A:Around) (outer:List Env) (s:Shared) (H:Hp) (args:Args) (us:List Value) (vs:List V) (Q:VK) (E:XK),Room k A->Env0 P w K mg base A outer s H->BindsTo s fd args (ps.zip us)->Vals vs us->sp vs H Q E →
    codeAny (model P w) A (.call (.ref f) args) (CR CX outer P w H s Q E) s
section
variable {X:Cx} {pins:List (Addr × Obj)} {σ:St} {H:Hp} {s s':Shared}
theorem Inv.env0 (I:Inv X pins σ H s):Env0 X.prog X.w X.K X.mg X.base X.A X.stack s H:=
  ⟨I.ok.frames,I.ok.mod,I.bs,Nat.le_trans I.ok.bsz I.sz,I.stack,I.stkFree,I.hok,I.bare⟩
theorem Inv.after {Q:VK} {u:Value} (I:Inv X pins σ H s) (h:CE X.stack X.prog X.w H s Q u s'):EP X pins σ Q u s':=by
  obtain ⟨v,H',os,bare,un,hok,r,q⟩:=h
  obtain ⟨hh,g,d,t,os'⟩:=s'
  obtain rfl:os'=s.os:=os
  exact ⟨v,H',I.call (h':=hh) (g':=g) (d':=d) (t':=t) (ch:=[]) un hok bare (λ b z=>absurd z (by simp)),r,q⟩
end
def sOq (sp:Sp) (dvs:List V) (E:XK) (t:TA):TE:=λ σ H Q=>t σ H λ vs H1=>sp (vs++dvs) H1 Q E
def Binds (K:PySem.W.Frag) (fd:FuncData) (ps:List Str) (ds:List Value):Prop:=
  ∀ (s:Shared) (us:List Value),K.In s.heap->(us++ds).length=ps.length->BindsTo s fd ⟨us,[]⟩ (ps.zip (us++ds))
theorem Binds.all {K:PySem.W.Frag} {fd:FuncData} {ps:List Str} (h:∀ us:List Value,us.length=ps.length->bindArgs fd ⟨us,[]⟩=pure (ps.zip us)):Binds K fd ps []:=λ s us _ hl=>by
  rw [List.append_nil] at hl ⊢
  exact .of_eq (h us hl)
def n6q (CX:CXT) (X:Cx) (E:XK):Prop:=∀ (pins:List (Addr × Obj)) (σ:St) (H:Hp) (s:Shared) (e:Value) (s':Shared),Inv X pins σ H s->CX X.stack H s E e s'->X.xe e s'
section
variable {X:Cx} {CX:CXT} {k:Nat} {f C:Addr} {fd:FuncData} {ps:List Str} {sp:Sp} {dvs:List V} {ds:List Value} {E:XK} {x m:Str} {p pos apos:Pos} {e o:Expr} {es:List Expr} {ta:TE} {t:TA}
theorem tMq {pins:List (Addr × Obj)} {σ:St} {H:Hp} {s:Shared} {Q:VK} {us:List Value} {vs:List V} (F:FnOk X.prog X.w X.K X.mg X.base CX k f fd ps sp) (hr:Room k X.A) (hb:Binds X.K fd ps ds) (hd:Vals dvs ds) (hx:n6q CX X E)
    (I:Inv X pins σ H s) (r:Vals vs us) (h:sp (vs++dvs) H Q E):wpAny (model X.prog X.w) X.A (call (.ref f) us) (EP X pins σ Q) X.xe s:=by
  have r2:Vals (vs++dvs) (us++ds):=r.append hd
  have hl:(us++ds).length=ps.length:=by rw [<- r2.length];exact F.len _ _ _ _ h
  refine wpAny_call (codeAny_mono (F.run X.A X.stack s H ⟨us,[]⟩ (us++ds) (vs++dvs) Q E hr I.env0 (hb s us I.kIn hl) r2 h) λ r s' hq=>?_)
  cases r with
  | error e=>exact hx pins σ H s e s' I hq
  | ok fl=>
    cases fl with
    | ret u=>exact I.after hq
    | next=>exact False.elim hq
    | brk=>exact False.elim hq
    | cont=>exact False.elim hq
theorem v5q (F:FnOk X.prog X.w X.K X.mg X.base CX k f fd ps sp) (hr:Room k X.A) (hg:Gl X x) (hm:X.mg x=some (.ref f)) (hk:PySem.W.keepIn X.K (.ref f)=true) (hb:Binds X.K fd ps ds) (hd:Vals dvs ds) (hx:n6q CX X E)
    (ha:PA X (e::es) t) (hdb:(x==("__debug__" : Str))=false:=by decide) (he:starEach (e::es) X.env=(false,eval e X.env)::starEach es X.env:=by rfl) (hpl:(backTo pos (starEach es X.env)).any (·.1)=false:=by rfl) :
    PE X (.Call (.Name x p) (e::es) [] pos) (sOq sp dvs E t):=by
  intro pins s σ H Q I h
  refine wpAny_Call_Name_kw (kKq I hg hm ?_ hdb)
  refine PySem.W.callWith_K (h₀:=X.base) I.ok.mod.kin hk (thn (ha pos pins s σ H _ I h) λ us s1 ⟨vs,H1,I1,r,q⟩=>⟨I1.kIn,?_⟩) he hpl
  exact tMq F hr hb hd hx I1 r q
end
section
variable {X:Cx} {CX:CXT} {k:Nat} {f C:Addr} {fd:FuncData} {ps ks:List Str} {sp:Sp} {E:XK} {x m:Str} {p pos apos kpos:Pos} {e o:Expr} {es:List Expr} {kws:List Keyword} {te ta:TE} {t tk:TA} {nm:Option Str}
variable {g:List Value->List Value->List Value} {gV:List V->List V->List V}
end
structure FnScope (N P:List Str) (sc:Scope):Prop where
  kind:sc.kind=.function
  co:sc.isCoroutine=false
  gen:sc.isGenerator=false
  nd:N.Nodup
  pre:N.take P.length=P
  par:∀ x∈P,sc.names.lookup x=some .local\/sc.names.lookup x=some .cell
  nofree:∀ y∈sc.names,y.2≠.free
theorem jIq {kindOf:Str->Option NameKind} {x:Str}:∀ {binds:List (Str × Value)} {m:Str->Option Value},(∀ v,(x,v) ∉ binds)->bindL kindOf binds m x=m x
  | [],_,_=>rfl
  | (n,v)::r,m,h=>by
    unfold bindL
    rw [jIq λ w hw=>h w (List.mem_cons_of_mem _ hw)]
    split
    . have:x≠n:=by rintro rfl;exact h v List.mem_cons_self
      simp [this]
    . rfl
theorem iWq {kindOf:Str->Option NameKind} {x:Str}:∀ {binds:List (Str × Value)} {m:Str->Option Value},(∀ v,(x,v) ∉ binds)->bindC kindOf binds m x=m x
  | [],_,_=>rfl
  | (n,v)::r,m,h=>by
    unfold bindC
    rw [iWq λ w hw=>h w (List.mem_cons_of_mem _ hw)]
    split
    . rfl
    . have:x≠n:=by rintro rfl;exact h v List.mem_cons_self
      simp [this]
theorem k1q {kindOf:Str->Option NameKind} {x:Str} {v:Value}:∀ {P:List Str} {vs:List Value} {i:Nat} {m:Str->Option Value},P.Nodup->P[i]?=some x->vs[i]?=some v->kindOf x=some .local →
    bindL kindOf (P.zip vs) m x=some v
  | [],_,_,_,_,h,_,_=>by simp at h
  | _::_,[],_,_,_,_,h,_=>by simp at h
  | p::P,w::vs,0,m,nd,h1,h2,hk=>by
    simp at h1 h2;subst h1;subst h2
    show bindL kindOf ((p,w)::P.zip vs) m p=_
    unfold bindL
    rw [jIq λ v hv=>(List.nodup_cons.mp nd).1 (List.of_mem_zip hv).1,if_pos hk]
    simp
  | p::P,w::vs,i+1,m,nd,h1,h2,hk=>by
    show bindL kindOf ((p,w)::P.zip vs) m x=_
    unfold bindL
    exact k1q (i:=i) (List.nodup_cons.mp nd).2 (by simpa using h1) (by simpa using h2) hk
theorem jUq {kindOf:Str->Option NameKind} {x:Str} {v:Value}:∀ {P:List Str} {vs:List Value} {i:Nat} {m:Str->Option Value},P.Nodup->P[i]?=some x->vs[i]?=some v->kindOf x≠some .local →
    bindC kindOf (P.zip vs) m x=some v
  | [],_,_,_,_,h,_,_=>by simp at h
  | _::_,[],_,_,_,_,h,_=>by simp at h
  | p::P,w::vs,0,m,nd,h1,h2,hk=>by
    simp at h1 h2;subst h1;subst h2
    show bindC kindOf ((p,w)::P.zip vs) m p=_
    unfold bindC
    rw [iWq λ v hv=>(List.nodup_cons.mp nd).1 (List.of_mem_zip hv).1,if_neg hk]
    simp
  | p::P,w::vs,i+1,m,nd,h1,h2,hk=>by
    show bindC kindOf ((p,w)::P.zip vs) m x=_
    unfold bindC
    exact jUq (i:=i) (List.nodup_cons.mp nd).2 (by simpa using h1) (by simpa using h2) hk
def dLq (N:List Str) (vs:List V):St:=vs.map some++List.replicate (N.length - vs.length) none
def rKq (CX:CXT) (P:Program) (w:World) (K:PySem.W.Frag) (mg:Str->Option Value) (base:Heap) (N:List Str) (qual:Str) (scope:Scope) (f:Addr) (cd:Value) (A:Around) (outer:List Env) (s:Shared) (H:Hp) (E:XK):Cx where
  prog:=P
  w:=w
  K:=K
  mg:=mg
  base:=base
  A:=A.deeper (envOfC qual scope s.heap.objs.size f cd)
  N:=N
  s₀:=s
  H₀:=H
  env:=envOfC qual scope s.heap.objs.size f cd
  outer:=outer
  stack:=envOfC qual scope s.heap.objs.size f cd::outer
  ex:=[]
  calm:=true
  fn:=λ _=>true
  pn:=[]
  xe:=λ e s'=>wpAny (model P w) (A.deeper (envOfC qual scope s.heap.objs.size f cd)) (leaving (envOfC qual scope s.heap.objs.size f cd) e) (λ _ s''=>CX outer H s E e s'') (λ e' s''=>CX outer H s E e' s'') s'
theorem lTq {sc:Scope} {n:Nat} {x:Str} (h:sc.names.lookup x=some .cell):∃ c,(cellsFrom n sc.names []).lookup x=some c:=by
  have q:=PySem.W.cellsFrom_some sc.names n [] (.inl h)
  exact Option.isSome_iff_exists.mp q
theorem q2q {CX:CXT} {P:Program} {w:World} {K:PySem.W.Frag} {mg:Str->Option Value} {base:Heap} {N ps:List Str} {qual:Str} {scope:Scope} {f:Addr} {cd:Value} {A:Around} {outer:List Env} {s s1:Shared} {H:Hp} {E:XK} {us:List Value} {vs:List V}
    (S:FnScope N ps scope) (hd:A.handled=none) (e0:Env0 P w K mg base A outer s H) (hl:vs.length=ps.length) (r:Vals vs us)
    (x:InCallC s s.heap.objs.size (bindL (envOfC qual scope s.heap.objs.size f cd).kindOf (ps.zip us) λ _=>none) (cellsFrom (s.heap.objs.size+1) scope.names []) (bindC (envOfC qual scope s.heap.objs.size f cd).kindOf (ps.zip us) λ _=>none) s1) :
    Inv (rKq CX P w K mg base N qual scope f cd A outer s H E) [] (dLq N vs) H s1:=by
  have hpl:ps.length<=N.length:=by have:=congrArg List.length S.pre;rw [List.length_take] at this;omega
  obtain ⟨h1,tk,rfl,hk⟩:=x.done
  have noA:∀ b:Addr,b ∉ (rKq CX P w K mg base N qual scope f cd A outer s H E).ex:=λ b z=>absurd (show b∈([]:List Addr) from z) (by simp)
  refine ⟨⟨e0.mod,S.kind,rfl,rfl,Nat.le_refl _,λ y z c h1 h2=>?_,λ y hy=>?_,λ y c _ h=>?_,λ _=>hd,Around.frames_deeper e0.frames,.inr ⟨rfl,rfl⟩,λ b z=>absurd z (noA b),e0.bs,e0.bsz,λ b _ _=>noA b,λ b z=>absurd z (noA b),e0.funs,e0.frf⟩,
    rfl,e0.bare,Un.kept hk,⟨_,x.toInCall.ns,λ i y v h1 h2 h3=>?_⟩,λ y c h=>⟨_,x.cell y c h⟩,e0.hok.fresh (Nat.le_refl _),λ y c h=>?_,λ p hp=>absurd (show p∈([]:List (Addr × Obj)) from hp) (by simp),e0.hok.kept hk,?_⟩
  . exact name_of_addr x.apart (PySem.mem_of_lookup h1) (PySem.mem_of_lookup h2)
  . have hy:scope.names.lookup y=some .cell\/scope.names.lookup y=some .free:=hy
    rcases hy with hy | hy
    . exact lTq hy
    . exact absurd rfl (S.nofree _ (PySem.mem_of_lookup hy))
  . exact Nat.le_of_lt (x.above y c (PySem.mem_of_lookup h))
  . have hi:i < vs.length:=by
      unfold dLq at h2
      by_cases hi:i < vs.length
      . exact hi
      . rw [List.getElem?_append_right (by simpa using hi)] at h2
        rw [List.getElem?_replicate] at h2
        split at h2<;>cases h2
    have ha:vs[i]?=some v:=by
      unfold dLq at h2
      rw [List.getElem?_append_left (by simpa using hi),List.getElem?_map] at h2
      cases e:vs[i]? with
      | none=>rw [e] at h2;cases h2
      | some a=>rw [e] at h2;cases h2;rfl
    obtain ⟨u,hu,rv⟩:=r.get ha
    have hp:ps[i]?=some y:=by
      rw [<- S.pre,List.getElem?_take_of_lt (by omega)];exact h1
    have ndP:ps.Nodup:=by rw [<- S.pre];exact S.nd.sublist (List.take_sublist _ _)
    refine ⟨u,rv,?_⟩
    rcases S.par y (List.mem_of_getElem? hp) with k | k
    . exact .inl ⟨k,k1q ndP hp hu k⟩
    . obtain ⟨c,e⟩:=lTq (n:=s.heap.objs.size+1) k
      refine .inr ⟨.inl k,c,e,?_⟩
      have q:=x.cell y c e
      rw [jUq ndP hp hu (by show scope.names.lookup y≠_;rw [k];decide)] at q
      exact q
  . exact e0.hok.fresh (Nat.le_of_lt (x.above y c (PySem.mem_of_lookup h)))
  . unfold dLq
    show _=N.length
    rw [List.length_append,List.length_map,List.length_replicate]
    omega
theorem yTq {CX:CXT} {P:Program} {w:World} {K:PySem.W.Frag} {mg:Str->Option Value} {base:Heap} {k:Nat} {f:Addr} {name qual:Str} {params:Arguments} {body:List Stmt} {scope:Scope} {dV kV doc pm cdv ct oc:Value} {an od:Option Addr}
    {osl:Array (Option Value)} {N ps:List Str} {sp:Sp} (lk:K.lookup f=some ⟨oc,od,.func (PySem.W.fnOf name qual params body scope dV kV doc pm an cdv ct),osl⟩) (hcd:PySem.W.codeIn K cdv qual=true) (S:FnScope N ps scope)
    (len:∀ vs H Q E,sp vs H Q E->vs.length=ps.length)
    (hbody:∀ (A:Around) (outer:List Env) (s:Shared) (H:Hp) (vs:List V) (Q:VK) (E:XK),Room k (A.deeper (envOfC qual scope s.heap.objs.size f cdv))->sp vs H Q E →
      ∃ t,PSs (rKq CX P w K mg base N qual scope f cdv A outer s H E) body t/\t { nx:=λ _ H'=>Q .non H',rt:=Q } (dLq N vs) H) :
    FnOk P w K mg base CX (k+1) f (PySem.W.fnOf name qual params body scope dV kV doc pm an cdv ct) ps sp:=by
  refine ⟨len,λ A outer s H args us vs Q E hr e0 hb r hsp=>?_⟩
  have hl:=len _ _ _ _ hsp
  have KX:K.In s.heap:=e0.mod.kin.keeps λ b o e=>(e0.bs b o e).1
  have lim:s.heap.NoLimit:=e0.mod.nolimit.keeps λ b o e=>(e0.bs b o e).1
  have hkind:∀ y∈ps.zip us,scope.names.lookup y.1=some .local\/(scope.names.lookup y.1=some .cell/\((cellsFrom (s.heap.objs.size+1) scope.names []).lookup y.1).isSome=true):=λ⟨n,v⟩ hy=>by
    rcases S.par n (List.of_mem_zip hy).1 with q | q
    . exact .inl q
    . exact .inr ⟨q,PySem.W.cellsFrom_some _ _ _ (.inl q)⟩
  refine codeAny_call_function hr.depth (KX _ _ lk) rfl S.co S.gen rfl (PySem.W.codeRec_of KX hcd) (hb _ _ _ _ ?_)
  refine wpAny_newFunctionEnv_cells S.kind hkind λ env he s1 x=>?_
  subst he
  refine ⟨lim.keeps x.toInCall.keep,codeAny_func ?_⟩
  obtain ⟨t,ht,hq⟩:=hbody A outer s H vs Q E (hr.deeper _) hsp
  have I:Inv (rKq CX P w K mg base N qual scope f cdv A outer s H E) [] (dLq N vs) H s1:=q2q S hr.hd e0 hl r x
  refine wpAny_mono (ht [] s1 (dLq N vs) H _ I hq) (λ fl s' hs=>?_) λ e s' hs=>hs
  have fin:∀ {σ':St} {H':Hp} {v:V} {u:Value},Inv (rKq CX P w K mg base N qual scope f cdv A outer s H E) [] σ' H' s'->RelV v u->Q v H'->CE outer P w H s Q u s':=
    λ{σ' H' v u} J rv q=>⟨v,H',J.os,J.bare,J.base,J.hok,rv,q⟩
  cases fl with
  | ret u=>
    obtain ⟨v,σ',H',J,rv,q⟩:=hs
    exact fin J rv q
  | next=>
    obtain ⟨σ',H',J,q⟩:=hs
    exact fin (v:=V.non) (u:=Value.none) J rfl q
  | brk=>
    obtain ⟨_,_,_,q⟩:=hs
    exact False.elim q
  | cont=>
    obtain ⟨_,_,_,q⟩:=hs
    exact False.elim q
section
variable {X:Cx} {x:Str} {p pos:Pos} {e:Expr} {es:List Expr} {t:TA} {id T:String} {r:List V->Hp->VK->Prop}
def tCB (r:List V->Hp->VK->Prop) (t:TA):TE:=λ σ H Q=>t σ H λ vs H1=>r vs H1 Q
theorem rXq (hc:CallR X (.builtin id) r) (hg:Gl X x) (hm:X.mg x=none) (hv:bootBuiltins x=some (.builtin id)) (ha:PA X (e::es) t) (hn:x≠"__name__":=by decide) (hdb:(x==("__debug__" : Str))=false:=by decide)
    (he:starEach (e::es) X.env=(false,eval e X.env)::starEach es X.env:=by rfl) (hpl:(backTo pos (starEach es X.env)).any (·.1)=false:=by rfl):PE X (.Call (.Name x p) (e::es) [] pos) (tCB r t):=by
  intro pins s σ H Q I h
  refine wpAny_Call_Name_kw (c0q I hg hm hv ?_ hn hdb)
  exact PyProof.Rows.callWith_builtin1 (thn (ha pos pins s σ H _ I h) λ us s1 ⟨vs,H1,I1,r1,q1⟩=>hc pins s1 σ H1 vs us Q I1 r1 q1) he hpl
theorem pAq (hc:CallR X (.type T) r) (hg:Gl X x) (hm:X.mg x=none) (hv:bootBuiltins x=some (.type T)) (ha:PA X (e::es) t) (hn:x≠"__name__":=by decide) (hdb:(x==("__debug__" : Str))=false:=by decide)
    (he:starEach (e::es) X.env=(false,eval e X.env)::starEach es X.env:=by rfl) (hpl:(backTo pos (starEach es X.env)).any (·.1)=false:=by rfl):PE X (.Call (.Name x p) (e::es) [] pos) (tCB r t):=by
  intro pins s σ H Q I h
  refine wpAny_Call_Name_kw (c0q I hg hm hv ?_ hn hdb)
  exact PyProof.Rows.callWith_type1 (thn (ha pos pins s σ H _ I h) λ us s1 ⟨vs,H1,I1,r1,q1⟩=>hc pins s1 σ H1 vs us Q I1 r1 q1) he hpl
end
end L2
namespace HT
open PySem PyProof.Rows
section
open PySem.SeqAt
open PySem.AutoSeq1 (wpAny_loadPart')
open PySem.MeetsSeq PySem.MeetsSeq2 PySem.MeetsSeq3
end
section
variable {prog:Program} {w:World} {A:Around} {E:Value->Shared->Prop} {s:Shared}
theorem cat_tup {t b:Addr} {vs ws:List Value} {Q:Value->Shared->Prop} (ht:IsTup s.heap t vs.toArray) (hb:IsTup s.heap b ws.toArray) (hv:vs≠[])
    (h1:ws=[]->Q (.ref t) s) (h2:ws≠[]->Q (.ref s.heap.objs.size) { s with heap:=s.heap.push { cls:=.type "tuple", data:=.seq (vs++ws).toArray } })
    (hsz:vs.length+ws.length<=sizeLine):wpAny (model prog w) A (binaryOp .Add (.ref t) (.ref b)) Q E s:=by
  obtain ⟨⟨cls,dd,data,sl⟩,ho,hc,n,hd⟩:=id ht
  obtain ⟨⟨cls2,dd2,data2,sl2⟩,ho2,hc2,n2,hd2⟩:=id hb
  simp only at hc hd hc2 hd2
  subst hc hd hc2 hd2
  have e:vs.toArray++ws.toArray=(vs++ws).toArray:=by simp
  by_cases hw:ws=[]
  . exact concat_meets ⟨_,ho,rfl⟩ ⟨_,ho2,rfl⟩ noFill_tuple_add seq_tuple_add PySem.F.slot_tuple_add PySem.F.entry_tuple_add (PySem.F.args_tuple_add_2 _ _)
      (tuple_addW1 t b vs.toArray ws.toArray n n2 dd dd2 sl sl2 (by simpa using hv) (by simp [hw])) ⟨ho,ho2,h1 hw⟩
  . refine concat_meets ⟨_,ho,rfl⟩ ⟨_,ho2,rfl⟩ noFill_tuple_add seq_tuple_add PySem.F.slot_tuple_add PySem.F.entry_tuple_add (PySem.F.args_tuple_add_2 _ _)
      (tuple_addW2 t b vs.toArray ws.toArray n n2 dd dd2 sl sl2 (by simpa using hv) (by simpa using hw) (by rw [List.size_toArray,List.size_toArray];exact hsz)) ⟨ho,ho2,?_⟩
    rw [e]
    exact h2 hw
def sIx (n d:Nat):Option Int->Nat
  | none=>d
  | some v=>if v < 0 then (v+(n:Int)).toNat else min v.toNat n
theorem yQq (n d:Nat) (hd:d<=n) (o:Option Int):sIx n d o<=n:=by
  cases o with
  | none=>exact hd
  | some v=>
    show (if v < 0 then (v+(n:Int)).toNat else min v.toNat n)<=n
    by_cases hv:v < 0
    . rw [if_pos hv];omega
    . rw [if_neg hv];exact Nat.min_le_right _ _
theorem o5q (v:Int) (n d:Nat):(if v < 0 then max (v+(n:Int)) 0 else min v (n:Int))=((sIx n d (some v):Nat):Int):=by
  show (if v < 0 then max (v+(n:Int)) 0 else min v (n:Int))=(((if v < 0 then (v+(n:Int)).toNat else min v.toNat n):Nat):Int)
  by_cases hv:v < 0
  . simp only [if_pos hv];omega
  . simp only [if_neg hv];omega
theorem mTq (lo hi:Option Int) (n:Nat):Builtin.Slice.sliceAdjust lo hi 1 (n:Int)=(((sIx n 0 lo:Nat):Int),((sIx n n hi:Nat):Int)):=by
  have h1:¬ ((1:Int) < 0):=by omega
  unfold Builtin.Slice.sliceAdjust
  simp only [h1,if_false]
  refine Prod.ext ?_ ?_
  . cases lo with
    | none=>rfl
    | some v=>exact o5q v n 0
  . cases hi with
    | none=>rfl
    | some v=>exact o5q v n n
theorem mNq (i j:Nat):Builtin.Slice.slicePlaces (i:Int) (j:Int) 1=j - i:=by
  unfold Builtin.Slice.slicePlaces
  have h1:(1:Int) > 0:=by omega
  simp only [h1,if_true,Int.ediv_one]
  split<;>omega
theorem gSq {v:Value} {o:Option Int} {Q:Option Int->Shared->Prop} (p:IsPart v o) (h:Q o s):wpAny (model prog w) A (Builtin.Slice.slicePartIndex v) Q E s:=by
  cases p with
  | none=>exact slicePart_none h
  | int i t=>exact slicePart_int h
theorem sliceApplied_gen {sl:Addr} {vl vu:Value} {lo hi:Option Int} {n:Nat} {Q:Int × Int × Nat->Shared->Prop} (hs:s.heap.IsSliceOf sl vl vu .none) (pl:IsPart vl lo) (pu:IsPart vu hi)
    (h:Q (((sIx n 0 lo:Nat):Int),1,sIx n n hi - sIx n 0 lo) s):wpAny (model prog w) A (Builtin.Slice.sliceApplied (.ref sl) (pure (n:Int))) Q E s:=by
  obtain ⟨os,hos,hcs,hds⟩:=id hs
  unfold Builtin.Slice.sliceApplied Builtin.Slice.sliceFields
  refine wpAny_bind (wpAny_bind (wpAny_field hos hds (x:=vl) rfl (wpAny_bind (wpAny_field hos hds (x:=vu) rfl (wpAny_bind (wpAny_field hos hds (x:=.none) rfl (wpAny_pure ?_)))))))
  refine wpAny_bind (slicePart_none ?_)
  show wpAny _ _ (if ((1:Int)==0)=true then _ else _) _ _ s
  rw [if_neg (by decide)]
  refine wpAny_bind (gSq pl (wpAny_bind (gSq pu (wpAny_bind (wpAny_pure ?_)))))
  show wpAny _ _ (match Builtin.Slice.sliceAdjust lo hi 1 (n:Int) with | (lo,hi)=>pure (lo,(1:Int),Builtin.Slice.slicePlaces lo hi 1)) _ _ s
  rw [mTq lo hi n]
  show wpAny _ _ (pure (((sIx n 0 lo:Nat):Int),(1:Int),Builtin.Slice.slicePlaces ((sIx n 0 lo:Nat):Int) ((sIx n n hi:Nat):Int) 1)) _ _ s
  rw [mNq]
  exact wpAny_pure h
theorem sQq (xs:Array Value) (i k:Nat):((List.range k).filterMap λ(m:Nat)=>xs[((i:Int)+(m:Int) * 1).toNat]?).toArray=((xs.toList.drop i).take k).toArray:=by
  have e:(λ(m:Nat)=>xs[((i:Int)+(m:Int) * 1).toNat]?)=λ m=>xs[i+m]?:=by
    funext m
    have:((i:Int)+(m:Int) * 1).toNat=i+m:=by omega
    rw [this]
  rw [e]
  have:=pick_run xs i k
  rw [List.filterMap_map] at this
  have e2:((λ x=>xs[x]?) ∘ λ x=>i+x)=λ m=>xs[i+m]?:=rfl
  rw [e2] at this
  rw [this]
theorem getItem_tuple_cut {t sl:Addr} {items:Array Value} {vl vu:Value} {lo hi:Option Int} {Q:Value->Shared->Prop} (ht:IsTup s.heap t items) (hs:s.heap.IsSliceOf sl vl vu .none) (pl:IsPart vl lo) (pu:IsPart vu hi)
    (hw:¬ (sIx items.size 0 lo=0/\sIx items.size items.size hi=items.size))
    (h:Q (.ref s.heap.objs.size) { s with heap:=s.heap.push { cls:=.type "tuple", data:=.seq ((items.toList.drop (sIx items.size 0 lo)).take (sIx items.size items.size hi - sIx items.size 0 lo)).toArray } })
    (hsz:items.size<=sizeLine):wpAny (model prog w) A (getItem (.ref t) (.ref sl)) Q E s:=by
  have htake:sizeOk (.seq ((items.toList.drop (sIx items.size 0 lo)).take (sIx items.size items.size hi - sIx items.size 0 lo)).toArray):=by
    show ((items.toList.drop (sIx items.size 0 lo)).take (sIx items.size items.size hi - sIx items.size 0 lo)).toArray.size<=sizeLine
    rw [List.size_toArray,List.length_take,List.length_drop,Array.length_toList]
    omega
  have hj:sIx items.size items.size hi<=items.size:=yQq _ _ (Nat.le_refl _) hi
  obtain ⟨os,hos,hcs,hds⟩:=id hs
  have hTs:s.TypeIs (.ref sl) "slice":=⟨os,hos,hcs⟩
  unfold getItem
  try with_reducible refine wpAny_holding ?_
  first | refine wpAny_bind (wpAny_pure ?_) | skip
  refine wpAny_bind (wpAny_sequenceKey ht.typeIs (by decide) ?_)
  refine wpAny_bind (wpAny_callSpecial?_slot (name:=Str.ofString "__getitem__") ht.typeIs PyProof.Rows.slot_tuple_getitem
    (wpAny_call_entry PyProof.Rows.slot_tuple_getitem ht.typeIs entry_tuple_getitem ?_ (args_tuple_getitem _ _)))
  show wpAny _ _ (Builtin.Tuple.tupleItemsOf (.ref t) >>= _) _ _ s
  refine wpAny_bind (tupleItemsOf_ ht ?_)
  refine wpAny_bind (wpAny_typeOf hTs ?_)
  rw [if_pos (by decide)]
  refine wpAny_bind (sliceApplied_gen hs pl pu ?_)
  have hno:¬ ((((sIx items.size 0 lo:Nat):Int)==0&&(1:Int)==1&&(sIx items.size items.size hi - sIx items.size 0 lo)==items.size)=true):=by
    intro q
    rw [Bool.and_eq_true,Bool.and_eq_true] at q
    have q1:((sIx items.size 0 lo:Nat):Int)=0:=eq_of_beq q.1.1
    have q2:sIx items.size items.size hi - sIx items.size 0 lo=items.size:=eq_of_beq q.2
    exact hw ⟨by omega,by omega⟩
  show wpAny _ _ (if (((sIx items.size 0 lo:Nat):Int)==0&&(1:Int)==1&&(sIx items.size items.size hi - sIx items.size 0 lo)==items.size)=true then _ else _) _ _ s
  rw [if_neg hno,sQq]
  first
    | exact wpAny_bind (m:=Builtin.Tuple.tupleExact _) (wpAny_newObj_type (wpAny_pure ⟨_,rfl,wpAny_pure h⟩) htake)
    | exact wpAny_bind (m:=Builtin.Tuple.tupleExact _) (wpAny_newObj_type (wpAny_bind (wpAny_pure (wpAny_pure ⟨_,rfl,wpAny_pure h⟩))) htake)
    | exact wpAny_bind (wpAny_bind (m:=Builtin.Tuple.tupleExact _) (wpAny_newObj_type (wpAny_pure (wpAny_pure ⟨_,rfl,wpAny_pure h⟩)) htake))
    | exact wpAny_bind (wpAny_bind (m:=Builtin.Tuple.tupleExact _) (wpAny_newObj_type (wpAny_pure ⟨_,rfl,wpAny_pure h⟩) htake))
end
end HT
namespace L2
open PySem PySem.Spec PyProof.Rows
abbrev TO:=St->Hp->(Option Int->Hp->Prop)->Prop
def PO (X:Cx) (e:Option Expr) (t:TO):Prop:=
  ∀ (pins:List (Addr × Obj)) (s:Shared) (σ:St) (H:Hp) (Q:Option Int->Hp->Prop),Inv X pins σ H s->t σ H Q →
    wpAny (model X.prog X.w) X.A (evalPart e X.env) (λ u s'=>∃ o H',Inv X pins σ H' s'/\IsPart u o/\Q o H') X.xe s
def pVq:TO:=λ _ H Q=>Q none H
def zCq (t:TE):TO:=λ σ H Q=>t σ H λ x H1=>∃ i,x=.int i/\Q (some i) H1
section
variable {X:Cx} {e:Expr} {te:TE} {lo hi:Option Expr} {tl th:TO} {pos p2:Pos}
theorem v1q:PO X none pVq:=by
  intro pins s σ H Q I h
  rw [evalPart_none]
  exact wpAny_pure ⟨none,H,I,.none,h⟩
theorem uFq (h:PE X e te):PO X (some e) (zCq te):=by
  intro pins s σ H Q I hw
  rw [evalPart_some]
  refine thn (h pins s σ H _ I hw) λ u s1 ⟨x,H1,I1,r1,q1⟩=>?_
  obtain ⟨i,rfl,q⟩:=q1
  obtain ⟨t,rfl⟩:=r1
  exact ⟨some i,H1,I1,.int i t,q⟩
def SlR (X:Cx) (r:V->Option Int->Option Int->Hp->VK->Prop):Prop:=
  ∀ (pins:List (Addr × Obj)) (s:Shared) (σ:St) (H:Hp) (x:V) (v vl vu:Value) (lo hi:Option Int) (sl:Addr) (Q:VK),Inv X pins σ H s->RelV x v->s.heap.IsSliceOf sl vl vu .none->IsPart vl lo->IsPart vu hi->r x lo hi H Q →
    ∃ T id,typeLookup (.type T) "__getitem__" = pure (some (.builtin id))/\s.TypeIs v T/\wpAny (model X.prog X.w) X.A (getItem v (.ref sl)) (EP X pins σ Q) X.xe s
theorem SlR.or {r r':V->Option Int->Option Int->Hp->VK->Prop} (h:SlR X r) (h':SlR X r'):SlR X (λ x lo hi H Q=>r x lo hi H Q\/r' x lo hi H Q):=by
  intro pins s σ H x v vl vu lo hi sl Q I rx hs pl pu q
  rcases q with q | q
  . exact h pins s σ H x v vl vu lo hi sl Q I rx hs pl pu q
  . exact h' pins s σ H x v vl vu lo hi sl Q I rx hs pl pu q
def tSl (r:V->Option Int->Option Int->Hp->VK->Prop) (te:TE) (tl th:TO):TE:=λ σ H Q=>te σ H λ x H1=>tl σ H1 λ l H2=>th σ H2 λ u H3=>r x l u H3 Q
theorem s2q {r:V->Option Int->Option Int->Hp->VK->Prop} (hr:SlR X r) (he:PE X e te) (hl:PO X lo tl) (hu:PO X hi th):PE X (.Subscript e (.Slice lo hi none p2) pos) (tSl r te tl th):=by
  intro pins s σ H Q I h
  refine Subscript_ (thn (he pins s σ H _ I h) λ v s1 ⟨x,H1,I1,r1,q1⟩=>?_)
  refine wpAny_Slice (thn (hl pins s1 σ H1 _ I1 q1) λ vl s2 ⟨l,H2,I2,pl,q2⟩=>thn (hu pins s2 σ H2 _ I2 q2) λ vu s3 ⟨u,H3,I3,pu,q3⟩=>?_)
  rw [evalPart_none]
  refine wpAny_pure ?_
  have I4:Inv X pins σ H3 { s3 with heap:=s3.heap.push { cls:=.type "slice", data:=.fields #[vl,vu,.none] } }:=I3.kept (t':=s3.toks) λ b ob q=>Heap.get?_push_of_some _ q
  obtain ⟨T,id,hT,ht,hg⟩:=hr pins { s3 with heap:=s3.heap.push { cls:=.type "slice", data:=.fields #[vl,vu,.none] } } σ H3 x v vl vu l u s3.heap.objs.size Q I4 r1 (Heap.IsSliceOf.new ..) pl pu q3
  show wpAny (model X.prog X.w) X.A (subscriptTail e (.Slice lo hi none p2) v (.ref s3.heap.objs.size)) (EP X pins σ Q) X.xe { s3 with heap:=s3.heap.push { cls:=.type "slice", data:=.fields #[vl,vu,.none] } }
  exact tail_any (ops:=[.ref s3.heap.objs.size,v]) ht hT hg (by with_unfolding_all rfl)
def n4q (xs:List V) (lo hi:Option Int):List V:=(xs.drop (HT.sIx xs.length 0 lo)).take (HT.sIx xs.length xs.length hi - HT.sIx xs.length 0 lo)
theorem fMq (xs:List V) (lo hi:Option Int):(n4q xs lo hi).length<=xs.length:=by
  unfold n4q
  rw [List.length_take,List.length_drop]
  omega
def rSlT (K:PySem.W.Frag):V->Option Int->Option Int->Hp->VK->Prop:=λ x lo hi H Q=>∃ a xs,x=.ref a/\SqT K H a xs ∧
  ¬ (HT.sIx xs.length 0 lo=0/\HT.sIx xs.length xs.length hi=xs.length)/\∀ p,H p=none->Q (.ref p) (upd H p (.tup (n4q xs lo hi)))
theorem z9q:SlR X (rSlT X.K):=by
  intro pins s σ H x v vl vu lo hi sl Q I rx hs pl pu h
  obtain ⟨a,xs,rfl,hx,hw,q⟩:=h
  cases rx
  obtain ⟨its,r,ht,hz⟩:=I.tuple hx
  have hlen:its.toArray.size=xs.length:=by rw [List.size_toArray];exact r.length.symm
  refine ⟨"tuple", _,PyProof.Rows.slot_tuple_getitem.lookup,ht.typeIs,?_⟩
  refine HT.getItem_tuple_cut ht hs pl pu (by rw [hlen];exact hw) ?_ (by rw [hlen];exact hz)
  rw [hlen]
  refine ⟨.ref s.heap.objs.size,_,I.laid (t':=s.toks) (o:=.tup (n4q xs lo hi)) (λ b ob q=>Heap.get?_push_of_some _ q) (Nat.le_refl _) ?_,rfl,q _ (I.hok.fresh (Nat.le_refl _))⟩
  exact ⟨Nat.le_trans (fMq xs lo hi) hz,_,(r.drop (HT.sIx xs.length 0 lo)).take (HT.sIx xs.length xs.length hi - HT.sIx xs.length 0 lo),IsTup.new _ _⟩
def aK3q (K:PySem.W.Frag):R2:=λ x y H Q=>∃ a b xs ys,x=.ref a/\y=.ref b/\SqT K H a xs/\SqT K H b ys/\xs≠[]/\xs.length+ys.length<=sizeLine ∧
  (ys=[]->Q (.ref a) H)/\(ys≠[]->∀ p,H p=none->Q (.ref p) (upd H p (.tup (xs++ys))))
theorem Vals.nil_iff {xs:List V} {us:List Value} (r:Vals xs us):us=[] ↔ xs=[]:=by
  cases r with
  | nil=>simp
  | cons _ _=>simp
theorem w7q:OpR X (binaryOp .Add) (aK3q X.K):=by
  intro pins s σ H x y v u Q I rx ry h
  obtain ⟨a,b,xs,ys,rfl,rfl,ha,hb,hx,hz,q1,q2⟩:=h
  cases rx
  cases ry
  obtain ⟨its,r1,p1,_⟩:=I.tuple ha
  obtain ⟨its2,r2,p2,_⟩:=I.tuple hb
  refine HT.cat_tup p1 p2 (λ z=>hx (r1.nil_iff.mp z)) (λ z=>⟨.ref a,H,I,rfl,q1 (r2.nil_iff.mp z)⟩) (λ z=>?_) (by rw [<- r1.length,<- r2.length];exact hz)
  refine ⟨.ref s.heap.objs.size,_,I.laid (t':=s.toks) (o:=.tup (xs++ys)) (λ b ob q=>Heap.get?_push_of_some _ q) (Nat.le_refl _) ?_,rfl,q2 (λ w=>z (r2.nil_iff.mpr w)) _ (I.hok.fresh (Nat.le_refl _))⟩
  exact ⟨by rw [List.length_append];exact hz,_,r1.append r2,IsTup.new _ _⟩
end
def ixN (n:Nat) (i:Int):Option Nat:=if 0<=i then (if i < n then some i.toNat else none) else if -(n:Int)<=i then some (i+n).toNat else none
def atI {α:Type} (xs:List α) (i:Int):Option α:=(ixN xs.length i).bind λ j=>xs[j]?
theorem oNq {n:Nat} {i:Int} {j:Nat} (h:ixN n i=some j):seqIndex? i n=some j/\j < n/\-(n:Int)<=i/\i < n:=by
  unfold ixN at h
  by_cases h0:0<=i
  . rw [if_pos h0] at h
    by_cases h1:i < n
    . rw [if_pos h1] at h
      have e:i.toNat=j:=Option.some.inj h
      exact ⟨by rw [seqIndex_of h0 h1,e],by omega,by omega,h1⟩
    . rw [if_neg h1] at h;cases h
  . rw [if_neg h0] at h
    by_cases h1:-(n:Int)<=i
    . rw [if_pos h1] at h
      have e:(i+n).toNat=j:=Option.some.inj h
      exact ⟨by rw [seqIndex_neg (by omega) h1,e],by omega,h1,by omega⟩
    . rw [if_neg h1] at h;cases h
theorem kJq {α:Type} {xs:List α} {i:Int} {v:α} (h:atI xs i=some v):∃ j,seqIndex? i xs.length=some j/\xs[j]?=some v/\j < xs.length/\-(xs.length:Int)<=i/\i < xs.length:=by
  unfold atI at h
  cases e:ixN xs.length i with
  | none=>rw [e] at h;cases h
  | some j=>
    rw [e] at h
    obtain ⟨h1,h2,h3,h4⟩:=oNq e
    exact ⟨j,h1,h,h2,h3,h4⟩
theorem c2q {α:Type} {xs:List α} {j:Nat} {v:α} (h:xs[j]?=some v):atI xs (j:Int)=some v:=by
  have hj:j < xs.length:=(List.getElem?_eq_some_iff.mp h).1
  have e:ixN xs.length (j:Int)=some j:=by
    unfold ixN
    rw [if_pos (by omega),if_pos (by omega)];simp
  unfold atI;rw [e];exact h
def iFq (b:Expr):Prop:=∀ o i,subscripted b false o i=operate [o,i] (getItem o i)
def IxR (X:Cx) (r:R2):Prop:=
  ∀ (value slice:Expr) (pins:List (Addr × Obj)) (s:Shared) (σ:St) (H:Hp) (x y:V) (v u:Value) (Q:VK),Inv X pins σ H s->RelV x v->RelV y u->r x y H Q →
    subscripted slice false v u=operate [v,u] (getItem v u)->wpAny (model X.prog X.w) X.A (subscriptTail value slice v u) (EP X pins σ Q) X.xe s
def MtR (X:Cx) (id:String) (r:V->List V->Hp->VK->Prop):Prop:=
  ∀ (pins:List (Addr × Obj)) (s:Shared) (σ:St) (H:Hp) (x:V) (xs:List V) (v:Value) (us:List Value) (Q:VK),Inv X pins σ H s->RelV x v->Vals xs us->r x xs H Q →
    wpAny (model X.prog X.w) X.A (call (.builtin id) (v::us)) (EP X pins σ Q) X.xe s
section
variable {X:Cx} {a b:Expr} {ta tb:TE} {pos:Pos}
theorem IxR.or {r r':R2} (h:IxR X r) (h':IxR X r'):IxR X (λ x y H Q=>r x y H Q\/r' x y H Q):=by
  intro value slice pins s σ H x y v u Q I rx ry q hs
  rcases q with q | q
  . exact h value slice pins s σ H x y v u Q I rx ry q hs
  . exact h' value slice pins s σ H x y v u Q I rx ry q hs
theorem MtR.or {id:String} {r r':V->List V->Hp->VK->Prop} (h:MtR X id r) (h':MtR X id r'):MtR X id (λ x xs H Q=>r x xs H Q\/r' x xs H Q):=by
  intro pins s σ H x xs v us Q I rx rs q
  rcases q with q | q
  . exact h pins s σ H x xs v us Q I rx rs q
  . exact h' pins s σ H x xs v us Q I rx rs q
theorem aG2q {r:R2} (hr:IxR X r) (ha:PE X a ta) (hb:PE X b tb) (hs:iFq b):PE X (.Subscript a b pos) (tOp r ta tb):=by
  intro pins s σ H Q I h
  exact Subscript_ (binT ha hb I h λ v u s2 x y H2 I2 rx ry q=>hr a b pins s2 σ H2 x y v u Q I2 rx ry q (hs _ _))
def rIxL (K:PySem.W.Frag):R2:=λ x y H Q=>∃ p xs i v,x=.ref p/\y=.int i/\SqL K H p xs/\atI xs i=some v/\Q v H
def rIxT (K:PySem.W.Frag):R2:=λ x y H Q=>∃ p xs i v,x=.ref p/\y=.int i/\SqT K H p xs/\atI xs i=some v/\Q v H
def rIxS:R2:=λ x y H Q=>∃ z i c,x=.str z/\y=.int i/\z.length<=sizeLine/\atI z.cps.toList i=some c/\Q (.str ⟨#[c]⟩) H
theorem ix_list:IxR X (rIxL X.K):=by
  intro value slice pins s σ H x y v u Q I rx ry h hs
  obtain ⟨p,xs,i,z,rfl,rfl,hq,he,q⟩:=h
  cases rx
  obtain ⟨t,rfl⟩:=ry
  obtain ⟨its,r,pl,hz⟩:=I.list hq
  obtain ⟨j,h1,h2,h3,h4,h5⟩:=kJq he
  obtain ⟨w,ew,rw'⟩:=r.get h2
  have hl:=r.length
  have hn:=eGq
  have fin:EP X pins σ Q w s:=⟨z,H,I,rw',q⟩
  by_cases h0:0<=i
  . have hj:i.toNat=j:=by
      rw [seqIndex_of h0 h5] at h1
      exact Option.some.inj h1
    exact item_listR pl.isList h0 (by omega) (by rw [hj];simpa using ew) fin hs
  . have hj:(i+(its.toArray.size:Int)).toNat=j:=by
      rw [seqIndex_neg (by omega) h4] at h1
      rw [List.size_toArray,<- hl]
      exact Option.some.inj h1
    exact subscriptTail_builtinR (x:=w) pl.isList.typeIs slot_list_getitem.lookup
      (wpAny_getItem_list_neg (Q:=λ r s'=>r=w/\EP X pins σ Q r s') pl.isList (by omega) (by rw [List.size_toArray]<;>omega) (by omega) (by rw [hj];simpa using ew) ⟨rfl,fin⟩) hs
theorem ix_tup:IxR X (rIxT X.K):=by
  intro value slice pins s σ H x y v u Q I rx ry h hs
  obtain ⟨p,xs,i,z,rfl,rfl,hq,he,q⟩:=h
  cases rx
  obtain ⟨t,rfl⟩:=ry
  obtain ⟨its,r,pl,hz⟩:=I.tuple hq
  obtain ⟨j,h1,h2,h3,h4,h5⟩:=kJq he
  obtain ⟨w,ew,rw'⟩:=r.get h2
  have hl:=r.length
  have hn:=eGq
  have fin:EP X pins σ Q w s:=⟨z,H,I,rw',q⟩
  exact subscriptTail_builtinR (x:=w) pl.typeIs slot_tuple_getitem.lookup
    (getItem_tuple (j:=j) (Q:=λ r s'=>r=w/\EP X pins σ Q r s') pl (by omega) (by omega) (by rw [List.size_toArray,<- hl];exact h1) (by simpa using ew) ⟨rfl,fin⟩) hs
theorem xYq:IxR X rIxS:=by
  intro value slice pins s σ H x y v u Q I rx ry h hs
  obtain ⟨z,i,c,rfl,rfl,hz,he,q⟩:=h
  obtain ⟨t,rfl⟩:=rx
  obtain ⟨t',rfl⟩:=ry
  obtain ⟨j,h1,h2,h3,h4,h5⟩:=kJq he
  have hl:z.cps.toList.length=z.length:=by simp [Str.length]
  rw [hl] at h1 h4 h5
  have hn:=eGq
  exact tail_any (typeIs_str s z t) slot_str_getitem.lookup (getItem_str (c:=c) (by
    have e1:decide (i < -(2 ^ 63:Int))=false:=decide_eq_false (by omega)
    have e2:decide (i ≥ 2 ^ 63)=false:=decide_eq_false (by omega)
    rw [e1,e2,Bool.or_false]) (by rw [h1];simpa using h2) ⟨.str ⟨#[c]⟩,H,I.tok _,⟨_,rfl⟩,q⟩) hs
def rIx (K:PySem.W.Frag):R2:=λ x y H Q=>rIxL K x y H Q\/rIxT K x y H Q\/rIxS x y H Q
theorem t9q:IxR X (rIx X.K):=ix_list.or (ix_tup.or xYq)
theorem mOq (its:List Value) (n j:Nat) (u:Value):Obj.mapSeq (·.setIfInBounds j u) { cls:=.type "list", data:=.seq its.toArray n }={ cls:=.type "list", data:=.seq (its.set j u).toArray n }:=by
  simp [Obj.mapSeq]
theorem Inv.lst {pins:List (Addr × Obj)} {σ:St} {H:Hp} {s:Shared} {p:Addr} {xs:List V} (I:Inv X pins σ H s) (h:H p=some (.lst xs)) :
    ∃ (its:List Value) (n:Nat),Vals xs its/\s.heap.get? p=some { cls:=.type "list", data:=.seq its.toArray n }/\xs.length<=sizeLine:=by
  obtain ⟨z,its,n,r,e⟩:=I.hok p _ h
  exact ⟨its,n,r,e,z⟩
theorem Inv.lstUpd {pins:List (Addr × Obj)} {σ:St} {H:Hp} {s:Shared} {p:Addr} {xs ys:List V} {its its':List Value} {n n':Nat} {f:Obj->Obj} (I:Inv X pins σ H s) (h:H p=some (.lst xs))
    (ho:s.heap.get? p=some { cls:=.type "list", data:=.seq its.toArray n }) (hf:f { cls:=.type "list", data:=.seq its.toArray n }={ cls:=.type "list", data:=.seq its'.toArray n' }) (r:Vals ys its') (hz:ys.length<=sizeLine) (t:Nat) :
    Inv X pins σ (upd H p (.lst ys)) { s with heap:=s.heap.update p f,toks:=t }:=by
  have e:(s.heap.update p f).get? p=some { cls:=.type "list", data:=.seq its'.toArray n' }:=by
    rw [Heap.get?_update_self f ho (by rw [hf]<;>rfl),hf]
  refine I.write (x:=p) (e:=p) (by rw [h];trivial) (.inl rfl) (λ b u hb q=>(Heap.get?_update_other _ _ (Ne.symm hb)).trans q) ⟨_,e⟩ ?_
  exact ⟨hz,its',n',r,e⟩
def aF3q:V->V->V->Hp->(Hp->Prop)->Prop:=λ o i v H Q=>∃ p xs k j,o=.ref p/\i=.int k/\H p=some (.lst xs)/\ixN xs.length k=some j/\Q (upd H p (.lst (xs.set j v)))
theorem sHq:PSet X aF3q:=by
  intro pins s σ H o i v ov iv u Q I ro ri rv h
  obtain ⟨p,xs,k,j,rfl,rfl,hp,hj,q⟩:=h
  cases ro
  obtain ⟨t,rfl⟩:=ri
  obtain ⟨its,n,r,ho,hz⟩:=I.lst hp
  obtain ⟨h1,h2,h3,h4⟩:=oNq hj
  have hl:=r.length
  have hn:=eGq
  have I':Inv X pins σ (upd H p (.lst (xs.set j v))) { s with heap:=s.heap.update p (Obj.mapSeq (·.setIfInBounds j u)) }:=
    I.lstUpd hp ho (mOq its n j u) (r.set rv j) (by rw [List.length_set];exact hz) s.toks
  by_cases h0:0<=k
  . have hk:k.toNat=j:=by
      rw [seqIndex_of h0 h4] at h1
      exact Option.some.inj h1
    exact PySem.W.ki_setAt ho h0 (by omega) (by rw [List.size_toArray,<- hl];exact h4) (by rw [hk];exact ⟨_,I',q⟩)
  . have hk:(k+(its.toArray.size:Int)).toNat=j:=by
      rw [seqIndex_neg (by omega) h3] at h1
      rw [List.size_toArray,<- hl]
      exact Option.some.inj h1
    exact PySem.W.ki_setBack ho (by omega) (by rw [List.size_toArray,<- hl];exact h3) (by omega) (by rw [hk];exact ⟨_,I',q⟩)
theorem iXq (lo hi:Option Int) (n:Nat):(sliceBounds lo hi none n).1=((HT.sIx n 0 lo:Nat):Int)/\(sliceBounds lo hi none n).2.1=((HT.sIx n n hi:Nat):Int)/\(sliceBounds lo hi none n).2.2=1:=by
  refine ⟨?_,?_,rfl⟩
  . cases lo with
    | none=>simp [sliceBounds,HT.sIx]
    | some i=>
      simp only [sliceBounds,HT.sIx,Option.getD_none,show (1:Int) > 0 by decide,if_true]
      by_cases h:i < 0
      . simp only [h,if_true]<;>omega
      . simp only [h,if_false]<;>omega
  . cases hi with
    | none=>simp [sliceBounds,HT.sIx]
    | some i=>
      simp only [sliceBounds,HT.sIx,Option.getD_none,show (1:Int) > 0 by decide,if_true]
      by_cases h:i < 0
      . simp only [h,if_true]<;>omega
      . simp only [h,if_false]<;>omega
theorem iDq (its:List Value) (lo hi:Option Int):slicePick its.toArray lo hi none=((its.drop (HT.sIx its.length 0 lo)).take (HT.sIx its.length its.length hi - HT.sIx its.length 0 lo)).toArray:=by
  obtain ⟨h1,h2,h3⟩:=iXq lo hi its.toArray.size
  unfold slicePick
  rw [h1,h2,h3]
  simp only [sliceRange_one,pick_run,List.size_toArray]<;>rfl
def rSlL (K:PySem.W.Frag):V->Option Int->Option Int->Hp->VK->Prop:=λ x lo hi H Q=>∃ a xs,x=.ref a/\SqL K H a xs/\∀ p,H p=none->Q (.ref p) (upd H p (.lst (n4q xs lo hi)))
theorem w3q:SlR X (rSlL X.K):=by
  intro pins s σ H x v vl vu lo hi sl Q I rx hs pl pu h
  obtain ⟨a,xs,rfl,hx,q⟩:=h
  cases rx
  obtain ⟨its,r,ht,hz⟩:=I.list hx
  have hlen:=r.length
  refine ⟨"list", _,slot_list_getitem.lookup,ht.isList.typeIs,?_⟩
  refine wpAny_getItem_list_slice ht.isList hs pl pu .none (by simp) ?_ (by rw [List.size_toArray]<;>omega)
  rw [iDq,<- hlen]
  refine ⟨.ref s.heap.objs.size,_,I.laid (t':=s.toks) (o:=.lst (n4q xs lo hi)) (λ b ob q=>Heap.get?_push_of_some _ q) (Nat.le_refl _) ?_,rfl,q _ (I.hok.fresh (Nat.le_refl _))⟩
  exact ⟨Nat.le_trans (fMq xs lo hi) hz,_,0,(r.drop (HT.sIx xs.length 0 lo)).take (HT.sIx xs.length xs.length hi - HT.sIx xs.length 0 lo),Heap.get?_push_size _ rfl⟩
def gMq:V->Bool
  | .non=>true
  | .bl _=>true
  | .int _=>true
  | .str _=>true
  | _=>false
def eqV:V->V->Bool
  | .non,.non=>true
  | .bl a,.bl b=>a==b
  | .bl a,.int b=>(if a then 1 else 0)==b
  | .int a,.bl b=>a==(if b then 1 else 0)
  | .int a,.int b=>a==b
  | .str a,.str b=>a==b
  | _,_=>false
theorem xCq {A:Around} {s:Shared} {y x:V} {u v:Value} (ry:RelV y u) (rx:RelV x v) (fy:gMq y=true) (fx:gMq x=true):SeqAt.EqAt A s u v (eqV y x):=by
  cases y with
  | non=>
    cases ry
    cases x with
    | non=>cases rx;exact SeqAt.EqAt.same _
    | bl b=>cases rx;exact SeqAt.EqAt.none_bool b
    | int b=>obtain ⟨t,rfl⟩:=rx;exact SeqAt.EqAt.none_int b t
    | str b=>obtain ⟨t,rfl⟩:=rx;exact SeqAt.EqAt.none_str b t
    | _=>exact absurd (show false=true from fx) Bool.false_ne_true
  | bl a=>
    cases ry
    cases x with
    | non=>cases rx;exact SeqAt.EqAt.bool_none a
    | bl b=>cases rx;exact SeqAt.EqAt.bool_bool a b
    | int b=>obtain ⟨t,rfl⟩:=rx;exact SeqAt.EqAt.bool_int a b t
    | str b=>obtain ⟨t,rfl⟩:=rx;exact SeqAt.EqAt.bool_str a b t
    | _=>exact absurd (show false=true from fx) Bool.false_ne_true
  | int a=>
    obtain ⟨t',rfl⟩:=ry
    cases x with
    | non=>cases rx;exact SeqAt.EqAt.int_none a t'
    | bl b=>cases rx;exact SeqAt.EqAt.int_bool a t' b
    | int b=>obtain ⟨t,rfl⟩:=rx;exact SeqAt.EqAt.int_int a t' b t
    | str b=>obtain ⟨t,rfl⟩:=rx;exact SeqAt.EqAt.int_str a t' b t
    | _=>exact absurd (show false=true from fx) Bool.false_ne_true
  | str a=>
    obtain ⟨t',rfl⟩:=ry
    cases x with
    | non=>cases rx;exact SeqAt.EqAt.str_none a t'
    | bl b=>cases rx;exact SeqAt.EqAt.str_bool a t' b
    | int b=>obtain ⟨t,rfl⟩:=rx;exact SeqAt.EqAt.str_int a t' b t
    | str b=>obtain ⟨t,rfl⟩:=rx;exact SeqAt.EqAt.str_str a t' b t
    | _=>exact absurd (show false=true from fx) Bool.false_ne_true
  | _=>exact absurd (show false=true from fy) Bool.false_ne_true
def eqU (x:V) (u:Value):Bool:=match u with
  | .none=>eqV .non x
  | .bool b=>eqV (.bl b) x
  | .int i _=>eqV (.int i) x
  | .str z _=>eqV (.str z) x
  | _=>false
theorem t7q {x y:V} {u:Value} (r:RelV y u) (f:gMq y=true):eqU x u=eqV y x:=by
  cases y with
  | non=>cases r;rfl
  | bl b=>cases r;rfl
  | int i=>obtain ⟨t,rfl⟩:=r;rfl
  | str z=>obtain ⟨t,rfl⟩:=r;rfl
  | _=>exact absurd (show false=true from f) Bool.false_ne_true
theorem kTq {x:V}:∀ {xs:List V} {us:List Value},Vals xs us->xs.all gMq=true->us.any (eqU x)=xs.any λ y=>eqV y x
  | _,_,.nil,_=>rfl
  | y::xs,u::us,.cons r t,f=>by
    rw [List.all_cons,Bool.and_eq_true] at f
    rw [List.any_cons,List.any_cons,t7q r f.1,kTq t f.2]
theorem iEq {A:Around} {s:Shared} {x:V} {v:Value} (rx:RelV x v) (fx:gMq x=true):∀ {xs:List V} {us:List Value},Vals xs us->xs.all gMq=true->∀ u∈us,SeqAt.EqAt A s u v (eqU x u)
  | _,_,.nil,_=>λ u hu=>by cases hu
  | y::xs,u::us,.cons r t,f=>λ u' hu=>by
    rw [List.all_cons,Bool.and_eq_true] at f
    rcases List.mem_cons.mp hu with rfl | hu
    . rw [t7q r f.1];exact xCq r rx f.1 fx
    . exact iEq rx fx t f.2 u' hu
def inV (x:V) (xs:List V):Bool:=xs.any λ y=>eqV y x
def rIn (K:PySem.W.Frag) (neg:Bool):R2:=λ x y H Q=>∃ p xs,y=.ref p/\(SqL K H p xs\/SqT K H p xs)/\gMq x=true/\xs.all gMq=true/\Q (.bl (if neg then !inV x xs else inV x xs)) H
theorem op_in_seq:OpR X (compareOp .In) (rIn X.K false):=by
  intro pins s σ H x y v u Q I rx ry h
  obtain ⟨p,xs,rfl,hq,fx,fs,q⟩:=h
  cases ry
  rcases hq with hq | hq
  . obtain ⟨its,r,pl,hz⟩:=I.list hq
    refine SeqAt.in_listAt (eqU x) pl.isList (λ w hw=>iEq rx fx r fs w (by simpa using hw)) ⟨.bl _,H,I,rfl,?_⟩
    rw [show its.toArray.any (eqU x)=its.any (eqU x) by simp,kTq r fs]
    exact q
  . obtain ⟨its,r,pl,hz⟩:=I.tuple hq
    refine SeqAt.in_tupleAt (eqU x) pl (λ w hw=>iEq rx fx r fs w (by simpa using hw)) ⟨.bl _,H,I,rfl,?_⟩
    rw [show its.toArray.any (eqU x)=its.any (eqU x) by simp,kTq r fs]
    exact q
theorem call_len_seq:CallR X (.builtin "len") (λ xs H Q=>∃ p ys,xs=[.ref p]/\(SqL X.K H p ys\/SqT X.K H p ys)/\Q (.int ys.length) H):=by
  intro pins s σ H xs us Q I r h
  obtain ⟨p,ys,rfl,hq,q⟩:=h
  obtain ⟨u,rfl,rx⟩:=o8q r
  cases rx
  have hn:=eGq
  rcases hq with hq | hq
  . obtain ⟨its,r',pl,hz⟩:=I.list hq
    have hlen:=r'.length
    exact Calls.call_len_list pl.isList (by simp only [List.size_toArray]<;>omega) ⟨.int ys.length,H,I.tok _,⟨s.toks+1,by rw [List.size_toArray,hlen]⟩,q⟩
  . obtain ⟨its,r',pl,hz⟩:=I.tuple hq
    have hlen:=r'.length
    exact len_tuple pl (by simp only [List.size_toArray]<;>omega) ⟨.int ys.length,H,I.tok _,⟨s.toks+1,by rw [List.size_toArray,hlen]⟩,q⟩
theorem k9q:CallR X (.builtin "len") (λ xs H Q=>∃ z,xs=[.str z]/\z.length<=sizeLine/\Q (.int z.length) H):=by
  intro pins s σ H xs us Q I r h
  obtain ⟨z,rfl,hz,q⟩:=h
  obtain ⟨u,rfl,t,rfl⟩:=o8q r
  have hn:=eGq
  exact len_str (by omega) ⟨.int z.length,H,I.tok _,⟨_,rfl⟩,q⟩
theorem CallR.or {f:Value} {r r':List V->Hp->VK->Prop} (h:CallR X f r) (h':CallR X f r'):CallR X f (λ xs H Q=>r xs H Q\/r' xs H Q):=by
  intro pins s σ H xs us Q I rs q
  rcases q with q | q
  . exact h pins s σ H xs us Q I rs q
  . exact h' pins s σ H xs us Q I rs q
theorem hLq:CallR X (.type "tuple") (λ xs H Q=>∃ p ys,xs=[.ref p]/\((SqL X.K H p ys/\∀ l,H l=none->Q (.ref l) (upd H l (.tup ys)))\/(SqT X.K H p ys/\Q (.ref p) H))):=by
  intro pins s σ H xs us Q I r h
  obtain ⟨p,ys,rfl,h⟩:=h
  obtain ⟨u,rfl,rx⟩:=o8q r
  cases rx
  rcases h with ⟨hq,q⟩ | ⟨hq,q⟩
  . obtain ⟨its,r',pl,hz⟩:=I.list hq
    have hlen:=r'.length
    refine call_tuple_list pl.isList (λ h' kp=>?_) (by simp only [List.size_toArray]<;>omega)
    have I1:Inv X pins σ H { s with heap:=h' }:=I.kept (t':=s.toks) kp
    have I2:Inv X pins σ (upd H h'.objs.size (.tup ys)) { s with heap:=h'.push { cls:=.type "tuple", data:=.seq its.toArray } }:=
      I1.laid (t':=s.toks) (λ b o e=>Heap.get?_push_of_some _ e) (Nat.le_refl _) (show ObjOk X.prog X.w _ _ _ (.tup ys) from ⟨hz,its,r',IsTup.new _ _⟩)
    exact ⟨.ref h'.objs.size,_,I2,rfl,q _ (I1.hok.fresh (Nat.le_refl _))⟩
  . obtain ⟨its,r',pl,hz⟩:=I.tuple hq
    exact call_tuple_same pl ⟨.ref p,H,I,rfl,q⟩
def tyV (K:PySem.W.Frag) (T:String) (x:V) (H:Hp):Prop:=match x with
  | .str _=>T = "str"
  | .int _=>T = "int"
  | .ref p=>(T = "list"/\∃ xs,SqL K H p xs)\/(T = "tuple"/\∃ o,K.lookup p=some o/\o.cls=.type "tuple"/\o.dict=none) ∨
      (T = "dict"/\((∃ kvs,H p=some (.dK kvs))\/∃ kvs,H p=some (.dT kvs)))\/(T = "set"/\∃ S n,H p=some (.set S n))
  | _=>False
theorem t6q {pins:List (Addr × Obj)} {σ:St} {H:Hp} {s:Shared} {T:String} {x:V} {v:Value} (I:Inv X pins σ H s) (r:RelV x v) (ty:tyV X.K T x H) :
    s.TypeIs v T/\∀ a,v=.ref a->∃ ob,s.heap.get? a=some ob/\ob.dict=none:=by
  cases x with
  | str z=>
    obtain ⟨t,rfl⟩:=r
    cases (show T = "str" from ty)
    exact ⟨typeIs_str s z t,λ _ e=>nomatch e⟩
  | int i=>
    obtain ⟨t,rfl⟩:=r
    cases (show T = "int" from ty)
    exact ⟨typeIs_int s i t,λ _ e=>nomatch e⟩
  | ref p=>
    cases r
    rcases ty with ⟨rfl,xs,hq⟩ | ⟨rfl,o,hk,hc,hd⟩ | ⟨rfl,hk⟩ | ⟨rfl,S,n,hk⟩
    . obtain ⟨its,_,pl,_⟩:=I.list hq
      refine ⟨pl.isList.typeIs,λ a e=>?_⟩
      cases e
      obtain ⟨o,n,e,c,hd,_⟩:=pl
      exact ⟨o,e,hd⟩
    . refine ⟨⟨o,I.kIn p o hk,hc⟩,λ a e=>?_⟩
      cases e
      exact ⟨o,I.kIn _ o hk,hd⟩
    . have z:∃ o,s.heap.get? p=some o/\o.ExactDict:=by
        rcases hk with ⟨kvs,hk⟩ | ⟨kvs,hk⟩
        . obtain ⟨_,_,_,_,o,_,_,e,ex,_⟩:=I.hok p _ hk
          exact ⟨o,e,ex⟩
        . obtain ⟨_,_,_,_,o,_,_,e,ex,_⟩:=I.hok p _ hk
          exact ⟨o,e,ex⟩
      obtain ⟨o,e,ex⟩:=z
      refine ⟨⟨o,e,ex.1⟩,λ a e2=>?_⟩
      cases e2
      exact ⟨o,e,ex.2.1⟩
    . obtain ⟨o,_,_,_,e,ex,_⟩:=I.hok p _ hk
      refine ⟨⟨o,e,ex.1⟩,λ a e2=>?_⟩
      cases e2
      exact ⟨o,e,ex.2.1⟩
  | _=>exact False.elim ty
def tBM0 (K:PySem.W.Frag) (T:String) (r:V->List V->Hp->VK->Prop) (to:TE):TE:=λ σ H Q=>to σ H λ x H1=>tyV K T x H1/\r x [] H1 Q
def tBM (K:PySem.W.Frag) (T:String) (r:V->List V->Hp->VK->Prop) (to:TE) (t:TA):TE:=λ σ H Q=>to σ H λ x H1=>tyV K T x H1/\t σ H1 λ xs H2=>r x xs H2 Q
variable {o e:Expr} {es:List Expr} {to:TE} {t:TA} {name:Str} {apos cpos:Pos} {T id:String} {r:V->List V->Hp->VK->Prop}
theorem aD0q (pa:PlainAttrs T) (slot:Slot T name id) (hty:typeOf (.builtin id)=pure (.type "method_descriptor")) (hm:MtR X id r) (ho:PE X o to)
    (hbase:attributeBase o name X.env (eval o X.env)=eval o X.env:=by rfl) (hline:(apos.endLine==cpos.line)=true:=by rfl):PE X (.Call (.Attribute o name apos) [] [] cpos) (tBM0 X.K T r to):=by
  intro pins s σ H Q I h
  refine wpAny_Call_method0_late hbase hline (thn (ho pins s σ H _ I h) λ v s1 ⟨x,H1,I1,r1,ty,q1⟩=>?_)
  obtain ⟨h1,h2⟩:=t6q I1 r1 ty
  exact ⟨T,id,pa,slot,hty,h1,h2,Calls.callWith_builtin rfl (PySem.evalArgs_none (hm pins s1 σ H1 x [] v [] Q I1 r1 .nil q1))⟩
theorem aG1q (pa:PlainAttrs T) (slot:Slot T name id) (hty:typeOf (.builtin id)=pure (.type "method_descriptor")) (hm:MtR X id r) (ho:PE X o to) (ha:PA X (e::es) t)
    (hbase:attributeBase o name X.env (eval o X.env)=eval o X.env:=by rfl)
    (hfew:((backTo cpos (starEach (e::es) X.env)).all (λ x=>!x.1)&&(backToKw cpos (keywordEach [] X.env)).all (λ x=>x.1.isSome)
     &&decide ((e::es).length+([]:List Keyword).length+(if ([]:List Keyword).isEmpty then 0 else 1) < 30))=true:=by rfl)
    (hline:(apos.endLine==cpos.line)=true:=by rfl) (hs:starEach (e::es) X.env=(false,eval e X.env)::starEach es X.env:=by rfl) (hplain:(backTo cpos (starEach es X.env)).any (·.1)=false:=by rfl) :
    PE X (.Call (.Attribute o name apos) (e::es) [] cpos) (tBM X.K T r to t):=by
  intro pins s σ H Q I h
  refine wpAny_Call_method_late hbase hfew hline rfl (thn (ho pins s σ H _ I h) λ v s1 ⟨x,H1,I1,r1,ty,q1⟩=>?_)
  obtain ⟨h1,h2⟩:=t6q I1 r1 ty
  refine ⟨T,id,pa,slot,hty,h1,h2,?_⟩
  have hA:=ha cpos pins s1 σ H1 _ I1 q1
  rw [hs] at hA ⊢
  refine Calls.callWith_builtin (by show (false||(backTo cpos (starEach es X.env)).any (·.1))=false;rw [hplain]<;>rfl) (Calls.evalArgs_plain ?_)
  exact thn hA λ us s2 ⟨vs,H2,I2,r2,q2⟩=>hm pins s2 σ H2 x vs v us Q I2 r1 r2 q2
end
def MtM (X:Cx) (id:String) (r:V->List V->Hp->VK->Prop):Prop:=
  ∀ (pins:List (Addr × Obj)) (s:Shared) (σ:St) (H:Hp) (x:V) (xs:List V) (v:Value) (us:List Value) (Q:VK),Inv X pins σ H s->RelV x v->Vals xs us->r x xs H Q →
    wpAny (model X.prog X.w) X.A (call (.builtin id) (v::us)) (EP X pins σ Q) X.xe s
theorem Vals.one:∀ {x:V} {us:List Value},Vals [x] us->∃ u,us=[u]/\RelV x u
  | _,_,.cons r .nil=>⟨_,rfl,r⟩
theorem Vals.two:∀ {x y:V} {us:List Value},Vals [x,y] us->∃ u v,us=[u,v]/\RelV x u/\RelV y v
  | _,_,_,.cons r (.cons q .nil)=>⟨_,_,rfl,r,q⟩
theorem Vals.zero:∀ {us:List Value},Vals [] us->us=[]
  | _,.nil=>rfl
theorem Vals.dropLast {xs:List V} {us:List Value} (h:Vals xs us):Vals xs.dropLast us.dropLast:=by
  induction h with
  | nil=>exact .nil
  | cons r t ih=>
    cases t with
    | nil=>exact .nil
    | cons q t'=>exact .cons r ih
theorem Vals.reverse {xs:List V} {us:List Value} (h:Vals xs us):Vals xs.reverse us.reverse:=by
  induction h with
  | nil=>exact .nil
  | cons r t ih=>rw [List.reverse_cons,List.reverse_cons];exact Vals.append ih (.cons r .nil)
theorem n2q {α:Type} (l:List α):l.eraseIdx (l.length - 1)=l.dropLast:=by
  induction l with
  | nil=>rfl
  | cons a r ih=>
    cases r with
    | nil=>rfl
    | cons b r=>
      have e:(a::b::r).length - 1=((b::r).length - 1)+1:=by
        have h1:(a::b::r).length=r.length+2:=rfl
        have h2:(b::r).length=r.length+1:=rfl
        omega
      rw [e,List.eraseIdx_cons_succ,ih]
      all_goals rfl
section
variable {X:Cx} {pins:List (Addr × Obj)} {σ:St} {H:Hp} {s:Shared} {l b:Addr} {xs ys zs:List V}
theorem Inv.lset {its its':List Value} {n:Nat} {f:Array Value->Array Value} {t':Nat} (I:Inv X pins σ H s) (hH:H l=some (.lst xs))
    (e:s.heap.get? l=some { cls:=.type "list", data:=.seq its.toArray n }) (hf:f its.toArray=its'.toArray) (hv:Vals ys its') (hz:ys.length<=sizeLine) :
    Inv X pins σ (upd H l (.lst ys)) { s with heap:=s.heap.update l (Obj.mapSeq f),toks:=t' }:=by
  have q:=PySem.IsL.update e f
  rw [hf] at q
  refine I.write (x:=l) (e:=l) (by rw [hH];exact trivial) (.inl rfl) (λ b' u hb hu=>(Heap.get?_update_other s.heap (Obj.mapSeq f) (Ne.symm hb)).trans hu) ⟨_,q⟩ ?_
  exact ⟨hz,its',_,hv,q⟩
theorem Inv.lnew {its:List Value} {t':Nat} (I:Inv X pins σ H s) (hv:Vals ys its) (hz:ys.length<=sizeLine) :
    Inv X pins σ (upd H s.heap.objs.size (.lst ys)) { s with heap:=s.heap.push { cls:=.type "list", data:=.seq its.toArray },toks:=t' }:=
  I.laid (λ _ _ q=>Heap.get?_push_of_some _ q) (Nat.le_refl _) ⟨hz,its,0,hv,Heap.get?_push_size _ rfl⟩
theorem Inv.fresh (I:Inv X pins σ H s):H s.heap.objs.size=none:=I.hok.fresh (Nat.le_refl _)
theorem Inv.lstM (I:Inv X pins σ H s) (hH:H l=some (.lst xs)):xs.length<=sizeLine/\∃ (its:List Value) (n:Nat),Vals xs its/\xs.length=its.length/\s.heap.get? l=some { cls:=.type "list", data:=.seq its.toArray n }:=by
  obtain ⟨z,its,n,r,e⟩:=I.hok l _ hH
  exact ⟨z,its,n,r,r.length,e⟩
theorem m2q {n:Nat} (h:n<=sizeLine):Builtin.List.listTooLong n=false:=by
  unfold Builtin.List.listTooLong
  exact decide_eq_false (by omega)
end
section
variable {X:Cx}
def wEq:V->List V->Hp->VK->Prop:=λ x vs H Q=>∃ l xs y,x=.ref l/\vs=[y]/\H l=some (.lst xs)/\xs.length < sizeLine/\Q .non (upd H l (.lst (xs++[y])))
theorem dPq:MtM X "list.append" wEq:=by
  intro pins s σ H x vs v us Q I rx rv h
  obtain ⟨l,xs,y,rfl,rfl,hH,hz,q⟩:=h
  cases rx
  obtain ⟨u,rfl,ru⟩:=rv.one
  obtain ⟨z,its,n,r,hl,e⟩:=I.lstM hH
  refine call_meets F.slot_list_append ⟨_,e,rfl⟩ F.entry_list_append (F.args_list_append_2 _ _) (PySem.list_append l its.toArray n u (by rw [List.size_toArray];omega)) ⟨e,?_⟩
  refine ⟨.non,_,I.lset (its':=its++[u]) hH e (by simp) (r.append (.cons ru .nil)) ?_,rfl,q⟩
  rw [List.length_append,List.length_singleton]
  omega
def wLq:V->List V->Hp->VK->Prop:=λ x vs H Q=>∃ l b xs zs,x=.ref l/\vs=[.ref b]/\H l=some (.lst xs)/\H b=some (.lst zs)/\xs.length+zs.length<=sizeLine/\Q .non (upd H l (.lst (xs++zs)))
theorem nUq:MtM X "list.extend" wLq:=by
  intro pins s σ H x vs v us Q I rx rv h
  obtain ⟨l,b,xs,zs,rfl,rfl,hH,hB,hz,q⟩:=h
  cases rx
  obtain ⟨u,rfl,ru⟩:=rv.one
  cases ru
  obtain ⟨z,its,n,r,hl,e⟩:=I.lstM hH
  obtain ⟨z2,its2,n2,r2,hl2,e2⟩:=I.lstM hB
  have hsz:its.toArray.size+its2.toArray.size<=sizeLine:=by rw [List.size_toArray,List.size_toArray];omega
  have hlong:¬ (!its.toArray.isEmpty&&Builtin.List.listTooLong (its.toArray.size+its2.toArray.size))=true:=by
    rw [m2q hsz,Bool.and_false]
    exact Bool.false_ne_true
  refine call_meets F.slot_list_extend ⟨_,e,rfl⟩ F.entry_list_extend (F.args_list_extend_2 _ _)
    (AutoSeq1.list_extend_list_list_0 l its.toArray n b its2.toArray n2 hlong (by rw [List.size_toArray];omega) (by omega)) ⟨e,e2,?_⟩
  refine ⟨.non,_,I.lset (its':=its++its2) hH e (by simp) (r.append r2) ?_,rfl,q⟩
  rw [List.length_append]
  omega
def rPop:V->List V->Hp->VK->Prop:=λ x vs H Q=>∃ l xs y,x=.ref l/\vs=[]/\H l=some (.lst xs)/\xs[xs.length - 1]?=some y/\Q y (upd H l (.lst xs.dropLast))
theorem aA0q:MtM X "list.pop" rPop:=by
  intro pins s σ H x vs v us Q I rx rv h
  obtain ⟨l,xs,y,rfl,rfl,hH,hy,q⟩:=h
  cases rx
  have hus:=rv.zero
  subst hus
  obtain ⟨z,its,n,r,hl,e⟩:=I.lstM hH
  obtain ⟨u,hu,ru⟩:=r.get hy
  have hy':its.toArray[its.toArray.size - 1]?=some u:=by
    show its.toArray[its.length - 1]?=some u
    rw [<- Array.getElem?_toList,<- hl]
    exact hu
  refine call_meets F.slot_list_pop ⟨_,e,rfl⟩ F.entry_list_pop (F.args_list_pop_1 _) (MeetsSeq.list_pop_last l its.toArray n u hy' (by rw [List.size_toArray];omega)) ⟨e,?_⟩
  refine ⟨y,_,I.lset (its':=its.dropLast) hH e ?_ r.dropLast ?_,ru,q⟩
  . show its.toArray.eraseIdxIfInBounds (its.toArray.size - 1)=its.dropLast.toArray
    rw [List.size_toArray,List.eraseIdxIfInBounds_toArray,n2q]
  . rw [List.length_dropLast]
    omega
def rCat:R2:=λ x y H Q=>∃ l b xs zs,x=.ref l/\y=.ref b/\H l=some (.lst xs)/\H b=some (.lst zs)/\xs.length+zs.length<=sizeLine/\∀ p,H p=none->Q (.ref p) (upd H p (.lst (xs++zs)))
theorem zRq:OpR X (binaryOp .Add) rCat:=by
  intro pins s σ H x y v u Q I rx ry h
  obtain ⟨l,b,xs,zs,rfl,rfl,hH,hB,hz,q⟩:=h
  cases rx
  cases ry
  obtain ⟨z,its,n,r,hl,e⟩:=I.lstM hH
  obtain ⟨z2,its2,n2,r2,hl2,e2⟩:=I.lstM hB
  refine PySem.P.add_list e e2 ?_ (by rw [List.size_toArray,List.size_toArray];omega)
  have ea:its.toArray++its2.toArray=(its++its2).toArray:=by simp
  rw [ea]
  exact ⟨.ref _,_,I.lnew (t':=s.toks) (r.append r2) (by rw [List.length_append];omega),rfl,q _ I.fresh⟩
end
section
variable {prog:Program} {w:World} {A:Around} {E:Value->Shared->Prop} {s:Shared}
end
section
variable {X:Cx}
end
end L2
namespace Att
open PySem PySem.W PySem.Calls PyProof.Rows
theorem g6q {P:Params} {h:Heap}:∀ (ns:List Int) (vs:List Value),WellAll P h vs (ns.map WData.int)->IntsAre vs ns:=by
  intro ns
  induction ns with
  | nil=>
    intro vs w
    rw [List.map_nil] at w
    cases w
    exact .nil
  | cons n ns ih=>
    intro vs w
    rw [List.map_cons] at w
    cases w with
    | cons a b=>
      cases a
      exact .cons _ _ (ih _ b)
theorem p1q {l:OpenLaw} {n:Nat} (hn:l.most=some n) {P:Params} {h:Heap} {args:List WData} {vals:List Value}
    (hpre:l.row.toRowW.claim.pre args=true) (hwl:WellAll P h vals args) :
    ∃ a vs ns,vals=[Value.ref a]/\args=[WData.list (ns.map WData.int)]/\h.get? a=some { cls:=.type "list", data:=.seq vs.toArray }/\IntsAre vs ns/\ns.length<=n:=by
  have hsh:WShape.hasAll [] args [.list .int]=true:=(pre_splitW hpre).1
  have hc:l.pre.holds [] { args:=args }=true:=(pre_splitW hpre).2
  obtain ⟨d,r,rfl,h1,h2⟩:=hasAllW_cons hsh
  obtain rfl:=hasAllW_nil h2
  obtain ⟨xs,rfl,h3⟩:=hasW_list h1
  obtain ⟨ns,rfl⟩:=items_int h3
  have hlen:ns.length<=n:=by
    unfold OpenLaw.pre at hc
    have h4:(WTm.not (.lt (.lit (.int (n:Int))) (.len (.arg 0)))).holds [] { args:=[.list (ns.map .int)] }=true:=by
      have h4:=(holds_andW hc).1
      rw [hn] at h4
      exact h4
    have h5:=condW_of h4 (w_not (w_lt w_lit (w_len_list (w_arg rfl))))
    rw [List.length_map] at h5
    refine Nat.le_of_not_lt λ q=>?_
    have q':(n:Int) < ((ns.length:Nat):Int):=by omega
    first
      | (rw [decide_eq_true q'] at h5;exact absurd h5 (by decide))
      | (simp at h5;omega)
  cases hwl with
  | cons w1 w2=>
    cases w2
    cases w1 with
    | list ho hall=>exact ⟨_,_,ns,rfl,rfl,ho,g6q ns _ hall,hlen⟩
theorem nNq (l:OpenLaw) (args:List WData):l.row.toRowW.claim.post args (.bool true) args=true:=
  postW_of (r:=l.row.toRowW) (X:=(true==true))
    (show WShape.has [] (.bool true) .bool=true by first | rfl | decide | simp [WShape.has,WShape.arms,WShape.armsAll])
    (show (WTm.eq .res (.lit (.bool true))).value [] { args:=args,res:=some (.bool true),after:=args }=some (.bool (true==true)) from w_eq_bool (w_res rfl) w_lit) rfl
theorem attach_call {l:OpenLaw} {n:Nat} {q:Program} {loose:List Str} {XP:(Str->Option Value)->Heap->Prop} {YP:World->Heap->Prop} {d:DefRec}
    (hn:l.most=some n) (hdf:d.params.defaults=[])
    (call:∀ (w:World) (s₀ s₁:Shared) (mg mb:Str->Option Value) (fa:Addr) (o:Obj) (pm cd doc:Value) (a:Addr) (vs:List Value) (ns:List Int),
      Ground q loose [] XP w s₀ mg mb s₁.heap->YP w s₁.heap →
      s₁.heap.get? fa=some o->o.data=.func (docDef d.name d.params d.body d.scope pm cd doc)->s₁.heap.CodeRec cd d.name->mg d.name=some (.ref fa) →
      s₁.heap.get? a=some { cls:=.type "list", data:=.seq vs.toArray }->IntsAre vs ns->ns.length<=n->s₁.gens=#[] →
      codeAny (model l.prog w) callerA (.call (.ref fa) ⟨[.ref a],[]⟩) (λ r s'=>r=.ok (.ret (.bool true))/\OldK s₁.heap s'.heap/\s'.os=s₁.os/\AllBare s'.gens) s₁) :
    WalkO q loose XP YP l.row.toRowW d [] (λ f vs=>PySem.call f vs):=by
  intro w s₀ s₁ mg mb G Y fa o pm cd doc dV kV ho hd hcd hD hmg hg args vals as hpre hlay hrd hwl hlo
  obtain rfl:dV=.none:=Dflts.none hD hdf
  obtain rfl:kV=.none:=Dflts.noKw hD
  obtain ⟨a,vs,ns,rfl,rfl,hobj,hints,hlen⟩:=p1q hn hpre hwl
  refine enter_call (codeAny_mono (call w s₀ s₁ mg mb fa o pm cd doc a vs ns G Y ho (fd_plain hd) hcd hmg hobj hints hlen hg) λ r s' hq=>?_)
  obtain ⟨rfl,h2,h3,h4⟩:=hq
  exact ⟨.inl ⟨.bool true,.bool true,[],rfl,λ _=>rfl,.bool true,nNq l _,λ _=>⟨List.Pairwise.nil,λ _ hm=>(nomatch hm)⟩⟩,h2,h3,h4⟩
section
variable {prog:Program} {w:World} {A:Around} {E:Value->Shared->Prop} {s:Shared} {K:Frag}
end
end Att
namespace L2
open PySem PySem.Spec PyProof.Rows
theorem eXq:∀ {vs:List Value} {ns:List Int},IntsAre vs ns->Vals (ns.map V.int) vs
  | _,_,.nil=>.nil
  | _,_,.cons n t h=>.cons ⟨t,rfl⟩ (eXq h)
def bLq (s:Stmt):Arguments:=match s with
  | .FunctionDef _ a _ _ _ _ _ _ _ _=>a
  | _=>{ posonlyargs:=[],args:=[],vararg:=none,kwonlyargs:=[],kw_defaults:=[],kwarg:=none,defaults:=[] }
def b5q (s:Stmt):List Stmt:=match s with
  | .FunctionDef _ _ b _ _ _ _ _ _ _=>b
  | _=>[]
def a6q (s:Stmt):Scope:=match s with
  | .FunctionDef _ _ _ _ _ _ sc _ _ _=>sc
  | _=>{ kind:=.function,names:=[],isGenerator:=false,isCoroutine:=false }
abbrev CX0:CXT:=λ _ _ _ _ _ _=>False
abbrev E0:XK:=λ _ _ _=>False
theorem xUq {X:Cx}:n6q CX0 X E0:=λ _ _ _ _ _ _ _ h=>h.elim
structure Fun (K:PySem.W.Frag) (x qual:Str) (st:Stmt) (f:Addr) (fd:FuncData):Prop where
  ex:∃ (oc:Value) (od:Option Addr) (kV doc pm:Value) (an:Option Addr) (cdv ct:Value) (osl:Array (Option Value)),
    fd=PySem.W.fnOf x qual (bLq st) (b5q st) (a6q st) .none kV doc pm an cdv ct/\K.lookup f=some ⟨oc,od,.func fd,osl⟩/\PySem.W.codeIn K cdv qual=true
  kp:PySem.W.keepIn K (.ref f)=true
section
variable {P:Program} {w:World} {K:PySem.W.Frag} {mg:Str->Option Value} {base:Heap}
theorem Fun.ok {x qual:Str} {st:Stmt} {f:Addr} {fd:FuncData} {N ps:List Str} {k:Nat} {sp:Sp} (F:Fun K x qual st f fd) (S:FnScope N ps (a6q st)) (len:∀ vs H Q E,sp vs H Q E->vs.length=ps.length)
    (hbody:∀ (cdv:Value) (A:Around) (outer:List Env) (s:Shared) (H:Hp) (vs:List V) (Q:VK) (E:XK),Room k (A.deeper (envOfC qual (a6q st) s.heap.objs.size f cdv))->sp vs H Q E →
      ∃ t,PSs (rKq CX0 P w K mg base N qual (a6q st) f cdv A outer s H E).nox (b5q st) t/\t { nx:=λ _ H'=>Q .non H',rt:=Q } (dLq N vs) H):FnOk P w K mg base CX0 (k+1) f fd ps sp:=by
  obtain ⟨oc,od,kV,doc,pm,an,cdv,ct,osl,rfl,lk,hcd⟩:=F.ex
  refine yTq lk hcd S len λ A outer s H vs Q E hr hsp=>?_
  obtain ⟨t,h,q⟩:=hbody cdv A outer s H vs Q E hr hsp
  exact ⟨t,h.nox,q⟩
theorem Fun.binds {x qual:Str} {st:Stmt} {f:Addr} {fd:FuncData} {ps:List Str} (F:Fun K x qual st f fd)
    (h:∀ (kV doc pm:Value) (an:Option Addr) (cdv ct:Value) (us:List Value),us.length=ps.length->bindArgs (PySem.W.fnOf x qual (bLq st) (b5q st) (a6q st) .none kV doc pm an cdv ct) ⟨us,[]⟩=pure (ps.zip us)):Binds K fd ps []:=by
  obtain ⟨oc,od,kV,doc,pm,an,cdv,ct,osl,rfl,lk,hcd⟩:=F.ex
  exact .all (h kV doc pm an cdv ct)
theorem xHq {x qual:Str} {st:Stmt} {f:Addr} {oc:Value} {od an:Option Addr} {osl:Array (Option Value)} {kV doc pm cdv ct:Value} (l:K.lookup f=some ⟨oc,od,.func (PySem.W.fnOf x qual (bLq st) (b5q st) (a6q st) .none kV doc pm an cdv ct),osl⟩)
 (c:PySem.W.codeIn K cdv qual=true) (k:PySem.W.keepIn K (.ref f)=true):Fun K x qual st f (PySem.W.fnOf x qual (bLq st) (b5q st) (a6q st) .none kV doc pm an cdv ct):=⟨⟨oc,od,kV,doc,pm,an,cdv,ct,osl,rfl,l,c⟩,k⟩
end
section
variable {X:Cx}
end
def Same (H H':Hp):Prop:=∀ b o,H b=some o->H' b=some o
theorem Same.refl (H:Hp):Same H H:=λ _ _ h=>h
def bXq (cells:List (Str × Addr)):List (Str × NameKind)->List (Str × Addr)->List (Str × Addr)
  | [],acc=>acc
  | (n,k)::r,acc=>bXq cells r (if k=.free then (n,(cells.lookup n).getD 0)::acc else acc)
theorem h7q {α β:Type} {f:α->β->Sem (ForInStep β)} (g:β->α->β):∀ (l:List α) (c:β),(∀ x∈l,∀ c,f x c=pure (.yield (g c x)))->forIn l c f=pure (l.foldl g c)
  | [],_,_=>rfl
  | x::l,c,h=>by
    rw [List.forIn_cons,h x List.mem_cons_self,pure_bind]
    exact h7q g l _ λ y hy=>h y (List.mem_cons_of_mem _ hy)
theorem h4q (cells:List (Str × Addr)):∀ (names:List (Str × NameKind)) (acc:List (Str × Addr)),
    names.foldl (λ c y=>if y.2=.free then (y.1,(cells.lookup y.1).getD 0)::c else c) acc=bXq cells names acc
  | [],_=>rfl
  | (n,k)::r,acc=>by
    rw [List.foldl_cons,bXq]
    exact h4q cells r _
theorem l4q {scope:Scope} {env:Env} (h:∀ y∈scope.names,y.2=.free->∃ c,env.cells.lookup y.1=some c):closureFor scope env=pure (bXq env.cells scope.names []):=by
  rw [<- h4q]
  simp only [closureFor]
  rw [h7q (λ c y=>if y.2=.free then (y.1,(env.cells.lookup y.1).getD 0)::c else c) scope.names [] λ x hx c=>?_]
  . rfl
  . obtain ⟨n,k⟩:=x
    by_cases hk:k=.free
    . subst hk
      obtain ⟨a,e⟩:=h _ hx rfl
      have e':env.cells.lookup n=some a:=e
      simp [cellOf,e']
    . have hb:(k==NameKind.free)=false:=by simpa using hk
      simp [hb,hk]
theorem m6q {cells:List (Str × Addr)}:∀ (names:List (Str × NameKind)) (acc:List (Str × Addr)),(∀ y∈names,y.2=.free->∃ c,cells.lookup y.1=some c)->(∀ x c,acc.lookup x=some c->cells.lookup x=some c) →
    ∀ x c,(bXq cells names acc).lookup x=some c->cells.lookup x=some c
  | [],_,_,ha=>ha
  | (n,k)::r,acc,h,ha=>by
    rw [bXq]
    refine m6q r _ (λ y hy=>h y (List.mem_cons_of_mem _ hy)) λ x c e=>?_
    by_cases hk:k=.free
    . rw [if_pos hk] at e
      obtain ⟨a,ea⟩:=h (n,k) List.mem_cons_self hk
      have ea':cells.lookup n=some a:=ea
      rw [List.lookup_cons] at e
      cases hx:x==n with
      | true=>
        rw [hx] at e
        have e2:some ((cells.lookup n).getD 0)=some c:=e
        rw [ea'] at e2
        have e3:a=c:=Option.some.inj e2
        rw [eq_of_beq hx,ea',e3]
      | false=>
        rw [hx] at e
        exact ha x c e
    . rw [if_neg hk] at e
      exact ha x c e
theorem jVq {cells:List (Str × Addr)} {x:Str}:∀ (names:List (Str × NameKind)) (acc:List (Str × Addr)),(acc.lookup x).isSome=true->((bXq cells names acc).lookup x).isSome=true
  | [],_,h=>h
  | (n,k)::r,acc,h=>by
    rw [bXq]
    refine jVq r _ ?_
    by_cases hk:k=.free
    . rw [if_pos hk,List.lookup_cons]
      cases hx:x==n with
      | true=>rfl
      | false=>exact h
    . rw [if_neg hk];exact h
theorem g8q {cells:List (Str × Addr)} {x:Str}:∀ (names:List (Str × NameKind)) (acc:List (Str × Addr)),(x,NameKind.free)∈names->((bXq cells names acc).lookup x).isSome=true
  | [],_,h=>nomatch h
  | (n,k)::r,acc,h=>by
    rw [bXq]
    rcases List.mem_cons.mp h with e | h
    . cases e
      refine jVq r _ ?_
      rw [if_pos rfl,List.lookup_cons,beq_self_eq_true];rfl
    . exact g8q r _ h
theorem gVq {g:Str->NameKind->NameKind} {x:Str}:∀ names:List (Str × NameKind),(names.map λ y=>(y.1,g y.1 y.2)).lookup x=(names.lookup x).map (g x)
  | []=>rfl
  | (n,k)::r=>by
    rw [List.map_cons,List.lookup_cons,List.lookup_cons]
    cases hx:x==n with
    | true=>
      have e:=eq_of_beq hx
      subst e;rfl
    | false=>exact gVq r
theorem hQq (scope:Scope) (env:Env):(relabel scope env).names=scope.names.map λ y=>(y.1,if (y.2==.free&&env.scope.kind==.function&&env.kindOf y.1==some .cell)=true then NameKind.cell else y.2):=by
  unfold relabel
  refine List.map_congr_left λ y _=>?_
  obtain ⟨n,k⟩:=y
  show (if (k==.free&&env.scope.kind==.function&&env.kindOf n==some .cell)=true then (n,NameKind.cell) else (n,k))=_
  split<;>simp_all
theorem eDq (scope:Scope) (env:Env) (x:Str):(relabel scope env).names.lookup x=(scope.names.lookup x).map λ k=>if (k==.free&&env.scope.kind==.function&&env.kindOf x==some .cell)=true then NameKind.cell else k:=by
  rw [hQq]
  exact gVq (g:=λ n k=>if (k==.free&&env.scope.kind==.function&&env.kindOf n==some .cell)=true then NameKind.cell else k) scope.names
def aOq (X:Cx) (scope:Scope) (N':List Str) (C:Addr) (ex:List Addr) (s:Shared) (H:Hp):Cx:=
  { X with N:=N',s₀:=s,H₀:=H,env:=compEnvC scope (bXq X.env.cells scope.names []) C X.env,outer:=X.stack,stack:=X.stack,ex:=ex,fn:=λ _=>false,pn:=[],xe:=λ _ _=>False }
def cZq (nt:Nat) (cap:List Nat) (σ:St):St:=List.replicate nt none++cap.map λ i=>(σ[i]?).join
structure CompOk (X:Cx) (scope:Scope) (N':List Str) (nt:Nat) (cap:List Nat):Prop where
  kind:scope.kind=.function
  nocell:∀ y∈scope.names,y.2≠.cell
  locs:∀ y∈scope.names,y.2=.local->scope.names.lookup y.1=some .local
  frees:∀ y∈scope.names,y.2=.free->X.env.scope.names.lookup y.1=some .cell\/X.env.scope.names.lookup y.1=some .free
  len:N'.length=nt+cap.length
  caps:∀ (j i:Nat) (x:Str),cap[j]?=some i->N'[nt+j]?=some x->X.N[i]?=some x/\scope.names.lookup x=some .free
section
variable {X:Cx} {scope:Scope} {N':List Str} {nt:Nat} {cap:List Nat} {pins:List (Addr × Obj)} {σ:St} {H:Hp} {s:Shared}
theorem CompOk.has (c:CompOk X scope N' nt cap) (ok:X.Ok):∀ y∈scope.names,y.2=.free->∃ a,X.env.cells.lookup y.1=some a:=λ y hy hk=>ok.has y.1 (c.frees y hy hk)
theorem CompOk.cells (c:CompOk X scope N' nt cap) (ok:X.Ok) {x:Str} {a:Addr} (e:(bXq X.env.cells scope.names []).lookup x=some a):X.env.cells.lookup x=some a:=
  m6q scope.names [] (c.has ok) (λ _ _ z=>by simp at z) x a e
theorem CompOk.free_of (c:CompOk X scope N' nt cap) {x:Str} (h:(relabel scope X.env).names.lookup x=some .cell\/(relabel scope X.env).names.lookup x=some .free):(x,NameKind.free)∈scope.names:=by
  rw [eDq] at h
  cases q:scope.names.lookup x with
  | none=>rw [q] at h;simp at h
  | some k=>
    have hm:=PySem.mem_of_lookup q
    have nc:k≠.cell:=c.nocell _ hm
    rw [q] at h
    by_cases hk:k=.free
    . subst hk;exact hm
    . have hb:(k==NameKind.free)=false:=by simpa using hk
      simp only [Option.map_some,hb,Bool.false_and,Bool.false_eq_true,if_false,Option.some.injEq] at h
      rcases h with h | h
      . exact absurd h nc
      . exact absurd h hk
theorem Inv.comp (I:Inv X pins σ H s) (c:CompOk X scope N' nt cap) {fp:List Addr} (hf:∀ b∈fp,iHq X pins H b) (hfs:∀ b∈fp,b < s.heap.objs.size) {h':Heap} {m:Str->Option Value} {t':Nat}
    (hk:∀ b o,s.heap.get? b=some o->h'.get? b=some o) (hn:h'.Ns s.heap.objs.size m) :
    Inv (aOq X scope N' s.heap.objs.size fp s H) [] (cZq nt cap σ) H { s with heap:=h',toks:=t' }:=by
  have cl:=λ{x:Str} {a:Addr} (e:(bXq X.env.cells scope.names []).lookup x=some a)=>c.cells I.ok e
  have cellLt:∀ x a,X.env.cells.lookup x=some a->a < s.heap.objs.size:=λ x a e=>by
    obtain ⟨v,q⟩:=I.cell x a e
    exact q.lt
  refine ⟨⟨I.ok.mod,c.kind,I.ok.glob,I.ok.blt,Nat.le_refl _,λ x y a e1 e2=>I.ok.inj x y a (cl e1) (cl e2),λ x hx=>?_,λ x a hx=>absurd hx Bool.false_ne_true,I.ok.hd,I.ok.frames,.inl rfl,λ b hb=>⟨?_,λ x a e=>?_⟩,
      λ b o e=>I.bs b o e,Nat.le_trans I.ok.bsz I.sz,λ b o e hb=>?_,λ b hb hbf=>?_,I.stack,λ b hb=>I.stkFree b hb⟩,
    rfl,I.bare,Un.kept hk,⟨m,hn,λ i x v e1 e2 e3=>?_⟩,λ x a e=>?_,I.hok.fresh (Nat.le_refl _),λ x a e=>I.freeC x a (cl e),λ p hp=>absurd (show p∈([]:List (Addr × Obj)) from hp) (by simp),I.hok.kept hk,?_⟩
  . exact Option.isSome_iff_exists.mp (g8q scope.names [] (c.free_of hx))
  . exact Nat.ne_of_lt (hfs b hb)
  . exact (hf b hb).2.2.2.2.1 x a (cl e)
  . obtain ⟨f0,f1,f2,f3,_⟩:=hf b hb
    rcases f3 with z | z
    . exact I.ok.noex b o e z
    . exact absurd (Nat.lt_of_lt_of_le (Heap.lt_size e) (Nat.le_trans I.ok.bsz z)) (Nat.lt_irrefl _)
  . obtain ⟨f0,f1,f2,_⟩:=hf b hb
    rcases List.mem_cons.mp (I.stkSub b hbf) with z | z
    . exact f1 z
    . exact f2 z
  .
    have e1':N'[i]?=some x:=e1
    have hi:nt<=i:=by
      refine Nat.le_of_not_lt λ q=>?_
      unfold cZq at e2
      rw [List.getElem?_append_left (by simpa using q),List.getElem?_replicate,if_pos q] at e2
      cases e2
    obtain ⟨j,rfl⟩:=Nat.exists_eq_add_of_le hi
    unfold cZq at e2
    rw [List.getElem?_append_right (by simp),List.length_replicate,Nat.add_sub_cancel_left,List.getElem?_map] at e2
    cases q:cap[j]? with
    | none=>rw [q] at e2;cases e2
    | some k=>
      rw [q] at e2
      have e2':(σ[k]?).join=some v:=Option.some.inj e2
      have e4:σ[k]?=some (some v):=by
        cases z:σ[k]? with
        | none=>rw [z] at e2';cases e2'
        | some w'=>rw [z] at e2';exact congrArg some e2'
      obtain ⟨n1,n2⟩:=c.caps j k x q e1'
      have hmem:=PySem.mem_of_lookup n2
      have hkind:=c.frees _ hmem rfl
      obtain ⟨m0,_,hl⟩:=I.loc
      obtain ⟨u,r,lk⟩:=hl k x v n1 e4 (.inr hkind)
      refine ⟨u,r,.inr ⟨?_,?_⟩⟩
      . show (relabel scope X.env).names.lookup x=some .cell\/(relabel scope X.env).names.lookup x=some .free
        rw [eDq,n2]
        by_cases z:((NameKind.free==.free&&X.env.scope.kind==.function&&X.env.kindOf x==some .cell)=true)
        . exact .inl (by rw [Option.map_some,if_pos z])
        . exact .inr (by rw [Option.map_some,if_neg z])
      . rcases lk with ⟨k1,_⟩ | ⟨_,a,e,z⟩
        . have k1':X.env.scope.names.lookup x=some .local:=k1
          rcases hkind with y | y<;>(rw [k1'] at y;cases y)
        . obtain ⟨a',ea⟩:=Option.isSome_iff_exists.mp (g8q (cells:=X.env.cells) scope.names [] hmem)
          have e':=cl ea
          rw [e] at e';cases e'
          obtain ⟨o,ho,hd⟩:=z
          exact ⟨a,ea,o,hk _ _ ho,hd⟩
  . obtain ⟨v,o,ho,hd⟩:=I.cell x a (cl e)
    exact ⟨v,o,hk _ _ ho,hd⟩
  . show (cZq nt cap σ).length=N'.length
    unfold cZq
    rw [List.length_append,List.length_replicate,List.length_map,c.len]
theorem Inv.uncomp {C:Addr} {fp:List Addr} {σ':St} {H':Hp} {s':Shared} (I:Inv X pins σ H s) (hC:C=s.heap.objs.size) (hf:∀ b∈fp,iHq X pins H b) {N':List Str} (J:Inv (aOq X scope N' C fp s H) [] σ' H' s') :
    ∃ m,s'.heap.Ns C m/\∀ h',Heap.SameBut C s'.heap h'->Inv X pins σ H' { s' with heap:=h' }:=by
  subst hC
  obtain ⟨m,hn,_⟩:=J.loc
  refine ⟨m,hn,λ h' hs=>?_⟩
  have ne:∀ b o,s.heap.get? b=some o->b≠s.heap.objs.size:=λ b o e=>Nat.ne_of_lt (Heap.lt_size e)
  have B:=J.base
  refine I.call' (ch:=fp) J.os ⟨λ b o e n hb hx=>?_,λ b o e n hb hx=>?_,B.free,λ b o e hx=>?_,B.tups,B.frzs,B.tbls⟩ (λ b u e=>?_) J.bare λ b hb=>?_
  . exact (hs.2 b (ne b o e)).trans (B.keep b o e n hb hx)
  . obtain ⟨sl,q⟩:=B.slot b o e n hb hx
    exact ⟨sl,(hs.2 b (ne b o e)).trans q⟩
  . obtain ⟨o',q⟩:=B.there b o e hx
    exact ⟨o',(hs.2 b (ne b o e)).trans q⟩
  . have hCn:H' s.heap.objs.size=none:=J.free
    refine (J.hok b u e).stay (λ d w' hd q=>(hs.2 d ?_).trans q) (λ _ q=>q) λ _ _ q=>q
    intro z
    subst z
    rcases hd with z | z
    . rw [<- z,hCn] at e;cases e
    . rw [hCn] at z;cases z
  . obtain ⟨f0,f1,f2,f3,f4,f5⟩:=hf b hb
    exact ⟨f3,f1,f4,f5⟩
end
def pDq (wi:TI) (g:TG) (te:TE) (nt:Nat) (cap:List Nat):TE:=λ σ H Q=>wi σ H λ J H1=>∀ acc,H1 acc=none →
  ∃ W:Nat->Nat->List V->St->Hp->Prop,(∃ m,W 0 m [] (cZq nt cap σ) (upd H1 acc (.lst [])))/\∀ i m ys σ' H',W i m ys σ' H' →
    (J.stop i H'/\Q (.ref acc) H')\/(J.go i H'/\∀ x H2,J.yld i H' x H2->g x σ' H2 λ σ3 H3=>te σ3 H3 λ y H4=>
      H4 acc=some (.lst ys)/\ys.length < sizeLine/\∃ m',m' < m/\W (i+1) m' (ys++[y]) σ3 (upd H4 acc (.lst (ys++[y]))))
def kZq (wi:TI) (g:TG) (tc:TT) (te:TE) (nt:Nat) (cap:List Nat):TE:=λ σ H Q=>wi σ H λ J H1=>∀ acc,H1 acc=none →
  ∃ W:Nat->Nat->List V->St->Hp->Prop,(∃ m,W 0 m [] (cZq nt cap σ) (upd H1 acc (.lst [])))/\∀ i m ys σ' H',W i m ys σ' H' →
    (J.stop i H'/\Q (.ref acc) H')\/(J.go i H'/\∀ x H2,J.yld i H' x H2->g x σ' H2 λ σ3 H3=>tc σ3 H3 λ b H5=>if b=true then te σ3 H5 λ y H4=>
      H4 acc=some (.lst ys)/\ys.length < sizeLine/\∃ m',m' < m/\W (i+1) m' (ys++[y]) σ3 (upd H4 acc (.lst (ys++[y])))
      else ∃ m',m' < m/\W (i+1) m' ys σ3 H5)
theorem j7q (elt target iter c:Expr) (scope:Scope) (pos:Pos) (it acc:Value) (env:Env) :
    compTurn (.ListComp elt [⟨target,iter,[c],0⟩] scope pos) 0 it acc env=(standAt iter.pos >>= λ _=>pyNext it >>= λ r=>match r with
      | none=>pure (.done .next)
      | some v=>letOwnedTupleGo target it v >>= λ _=>assign target env v >>= λ _=>(forIn [c] true λ c r=>if r=true then do let ok ← isTrue c env (eval c env);pure (ForInStep.yield ok) else pure (ForInStep.yield r)) >>= λ ok=>
        if ok=true then (eval elt env >>= λ x=>call (.builtin "list.append") [acc,x] >>= λ _=>pure ()) >>= λ _=>again (.compLoop (.ListComp elt [⟨target,iter,[c],0⟩] scope pos) 0 it acc env)
        else again (.compLoop (.ListComp elt [⟨target,iter,[c],0⟩] scope pos) 0 it acc env)):=by
  rfl
theorem nFq (c:Expr) (env:Env):(forIn [c] true λ c r=>if r=true then do let ok ← isTrue c env (eval c env);pure (ForInStep.yield ok) else pure (ForInStep.yield r))=isTrue c env (eval c env):=by
  rw [List.forIn_cons,if_pos rfl]
  simp only [bind_assoc,pure_bind,List.forIn_nil,bind_pure]
theorem jAq (elt target iter c:Expr) (scope:Scope) (pos:Pos) (it acc:Value) (env:Env) :
    compTurn (.ListComp elt [⟨target,iter,[c],0⟩] scope pos) 0 it acc env=(standAt iter.pos >>= λ _=>pyNext it >>= λ r=>match r with
      | none=>pure (.done .next)
      | some v=>letOwnedTupleGo target it v >>= λ _=>assign target env v >>= λ _=>isTrue c env (eval c env) >>= λ ok=>
        if ok=true then (eval elt env >>= λ x=>call (.builtin "list.append") [acc,x] >>= λ _=>pure ()) >>= λ _=>again (.compLoop (.ListComp elt [⟨target,iter,[c],0⟩] scope pos) 0 it acc env)
        else again (.compLoop (.ListComp elt [⟨target,iter,[c],0⟩] scope pos) 0 it acc env)):=by
  rw [j7q,nFq]
section
variable {X:Cx} {scope:Scope} {N':List Str} {nt:Nat} {cap:List Nat} {elt iter tg:Expr} {pos:Pos} {wi:TI} {g:TG} {te:TE}
theorem vVq (hc:X.calm=true) (c:CompOk X scope N' nt cap) (hi:PI X tg iter wi) (hg:∀ C ex s H,PG (aOq X scope N' C ex s H) tg g) (he:∀ C ex s H,PE (aOq X scope N' C ex s H) elt te)
    (hs:∀ x,foldedSetIterable iter X.env x=pure x:=by intro _;rfl):PE X (.ListComp elt [⟨tg,iter,[],0⟩] scope pos) (pDq wi g te nt cap):=by
  intro pins s σ H Q I h
  rw [eval_ListComp]
  refine wpAny_comprehension_free (use:=none) rfl hs (l4q (c.has I.ok)) c.kind c.locs (thn (hi pins s σ H _ I h) λ v s1 h1=>thn h1 λ itv s2 h2=>?_)
  obtain ⟨it,fp,tn,J,H2,rfl,I2,T,st2,f2,R⟩:=h2
  have hD:H2 s2.heap.objs.size=none:=I2.hok.fresh (Nat.le_refl _)
  obtain ⟨W,⟨m0,w0⟩,turn⟩:=R _ hD
  have I3:Inv X pins σ (upd H2 s2.heap.objs.size (.lst [])) { s2 with heap:=s2.heap.push { cls:=.type "list", dict:=none,data:=.seq ([]:List Value).toArray } }:=
    I2.laid (t':=s2.toks) (λ b u e=>Heap.get?_push_of_some _ e) (Nat.le_refl _) ⟨Nat.zero_le _,[],0,.nil,Heap.get?_push_size _ rfl⟩
  have fpLt:∀ b∈fp,b < s2.heap.objs.size:=λ b hb=>by
    obtain ⟨o,e,_⟩:=T.obj _ _ st2 b hb
    exact Heap.lt_size e
  have f3:∀ b∈fp,iHq X pins (upd H2 s2.heap.objs.size (.lst [])) b:=λ b hb=>⟨by rw [aFq (Nat.ne_of_lt (fpLt b hb))];exact (f2 b hb).1,(f2 b hb).2⟩
  have st3:tn 0 (s2.heap.push { cls:=.type "list", dict:=none,data:=.seq ([]:List Value).toArray }):=T.keep _ _ _ st2 λ b _ o e=>Heap.get?_push_of_some _ e
  generalize hh3:s2.heap.push { cls:=.type "list", dict:=none,data:=.seq ([]:List Value).toArray }=h3 at I3 st3
  have sz3:s2.heap.objs.size < h3.objs.size:=by rw [<- hh3,Heap.size_push];exact Nat.lt_succ_self _
  generalize hDD:s2.heap.objs.size=D at I3 f3 hD w0 turn sz3 fpLt
  refine wpAny_newObj_type ?_
  rw [hDD,hh3]
  refine wpAny_newFunctionEnv c.nocell (by intro y hy;simp at hy) (λ h4 hns4 hsb4=>?_) c.kind
  dsimp only at hns4 hsb4 ⊢
  have keep4:∀ b o,h3.get? b=some o->h4.get? b=some o:=λ b o e=>(hsb4.2 b (Nat.ne_of_lt (Heap.lt_size e))).trans (Heap.get?_push_of_some _ e)
  have I4:=I3.comp (t':=s2.toks+([]:List (Str × Value)).length) c f3 (λ b hb=>Nat.lt_trans (fpLt b hb) sz3) keep4 hns4
  have st4:tn 0 h4:=T.keep _ _ _ st3 λ b _ o e=>keep4 b o e
  dsimp only at I4
  have fin:∀ {σ':St} {H':Hp} {s':Shared},Inv (aOq X scope N' h3.objs.size fp { s2 with heap:=h3 } (upd H2 D (.lst []))) [] σ' H' s'->Q (.ref D) H' →
      compPost (model X.prog X.w) X.A X.xe none (EP X pins σ Q) (.ref D) h3.objs.size (.ok .next) s':=λ{σ' H' s'} J' q=>by
    obtain ⟨m,hn,hh⟩:=I3.uncomp rfl f3 J'
    exact ⟨m,hn,λ h' hs'=>⟨.ref D,H',hh h' hs',rfl,q⟩⟩
  have stat:∀ {H':Hp},(∀ b∈fp,H' b=none)->∀ b∈fp,iHq (aOq X scope N' h3.objs.size fp { s2 with heap:=h3 } (upd H2 D (.lst []))) [] H' b:=λ{H'} hn b hb=>by
    refine ⟨hn b hb,Nat.ne_of_lt (Nat.lt_trans (fpLt b hb) sz3),λ z=>?_,.inl hb,λ x a e=>(f3 b hb).2.2.2.2.1 x a (c.cells I.ok e),λ p hp=>absurd (show p∈([]:List (Addr × Obj)) from hp) (by simp)⟩
    rcases List.mem_cons.mp (I.stkSub b z) with y | y
    . exact (f3 b hb).2.1 y
    . exact (f3 b hb).2.2.1 y
  have loop:codeAny (model X.prog X.w) X.A (.compLoop (.ListComp elt [⟨tg,iter,[],0⟩] scope pos) 0 (.ref it) (.ref D) (compEnvC scope (bXq X.env.cells scope.names []) h3.objs.size X.env))
      (compPost (model X.prog X.w) X.A X.xe none (EP X pins σ Q) (.ref D) h3.objs.size) { s2 with heap:=h4,toks:=s2.toks+([]:List (Str × Value)).length }:=by
    refine codeAny_loop rfl (λ n s'=>∃ i ys σ' H',Inv (aOq X scope N' h3.objs.size fp { s2 with heap:=h3 } (upd H2 D (.lst []))) [] σ' H' s'/\tn i s'.heap/\(∀ b∈fp,H' b=none)/\W i n ys σ' H') (λ n s5 hI=>?_) m0 ⟨0,[],_,_,I4,st4,λ b hb=>(f3 b hb).1,w0⟩
    obtain ⟨i,ys,σ5,H5,I5,st5,fr5,w5⟩:=hI
    show wpAny _ X.A ((compTurn (.ListComp elt [⟨tg,iter,[],0⟩] scope pos) 0 (.ref it) (.ref D) (compEnvC scope (bXq X.env.cells scope.names []) h3.objs.size X.env)).onRaise (λ x=>do noteFrame x (compEnvC scope (bXq X.env.cells scope.names []) h3.objs.size X.env);theTreesLotGoes x)) _ _ s5
    refine wpAny_noted ?_
    rw [compTurn_list1]
    rcases turn i n ys σ5 H5 w5 with ⟨stop,qn⟩ | ⟨go,step⟩
    . refine wpAny_bind (wpAny_standAt (wpAny_bind (wpAny_mono (T.done (aOq X scope N' h3.objs.size fp { s2 with heap:=h3 } (upd H2 D (.lst []))) rfl rfl rfl hc i [] s5 σ5 H5 (λ _ _=>False) I5 (stat fr5) st5 stop) (λ r s6 ⟨hr,I6⟩=>?_) λ _ _ z=>z.elim)))
      subst hr
      exact wpAny_pure (fin I6 qn)
    . refine wpAny_bind (wpAny_standAt (wpAny_bind (wpAny_mono (T.item (aOq X scope N' h3.objs.size fp { s2 with heap:=h3 } (upd H2 D (.lst []))) rfl rfl rfl hc i [] s5 σ5 H5 (λ _ _=>False) I5 (stat fr5) st5 go) (λ r s6 ⟨u,hr,h6⟩=>?_) λ _ _ z=>z.elim)))
      subst hr
      refine wpAny_bind (wpAny_mono h6 (λ _ s7 ⟨x,H7,I7,r7,y7,st7,fr7⟩=>?_) λ _ _ z=>z.elim)
      have I7':=I7.pinned (stat fr7) (T.obj _ _ st7)
      refine wpAny_bind (wpAny_mono (hg _ _ _ _ _ s7 σ5 H7 x u _ I7' r7 (step x H7 y7)) (λ _ s8 ⟨σ8,H8,I8,q8⟩=>?_) λ _ _ z=>z.elim)
      refine wpAny_bind (wpAny_bind (wpAny_mono (he _ _ _ _ _ s8 σ8 H8 _ I8 q8) (λ yv s9 ⟨y,H9,I9,r9,e9,z9,m',hm',w9⟩=>?_) λ _ _ z=>z.elim))
      refine wpAny_bind (wpAny_mono (dPq (X:=aOq X scope N' h3.objs.size fp { s2 with heap:=h3 } (upd H2 D (.lst []))) _ s9 σ8 H9 (.ref D) [y] (.ref D) [yv] (λ v H10=>v=.non/\H10=upd H9 D (.lst (ys++[y]))) I9 rfl (.cons r9 .nil) ⟨D,ys,y,rfl,rfl,e9,z9,rfl,rfl⟩)
        (λ _ s10 ⟨v10,H10,I10,_,_,e10⟩=>?_) λ _ _ z=>z.elim)
      subst e10
      refine wpAny_pure (wpAny_pure ⟨rfl,m',hm',i+1,ys++[y],σ8,_,I10.unpinned,?_,λ b hb=>?_,w9⟩)
      . exact T.keep _ _ _ st7 λ b hb o e=>(I10.pin (b,o) (List.mem_append_right _ (List.mem_append_right _ (b9q hb e)))).1
      . obtain ⟨o,e,d⟩:=T.obj _ _ st7 b hb
        exact (I10.pin (b,o) (List.mem_append_right _ (List.mem_append_right _ (b9q hb e)))).2.1
  exact codeAny_compStart_list loop (T.self _ 0 _ _ _ st4 loop)
end
structure Got (P:Program) (w:World) (K:PySem.W.Frag) (mg:Str->Option Value) (base:Heap) (k:Nat) (x:Str) (ps:List Str) (sp:Sp):Prop where
  ex:∃ (f:Addr) (fd:FuncData),FnOk P w K mg base CX0 k f fd ps sp/\mg x=some (.ref f)/\PySem.W.keepIn K (.ref f)=true/\Binds K fd ps []
section
variable {X:Cx} {k j:Nat} {x:Str} {ps:List Str} {sp:Sp} {p pos:Pos} {e:Expr} {es:List Expr} {t:TA}
theorem aL9q (G:Got X.prog X.w X.K X.mg X.base k x ps sp) (hr:Room j X.A) (hk:k<=j) (hg:Gl X x) (ha:PA X (e::es) t) (hdb:(x==("__debug__" : Str))=false:=by decide)
    (he:starEach (e::es) X.env=(false,eval e X.env)::starEach es X.env:=by rfl) (hpl:(backTo pos (starEach es X.env)).any (·.1)=false:=by rfl) :
    PE X (.Call (.Name x p) (e::es) [] pos) (sOq sp [] E0 t):=by
  obtain ⟨f,fd,F,hm,kp,b⟩:=G.ex
  exact v5q F (hr.mono hk) hg hm kp b .nil xUq ha hdb he hpl
end
section
variable {X:Cx}
theorem sAq:OpR X (binaryOp .FloorDiv) (rI (λ _ j=>0 < j/\j < 2 ^ 64) λ i j=>.int (i / j)):=opI λ i j t u s E Q hc q=>by
  have h0:j≠0:=by omega
  have h1:j.natAbs.log2 < 9000:=by
    have e1:j.natAbs < 2 ^ 64:=by omega
    exact Nat.lt_trans ((Nat.log2_lt (by omega)).mpr e1) (by decide)
  have e:i.fdiv j=i / j:=Int.fdiv_eq_ediv_of_nonneg i (by omega)
  exact floordiv_int h0 (by rw [e];exact q) (.inl (PyProof.noPylong_of_log2 h1))
theorem vXq (l b:Addr) (items items2:Array Value) (n n2:Nat) (dd2:Option Addr) (sl2:Array (Option Value)) (h0:¬(!items.isEmpty&&Builtin.List.listTooLong (items.size+items2.size))=true) (h1:items.size<=sizeLine) (h2:items.size+items2.size<=sizeLine+1) :
    Meets (Builtin.«list.extend» ⟨[.ref l,.ref b],[]⟩) (λ _ R s=>s.heap.get? l=some { cls:=.type "list", dict:=none,data:=.seq items n,slots:=#[] } ∧
      s.heap.get? b=some { cls:=.type "tuple", dict:=dd2,data:=.seq items2 n2,slots:=sl2 }/\R (.ok (.ret Value.none)) { s with heap:=s.heap.update l (Obj.mapSeq λ x=>x++items2),toks:=s.toks }):=
  .of_wp λ prog w A R s h=>by
    obtain ⟨hp,g,d,tk,os⟩:=s
    obtain ⟨hl,hb,h⟩:=h
    have f1:=AutoSeq1.idx_int
    have f2:=AutoSeq1.sub_tuple_tuple
    have f3:=AutoSeq1.sub_list_list
    have f4:=AutoSeq1.sub_tuple_list
    have f5:=AutoSeq1.sub_list_tuple
    have hz':(items++items2).size<=sizeLine+1:=by rw [Array.size_append];exact h2
    wp_walk using (wpAny_updateSeq hl rfl (hz:=h1) (_hz':=hz')),wpAny_loadPart' hl,wpAny_loadPart' hb
    exact ⟨_,rfl,h⟩
def aN9q (K:PySem.W.Frag):V->List V->Hp->VK->Prop:=λ x vs H Q=>∃ l b xs zs,x=.ref l/\vs=[.ref b]/\H l=some (.lst xs)/\SqT K H b zs/\xs.length+zs.length<=sizeLine/\Q .non (upd H l (.lst (xs++zs)))
theorem uCq:MtM X "list.extend" (aN9q X.K):=by
  intro pins s σ H x vs v us Q I rx rv h
  obtain ⟨l,b,xs,zs,rfl,rfl,hH,hB,hz,q⟩:=h
  cases rx
  obtain ⟨u,rfl,ru⟩:=rv.one
  cases ru
  obtain ⟨z,its,n,r,hl,e⟩:=I.lstM hH
  obtain ⟨its2,r2,⟨⟨c2,dd2,da2,sl2⟩,e2,hc2,n2,hd2⟩,hz2⟩:=I.tuple hB
  simp only at hc2 hd2
  subst hc2 hd2
  have hl2:=r2.length
  have hsz:its.toArray.size+its2.toArray.size<=sizeLine:=by rw [List.size_toArray,List.size_toArray];omega
  have hlong:¬ (!its.toArray.isEmpty&&Builtin.List.listTooLong (its.toArray.size+its2.toArray.size))=true:=by
    rw [m2q hsz,Bool.and_false]
    exact Bool.false_ne_true
  refine call_meets F.slot_list_extend ⟨_,e,rfl⟩ F.entry_list_extend (F.args_list_extend_2 _ _) (vXq l b its.toArray its2.toArray n n2 dd2 sl2 hlong (by rw [List.size_toArray];omega) (by omega)) ⟨e,e2,?_⟩
  refine ⟨.non,_,I.lset (its':=its++its2) hH e (by simp) (r.append r2) ?_,rfl,q⟩
  rw [List.length_append]
  omega
end
section
variable {X:Cx} {scope:Scope} {N':List Str} {nt:Nat} {cap:List Nat} {elt iter tg:Expr} {pos:Pos} {wi:TI} {g:TG} {te:TE}
theorem q3q {ct:Expr} {tc:TT} (hc:X.calm=true) (c:CompOk X scope N' nt cap) (hi:PI X tg iter wi) (hg:∀ C ex s H,PG (aOq X scope N' C ex s H) tg g) (ht:∀ C ex s H,PT (aOq X scope N' C ex s H) ct tc) (he:∀ C ex s H,PE (aOq X scope N' C ex s H) elt te)
    (hs:∀ x,foldedSetIterable iter X.env x=pure x:=by intro _;rfl):PE X (.ListComp elt [⟨tg,iter,[ct],0⟩] scope pos) (kZq wi g tc te nt cap):=by
  intro pins s σ H Q I h
  rw [eval_ListComp]
  refine wpAny_comprehension_free (use:=none) rfl hs (l4q (c.has I.ok)) c.kind c.locs (thn (hi pins s σ H _ I h) λ v s1 h1=>thn h1 λ itv s2 h2=>?_)
  obtain ⟨it,fp,tn,J,H2,rfl,I2,T,st2,f2,R⟩:=h2
  have hD:H2 s2.heap.objs.size=none:=I2.hok.fresh (Nat.le_refl _)
  obtain ⟨W,⟨m0,w0⟩,turn⟩:=R _ hD
  have I3:Inv X pins σ (upd H2 s2.heap.objs.size (.lst [])) { s2 with heap:=s2.heap.push { cls:=.type "list", dict:=none,data:=.seq ([]:List Value).toArray } }:=
    I2.laid (t':=s2.toks) (λ b u e=>Heap.get?_push_of_some _ e) (Nat.le_refl _) ⟨Nat.zero_le _,[],0,.nil,Heap.get?_push_size _ rfl⟩
  have fpLt:∀ b∈fp,b < s2.heap.objs.size:=λ b hb=>by
    obtain ⟨o,e,_⟩:=T.obj _ _ st2 b hb
    exact Heap.lt_size e
  have f3:∀ b∈fp,iHq X pins (upd H2 s2.heap.objs.size (.lst [])) b:=λ b hb=>⟨by rw [aFq (Nat.ne_of_lt (fpLt b hb))];exact (f2 b hb).1,(f2 b hb).2⟩
  have st3:tn 0 (s2.heap.push { cls:=.type "list", dict:=none,data:=.seq ([]:List Value).toArray }):=T.keep _ _ _ st2 λ b _ o e=>Heap.get?_push_of_some _ e
  generalize hh3:s2.heap.push { cls:=.type "list", dict:=none,data:=.seq ([]:List Value).toArray }=h3 at I3 st3
  have sz3:s2.heap.objs.size < h3.objs.size:=by rw [<- hh3,Heap.size_push];exact Nat.lt_succ_self _
  generalize hDD:s2.heap.objs.size=D at I3 f3 hD w0 turn sz3 fpLt
  refine wpAny_newObj_type ?_
  rw [hDD,hh3]
  refine wpAny_newFunctionEnv c.nocell (by intro y hy;simp at hy) (λ h4 hns4 hsb4=>?_) c.kind
  dsimp only at hns4 hsb4 ⊢
  have keep4:∀ b o,h3.get? b=some o->h4.get? b=some o:=λ b o e=>(hsb4.2 b (Nat.ne_of_lt (Heap.lt_size e))).trans (Heap.get?_push_of_some _ e)
  have I4:=I3.comp (t':=s2.toks+([]:List (Str × Value)).length) c f3 (λ b hb=>Nat.lt_trans (fpLt b hb) sz3) keep4 hns4
  have st4:tn 0 h4:=T.keep _ _ _ st3 λ b _ o e=>keep4 b o e
  dsimp only at I4
  have fin:∀ {σ':St} {H':Hp} {s':Shared},Inv (aOq X scope N' h3.objs.size fp { s2 with heap:=h3 } (upd H2 D (.lst []))) [] σ' H' s'->Q (.ref D) H' →
      compPost (model X.prog X.w) X.A X.xe none (EP X pins σ Q) (.ref D) h3.objs.size (.ok .next) s':=λ{σ' H' s'} J' q=>by
    obtain ⟨m,hn,hh⟩:=I3.uncomp rfl f3 J'
    exact ⟨m,hn,λ h' hs'=>⟨.ref D,H',hh h' hs',rfl,q⟩⟩
  have stat:∀ {H':Hp},(∀ b∈fp,H' b=none)->∀ b∈fp,iHq (aOq X scope N' h3.objs.size fp { s2 with heap:=h3 } (upd H2 D (.lst []))) [] H' b:=λ{H'} hn b hb=>by
    refine ⟨hn b hb,Nat.ne_of_lt (Nat.lt_trans (fpLt b hb) sz3),λ z=>?_,.inl hb,λ x a e=>(f3 b hb).2.2.2.2.1 x a (c.cells I.ok e),λ p hp=>absurd (show p∈([]:List (Addr × Obj)) from hp) (by simp)⟩
    rcases List.mem_cons.mp (I.stkSub b z) with y | y
    . exact (f3 b hb).2.1 y
    . exact (f3 b hb).2.2.1 y
  have loop:codeAny (model X.prog X.w) X.A (.compLoop (.ListComp elt [⟨tg,iter,[ct],0⟩] scope pos) 0 (.ref it) (.ref D) (compEnvC scope (bXq X.env.cells scope.names []) h3.objs.size X.env))
      (compPost (model X.prog X.w) X.A X.xe none (EP X pins σ Q) (.ref D) h3.objs.size) { s2 with heap:=h4,toks:=s2.toks+([]:List (Str × Value)).length }:=by
    refine codeAny_loop rfl (λ n s'=>∃ i ys σ' H',Inv (aOq X scope N' h3.objs.size fp { s2 with heap:=h3 } (upd H2 D (.lst []))) [] σ' H' s'/\tn i s'.heap/\(∀ b∈fp,H' b=none)/\W i n ys σ' H') (λ n s5 hI=>?_) m0 ⟨0,[],_,_,I4,st4,λ b hb=>(f3 b hb).1,w0⟩
    obtain ⟨i,ys,σ5,H5,I5,st5,fr5,w5⟩:=hI
    show wpAny _ X.A ((compTurn (.ListComp elt [⟨tg,iter,[ct],0⟩] scope pos) 0 (.ref it) (.ref D) (compEnvC scope (bXq X.env.cells scope.names []) h3.objs.size X.env)).onRaise (λ x=>do noteFrame x (compEnvC scope (bXq X.env.cells scope.names []) h3.objs.size X.env);theTreesLotGoes x)) _ _ s5
    refine wpAny_noted ?_
    rw [jAq]
    rcases turn i n ys σ5 H5 w5 with ⟨stop,qn⟩ | ⟨go,step⟩
    . refine wpAny_bind (wpAny_standAt (wpAny_bind (wpAny_mono (T.done (aOq X scope N' h3.objs.size fp { s2 with heap:=h3 } (upd H2 D (.lst []))) rfl rfl rfl hc i [] s5 σ5 H5 (λ _ _=>False) I5 (stat fr5) st5 stop) (λ r s6 ⟨hr,I6⟩=>?_) λ _ _ z=>z.elim)))
      subst hr
      exact wpAny_pure (fin I6 qn)
    . refine wpAny_bind (wpAny_standAt (wpAny_bind (wpAny_mono (T.item (aOq X scope N' h3.objs.size fp { s2 with heap:=h3 } (upd H2 D (.lst []))) rfl rfl rfl hc i [] s5 σ5 H5 (λ _ _=>False) I5 (stat fr5) st5 go) (λ r s6 ⟨u,hr,h6⟩=>?_) λ _ _ z=>z.elim)))
      subst hr
      refine wpAny_bind (wpAny_mono h6 (λ _ s7 ⟨x,H7,I7,r7,y7,st7,fr7⟩=>?_) λ _ _ z=>z.elim)
      have I7':=I7.pinned (stat fr7) (T.obj _ _ st7)
      refine wpAny_bind (wpAny_mono (hg _ _ _ _ _ s7 σ5 H7 x u _ I7' r7 (step x H7 y7)) (λ _ s8 ⟨σ8,H8,I8,q8⟩=>?_) λ _ _ z=>z.elim)
      refine wpAny_bind (wpAny_mono (ht _ _ _ _ _ s8 σ8 H8 _ I8 q8) (λ bb s9 ⟨H9,I9,q9⟩=>?_) λ _ _ z=>z.elim)
      cases bb with
      | true=>
        rw [if_pos rfl]
        rw [if_pos rfl] at q9
        refine wpAny_bind (wpAny_bind (wpAny_mono (he _ _ _ _ _ s9 σ8 H9 _ I9 q9) (λ yv sA ⟨y,HA,IA,rA,eA,zA,m',hm',wA⟩=>?_) λ _ _ z=>z.elim))
        refine wpAny_bind (wpAny_mono (dPq (X:=aOq X scope N' h3.objs.size fp { s2 with heap:=h3 } (upd H2 D (.lst []))) _ sA σ8 HA (.ref D) [y] (.ref D) [yv] (λ v H10=>v=.non/\H10=upd HA D (.lst (ys++[y]))) IA rfl (.cons rA .nil) ⟨D,ys,y,rfl,rfl,eA,zA,rfl,rfl⟩)
          (λ _ s10 ⟨v10,H10,I10,_,_,e10⟩=>?_) λ _ _ z=>z.elim)
        subst e10
        refine wpAny_pure (wpAny_pure ⟨rfl,m',hm',i+1,ys++[y],σ8,_,I10.unpinned,?_,λ b hb=>?_,wA⟩)
        . exact T.keep _ _ _ st7 λ b hb o e=>(I10.pin (b,o) (List.mem_append_right _ (List.mem_append_right _ (b9q hb e)))).1
        . obtain ⟨o,e,d⟩:=T.obj _ _ st7 b hb
          exact (I10.pin (b,o) (List.mem_append_right _ (List.mem_append_right _ (b9q hb e)))).2.1
      | false=>
        rw [if_neg Bool.false_ne_true]
        rw [if_neg Bool.false_ne_true] at q9
        obtain ⟨m',hm',w9⟩:=q9
        refine wpAny_pure ⟨rfl,m',hm',i+1,ys,σ8,_,I9.unpinned,?_,λ b hb=>?_,w9⟩
        . exact T.keep _ _ _ st7 λ b hb o e=>(I9.pin (b,o) (List.mem_append_right _ (List.mem_append_right _ (b9q hb e)))).1
        . obtain ⟨o,e,d⟩:=T.obj _ _ st7 b hb
          exact (I9.pin (b,o) (List.mem_append_right _ (List.mem_append_right _ (b9q hb e)))).2.1
  exact codeAny_compStart_list loop (T.self _ 0 _ _ _ st4 loop)
end
def aLq:Expr->Bool
  | .Starred ..=>false
  | _=>true
theorem a9q {e:Expr} {es:List Expr} {env:Env} (h:aLq e=true):starEach (e::es) env=(false,eval e env)::starEach es env:=by
  cases e<;>first | rfl | cases h
section
variable {κ:Type} [DecidableEq κ]
def kEq (kvs:List (κ × V)) (k:κ):Option V:=(kvs.find? λ kv=>decide (kv.1=k)).map (·.2)
def k7q (kvs:List (κ × V)) (k:κ) (v:V):List (κ × V):=
  if (kvs.any λ kv=>decide (kv.1=k))=true then kvs.map (λ kv=>if kv.1=k then (kv.1,v) else kv) else kvs++[(k,v)]
theorem eWq {p:κ × V} {r:List (κ × V)} {k:κ} (e:p.1=k):kEq (p::r) k=some p.2:=by simp [kEq,List.find?_cons,e]
theorem eSq {p:κ × V} {r:List (κ × V)} {k:κ} (e:¬ p.1=k):kEq (p::r) k=kEq r k:=by simp [kEq,List.find?_cons,e]
theorem lUq (k:κ):∀ kvs:List (κ × V),(kvs.any λ kv=>decide (kv.1=k))=(kEq kvs k).isSome
  | []=>rfl
  | p::r=>by
    rw [List.any_cons]
    by_cases e:p.1=k
    . simp only [eWq e,decide_eq_true e,Bool.true_or,Option.isSome_some]
    . rw [eSq e,decide_eq_false e,Bool.false_or];exact lUq k r
theorem dBq (kvs:List (κ × V)) (k:κ) (v:V):(k7q kvs k v).length<=kvs.length+1:=by
  unfold k7q
  split
  . rw [List.length_map];omega
  . rw [List.length_append,List.length_cons,List.length_nil];omega
theorem RelO.isSome_eq {o:Option V} {u:Option Value} (r:RelO o u):o.isSome=u.isSome:=by
  cases o with
  | none=>cases u with
    | none=>rfl
    | some _=>exact (show False from r).elim
  | some _=>cases u with
    | none=>exact (show False from r).elim
    | some _=>rfl
theorem KV.val {kvs:List (κ × V)} {vs:List (κ × Value)} (r:KV kvs vs) (k:κ):RelO (kEq kvs k) (valueAt vs k):=by
  unfold KV at r
  induction r with
  | nil=>exact True.intro
  | @cons p q ps qs h t ih=>
    obtain ⟨h1,h2⟩:=h
    by_cases e:p.1=k
    . have e':q.1=k:=h1.symm.trans e
      have b:valueAt (q::qs) k=some q.2:=by simp [valueAt,List.find?_cons,e']
      rw [eWq e,b];exact h2
    . have e':¬ q.1=k:=λ z=>e (h1.trans z)
      have b:valueAt (q::qs) k=valueAt qs k:=by simp [valueAt,List.find?_cons,e']
      rw [eSq e,b];exact ih
theorem KV.any {kvs:List (κ × V)} {vs:List (κ × Value)} (r:KV kvs vs) (k:κ):(kvs.any λ kv=>decide (kv.1=k))=vs.any λ kv=>decide (kv.1=k):=by
  unfold KV at r
  induction r with
  | nil=>rfl
  | cons h t ih=>rw [List.any_cons,List.any_cons,ih,h.1]
theorem KV.repl {kvs:List (κ × V)} {vs:List (κ × Value)} (r:KV kvs vs) (k:κ) {y:V} {u:Value} (ry:RelV y u) :
    KV (kvs.map λ kv=>if kv.1=k then (kv.1,y) else kv) (vs.map λ kv=>if kv.1=k then (kv.1,u) else kv):=by
  unfold KV at r ⊢
  induction r with
  | nil=>exact .nil
  | @cons p q ps qs h t ih=>
    rw [List.map_cons,List.map_cons]
    refine .cons ?_ ih
    obtain ⟨h1,h2⟩:=h
    by_cases e:p.1=k
    . rw [if_pos e,if_pos (h1.symm.trans e)];exact ⟨h1,ry⟩
    . rw [if_neg e,if_neg (λ z=>e (h1.trans z))];exact ⟨h1,h2⟩
theorem KV.put {kvs:List (κ × V)} {vs:List (κ × Value)} (r:KV kvs vs) (k:κ) {y:V} {u:Value} (ry:RelV y u):KV (k7q kvs k y) (stored vs k u):=by
  unfold k7q stored
  rw [r.any k]
  by_cases e:(vs.any λ kv=>decide (kv.1=k))=true
  . rw [if_pos e,if_pos e];exact r.repl k ry
  . rw [if_neg e,if_neg e];exact Paired.snoc r ⟨rfl,ry⟩
theorem KV.length {kvs:List (κ × V)} {vs:List (κ × Value)} (r:KV kvs vs):kvs.length=vs.length:=Paired.length r
end
theorem r3q {P:Program} {w:World} {k:Key} {u:Value} (r:RelV (kV k) u):(bEq P w).is k u=true:=by
  cases k with
  | inl i=>obtain ⟨t,e⟩:=(show ∃ t,u=Value.int i t from r);subst e;exact kOq P w i t
  | inr x=>obtain ⟨t,e⟩:=(show ∃ t,u=Value.str x t from r);subst e;exact kVq P w x t
theorem jHq {P:Program} {w:World}:∀ {ks:List Key} {us:List Value},Vals (ks.map kV) us->ItemsAre (bEq P w) ks us
  | [],_,r=>by rw [List.map_nil] at r;cases r;exact .nil
  | k::ks,_,r=>by
    rw [List.map_cons] at r
    cases r with
    | cons h t=>exact .cons (r3q h) (jHq t)
abbrev KT (H:Hp):List (List Key × V)->List (List Key × Addr × Value)->Prop:=Paired λ p q=>p.1=q.1/\H q.2.1=some (.tup (p.1.map kV))/\RelV p.2 q.2.2
theorem KT.val {H:Hp} {kvs:List (List Key × V)} {xs:List (List Key × Addr × Value)} (r:KT H kvs xs) (k:List Key):RelO (kEq kvs k) ((atKey xs k).map (·.2)):=by
  induction r with
  | nil=>exact True.intro
  | @cons p q ps qs h t ih=>
    obtain ⟨h1,_,h2⟩:=h
    by_cases e:p.1=k
    . have e':q.1=k:=h1.symm.trans e
      have b:atKey (q::qs) k=some q.2:=by simp [atKey,List.find?_cons,e']
      rw [eWq e,b];exact h2
    . have e':¬ q.1=k:=λ z=>e (h1.trans z)
      have b:atKey (q::qs) k=atKey qs k:=by simp [atKey,List.find?_cons,e']
      rw [eSq e,b];exact ih
theorem KT.repl {H:Hp} {kvs:List (List Key × V)} {xs:List (List Key × Addr × Value)} (r:KT H kvs xs) (k:List Key) {y:V} {u:Value} (ry:RelV y u) :
    KT H (kvs.map λ kv=>if kv.1=k then (kv.1,y) else kv) (xs.map (putAt k u)):=by
  induction r with
  | nil=>exact .nil
  | @cons p q ps qs h t ih=>
    rw [List.map_cons,List.map_cons]
    refine .cons ?_ ih
    obtain ⟨h1,h2,h3⟩:=h
    unfold putAt
    by_cases e:p.1=k
    . rw [if_pos e,if_pos (h1.symm.trans e)];exact ⟨h1,h2,ry⟩
    . rw [if_neg e,if_neg (λ z=>e (h1.trans z))];exact ⟨h1,h2,h3⟩
theorem KT.put {H:Hp} {kvs:List (List Key × V)} {xs:List (List Key × Addr × Value)} (r:KT H kvs xs) (k:List Key) {b:Addr} {y:V} {u:Value} (hb:H b=some (.tup (k.map kV))) (ry:RelV y u) :
    KT H (k7q kvs k y) (storedH xs k b u):=by
  have e:(kvs.any λ kv=>decide (kv.1=k))=(atKey xs k).isSome:=by
    rw [lUq,(r.val k).isSome_eq,Option.isSome_map]
  unfold k7q storedH
  rw [e]
  by_cases q:(atKey xs k).isSome=true
  . rw [if_pos q,if_pos q];exact r.repl k ry
  . rw [if_neg q,if_neg q];exact Paired.snoc r ⟨rfl,hb,ry⟩
theorem KT.keeps {H H':Hp} {kvs:List (List Key × V)} {xs:List (List Key × Addr × Value)} (r:KT H kvs xs) (ht:∀ b ys,H b=some (.tup ys)->H' b=some (.tup ys)):KT H' kvs xs:=
  Paired.mapP r λ _ _ z=>⟨z.1,ht _ _ z.2.1,z.2.2⟩
section
variable {P:Program} {w:World} {H:Hp} {h:Heap} {a:Addr}
theorem x5q {u:HO} (ok:HOk P w H h) (e:Rd H a u):ObjOk P w H h a u:=e.ok ok
theorem wBq {kvs:List (Key × V)} (ok:HOk P w H h) (e:Rd H a (.dK kvs)):kvs.length<=sizeLine/\(a==sysModules)=false/\∃ vs,KV kvs vs/\h.DictOf (bEq P w) a vs:=
  show ObjOk P w H h a (.dK kvs) from x5q ok e
theorem xJq {kvs:List (Key × V)} (ok:HOk P w H h) (e:H a=some (.dK kvs)):kvs.length<=sizeLine/\(a==sysModules)=false/\∃ vs,KV kvs vs/\h.DictOf (bEq P w) a vs:=wBq ok (.inl e)
theorem nCq {ks:List Key} (ok:HOk P w H h) (e:H a=some (.tup (ks.map kV))):(tupleKind (bEq P w)).is h ks a:=by
  obtain ⟨_,its,r,o,h1,h2,n,h3⟩:=(show ObjOk P w H h a (.tup (ks.map kV)) from ok a _ e)
  exact ⟨o,its.toArray,n,h1,h2,h3,by simpa using jHq r⟩
theorem wDq {kvs:List (List Key × V)} (ok:HOk P w H h) (e:Rd H a (.dT kvs)):kvs.length<=sizeLine/\(a==sysModules)=false ∧
    ∃ xs,KT H kvs xs/\h.DictOfH (tupleKind (bEq P w)) a xs:=by
  obtain ⟨z,y,xs,r,o,es,ep,h1,h2,h3,h4,h5⟩:=(show ObjOk P w H h a (.dT kvs) from x5q ok e)
  refine ⟨z,y,xs,r,o,es,ep,h1,h2,h3,h4,λ x hx=>?_,h5⟩
  have all:∀ {l:List (List Key × V)} {m:List (List Key × Addr × Value)},KT H l m->∀ x∈m,(tupleKind (bEq P w)).is h x.1 x.2.1:=by
    intro l m q
    induction q with
    | nil=>intro x hx;exact nomatch hx
    | @cons p q ps qs hq t ih=>
      intro x hx
      rcases List.mem_cons.mp hx with e | hx
      . subst e
        exact nCq ok (by rw [<- hq.1];exact hq.2.1)
      . exact ih x hx
  exact all r x hx
theorem aG6q {kvs:List (List Key × V)} (ok:HOk P w H h) (e:H a=some (.dT kvs)):kvs.length<=sizeLine/\(a==sysModules)=false ∧
    ∃ xs,KT H kvs xs/\h.DictOfH (tupleKind (bEq P w)) a xs:=wDq ok (.inl e)
end
def DGet (H:Hp) (a:Addr) (y:V) (r:Option V):Prop:=
  (∃ kvs k,Rd H a (.dK kvs)/\y=kV k/\r=kEq kvs k)\/∃ kvs k b,Rd H a (.dT kvs)/\y=.ref b/\H b=some (.tup (k.map kV))/\r=kEq kvs k
def DPut (H:Hp) (a:Addr) (y v:V) (H':Hp):Prop:=
  (∃ kvs k,H a=some (.dK kvs)/\y=kV k/\kvs.length < sizeLine/\H'=upd H a (.dK (k7q kvs k v))) ∨
  ∃ kvs k b,H a=some (.dT kvs)/\y=.ref b/\H b=some (.tup (k.map kV))/\kvs.length < sizeLine/\H'=upd H a (.dT (k7q kvs k v))
theorem DGet.k {H:Hp} {a:Addr} {kvs:List (Key × V)} {k:Key} (e:H a=some (.dK kvs)):DGet H a (kV k) (kEq kvs k):=.inl ⟨kvs,k,.inl e,rfl,rfl⟩
theorem DPut.k {H:Hp} {a:Addr} {kvs:List (Key × V)} {k:Key} {v:V} (e:H a=some (.dK kvs)) (hl:kvs.length < sizeLine):DPut H a (kV k) v (upd H a (.dK (k7q kvs k v))):=.inl ⟨kvs,k,e,rfl,hl,rfl⟩
section
variable {X:Cx} {pins:List (Addr × Obj)} {σ:St} {H:Hp} {s:Shared} {a:Addr} {y v:V} {u r:Value} {o:Option V} {A:Around} {E:Value->Shared->Prop}
theorem Inv.big (I:Inv X pins σ H s):sysModules < s.heap.objs.size:=by
  have h:mainGlobals < s.heap.objs.size:=(I.mod.glob.keeps I.bk).lt
  exact Nat.lt_trans (by decide) h
theorem qCq {Q:Value->Shared->Prop} (hu:A.units+1 < cLine) (I:Inv X pins σ H s) (g:DGet H a y (some v)) (ry:RelV y u) (h:∀ w' s',Inv X pins σ H s'->RelV v w'->Q w' s') :
    wpAny (model X.prog X.w) A (getItem (.ref a) u) Q E s:=by
  rcases g with ⟨kvs,k,e,ey,l⟩ | ⟨kvs,k,b,e,ey,eb,l⟩
  . subst ey
    obtain ⟨z,hd,vs,rel,dd⟩:=wBq I.hok e
    obtain ⟨w',hw,rw'⟩:=RelO.some_of (v:=v) (o:=valueAt vs k) (by rw [l];exact rel.val k)
    exact wpAny_getItem_of (r3q ry) dd.mapOf hw (h w' _ (I.tok _) rw')
  . subst ey
    cases (show u=Value.ref b from ry)
    obtain ⟨z,hd,xs,rel,dd⟩:=wDq I.hok e
    obtain ⟨w',hw,rw'⟩:=RelO.some_of (v:=v) (o:=(atKey xs k).map (·.2)) (by rw [l];exact rel.val k)
    obtain ⟨p,hp,hp2⟩:=Option.map_eq_some_iff.mp hw
    refine wpAny_getItem_heap (tupleKind_room_in1 hu) (nCq I.hok eb) dd hp ?_
    rw [hp2]
    exact h w' _ (I.tok _) rw'
theorem l2q {h':Heap} {t':Nat} {ob:HO} (I:Inv X pins σ H s) (mu:Mut (H a)) (hs:Heap.SameBut a s.heap h') (he:∃ q,h'.get? a=some q) (new:ObjOk X.prog X.w (upd H a ob) h' a ob) :
    Inv X pins σ (upd H a ob) { s with heap:=h',toks:=t' }:=
  I.write (x:=a) (e:=a) mu (.inl rfl) (λ b q hb z=>(hs.2 b hb).trans z) he new
theorem t2q {P:Program} {w:World} {H':Hp} {h':Heap} {kvs:List (Key × V)} {vs:List (Key × Value)} (z:kvs.length<=sizeLine) (hd:(a==sysModules)=false) (rel:KV kvs vs) (dd:h'.DictOf (bEq P w) a vs) :
    ObjOk P w H' h' a (.dK kvs):=⟨z,hd,vs,rel,dd⟩
theorem o6q {H':Hp} {Q:Unit->Shared->Prop} (hu:A.units+1 < cLine) (I:Inv X pins σ H s) (g:DPut H a y v H') (ry:RelV y u) (rv:RelV v r) (h:∀ s',Inv X pins σ H' s'->Q () s') :
    wpAny (model X.prog X.w) A (setItem (.ref a) u r) Q E s:=by
  rcases g with ⟨kvs,k,e,ey,l,eH⟩ | ⟨kvs,k,b,e,ey,eb,l,eH⟩
  . subst ey eH
    obtain ⟨z,hd,vs,rel,dd⟩:=xJq I.hok e
    have hz:vs.length<=sizeLine:=by rw [<- rel.length];exact z
    have hl:(k7q kvs k v).length<=sizeLine:=by have:=dBq kvs k v;omega
    refine wpAny_setItem_pairs (hsz:=hz) (r3q ry) dd λ h' dd' hs=>h _ ?_
    have he:∃ q,h'.get? a=some q:=let ⟨q,_,_,hq,_⟩:=dd';⟨q,hq⟩
    exact l2q I (by rw [e];exact True.intro) hs he (t2q hl hd (rel.put k rv) dd')
  . subst ey eH
    cases (show u=Value.ref b from ry)
    obtain ⟨z,hd,xs,rel,dd⟩:=aG6q I.hok e
    have hz:xs.length<=sizeLine:=by rw [<- Paired.length rel];exact z
    have hl:(k7q kvs k v).length<=sizeLine:=by have:=dBq kvs k v;omega
    refine wpAny_setItem_heap (hsz:=hz) (tupleKind_room_in1 hu) (nCq I.hok eb) dd λ h' dd' hs=>h _ ?_
    obtain ⟨q,es,ep,hq,h2,h3,h4,_,h5⟩:=dd'
    refine l2q I (by rw [e];exact True.intro) hs ⟨q,hq⟩ ⟨hl,hd,_,(rel.put k eb rv).keeps λ c ys ec=>?_,q,es,ep,hq,h2,h3,h4,h5⟩
    rw [aFq (aF6q ec e (λ z=>nomatch z))]
    exact ec
end
section
variable {X:Cx} {pins:List (Addr × Obj)} {σ:St} {H:Hp} {s:Shared} {a:Addr} {kvs:List (Key × V)} {k:Key} {u:Value} {A:Around} {E:Value->Shared->Prop}
end
def NoSl (i:Expr):Prop:=∀ ov iv,subscripted i false ov iv=operate [ov,iv] (getItem ov iv)
theorem u6q {prog:Program} {w:World} {A:Around} {E:Value->Shared->Prop} {s:Shared} {env:Env} {value slice:Expr} {pos:Pos} {T id:String} {Q:Value->Shared->Prop}
    (hl:typeLookup (.type T) "__getitem__" = pure (some (.builtin id))) (hs:NoSl slice)
    (h:wpAny (model prog w) A (eval value env) (λ o s₁=>wpAny (model prog w) A (eval slice env) (λ i s₂=>s₂.TypeIs o T/\wpAny (model prog w) A (getItem o i) Q E s₂) E s₁) E s) :
    wpAny (model prog w) A (eval (.Subscript value slice pos) env) Q E s:=by
  refine Subscript_ (wpAny_mono h (λ o s₁ h₁=>wpAny_mono h₁ (λ i s₂ h₂=>?_) λ _ _ x=>x) λ _ _ x=>x)
  obtain ⟨hT,h₂⟩:=h₂
  unfold subscriptTail
  refine wpAny_bind ?_
  rw [getitemInPython_of_ne hT.not_modules]
  refine wpAny_bind (wpAny_specialOf hT hl ?_)
  have fin:wpAny (model prog w) A (subscripted slice false o i) (λ r s₃=>wpAny (model prog w) A (letTemporaryGo value o r >>= λ _=>pure r) Q E s₃) E s₂:=by
    rw [hs o i]
    exact wpAny_operating (wpAny_mono h₂ (λ r s₃ h₃=>wpAny_bind (wpAny_letTemporaryGo (wpAny_pure h₃))) λ _ _ x=>x)
  first
    | exact wpAny_pure (wpAny_bind fin)
    | exact wpAny_bind (wpAny_pure (wpAny_bind fin))
    | exact wpAny_bind fin
theorem l7q {X:Cx} {pins:List (Addr × Obj)} {σ:St} {H:Hp} {s:Shared} {a:Addr} {y:V} {o:Option V} (I:Inv X pins σ H s) (g:DGet H a y o):s.TypeIs (.ref a) "dict":=by
  rcases g with ⟨kvs,k,e,_,_⟩ | ⟨kvs,k,b,e,_,_,_⟩
  . obtain ⟨_,_,vs,_,dd⟩:=wBq I.hok e
    exact dd.typeIs
  . obtain ⟨_,_,xs,_,dd⟩:=wDq I.hok e
    exact dd.typeIs
def aF0q (td ty:TE):TE:=λ σ H Q=>td σ H λ x H1=>ty σ H1 λ y H2=>∃ a v,x=.ref a/\DGet H2 a y (some v)/\Q v H2
def aJ7q (td ty tv:TE):TS:=λ D σ H=>tv σ H λ v H1=>td σ H1 λ x H2=>ty σ H2 λ y H3=>∃ a H4,x=.ref a/\DPut H3 a y v H4/\D.nx σ H4
section
variable {X:Cx} {o i e value:Expr} {pos pos' tpos:Pos} {td ty tv:TE}
theorem uOq (hu:X.A.units+1 < cLine) (ho:PE X o td) (hi:PE X i ty) (hs:NoSl i):PE X (.Subscript o i pos) (aF0q td ty):=by
  intro pins s σ H Q I h
  refine u6q PySem.F.slot_dict_getitem.lookup hs (thn (ho pins s σ H _ I h) λ u s1 ⟨x,H1,I1,rx,q1⟩=>thn (hi pins s1 σ H1 _ I1 q1) λ iv s2 ⟨y,H2,I2,ry,a,v,ex,g,q2⟩=>?_)
  subst ex
  obtain rfl:u=Value.ref a:=rx
  exact ⟨l7q I2 g,qCq hu I2 g ry λ w' s3 I3 rw'=>⟨v,H2,I3,rw',q2⟩⟩
theorem tSq (hu:X.A.units+1 < cLine) (ho:PE X o td) (hi:PE X i ty) (hv:PE X value tv) (hs:swapsWith value (some (.Subscript o i pos')) pos.line X.env=pure false) :
    PS X (.Assign [.Subscript o i pos'] value pos) (aJ7q td ty tv):=by
  intro pins s σ H D I h
  refine wpAny_Assign_Subscript (thn (hv pins s σ H _ I h) λ r s1 ⟨v,H1,I1,rv,q1⟩=>thn (ho pins s1 σ H1 _ I1 q1) λ u s2 ⟨x,H2,I2,rx,q2⟩=>thn (hi pins s2 σ H2 _ I2 q2) λ iv s3 ⟨y,H3,I3,ry,a,H4,ex,g,q3⟩=>?_) hs
  subst ex
  obtain rfl:u=Value.ref a:=rx
  exact o6q hu I3 g ry rv λ s4 I4=>⟨σ,H4,I4,q3⟩
end
theorem rLq {P:Program} {w:World} {H:Hp} (h:Heap) (hb:sysModules < h.objs.size):ObjOk P w H (h.push { cls:=.type "dict", data:=.dict #[] }) h.objs.size (.dK []):=
  ⟨Nat.zero_le _,beq_eq_false_iff_ne.mpr (Ne.symm (Nat.ne_of_lt hb)),[],.nil,Heap.DictOf.new h⟩
section
variable {X:Cx} {pos:Pos}
end
def nGq:List (TE × TE)->St->Hp->(List (V × V)->Hp->Prop)->Prop
  | [],_,H,Q=>Q [] H
  | (tk,tv)::r,σ,H,Q=>tk σ H λ x H1=>tv σ H1 λ y H2=>nGq r σ H2 λ ps H3=>Q ((x,y)::ps) H3
abbrev VV:List (V × V)->List (Value × Value)->Prop:=Paired λ p q=>RelV p.1 q.1/\RelV p.2 q.2
def PPs (X:Cx) (pos:Pos) (keys:List (Option Expr)) (values:List Expr) (trs:List (TE × TE)):Prop:=
  ∀ (pins:List (Addr × Obj)) (s:Shared) (σ:St) (H:Hp) (Q:List (V × V)->Hp->Prop),Inv X pins σ H s->nGq trs σ H Q →
    wpAny (model X.prog X.w) X.A (evalPairs (pairTrees keys values X.env pos)) (λ vs s'=>∃ ps H',Inv X pins σ H' s'/\VV ps vs/\Q ps H') X.xe s
theorem u2q {X:Cx} {pos:Pos}:PPs X pos [] [] []:=λ pins s σ H Q I h=>pairTrees_nil_walk ⟨[],H,I,.nil,h⟩
theorem rYq {X:Cx} {pos:Pos} {k v:Expr} {ks:List (Option Expr)} {vs:List Expr} {tk tv:TE} {trs:List (TE × TE)} (hk:PE X k tk) (hv:PE X v tv) (hr:PPs X pos ks vs trs) :
    PPs X pos (some k::ks) (v::vs) ((tk,tv)::trs):=λ pins s σ H Q I h=>
  pairTrees_cons_walk (thn (hk pins s σ H _ I h) λ u s1 ⟨x,H1,I1,rx,q1⟩=>thn (hv pins s1 σ H1 _ I1 q1) λ w2 s2 ⟨y,H2,I2,ry,q2⟩=>
    thn (hr pins s2 σ H2 _ I2 q2) λ ws s3 ⟨ps,H3,I3,rel,q3⟩=>⟨(x,y)::ps,H3,I3,.cons ⟨rx,ry⟩ rel,q3⟩)
def iYq (kvs more:List (Key × V)):List (Key × V):=more.foldl (λ acc kv=>k7q acc kv.1 kv.2) kvs
theorem KV.merge:∀ {more:List (Key × V)} {rs:List (Key × Value)} {kvs:List (Key × V)} {vs:List (Key × Value)},KV more rs->KV kvs vs->KV (iYq kvs more) (merged vs rs):=by
  intro more rs kvs vs r
  unfold KV at r
  induction r generalizing kvs vs with
  | nil=>intro q;exact q
  | @cons p q ps qs h t ih=>
    intro r0
    have e:KV (k7q kvs p.1 p.2) (stored vs q.1 q.2):=by
      have:=r0.put p.1 h.2
      rw [<- h.1];exact this
    exact ih e
theorem dUq:∀ (more kvs:List (Key × V)),(iYq kvs more).length<=kvs.length+more.length
  | [],kvs=>by show kvs.length<=kvs.length+0;omega
  | p::r,kvs=>by
    have h1:=dUq r (k7q kvs p.1 p.2)
    have h2:=dBq kvs p.1 p.2
    show (iYq (k7q kvs p.1 p.2) r).length<=_
    rw [List.length_cons];omega
theorem h9q {P:Program} {w:World}:∀ {kvs:List (Key × V)} {ws:List (Value × Value)},VV (kvs.map λ kv=>(kV kv.1,kv.2)) ws->∃ rs,Carries (bEq P w) ws rs/\KV kvs rs
  | [],_,r=>by rw [List.map_nil] at r;cases r;exact ⟨[],True.intro,.nil⟩
  | p::kvs,_,r=>by
    rw [List.map_cons] at r
    cases r with
    | @cons a b as bs h t=>
      obtain ⟨rs,c,q⟩:=h9q (P:=P) (w:=w) t
      obtain ⟨b1,b2⟩:=b
      exact ⟨(p.1,b2)::rs,⟨r3q h.1,rfl,c⟩,.cons ⟨rfl,h.2⟩ q⟩
def aN0q (trs:List (TE × TE)):TE:=λ σ H Q=>∀ p,H p=none->nGq trs σ (upd H p (.dK [])) λ ps H2=>H2 p=some (.dK [])/\∃ kvs:List (Key × V),ps=kvs.map (λ kv=>(kV kv.1,kv.2))/\kvs.length<=15/\Q (.ref p) (upd H2 p (.dK (iYq [] kvs)))
theorem vLq {X:Cx} {pos:Pos} {keys:List (Option Expr)} {values:List Expr} {trs:List (TE × TE)} (h:PPs X pos keys values trs) (hall:keys.all (·.isSome)=true) (hl:keys.length=values.length) (h0:keys≠[])
    (h15:keys.length<=15):PE X (.Dict keys values pos) (aN0q trs):=by
  intro pins s σ H Q I q
  have hn:=I.hok.fresh (Nat.le_refl s.heap.objs.size)
  have I1:=I.laid (a:=s.heap.objs.size) (o:=.dK []) (h':=s.heap.push { cls:=.type "dict", data:=.dict #[] }) (t':=s.toks) (λ _ _ q=>Heap.get?_push_of_some _ q) (Nat.le_refl _) (rLq s.heap I.big)
  refine wpAny_Dict_walk (knd:=bEq X.prog X.w) hall hl h0 h15 (thn (h pins _ σ _ _ I1 (q _ hn)) λ ws s2 ⟨ps,H2,I2,rel,e,kvs,ep,lk,q2⟩=>?_)
  subst ep
  obtain ⟨rs,c,rk⟩:=h9q (P:=X.prog) (w:=X.w) rel
  obtain ⟨z,hd,vs0,r0,dd⟩:=xJq I2.hok e
  cases r0
  refine ⟨rs,c,dd,λ h' dd' hs=>⟨.ref s.heap.objs.size,_,?_,rfl,q2⟩⟩
  have hz:(iYq [] kvs).length<=sizeLine:=by
    have h1:=dUq kvs []
    rw [List.length_nil] at h1
    rw [sizeLine_eq];omega
  have he:∃ q,h'.get? s.heap.objs.size=some q:=let ⟨q,_,_,hq,_⟩:=dd';⟨q,hq⟩
  exact l2q I2 (by rw [e];exact True.intro) hs he (t2q hz hd (rk.merge .nil) dd')
section
variable {X:Cx} {pins:List (Addr × Obj)} {σ:St} {H:Hp} {s:Shared} {a:Addr} {y d:V} {u r:Value} {o:Option V} {A:Around} {E:Value->Shared->Prop}
end
section
variable {X:Cx} {o e f:Expr} {apos cpos:Pos} {td ty tx:TE}
end
section
variable {X:Cx} {pins:List (Addr × Obj)} {σ:St} {H:Hp} {s:Shared} {a:Addr} {kvs:List (Key × V)} {A:Around} {E:Value->Shared->Prop}
end
section
variable {X:Cx} {pins:List (Addr × Obj)} {σ:St} {H:Hp} {s:Shared} {a:Addr} {y:V} {u:Value} {A:Around} {E:Value->Shared->Prop}
end
section
variable {κ:Type} [DecidableEq κ]
end
section
variable {prog:Program} {w:World} {A:Around} {E:Value->Shared->Prop} {s:Shared}
theorem dSq {t sl:Addr} {items:Array Value} {vl vu:Value} {lo hi:Option Int} {Q:Value->Shared->Prop} (ht:IsTup s.heap t items) (hs:s.heap.IsSliceOf sl vl vu .none) (pl:IsPart vl lo) (pu:IsPart vu hi)
    (hw:HT.sIx items.size 0 lo=0/\HT.sIx items.size items.size hi=items.size) (h:Q (.ref t) s):wpAny (model prog w) A (getItem (.ref t) (.ref sl)) Q E s:=by
  obtain ⟨os,hos,hcs,hds⟩:=id hs
  have hTs:s.TypeIs (.ref sl) "slice":=⟨os,hos,hcs⟩
  unfold getItem
  try with_reducible refine wpAny_holding ?_
  first | refine wpAny_bind (wpAny_pure ?_) | skip
  refine wpAny_bind (wpAny_sequenceKey ht.typeIs (by decide) ?_)
  refine wpAny_bind (wpAny_callSpecial?_slot (name:=Str.ofString "__getitem__") ht.typeIs PyProof.Rows.slot_tuple_getitem (wpAny_call_entry PyProof.Rows.slot_tuple_getitem ht.typeIs entry_tuple_getitem ?_ (args_tuple_getitem _ _)))
  show wpAny _ _ (Builtin.Tuple.tupleItemsOf (.ref t) >>= _) _ _ s
  refine wpAny_bind (tupleItemsOf_ ht ?_)
  refine wpAny_bind (wpAny_typeOf hTs ?_)
  rw [if_pos (by decide)]
  refine wpAny_bind (HT.sliceApplied_gen hs pl pu ?_)
  have hyes:(((HT.sIx items.size 0 lo:Nat):Int)==0&&(1:Int)==1&&(HT.sIx items.size items.size hi - HT.sIx items.size 0 lo)==items.size)=true:=by
    rw [hw.1,hw.2];simp
  show wpAny _ _ (if (((HT.sIx items.size 0 lo:Nat):Int)==0&&(1:Int)==1&&(HT.sIx items.size items.size hi - HT.sIx items.size 0 lo)==items.size)=true then _ else _) _ _ s
  rw [if_pos hyes]
  have ex:∀ {Q':Bool->Shared->Prop},Q' true s->wpAny (model prog w) A.in1 (Builtin.Tuple.tupleIsExact (.ref t)) Q' E s:=λ{Q'} q=>by
    unfold Builtin.Tuple.tupleIsExact
    refine wpAny_bind (wpAny_typeOf ht.typeIs (wpAny_pure ?_))
    have e:(Value.type "tuple"==Value.type "tuple")=true:=beq_self_eq_true _
    rw [e];exact q
  first
    | exact wpAny_bind (ex (wpAny_bind (wpAny_rule (wpAny_pure ⟨_,rfl,wpAny_pure h⟩))))
    | (unfold Builtin.Tuple.tupleIsExact
       refine wpAny_bind (wpAny_bind (wpAny_typeOf ht.typeIs (wpAny_pure ?_)))
       have e:(Value.type "tuple"==Value.type "tuple")=true:=beq_self_eq_true _
       rw [e,if_pos rfl]
       first
         | exact wpAny_bind (wpAny_rule (wpAny_pure ⟨_,rfl,wpAny_pure h⟩))
         | exact wpAny_bind (wpAny_rule (wpAny_bind (wpAny_pure (wpAny_pure ⟨_,rfl,wpAny_pure h⟩))))
         | exact wpAny_bind (wpAny_rule (wpAny_bind (wpAny_bind (wpAny_pure (wpAny_pure ⟨_,rfl,wpAny_pure h⟩))))))
end
section
variable {X:Cx}
def aO5q (K:PySem.W.Frag):V->Option Int->Option Int->Hp->VK->Prop:=λ x lo hi H Q=>∃ a xs,x=.ref a/\SqT K H a xs ∧
  ((HT.sIx xs.length 0 lo=0/\HT.sIx xs.length xs.length hi=xs.length)->Q (.ref a) H)/\(¬ (HT.sIx xs.length 0 lo=0/\HT.sIx xs.length xs.length hi=xs.length)->∀ p,H p=none->Q (.ref p) (upd H p (.tup (n4q xs lo hi))))
theorem wFq:SlR X (aO5q X.K):=by
  intro pins s σ H x v vl vu lo hi sl Q I rx hs pl pu h
  obtain ⟨a,xs,rfl,hx,q1,q2⟩:=h
  by_cases hw:HT.sIx xs.length 0 lo=0/\HT.sIx xs.length xs.length hi=xs.length
  . cases rx
    obtain ⟨its,r,ht,hz⟩:=I.tuple hx
    have hlen:its.toArray.size=xs.length:=by rw [List.size_toArray];exact r.length.symm
    refine ⟨"tuple", _,PyProof.Rows.slot_tuple_getitem.lookup,ht.typeIs,?_⟩
    exact dSq ht hs pl pu (by rw [hlen];exact hw) ⟨.ref a,H,I,rfl,q1 hw⟩
  . exact z9q pins s σ H _ v vl vu lo hi sl Q I rx hs pl pu ⟨a,xs,rfl,hx,hw,q2 hw⟩
def aI6q (K:PySem.W.Frag):R2:=λ x y H Q=>∃ a b xs ys,x=.ref a/\y=.ref b/\SqT K H a xs/\SqT K H b ys/\xs.length+ys.length<=sizeLine ∧
  (xs=[]->Q (.ref b) H)/\(xs≠[]->ys=[]->Q (.ref a) H)/\(xs≠[]->ys≠[]->∀ p,H p=none->Q (.ref p) (upd H p (.tup (xs++ys))))
theorem op_catW:OpR X (binaryOp .Add) (aI6q X.K):=by
  intro pins s σ H x y v u Q I rx ry h
  obtain ⟨a,b,xs,ys,rfl,rfl,ha,hb,hz,q0,q1,q2⟩:=h
  by_cases hx:xs=[]
  . cases rx;cases ry
    obtain ⟨its,r,ht,_⟩:=I.tuple ha
    obtain ⟨its2,r2,ht2,_⟩:=I.tuple hb
    subst hx
    cases r
    obtain ⟨⟨cls,dd,data,sl⟩,ho,hc,n,hd⟩:=id ht
    obtain ⟨⟨cls2,dd2,data2,sl2⟩,ho2,hc2,n2,hd2⟩:=id ht2
    simp only at hc hd hc2 hd2
    subst hc hd hc2 hd2
    refine concat_meets ⟨_,ho,rfl⟩ ⟨_,ho2,rfl⟩ noFill_tuple_add seq_tuple_add PySem.F.slot_tuple_add PySem.F.entry_tuple_add (PySem.F.args_tuple_add_2 _ _) (tuple_addW0 a b _ its2.toArray n n2 dd dd2 sl sl2 (by simp)) ⟨ho,ho2,?_⟩
    exact ⟨.ref b,H,I,rfl,q0 rfl⟩
  . exact w7q pins s σ H _ _ v u Q I rx ry ⟨a,b,xs,ys,rfl,rfl,ha,hb,hx,hz,q1 hx,q2 hx⟩
end
section
variable {X:Cx}
def aN8q (K:PySem.W.Frag):V->Option Int->Option Int->Hp->VK->Prop:=λ x lo hi H Q=>∃ a xs,x=.ref a/\SqT K H a xs/\∀ t H2,Same H H2->SqT K H2 t (n4q xs lo hi)->Q (.ref t) H2
theorem sMq {xs:List V} {lo hi:Option Int} (h:HT.sIx xs.length 0 lo=0/\HT.sIx xs.length xs.length hi=xs.length):n4q xs lo hi=xs:=by
  unfold n4q
  rw [h.1,h.2,List.drop_zero,Nat.sub_zero,List.take_length]
theorem sl_tupU:SlR X (aN8q X.K):=by
  intro pins s σ H x v vl vu lo hi sl Q I rx hs pl pu h
  obtain ⟨a,xs,rfl,hx,q⟩:=h
  refine wFq pins s σ H _ v vl vu lo hi sl Q I rx hs pl pu ⟨a,xs,rfl,hx,λ w=>q a H (Same.refl _) (by rw [sMq w];exact hx),λ _ p hp=>q p _ (λ b u e=>by rw [aFq (aSq e hp)];exact e) (SqT.of aPq)⟩
end
structure JE (X:Cx) (e:Expr) (t:TE):Prop where
  run:PE X e t
structure JT (X:Cx) (e:Expr) (t:TT):Prop where
  run:PT X e t
structure JW (X:Cx) (e:Expr) (t:TT):Prop where
  run:PW X e t
structure JA (X:Cx) (es:List Expr) (t:TA):Prop where
  run:PA X es t
structure JS (X:Cx) (st:Stmt) (t:TS):Prop where
  run:PS X st t
structure JB (X:Cx) (st:List Stmt) (t:TS):Prop where
  run:PSs X st t
structure JG (X:Cx) (e:Expr) (t:TG):Prop where
  run:PG X e t
structure JGs (X:Cx) (es:List Expr) (t:TGs):Prop where
  run:PGs X es t
structure JI (X:Cx) (tg iter:Expr) (wi:TI):Prop where
  run:PI X tg iter wi
structure JO (X:Cx) (e:Option Expr) (t:TO):Prop where
  run:PO X e t
structure JOp (X:Cx) (f:Value->Value->Sem Value) (r:R2):Prop where
  run:OpR X f r
structure JUn (X:Cx) (f:Value->Sem Value) (r:V->Hp->VK->Prop):Prop where
  run:UnR X f r
structure JCall (X:Cx) (f:Value) (r:List V->Hp->VK->Prop):Prop where
  run:CallR X f r
structure JIx (X:Cx) (r:R2):Prop where
  run:IxR X r
structure JSl (X:Cx) (r:V->Option Int->Option Int->Hp->VK->Prop):Prop where
  run:SlR X r
structure JMt (X:Cx) (id:String) (r:V->List V->Hp->VK->Prop):Prop where
  run:MtR X id r
structure JIp (X:Cx) (op:Operator) (t:TIp):Prop where
  run:PIp X op t
structure JSet (X:Cx) (t:yCq):Prop where
  run:PSet X t
section
variable {X:Cx} {a b c e o i:Expr} {es:List Expr} {ta tb te to ti:TE} {t tr:TA} {pos p apos cpos:Pos}
theorem wYq {n:Int} {j}:JE X (.Constant (.int n) j pos) (tC (.int n)):=⟨x2q⟩
theorem aJ9q {n:Bool} {j}:JE X (.Constant (.bool n) j pos) (tC (.bl n)):=⟨aG9q⟩
theorem xIq {j}:JE X (.Constant .none j pos) (tC .non):=⟨aB6q⟩
theorem y5q {x:Str} {j}:JE X (.Constant (.str x) j pos) (tC (.str x)):=⟨zKq⟩
theorem jv (k:Nat) {x:Str} (hN:X.N[k]?=some x:=by rfl) (hv:Vis X.env.scope x:=by first | exact Or.inl rfl | exact Or.inr (Or.inl rfl) | exact Or.inr (Or.inr rfl)) (hd:(x==("__debug__" : Str))=false:=by decide)
    (hcd:(x==("__classdict__" : Str))=false:=by decide):JE X (.Name x pos) (tVar k):=⟨oVq hN hv hd hcd⟩
theorem tQq {x:Str} {v:V} {u:Value} (hg:Gl X x) (hm:X.mg x=none) (hv:bootBuiltins x=some u) (r:RelV v u) (hn:x≠"__name__":=by decide) (hd:(x==("__debug__" : Str))=false:=by decide):JE X (.Name x pos) (tC v):=⟨tPq hg hm hv r hn hd⟩
theorem v9q {x:Str} {v:V} {u:Value} (hg:Gl X x) (hm:X.mg x=some u) (r:RelV v u) (hd:(x==("__debug__" : Str))=false:=by decide):JE X (.Name x pos) (tC v):=⟨uSq hg hm r hd⟩
theorem aA2q:JA X [] tNil:=⟨xQq⟩
theorem vZq (ha:JE X e te) (hr:JA X es t) (hs:aLq e=true:=by rfl):JA X (e::es) (zJq te t):=⟨u0q ha.run hr.run (a9q hs)⟩
theorem y6q {x1} (h:JA X es t):JE X (.Tuple es x1 pos) (tTup t):=⟨wVq h.run⟩
theorem t0q (h:JA X es t):JE X (.List es pos) (tLst t):=⟨zEq h.run⟩
theorem aN4q {op:Operator} {r:R2} (ho:JOp X (binaryOp op) r) (ha:JE X a ta) (hb:JE X b tb):JE X (.BinOp a op b pos) (tOp r ta tb):=⟨aO4q ho.run ha.run hb.run⟩
theorem aK6q {op:UnaryOp} {r:V->Hp->VK->Prop} (ho:JUn X (unaryOp op) r) (ha:JE X a ta):JE X (.UnaryOp op a pos) (tUn r ta):=⟨aJ6q ho.run ha.run⟩
theorem x9q (ha:JE X a ta):JE X (.UnaryOp .Not a pos) (zHq ta):=⟨zFq ha.run⟩
theorem wIq {op:CmpOp} {r:R2} (ho:JOp X (compareOp op) r) (ha:JE X a ta) (hb:JE X b tb) (hm:behindInMarks op b=false):JE X (.Compare a [op] [b] pos) (tOp r ta tb):=⟨w9q ho.run ha.run hb.run hm⟩
theorem x4q {op} (h:JE X a ta):JE X (.BoolOp op [a] pos) ta:=⟨yYq h.run⟩
theorem z6q {rest:List Expr} (ha:JE X a ta) (hb:JE X (.BoolOp .And (b::rest) pos) tb):JE X (.BoolOp .And (a::b::rest) pos) (aA9q ta tb):=⟨xPq ha.run hb.run⟩
theorem r7q {tc:TT} (hc:JT X c tc) (ha:JE X a ta) (hb:JE X b tb):JE X (.IfExp c a b pos) (tIf tc ta tb):=⟨qUq hc.run ha.run hb.run⟩
theorem v8q:JO X none pVq:=⟨v1q⟩
theorem uYq (h:JE X e te):JO X (some e) (zCq te):=⟨uFq h.run⟩
theorem rVq {r:V->Option Int->Option Int->Hp->VK->Prop} {lo hi:Option Expr} {tl th:TO} {p2:Pos} (hr:JSl X r) (he:JE X e te) (hl:JO X lo tl) (hu:JO X hi th):JE X (.Subscript e (.Slice lo hi none p2) pos) (tSl r te tl th):=⟨s2q hr.run he.run hl.run hu.run⟩
theorem y0q {r:R2} (hr:JIx X r) (ha:JE X a ta) (hb:JE X b tb) (hs:iFq b):JE X (.Subscript a b pos) (tOp r ta tb):=⟨aG2q hr.run ha.run hb.run hs⟩
theorem bHq {es:List Expr} {env:Env} (h:es.all aLq=true):(backTo pos (starEach es env)).any (·.1)=false:=by
  induction es with
  | nil=>rfl
  | cons x r ih=>
    rw [List.all_cons,Bool.and_eq_true] at h
    rw [a9q h.1]
    exact ih h.2
theorem aJ1q {k j:Nat} {x:Str} {ps:List Str} {sp:Sp} (G:Got X.prog X.w X.K X.mg X.base k x ps sp) (hr:Room j X.A) (hk:k<=j) (hg:Gl X x) (ha:JA X (e::es) t) (hdb:(x==("__debug__" : Str))=false:=by decide)
    (hs:(e::es).all aLq=true:=by rfl):JE X (.Call (.Name x p) (e::es) [] pos) (sOq sp [] E0 t):=by
  have h:=hs
  rw [List.all_cons,Bool.and_eq_true] at h
  exact ⟨aL9q G hr hk hg ha.run hdb (a9q h.1) (bHq h.2)⟩
theorem qPq {x:Str} {id:String} {r:List V->Hp->VK->Prop} (hc:JCall X (.builtin id) r) (hg:Gl X x) (hm:X.mg x=none) (hv:bootBuiltins x=some (.builtin id)) (ha:JA X (e::es) t) (hn:x≠"__name__":=by decide) (hdb:(x==("__debug__" : Str))=false:=by decide)
    (hs:(e::es).all aLq=true:=by rfl):JE X (.Call (.Name x p) (e::es) [] pos) (tCB r t):=by
  have h:=hs
  rw [List.all_cons,Bool.and_eq_true] at h
  exact ⟨rXq hc.run hg hm hv ha.run hn hdb (a9q h.1) (bHq h.2)⟩
theorem oPq {x:Str} {T:String} {r:List V->Hp->VK->Prop} (hc:JCall X (.type T) r) (hg:Gl X x) (hm:X.mg x=none) (hv:bootBuiltins x=some (.type T)) (ha:JA X (e::es) t) (hn:x≠"__name__":=by decide) (hdb:(x==("__debug__" : Str))=false:=by decide)
    (hs:(e::es).all aLq=true:=by rfl):JE X (.Call (.Name x p) (e::es) [] pos) (tCB r t):=by
  have h:=hs
  rw [List.all_cons,Bool.and_eq_true] at h
  exact ⟨pAq hc.run hg hm hv ha.run hn hdb (a9q h.1) (bHq h.2)⟩
theorem aL0q {name:Str} {T id:String} {r:V->List V->Hp->VK->Prop} (pa:PlainAttrs T) (slot:Slot T name id) (hty:typeOf (.builtin id)=pure (.type "method_descriptor")) (hm:JMt X id r) (ho:JE X o to) (ha:JA X [e] t)
    (hbase:attributeBase o name X.env (eval o X.env)=eval o X.env:=by rfl) (hline:(apos.endLine==cpos.line)=true:=by rfl) (hs:aLq e=true:=by rfl):JE X (.Call (.Attribute o name apos) [e] [] cpos) (tBM X.K T r to t):=
  ⟨aG1q pa slot hty hm.run ho.run ha.run hbase (by rw [a9q hs];rfl) hline (a9q hs) rfl⟩
theorem xNq {name:Str} {T id:String} {r:V->List V->Hp->VK->Prop} (pa:PlainAttrs T) (slot:Slot T name id) (hty:typeOf (.builtin id)=pure (.type "method_descriptor")) (hm:JMt X id r) (ho:JE X o to)
    (hbase:attributeBase o name X.env (eval o X.env)=eval o X.env:=by rfl) (hline:(apos.endLine==cpos.line)=true:=by rfl):JE X (.Call (.Attribute o name apos) [] [] cpos) (tBM0 X.K T r to):=⟨aD0q pa slot hty hm.run ho.run hbase hline⟩
theorem uZq {op:CmpOp} {r:R2} (ho:JOp X (compareOp op) r) (ha:JE X a ta) (hb:JE X b tb) (hm:behindInMarks op b=false):JT X (.Compare a [op] [b] pos) (xAq (tOp r ta tb)):=⟨u4q ho.run ha.run hb.run hm⟩
theorem aA7q {tc:TT} (ha:JT X a tc):JT X (.UnaryOp .Not a pos) (tNot tc):=⟨zAq ha.run⟩
theorem qWq (ha:JE X a ta) (he:∀ whole,isTrue a X.env whole=(do let v ← whole;standAt a.pos;holding [v] (truthy v))):JT X a (λ σ H Q=>ta σ H λ x H'=>∃ k,TruV X.K x H' k/\Q k H'):=⟨rAq ha.run he⟩
theorem wJq {tA:TT} (ha:JT X a tA):JW X (.BoolOp .And [a] pos) tA:=⟨wKq ha.run⟩
theorem aC8q {tA:TT} (ha:JT X a tA):JW X (.BoolOp .Or [a] pos) tA:=⟨aC1q ha.run⟩
theorem aC3q {tA tB':TT} {rest:List Expr} (ha:JT X a tA) (hb:JW X (.BoolOp .And (b::rest) pos) tB'):JW X (.BoolOp .And (a::b::rest) pos) (tAnd tA tB'):=⟨aE0q ha.run hb.run⟩
theorem aF1q {tA tB':TT} {rest:List Expr} (ha:JT X a tA) (hb:JW X (.BoolOp .Or (b::rest) pos) tB'):JW X (.BoolOp .Or (a::b::rest) pos) (tOr tA tB'):=⟨aK8q ha.run hb.run⟩
theorem JW.pt {tA:TT} (h:JW X e tA):JT X e tA:=⟨PW.pt h.run⟩
theorem uTq {k:Nat} {x:Str} (hN:X.N.Nodup) (hi:X.N[k]?=some x) (hx:Loc X.env.scope x) (hf:X.fn x=true\/X.env.scope.names.lookup x=some .local:=by first | exact .inl rfl | exact .inr rfl | assumption):JG X (.Name x pos) (mHq k):=⟨uDq hN hi hx hf⟩
theorem u1q:JGs X [] gNil:=⟨vCq⟩
theorem rPq {tg:TG} {u:TGs} (h1:JG X e tg) (h2:JGs X es u) (hs:(assignEach (e::es) X.env).map (·.2)=assign e X.env::(assignEach es X.env).map (·.2):=by rfl):JGs X (e::es) (y8q tg u):=⟨s0q h1.run h2.run hs⟩
theorem yFq {k n:Nat} {tg:TGs} (hc:X.calm=true) (h:JGs X es tg) (hn:(assignEach es X.env).length=n:=by rfl) (hst:(assignEach es X.env).findIdx? (·.1)=none:=by rfl):JG X (.Tuple es k pos) (gTup X.K n tg):=⟨y7q hc h.run hn hst⟩
theorem aA5q {tset:yCq} (ho:JE X o to) (hi:JE X i ti) (hs:JSet X tset) (ha:∀ v,assign (.Subscript o i pos) X.env v=(do
      let ov ← holding [v] (eval o X.env)
      let iv ← holding [v,ov] (eval i X.env)
      standAt pos
      holding [v,ov,iv] (setItem ov iv v)
      release [v,ov,iv] []):=by intro _;rfl):JG X (.Subscript o i pos) (gSub to ti tset):=⟨aD5q ho.run hi.run hs.run ha⟩
theorem nVq {tg:Expr} (hg:Gl X "range") (hm:X.mg "range" = none) (ha:JA X [a] t) (hs:aLq a=true:=by rfl):JI X tg (.Call (.Name "range" p) [a] [] pos) (aC5q t):=⟨qFq hg hm ha.run (a9q hs)⟩
theorem ySq:JB X [] zYq:=⟨u8q⟩
theorem w0q {st:Stmt} {rest:List Stmt} {ts us:TS} (h1:JS X st ts) (h2:JB X rest us):JB X (st::rest) (tSeq ts us):=⟨sGq h1.run h2.run⟩
theorem zTq {st:Stmt} {ts:TS} (h1:JS X st ts):JB X [st] ts:=⟨u9q h1.run⟩
theorem vPq (he:JE X e te) (hs:swapsWith e none pos.line X.env=pure false:=by rfl):JS X (.Expr e pos) (zDq te):=⟨w2q he.run hs⟩
theorem aB3q (he:JE X e te):JS X (.Return (some e) pos) (tRet te):=⟨zSq he.run⟩
theorem aL5q {ss us:List Stmt} {tc:TT} {ts tu:TS} (hc:JT X c tc) (ha:JB X ss ts) (hb:JB X us tu):JS X (.If c ss us pos) (tIfS tc ts tu):=⟨aG0q hc.run ha.run hb.run⟩
theorem zQq {k:Nat} {x:Str} {pos':Pos} (hN:X.N.Nodup) (hi:X.N[k]?=some x) (hx:Loc X.env.scope x) (he:JE X e te) (hs:swapsWith e (some (.Name x pos')) pos.line X.env=pure false:=by rfl) (hf:X.fn x=true\/X.env.scope.names.lookup x=some .local:=by first | exact .inl rfl | exact .inr rfl | assumption) :
    JS X (.Assign [.Name x pos'] e pos) (wRq te (mHq k)):=⟨x0q hN hi hx he.run hs hf⟩
theorem wWq {tg:Expr} {g:TG} (he:JE X e te) (hg:JG X tg g) (hs:swapsWithSole [tg] e pos.line X.env=pure false:=by rfl) (hw:swappedStores [tg] e X.env=pure none:=by rfl) (h1:(assignEach [tg] X.env).map (·.2)=[assign tg X.env]:=by rfl):JS X (.Assign [tg] e pos) (wRq te g):=⟨xVq he.run hg.run hs hw h1⟩
theorem z2q {k:Nat} {x:Str} {op:Operator} {tip:TIp} {pos':Pos} (hN:X.N.Nodup) (hi:X.N[k]?=some x) (hx:Loc X.env.scope x) (he:JE X e te) (ho:JIp X op tip) (hf:X.fn x=true\/X.env.scope.names.lookup x=some .local:=by first | exact .inl rfl | exact .inr rfl | assumption) :
    JS X (.AugAssign (.Name x pos') op e pos) (tAug k te tip):=⟨aB4q hN hi hx he.run ho.run hf⟩
theorem r0q {body:List Stmt} {tc:TT} {tb':TS} (hp:PassesOwn (model X.prog X.w) X.A X.env X.xe) (hc:JT X c tc) (hb:JB X body tb'):JS X (.While c body [] pos) (tHq tc tb'):=⟨r9q hp hc.run hb.run⟩
theorem yEq {tg iter:Expr} {body:List Stmt} {wi:TI} {g:TG} {tb':TS} (hp:PassesOwn (model X.prog X.w) X.A X.env X.xe) (hc:X.calm=true) (hi:JI X tg iter wi) (hg:JG X tg g) (hb:JB X body tb') (hs:∀ x,foldedSetIterable iter X.env x=pure x:=by intro _;rfl) :
    JS X (.For tg iter body [] pos) (tFor wi g tb'):=⟨aC9q hp hc hi.run hg.run hb.run hs⟩
theorem vUq {scope:Scope} {N':List Str} {nt:Nat} {cap:List Nat} {elt iter tg:Expr} {wi:TI} {g:TG} (hc:X.calm=true) (ok:CompOk X scope N' nt cap) (hi:JI X tg iter wi) (hg:∀ C ex s H,JG (aOq X scope N' C ex s H) tg g) (he:∀ C ex s H,JE (aOq X scope N' C ex s H) elt te)
    (hs:∀ x,foldedSetIterable iter X.env x=pure x:=by intro _;rfl):JE X (.ListComp elt [⟨tg,iter,[],0⟩] scope pos) (pDq wi g te nt cap):=⟨vVq hc ok hi.run (λ C ex s H=>(hg C ex s H).run) (λ C ex s H=>(he C ex s H).run) hs⟩
theorem nRq {ct:Expr} {tc:TT} {scope:Scope} {N':List Str} {nt:Nat} {cap:List Nat} {elt iter tg:Expr} {wi:TI} {g:TG} (hc:X.calm=true) (ok:CompOk X scope N' nt cap) (hi:JI X tg iter wi) (hg:∀ C ex s H,JG (aOq X scope N' C ex s H) tg g)
    (ht:∀ C ex s H,JT (aOq X scope N' C ex s H) ct tc) (he:∀ C ex s H,JE (aOq X scope N' C ex s H) elt te) (hs:∀ x,foldedSetIterable iter X.env x=pure x:=by intro _;rfl):JE X (.ListComp elt [⟨tg,iter,[ct],0⟩] scope pos) (kZq wi g tc te nt cap):=
  ⟨q3q hc ok hi.run (λ C ex s H=>(hg C ex s H).run) (λ C ex s H=>(ht C ex s H).run) (λ C ex s H=>(he C ex s H).run) hs⟩
end
theorem Fun.okJ {P:Program} {w:World} {K:PySem.W.Frag} {mg:Str->Option Value} {base:Heap} {x qual:Str} {st:Stmt} {f:Addr} {fd:FuncData} {N ps:List Str} {k:Nat} {sp:Sp} (F:Fun K x qual st f fd) (S:FnScope N ps (a6q st)) (len:∀ vs H Q E,sp vs H Q E->vs.length=ps.length)
    (hbody:∀ (cdv:Value) (A:Around) (outer:List Env) (s:Shared) (H:Hp) (vs:List V) (Q:VK) (E:XK),Room k (A.deeper (envOfC qual (a6q st) s.heap.objs.size f cdv))->sp vs H Q E →
      ∃ t,JB (rKq CX0 P w K mg base N qual (a6q st) f cdv A outer s H E).nox (b5q st) t/\t { nx:=λ _ H'=>Q .non H',rt:=Q } (dLq N vs) H):FnOk P w K mg base CX0 (k+1) f fd ps sp:=
  F.ok S len λ cdv A outer s H vs Q E hr h=>let ⟨t,j,q⟩:=hbody cdv A outer s H vs Q E hr h;⟨t,j.run,q⟩
section
variable {X:Cx} {scope:Scope} {N':List Str} {nt:Nat} {cap:List Nat} {elt iter tg:Expr} {pos:Pos} {wi:TI} {g:TG} {te:TE}
theorem mUq {y:Str} {py spos:Pos} {k:Nat} (hc:X.calm=true) (hN:X.N.Nodup) (hk:X.N[k]?=some y) (hy:Loc X.env.scope y) (c:CompOk X scope N' nt cap) (hi:PI X tg iter wi) (hg:∀ C ex s H,PG (aOq X scope N' C ex s H) tg g) (he:∀ C ex s H,PE (aOq X scope N' C ex s H) elt te)
    (hs:∀ x,foldedSetIterable iter X.env x=pure x:=by intro _;rfl) (hsw:swapsWith (.ListComp elt [⟨tg,iter,[],0⟩] scope pos) (some (.Name y py)) spos.line X.env=pure true:=by rfl) (hf:X.fn y=true\/X.env.scope.names.lookup y=some .local:=by first | exact .inl rfl | exact .inr rfl | assumption) :
    PS X (.Assign [.Name y py] (.ListComp elt [⟨tg,iter,[],0⟩] scope pos) spos) (wRq (pDq wi g te nt cap) (mHq k)):=by
  intro pins s σ H D0 I h
  rw [exec_Assign_Name_used _ _ _ _ hsw]
  refine wpAny_bind (wpAny_standAt (wpAny_bind ?_))
  show wpAny _ X.A (do let _ ← comprehension (.ListComp elt [⟨tg,iter,[],0⟩] scope pos) scope X.env _ (newList []) false (eval iter X.env) (some (assign (.Name y py) X.env))) _ _ s
  refine wpAny_bind (wpAny_mono (wpAny_comprehension_free (use:=some (assign (.Name y py) X.env)) (Q:=λ _ s'=>SP X pins D0 .next s') rfl hs (l4q (c.has I.ok)) c.kind c.locs (thn (hi pins s σ H _ I h) λ v s1 h1=>thn h1 λ itv s2 h2=>?_)) (λ _ s' hq=>wpAny_pure (wpAny_pure hq)) λ _ _ e=>e)
  obtain ⟨it,fp,tn,J,H2,rfl,I2,T,st2,f2,R⟩:=h2
  have hD:H2 s2.heap.objs.size=none:=I2.hok.fresh (Nat.le_refl _)
  obtain ⟨W,⟨m0,w0⟩,turn⟩:=R _ hD
  have I3:Inv X pins σ (upd H2 s2.heap.objs.size (.lst [])) { s2 with heap:=s2.heap.push { cls:=.type "list", dict:=none,data:=.seq ([]:List Value).toArray } }:=
    I2.laid (t':=s2.toks) (λ b u e=>Heap.get?_push_of_some _ e) (Nat.le_refl _) ⟨Nat.zero_le _,[],0,.nil,Heap.get?_push_size _ rfl⟩
  have fpLt:∀ b∈fp,b < s2.heap.objs.size:=λ b hb=>by
    obtain ⟨o,e,_⟩:=T.obj _ _ st2 b hb
    exact Heap.lt_size e
  have f3:∀ b∈fp,iHq X pins (upd H2 s2.heap.objs.size (.lst [])) b:=λ b hb=>⟨by rw [aFq (Nat.ne_of_lt (fpLt b hb))];exact (f2 b hb).1,(f2 b hb).2⟩
  have st3:tn 0 (s2.heap.push { cls:=.type "list", dict:=none,data:=.seq ([]:List Value).toArray }):=T.keep _ _ _ st2 λ b _ o e=>Heap.get?_push_of_some _ e
  generalize hh3:s2.heap.push { cls:=.type "list", dict:=none,data:=.seq ([]:List Value).toArray }=h3 at I3 st3
  have sz3:s2.heap.objs.size < h3.objs.size:=by rw [<- hh3,Heap.size_push];exact Nat.lt_succ_self _
  generalize hDD:s2.heap.objs.size=D at I3 f3 hD w0 turn sz3 fpLt
  refine wpAny_newObj_type ?_
  rw [hDD,hh3]
  refine wpAny_newFunctionEnv c.nocell (by intro y hy;simp at hy) (λ h4 hns4 hsb4=>?_) c.kind
  dsimp only at hns4 hsb4 ⊢
  have keep4:∀ b o,h3.get? b=some o->h4.get? b=some o:=λ b o e=>(hsb4.2 b (Nat.ne_of_lt (Heap.lt_size e))).trans (Heap.get?_push_of_some _ e)
  have I4:=I3.comp (t':=s2.toks+([]:List (Str × Value)).length) c f3 (λ b hb=>Nat.lt_trans (fpLt b hb) sz3) keep4 hns4
  have st4:tn 0 h4:=T.keep _ _ _ st3 λ b _ o e=>keep4 b o e
  dsimp only at I4
  have fin:∀ {σ':St} {H':Hp} {s':Shared},Inv (aOq X scope N' h3.objs.size fp { s2 with heap:=h3 } (upd H2 D (.lst []))) [] σ' H' s'->D0.nx (σ.set k (some (.ref D))) H' →
      compPost (model X.prog X.w) X.A X.xe (some (assign (.Name y py) X.env)) (λ _ s'=>SP X pins D0 .next s') (.ref D) h3.objs.size (.ok .next) s':=λ{σ' H' s'} J' q=>by
    obtain ⟨m,hn,hh⟩:=I3.uncomp rfl f3 J'
    have IX:Inv X pins σ H' s':=hh s'.heap (Heap.SameBut.refl ..)
    have hCL:h3.objs.size≠X.env.locals:=Nat.ne_of_gt I3.lt
    have hCc:∀ x a,X.env.cells.lookup x=some a->a≠h3.objs.size:=λ x a e=>by
      obtain ⟨v,z⟩:=I3.cell x a e
      exact Nat.ne_of_lt z.lt
    show wpAny _ X.A (assign (.Name y py) X.env (.ref D)) _ _ s'
    refine wpAny_assign_Name (jDq IX hN hk hy (v:=.ref D) rfl (λ s'' I'' hch=>?_) hf)
    obtain ⟨a,sb,ha⟩:=hch
    have hCa:h3.objs.size≠a:=by
      rcases ha with z | z
      . rw [z];exact hCL
      . exact (hCc _ _ z).symm
    refine ⟨m,hn.sameBut sb hCa,λ h' hs'=>⟨_,H',?_,q⟩⟩
    exact I''.turned (t':=s''.toks) (λ b o hb e=>(hs'.2 b hb).trans e) J'.free hCL (.inr I3.sz) hCc λ p hp z=>by
      have e:=(I3.pin p hp).1
      rw [z] at e
      exact absurd (Heap.lt_size e) (Nat.lt_irrefl _)
  have stat:∀ {H':Hp},(∀ b∈fp,H' b=none)->∀ b∈fp,iHq (aOq X scope N' h3.objs.size fp { s2 with heap:=h3 } (upd H2 D (.lst []))) [] H' b:=λ{H'} hn b hb=>by
    refine ⟨hn b hb,Nat.ne_of_lt (Nat.lt_trans (fpLt b hb) sz3),λ z=>?_,.inl hb,λ x a e=>(f3 b hb).2.2.2.2.1 x a (c.cells I.ok e),λ p hp=>absurd (show p∈([]:List (Addr × Obj)) from hp) (by simp)⟩
    rcases List.mem_cons.mp (I.stkSub b z) with y | y
    . exact (f3 b hb).2.1 y
    . exact (f3 b hb).2.2.1 y
  have loop:codeAny (model X.prog X.w) X.A (.compLoop (.ListComp elt [⟨tg,iter,[],0⟩] scope pos) 0 (.ref it) (.ref D) (compEnvC scope (bXq X.env.cells scope.names []) h3.objs.size X.env))
      (compPost (model X.prog X.w) X.A X.xe (some (assign (.Name y py) X.env)) (λ _ s'=>SP X pins D0 .next s') (.ref D) h3.objs.size) { s2 with heap:=h4,toks:=s2.toks+([]:List (Str × Value)).length }:=by
    refine codeAny_loop rfl (λ n s'=>∃ i ys σ' H',Inv (aOq X scope N' h3.objs.size fp { s2 with heap:=h3 } (upd H2 D (.lst []))) [] σ' H' s'/\tn i s'.heap/\(∀ b∈fp,H' b=none)/\W i n ys σ' H') (λ n s5 hI=>?_) m0 ⟨0,[],_,_,I4,st4,λ b hb=>(f3 b hb).1,w0⟩
    obtain ⟨i,ys,σ5,H5,I5,st5,fr5,w5⟩:=hI
    show wpAny _ X.A ((compTurn (.ListComp elt [⟨tg,iter,[],0⟩] scope pos) 0 (.ref it) (.ref D) (compEnvC scope (bXq X.env.cells scope.names []) h3.objs.size X.env)).onRaise (λ x=>do noteFrame x (compEnvC scope (bXq X.env.cells scope.names []) h3.objs.size X.env);theTreesLotGoes x)) _ _ s5
    refine wpAny_noted ?_
    rw [compTurn_list1]
    rcases turn i n ys σ5 H5 w5 with ⟨stop,qn⟩ | ⟨go,step⟩
    . refine wpAny_bind (wpAny_standAt (wpAny_bind (wpAny_mono (T.done (aOq X scope N' h3.objs.size fp { s2 with heap:=h3 } (upd H2 D (.lst []))) rfl rfl rfl hc i [] s5 σ5 H5 (λ _ _=>False) I5 (stat fr5) st5 stop) (λ r s6 ⟨hr,I6⟩=>?_) λ _ _ z=>z.elim)))
      subst hr
      exact wpAny_pure (fin I6 qn)
    . refine wpAny_bind (wpAny_standAt (wpAny_bind (wpAny_mono (T.item (aOq X scope N' h3.objs.size fp { s2 with heap:=h3 } (upd H2 D (.lst []))) rfl rfl rfl hc i [] s5 σ5 H5 (λ _ _=>False) I5 (stat fr5) st5 go) (λ r s6 ⟨u,hr,h6⟩=>?_) λ _ _ z=>z.elim)))
      subst hr
      refine wpAny_bind (wpAny_mono h6 (λ _ s7 ⟨x,H7,I7,r7,y7,st7,fr7⟩=>?_) λ _ _ z=>z.elim)
      have I7':=I7.pinned (stat fr7) (T.obj _ _ st7)
      refine wpAny_bind (wpAny_mono (hg _ _ _ _ _ s7 σ5 H7 x u _ I7' r7 (step x H7 y7)) (λ _ s8 ⟨σ8,H8,I8,q8⟩=>?_) λ _ _ z=>z.elim)
      refine wpAny_bind (wpAny_bind (wpAny_mono (he _ _ _ _ _ s8 σ8 H8 _ I8 q8) (λ yv s9 ⟨y,H9,I9,r9,e9,z9,m',hm',w9⟩=>?_) λ _ _ z=>z.elim))
      refine wpAny_bind (wpAny_mono (dPq (X:=aOq X scope N' h3.objs.size fp { s2 with heap:=h3 } (upd H2 D (.lst []))) _ s9 σ8 H9 (.ref D) [y] (.ref D) [yv] (λ v H10=>v=.non/\H10=upd H9 D (.lst (ys++[y]))) I9 rfl (.cons r9 .nil) ⟨D,ys,y,rfl,rfl,e9,z9,rfl,rfl⟩)
        (λ _ s10 ⟨v10,H10,I10,_,_,e10⟩=>?_) λ _ _ z=>z.elim)
      subst e10
      refine wpAny_pure (wpAny_pure ⟨rfl,m',hm',i+1,ys++[y],σ8,_,I10.unpinned,?_,λ b hb=>?_,w9⟩)
      . exact T.keep _ _ _ st7 λ b hb o e=>(I10.pin (b,o) (List.mem_append_right _ (List.mem_append_right _ (b9q hb e)))).1
      . obtain ⟨o,e,d⟩:=T.obj _ _ st7 b hb
        exact (I10.pin (b,o) (List.mem_append_right _ (List.mem_append_right _ (b9q hb e)))).2.1
  exact codeAny_compStart_list loop (T.self _ 0 _ _ _ st4 loop)
end
def Itd (hi:Int) (n:Nat):It:=⟨λ i _=>i < n,λ i H x H'=>H'=H/\x=.int (hi - i),λ i _=>n<=i⟩
theorem o4q {P:Program} {w:World} {K:PySem.W.Frag} {tg:Expr} (it:Addr) (hi:Int) (n:Nat):Turn P w K tg (Itd hi n) [it] it (λ i h=>IsRangeIter h it (hi+(i:Nat) * (-1)) ((n:Int) - (i:Nat)) (-1)) where
  mem:=by simp
  obj:=λ i h st b hb=>by
    have e:b=it:=by simpa using hb
    subst e
    exact ⟨_,st,λ v z=>by
      have z':Data.fields _=Data.cell v:=z
      cases z'⟩
  keep:=λ i h h' st k=>k it (by simp) _ st
  item:=by
    intro X hP hw hK hc i pins s σ H E I hf st hg
    subst hP hw hK
    obtain ⟨f0,f1,f2,f3,f4,f5⟩:=hf it (by simp)
    have W:=Walks.range (prog:=X.prog) (w:=X.w) (I.ok.hd hc) it hi (-1) n
    refine W.item i s _ _ hg st λ v h' tk hv st' kk=>?_
    obtain ⟨t,rfl⟩:=hv
    have I1:Inv X pins σ H { s with heap:=h',toks:=tk }:=I.turned (λ b o hb e=>kk b o (by simpa using hb) e) f0 f1 f3 f4 f5
    refine ⟨_,rfl,sNq (s:={ s with heap:=h',toks:=tk }) (n:="range_iterator") st' rfl rfl (by decide) ⟨.int (hi - i),H,I1,⟨t,?_⟩,⟨rfl,rfl⟩,st',λ b hb=>(hf b hb).1⟩⟩
    rw [show hi - (i:Int)=hi+(i:Int) * (-1) by omega]
  done:=by
    intro X hP hw hK hc i pins s σ H E I hf st hg
    subst hP hw hK
    obtain ⟨f0,f1,f2,f3,f4,f5⟩:=hf it (by simp)
    exact wpAny_pyNext_range_end (I.ok.hd hc) st (by have:n<=i:=hg;omega) λ h' eb=>⟨rfl,I.turned (t':=s.toks) (λ b o hb e=>eb b o hb e) f0 f1 f3 f4 f5⟩
  self:=λ _ _ _ _ _ st h=>wpAny_pyIter_rangeiter st h
theorem d0q (a b:Int):Builtin.Range.rangeSize a b (-1)=if a > b then a - b else 0:=by
  unfold Builtin.Range.rangeSize
  rw [if_neg (by decide)]
  split
  . rw [show -(-1:Int)=1 by decide,Int.ediv_one];omega
  . rfl
theorem mSq {a b:Int} (ha:-(2 ^ 62)<=a) (ha':a < 2 ^ 62) (hb:-(2 ^ 62)<=b) (hb':b < 2 ^ 62):Builtin.Range.small a b (-1)=true:=by
  unfold Builtin.Range.small
  rw [d0q]
  rw [if_neg (show ¬ ((-1:Int) > 0) by decide)]
  simp only [Builtin.Range.rangeFitsLong,Bool.and_eq_true,Bool.or_eq_true,decide_eq_true_eq,beq_iff_eq]
  split<;>omega
section
variable {X:Cx} {tg:Expr}
def zPq (ta:TA):TI:=λ σ H R=>ta σ H λ vs H1=>∃ i:Int,vs=[.int i,.int (-1),.int (-1)]/\(-(2 ^ 62)<=i/\i < 2 ^ 62)/\R (Itd i (i+1).toNat) H1
theorem p2q {a b c:Expr} {ta:TA} {p pos:Pos} (hg:Gl X "range") (hm:X.mg "range" = none) (ha:PA X [a,b,c] ta) (h1:aLq a=true:=by rfl) (h2:aLq b=true:=by rfl) (h3:aLq c=true:=by rfl) :
    PI X tg (.Call (.Name "range" p) [a,b,c] [] pos) (zPq ta):=by
  intro pins s σ H R I h
  have hs:starEach [a,b,c] X.env=(false,eval a X.env)::starEach [b,c] X.env:=a9q h1
  have hp:(backTo pos (starEach [b,c] X.env)).any (·.1)=false:=by rw [a9q h2,a9q h3];rfl
  refine Call_ (c0q I hg hm boot_range (PyProof.Rows.callWith_type1 (thn (ha pos pins s σ H _ I h) λ us s1 ⟨vs,H1,I1,r1,q1⟩=>?_) hs hp))
  obtain ⟨i,e,⟨q1,q2⟩,q⟩:=q1
  subst e
  cases r1 with
  | cons r rr=>
    cases rr with
    | cons r' rr=>
      cases rr with
      | cons r'' rr=>
        cases rr
        obtain ⟨t,rfl⟩:=r
        obtain ⟨t',rfl⟩:=r'
        obtain ⟨t'',rfl⟩:=r''
        refine call_range_3 (by decide) ?_ (.inl (PyProof.noPylong_of_log2 (by decide +kernel)))
        refine wpAny_pyIter_range (IsRange.new ..) (mSq q1 q2 (by decide) (by decide)) ?_
        have I2:Inv X pins σ H1 { s1 with heap:=s1.heap.push { cls:=.type "range", data:=.fields #[.int i t,.int (-1) t',.int (-1) t''] },toks:=s1.toks }:=I1.kept λ b o e=>Heap.get?_push_of_some _ e
        refine ⟨(s1.heap.push { cls:=.type "range", data:=.fields #[.int i t,.int (-1) t',.int (-1) t''] }).objs.size,[(s1.heap.push { cls:=.type "range", data:=.fields #[.int i t,.int (-1) t',.int (-1) t''] }).objs.size],_,_,H1,rfl,
          I2.kept (t':=s1.toks) λ b o e=>Heap.get?_push_of_some _ e,o4q _ i (i+1).toNat,?_,λ b hb=>?_,q⟩
        . have e1:i+((0:Nat):Int) * (-1)=i:=by simp
          have e2:(((i+1).toNat:Nat):Int) - ((0:Nat):Int)=Builtin.Range.rangeSize i (-1) (-1):=by rw [d0q];split<;>omega
          show IsRangeIter _ _ (i+((0:Nat):Int) * (-1)) ((((i+1).toNat:Nat):Int) - ((0:Nat):Int)) (-1)
          rw [e1,e2]
          exact Heap.get?_push_size _ rfl
        . have e:b=(s1.heap.push { cls:=.type "range", data:=.fields #[.int i t,.int (-1) t',.int (-1) t''] }).objs.size:=by simpa using hb
          subst e
          exact I2.fpOk (Nat.le_refl _) (I2.hok.fresh (Nat.le_refl _))
end
end L2
namespace L2
open PySem PySem.Spec PyProof.Rows Builtin
section
variable {X:Cx}
theorem mEq {us:List Value} {xs:List V} (r:Vals xs us):∀ k:Nat,Vals (List.replicate k xs).flatten (List.replicate k us).flatten
  | 0=>.nil
  | k+1=>by
    rw [List.replicate_succ,List.replicate_succ,List.flatten_cons,List.flatten_cons]
    exact r.append (mEq r k)
end
section
variable {X:Cx} {a b c e:Expr} {t:TA} {te:TE} {pos p:Pos}
theorem oBq {tg:Expr} (hg:Gl X "range") (hm:X.mg "range" = none) (ha:JA X [a,b,c] t) (h1:aLq a=true:=by rfl) (h2:aLq b=true:=by rfl) (h3:aLq c=true:=by rfl):JI X tg (.Call (.Name "range" p) [a,b,c] [] pos) (zPq t):=
  ⟨p2q hg hm ha.run h1 h2 h3⟩
variable {scope:Scope} {N':List Str} {nt:Nat} {cap:List Nat} {elt iter tg:Expr} {wi:TI} {g:TG}
theorem mKq {y:Str} {py spos:Pos} {k:Nat} (hc:X.calm=true) (hN:X.N.Nodup) (hk:X.N[k]?=some y) (hy:Loc X.env.scope y) (ok:CompOk X scope N' nt cap) (hi:JI X tg iter wi) (hg:∀ C ex s H,JG (aOq X scope N' C ex s H) tg g) (he:∀ C ex s H,JE (aOq X scope N' C ex s H) elt te)
    (hs:∀ x,foldedSetIterable iter X.env x=pure x:=by intro _;rfl) (hsw:swapsWith (.ListComp elt [⟨tg,iter,[],0⟩] scope pos) (some (.Name y py)) spos.line X.env=pure true:=by rfl) (hf:X.fn y=true\/X.env.scope.names.lookup y=some .local:=by first | exact .inl rfl | exact .inr rfl | assumption) :
    JS X (.Assign [.Name y py] (.ListComp elt [⟨tg,iter,[],0⟩] scope pos) spos) (wRq (pDq wi g te nt cap) (mHq k)):=⟨mUq hc hN hk hy ok hi.run (λ C ex s H=>(hg C ex s H).run) (λ C ex s H=>(he C ex s H).run) hs hsw hf⟩
end
structure FnV (P:Program) (w:World) (K:PySem.W.Frag) (mg:Str->Option Value) (base:Heap) (k:Nat) (f:Addr) (sp:Sp):Prop where
  ex:∃ (fd:FuncData) (ps:List Str),FnOk P w K mg base CX0 k f fd ps sp/\PySem.W.keepIn K (.ref f)=true/\Binds K fd ps []
theorem Got.fnV {P:Program} {w:World} {K:PySem.W.Frag} {mg:Str->Option Value} {base:Heap} {k:Nat} {x:Str} {ps:List Str} {sp:Sp} (G:Got P w K mg base k x ps sp):∃ f,mg x=some (.ref f)/\FnV P w K mg base k f sp:=by
  obtain ⟨f,fd,F,hm,kp,b⟩:=G.ex
  exact ⟨f,hm,fd,ps,F,kp,b⟩
def tBq (i:Nat) (f:Addr) (sp:Sp) (t:TA):TE:=λ σ H Q=>σ[i]?=some (some (.ref f))/\sOq sp [] E0 t σ H Q
section
variable {X:Cx} {k j:Nat} {f:Addr} {x:Str} {sp:Sp} {p pos:Pos} {e:Expr} {es:List Expr} {t:TA}
theorem aL2q {i:Nat} (G:FnV X.prog X.w X.K X.mg X.base k f sp) (hr:Room j X.A) (hk:k<=j) (hN:X.N[i]?=some x) (hv:Vis X.env.scope x) (ha:PA X (e::es) t) (hd:(x==("__debug__" : Str))=false) (hcd:(x==("__classdict__" : Str))=false)
    (he:starEach (e::es) X.env=(false,eval e X.env)::starEach es X.env) (hpl:(backTo pos (starEach es X.env)).any (·.1)=false) :
    PE X (.Call (.Name x p) (e::es) [] pos) (tBq i f sp t):=by
  intro pins s σ H Q I h
  obtain ⟨e1,h⟩:=h
  obtain ⟨fd,ps,F,kp,b⟩:=G.ex
  refine wpAny_Call_Name_kw (thn (oVq (pos:=p) hN hv hd hcd pins s σ H (λ v H1=>v=.ref f/\H1=H) I ⟨_,e1,rfl,rfl⟩) λ u s1 ⟨v,H1,I1,r1,ev,eH⟩=>?_)
  subst ev eH
  obtain rfl:u=Value.ref f:=r1
  refine PySem.W.callWith_K (h₀:=X.base) I.ok.mod.kin kp (thn (ha pos pins s1 σ H1 _ I1 h) λ us s2 ⟨vs,H2,I2,r,q⟩=>⟨I2.kIn,?_⟩) he hpl
  exact tMq F (hr.mono hk) b .nil xUq I2 r q
theorem aL3q (i:Nat) (G:FnV X.prog X.w X.K X.mg X.base k f sp) (hr:Room j X.A) (hk:k<=j) (ha:JA X (e::es) t) (hN:X.N[i]?=some x:=by rfl) (hv:Vis X.env.scope x:=by first | exact Or.inl rfl | exact Or.inr (Or.inl rfl) | exact Or.inr (Or.inr rfl))
    (hd:(x==("__debug__" : Str))=false:=by decide) (hcd:(x==("__classdict__" : Str))=false:=by decide) (hs:(e::es).all aLq=true:=by rfl):JE X (.Call (.Name x p) (e::es) [] pos) (tBq i f sp t):=by
  have h:=hs
  rw [List.all_cons,Bool.and_eq_true] at h
  exact ⟨aL2q G hr hk hN hv ha.run hd hcd (a9q h.1) (bHq h.2)⟩
end
end L2
namespace KRv
open PySem PyProof.Rows
theorem own:Manifest.owners.lookup (String.ofList ['d', 'e', 's', 'r', 'e', 'v', 'e', 'r'].reverse)=some Manifest.sig_reversed:=by kernel_rfl
theorem sNext:Slot "reversed" "__next__" "reversed.__next__":=.of (owner:="reversed") (n:="__next__") (by rw [typeLookup_type,builtinLookup_eq_fast];kernel_rfl) (by decide +kernel) (by decide +kernel) (by decide +kernel) (by first | exact .inl (by decide +kernel) | exact .inr (by decide +kernel)) (by rw [isSubtype_type];kernel_rfl)
theorem p4q:Slot "reversed" "__iter__" "reversed.__iter__":=.of (owner:="reversed") (n:="__iter__") (by rw [typeLookup_type,builtinLookup_eq_fast];kernel_rfl) (by decide +kernel) (by decide +kernel) (by decide +kernel) (by first | exact .inl (by decide +kernel) | exact .inr (by decide +kernel)) (by rw [isSubtype_type];kernel_rfl)
theorem sHint:Slot "reversed" "__length_hint__" "reversed.__length_hint__":=.of (owner:="reversed") (n:="__length_hint__") (by rw [typeLookup_type,builtinLookup_eq_fast];kernel_rfl) (by decide +kernel) (by decide +kernel) (by decide +kernel) (by first | exact .inl (by decide +kernel) | exact .inr (by decide +kernel)) (by rw [isSubtype_type];kernel_rfl)
theorem aJ5q:Slot "reversed" "__init__" "object.__init__":=.of (owner:="object") (n:="__init__") (by rw [typeLookup_type,builtinLookup_eq_fast];kernel_rfl) (by decide +kernel) (by decide +kernel) (by decide +kernel) (by first | exact .inl (by decide +kernel) | exact .inr (by decide +kernel)) (by rw [isSubtype_type];kernel_rfl)
theorem kHq:entryFor table "reversed.__next__" = some Builtin.«reversed.__next__»:=entryFor_of_tree (by kernel_rfl)
theorem aM5q:entryFor table "reversed.__length_hint__" = some Builtin.«reversed.__length_hint__»:=entryFor_of_tree (by kernel_rfl)
theorem u7q:entryFor table "reversed.__iter__" = some Builtin.«dict_keyiterator.__iter__»:=entryFor_alias (id':="dict_keyiterator.__iter__") (by kernel_rfl) (by first | rfl | decide +kernel | (unfold String.splitOn;simp +decide [String.splitOnAux])) (by decide +kernel) (by kernel_rfl)
theorem lEq (a:Value):argsOk "reversed.__next__" ⟨[a],[]⟩:=by unfold argsOk;rw [signature?_of (id:="reversed.__next__") (n:=['_', '_', 't', 'x', 'e', 'n', '_', '_']) (o:=['d', 'e', 's', 'r', 'e', 'v', 'e', 'r']) (by kernel_rfl) own];kernel_rfl
theorem uWq (a:Value):argsOk "reversed.__iter__" ⟨[a],[]⟩:=by unfold argsOk;rw [signature?_of (id:="reversed.__iter__") (n:=['_', '_', 'r', 'e', 't', 'i', '_', '_']) (o:=['d', 'e', 's', 'r', 'e', 'v', 'e', 'r']) (by kernel_rfl) own];kernel_rfl
theorem aN7q (a:Value):argsOk "reversed.__length_hint__" ⟨[a],[]⟩:=by unfold argsOk;rw [signature?_of (id:="reversed.__length_hint__") (n:=['_', '_', 't', 'n', 'i', 'h', '_', 'h', 't', 'g', 'n', 'e', 'l', '_', '_']) (o:=['d', 'e', 's', 'r', 'e', 'v', 'e', 'r']) (by kernel_rfl) own];kernel_rfl
theorem zZq:TypeCalled "reversed" "reversed.__new__" "object.__init__":=⟨by decide +kernel,by decide +kernel,⟨_,_,F.mro_reversed⟩,F.made_reversed,by decide +kernel,by rw [isSubtype_type];kernel_rfl,aJ5q⟩
theorem aM2q:typeLookup (.type "reversed") "__len__" = pure none:=by rw [typeLookup_type,builtinLookup_eq_fast];kernel_rfl
theorem aB5q:typeLookup (.type "list_reverseiterator") "__len__" = pure none:=by rw [typeLookup_type,builtinLookup_eq_fast];kernel_rfl
theorem aG3q:typeLookup (.type "list_reverseiterator") "__length_hint__" = pure (some (.builtin "list_reverseiterator.__length_hint__")):=by rw [typeLookup_type,builtinLookup_eq_fast];kernel_rfl
theorem aI5q:typeLookup (.type "tuple") "__reversed__" = pure none:=by rw [typeLookup_type,builtinLookup_eq_fast];kernel_rfl
theorem zWq:isSubtype (.type "tuple") (.type "dict")=pure false:=by rw [isSubtype_type];kernel_rfl
abbrev IsRev (h:Heap) (it t:Addr) (k:Int):Prop:=h.get? it=some { cls:=.type "reversed", dict:=none,data:=.fields #[.ref t,rawInt k],slots:=#[] }
section
variable {prog:Program} {w:World} {A:Around} {E:Value->Shared->Prop} {s:Shared} {it t:Addr}
theorem stops {α:Type} {Q:α->Shared->Prop} (hh:A.handled=none) (h:∀ h' e,(∀ b o,s.heap.get? b=some o->h'.get? b=some o)->Shared.TypeIs { s with heap:=h' } (.ref e) "StopIteration"->E (.ref e) { s with heap:=h' }):wpAny (model prog w) A (Builtin.SmallTypes.stopIteration:Sem α) Q E s:=by
  unfold Builtin.SmallTypes.stopIteration
  refine wpAny_bind ?_
  unfold newExc newTuple
  refine wpAny_bind (wpAny_newObj_type ?_ (by size_fits))
  rw [show firstArgMember (.type "StopIteration") []=pure Value.none from by unfold firstArgMember;rfl,pure_bind]
  refine wpAny_newObj_type ?_ (by size_fits)
  unfold raiseNew
  refine wpAny_bind (wpAny_handled ?_)
  rw [hh]
  exact wpAny_throw (h _ _ (λ b o e=>Heap.get?_push_of_some _ (Heap.get?_push_of_some _ e)) ⟨_,Heap.get?_push_size _ rfl,rfl⟩)
theorem aM9q {k:Int} {Q:Value->Shared->Prop} (hit:IsRev s.heap it t k) (h:Q (.ref it) s):wpAny (model prog w) A (pyIter (.ref it)) Q E s:=
  have hT:s.TypeIs (.ref it) "reversed":=⟨_,hit,rfl⟩
  wpAny_pyIter_slot hT p4q (wpAny_call_entry p4q hT u7q (wpAny_pure ⟨_,rfl,"reversed", _,hT,sNext.lookup,h⟩) (uWq _))
theorem aK0q {k:Nat} {items:Array Value} {x:Value} {Q:Option Value->Shared->Prop} (hit:IsRev s.heap it t k) (ht:IsTup s.heap t items) (hx:items[k]?=some x) (hk:(k:Int) < 2 ^ 63)
    (hQ:∀ h' tk,IsRev h' it t ((k:Int) - 1)->Heap.SameBut it s.heap h'->Q (some x) { s with heap:=h',toks:=tk }):wpAny (model prog w) A (pyNext (.ref it)) Q E s:=by
  have hT:s.TypeIs (.ref it) "reversed":=⟨_,hit,rfl⟩
  have hlt:k < items.size:=(Array.getElem?_eq_some_iff.mp hx).1
  unfold pyNext
  refine wpAny_bind (wpAny_attempt (wpAny_callSpecial?_slot hT sNext (wpAny_call_entry sNext hT kHq ?_ (lEq _))))
  refine (show wpAny (model prog w) A.in1 (field (.ref it) 0 >>= _) _ _ s from wpAny_bind (wpAny_field hit rfl (x:=.ref t) rfl ?_))
  refine (show wpAny (model prog w) A.in1 (field (.ref it) 1 >>= _) _ _ s from wpAny_bind (wpAny_field hit rfl (x:=rawInt k) rfl ?_))
  refine (show wpAny (model prog w) A.in1 (if (k:Int) < 0 then _ else _) _ _ s from ?_)
  rw [if_neg (by omega)]
  refine wpAny_bind (wpAny_specialOf ht.typeIs slot_tuple_getitem.lookup ?_)
  rw [if_neg (by simp)]
  refine (show wpAny (model prog w) A.in1 (mkInt k >>= _) _ _ s from wpAny_bind (wpAny_mkInt ?_))
  refine wpAny_bind (wpAny_attempt (getItem_tuple (j:=k) (x:=x) (s:={ s with toks:=s.toks+1 }) ht (by omega) hk (by simp [seqIndex?];omega) hx ?_))
  refine (show wpAny (model prog w) A.in1 (field (.ref it) 1 >>= _) _ _ _ from wpAny_bind (wpAny_field hit rfl (x:=rawInt k) rfl ?_))
  exact wpAny_bind (wpAny_setField hit rfl (by simp) (wpAny_pure ⟨x,rfl,wpAny_pure (hQ _ _ (Heap.get?_update_self _ hit rfl) (Heap.SameBut.update ..))⟩))
theorem endT {k:Int} {Q:Option Value->Shared->Prop} (hh:A.handled=none) (hit:IsRev s.heap it t k) (hk:k < 0) (hQ:∀ h',Heap.ExtBut it s.heap h'->Q none { s with heap:=h' }):wpAny (model prog w) A (pyNext (.ref it)) Q E s:=by
  have hT:s.TypeIs (.ref it) "reversed":=⟨_,hit,rfl⟩
  unfold pyNext
  refine wpAny_bind (wpAny_attempt (wpAny_callSpecial?_slot hT sNext (wpAny_call_entry sNext hT kHq ?_ (lEq _))))
  refine (show wpAny (model prog w) A.in1 (field (.ref it) 0 >>= _) _ _ s from wpAny_bind (wpAny_field hit rfl (x:=.ref t) rfl ?_))
  refine (show wpAny (model prog w) A.in1 (field (.ref it) 1 >>= _) _ _ s from wpAny_bind (wpAny_field hit rfl (x:=rawInt k) rfl ?_))
  refine (show wpAny (model prog w) A.in1 (if k < 0 then _ else _) _ _ s from ?_)
  rw [if_pos hk]
  refine wpAny_bind (wpAny_rule (wpAny_bind ?_))
  refine (show wpAny (model prog w) A.in1 (setField (.ref it) 1 (rawInt (-1)) >>= λ _=>setField (.ref it) 0 .none) _ _ s from wpAny_bind (wpAny_setField hit rfl (by simp) ?_))
  refine wpAny_setField (Heap.get?_update_self (Obj.mapFields (·.setIfInBounds 1 (rawInt (-1)))) hit rfl) rfl (by simp) ?_
  refine wpAny_bind (stops (A:=A.in1) hh λ h' e kk hs=>?_)
  refine wpAny_bind (wpAny_isInstance (T:="StopIteration") (b:=true) hs isSubtype_stop (wpAny_pure (hQ _ λ b o hb e=>kk b o ?_)))
  exact ((Heap.SameBut.update ..).trans (Heap.SameBut.update ..)).extBut b o hb e
theorem aI7q {k:Int} {items:Array Value} {Q:Value->Shared->Prop} (hit:IsRev s.heap it t k) (ht:IsTup s.heap t items) (hz:(items.size:Int) < 2 ^ 63) (hk:k+1=items.size)
    (h:∀ u tk,s.toks<=tk->Q (.int (items.size:Int) u) { s with toks:=tk }):wpAny (model prog w) A (call (.builtin "reversed.__length_hint__") [.ref it]) Q E s:=by
  have hT:s.TypeIs (.ref it) "reversed":=⟨_,hit,rfl⟩
  refine wpAny_call_entry sHint hT aM5q ?_ (aN7q _)
  refine (show wpAny (model prog w) A.in1 (field (.ref it) 0 >>= _) _ _ s from wpAny_bind (wpAny_field hit rfl (x:=.ref t) rfl ?_))
  refine (show wpAny (model prog w) A.in1 (if (Value.ref t==Value.none)=true then _ else _) _ _ s from ?_)
  rw [if_neg (show ¬ ((Value.ref t==Value.none)=true) from Bool.false_ne_true)]
  refine (show wpAny (model prog w) A.in1 (call (.builtin "len") [.ref t] >>= _) _ _ s from wpAny_bind (len_tuple ht hz ?_))
  refine wpAny_bind (m:=asInt? (.int (items.size:Int) _)) (wpAny_pure ?_)
  refine (show wpAny (model prog w) A.in1 (field (.ref it) 1 >>= _) _ _ _ from wpAny_bind (wpAny_field hit rfl (x:=rawInt k) rfl ?_))
  refine (show wpAny (model prog w) A.in1 (if (items.size:Int) < k+1 then _ else _) _ _ _ from ?_)
  rw [if_neg (by omega),hk]
  exact wpAny_bind (wpAny_mkInt (wpAny_pure ⟨_,rfl,h _ _ (by simp;omega)⟩))
end
theorem newT (t:Addr) (items:Array Value) (hz:(items.size:Int) < 2 ^ 63) :
    Meets (Builtin.«reversed.__new__» ⟨[.type "reversed", .ref t],[]⟩) (λ _ R s=>IsTup s.heap t items ∧
      ∀ tk,R (.ok (.ret (.ref s.heap.objs.size))) { s with heap:=s.heap.push { cls:=.type "reversed", data:=.fields #[.ref t,rawInt ((items.size:Int) - 1)] },toks:=tk }):=
  .of_wp λ prog w A R s ⟨ht,h⟩=>by
    unfold Builtin.«reversed.__new__»
    refine wpAny_bind (wpAny_of_eq (newClass_reversed _) (wpAny_bind (m:=Builtin.SmallTypes.refuseKeywords _ _ _) (wpAny_pure ?_)))
    refine wpAny_bind (wpAny_of_eq (a:=()) (by rfl) (wpAny_bind (wpAny_specialOf ht.typeIs aI5q (wpAny_bind ?_))))
    refine (show wpAny (model prog w) A.in1 (isInstance (Value.ref t) (.type "dict") >>= _) _ _ s from wpAny_bind (wpAny_isInstance (T:="tuple") (b:=false) ht.typeIs zWq ?_))
    rw [if_neg (by decide)]
    refine wpAny_bind (wpAny_specialOf ht.typeIs slot_tuple_getitem.lookup ?_)
    refine (show wpAny (model prog w) A.in1 (if (["tuple.__getitem__", "str.__getitem__", "bytes.__getitem__", "bytearray.__getitem__", "memoryview.__getitem__", "numpy.ndarray.__getitem__", "sqlite3.Row.__getitem__"].contains "tuple.__getitem__")=true then _ else _) _ _ s from ?_)
    rw [if_pos (by decide)]
    refine wpAny_pure ?_
    rw [if_neg (by decide)]
    refine (show wpAny (model prog w) A.in1 (call (.builtin "len") [.ref t] >>= _) _ _ s from wpAny_bind (len_tuple ht hz ?_))
    refine wpAny_bind (m:=asInt? (.int (items.size:Int) _)) (wpAny_pure ?_)
    refine (show wpAny (model prog w) A.in1 (newObj (.type "reversed") (.fields #[.ref t,rawInt ((items.size:Int) - 1)]) >>= _) _ _ _ from wpAny_bind (wpAny_newObj_type ?_ (by size_fits)))
    exact wpAny_pure ⟨_,rfl,h _⟩
theorem callT {prog:Program} {w:World} {A:Around} {E:Value->Shared->Prop} {s:Shared} {t:Addr} {items:Array Value} {Q:Value->Shared->Prop} (ht:IsTup s.heap t items) (hz:(items.size:Int) < 2 ^ 63)
    (h:∀ tk,Q (.ref s.heap.objs.size) { s with heap:=s.heap.push { cls:=.type "reversed", data:=.fields #[.ref t,rawInt ((items.size:Int) - 1)] },toks:=tk }):wpAny (model prog w) A (call (.type "reversed") [.ref t]) Q E s:=
  callType_new zZq (by decide) (F.typeCall_reversed_1 _) (F.newCall_reversed_1 _) (λ obj=>F.args_object_init_2 obj _) F.entry_reversed_new (newT t items hz) ⟨ht,λ tk=>⟨⟨_,Heap.get?_push_size _ rfl,rfl⟩,h tk⟩⟩
theorem aN3q {prog:Program} {w:World} {A:Around} (hh:A.handled=none) (I t:Addr) (hne:t≠I) (items:Array Value) (hz:(items.size:Int) < 2 ^ 63) :
    Walks prog w A I [I,t] [I] items.size (λ i v=>items[items.size - 1 - i]?=some v) (λ i h=>IsRev h I t ((items.size:Int) - 1 - i)/\IsTup h t items) where
  sub:=λ b hb=>by rw [List.mem_singleton.mp hb];exact List.mem_cons_self
  frame:=λ _ _ _ st hk=>⟨hk I (by simp) _ st.1,let ⟨o,ho,r⟩:=st.2;⟨o,hk t (by simp) _ ho,r⟩⟩
  item:=λ i s Q E hi st hQ=>by
    have st1:IsRev s.heap I t ((items.size - 1 - i:Nat):Int):=by rw [show ((items.size - 1 - i:Nat):Int)=(items.size:Int) - 1 - i by omega];exact st.1
    refine aK0q st1 st.2 (x:=items[items.size - 1 - i]) (by simp<;>omega) (by omega) λ h' tk hit' hs'=>?_
    rw [show ((items.size - 1 - i:Nat):Int) - 1=(items.size:Int) - 1 - ((i+1:Nat):Int) by omega] at hit'
    exact hQ _ h' tk (by simp<;>omega) ⟨hit',st.2.extBut hs'.extBut hne⟩ λ b o hb e=>hs'.extBut b o (λ z=>hb (List.mem_singleton.mpr z)) e
  done:=λ s Q E st hQ=>endT hh st.1 (by omega) λ h' he=>hQ h' s.toks λ b o hb e=>he b o (λ z=>hb (List.mem_singleton.mpr z)) e
  self:=λ i s Q E st h=>aM9q st.1 h
def uXq (prog:Program) (w:World) (A:Around) (I:Addr) (St:Nat->Shared->Prop):Prop:=
  ∀ (s:Shared) (Q:Bool->Shared->Prop) (E:Value->Shared->Prop),St 0 s->(∀ b tk,s.toks<=tk->Q b { s with toks:=tk })->wpAny (model prog w) A (Builtin.List.listLengthHint (.ref I)) Q E s
structure It (prog:Program) (w:World) (A:Around) (I:Addr) (fp wr:List Addr) (n:Nat) (P:Nat->Value->Prop) (St:Nat->Shared->Prop):Prop where
  walk:WalksS prog w A I fp wr (λ a b=>b=a) n P St
  ty:∃ T,(Value.type T==Value.type "list")=false/\(Value.type T==Value.type "tuple")=false/\∀ i s,St i s->s.TypeIs (.ref I) T
  hint:uXq prog w A I St
  mem:I∈fp
  few:n<=sizeLine
section
variable {prog:Program} {w:World} {A:Around} {E:Value->Shared->Prop} {s:Shared} {R:Result->Shared->Prop} {I S:Addr} {fp wr:List Addr} {n:Nat} {P:Nat->Value->Prop} {St:Nat->Shared->Prop}
abbrev listAt (acc:Array Value) (c:Nat):Obj:={ cls:=.type "list", dict:=none,data:=.seq acc c,slots:=#[] }
theorem zGq (J:It prog w A.in1 I fp wr n P St) (res:Value) (c₀:Nat) (hst:St 0 s) (hSf:S ∉ fp) (hS:s.heap.get? S=some (listAt #[] c₀))
    (hR:∀ s' acc c,Moved (S::wr) (λ a b=>b=a) s s'->s'.heap.get? S=some (listAt acc c)->ItemsOf P acc n->R (.ok (.ret res)) s') :
    wpAny (model prog w) A.in1 (Builtin.List.listExtendWith (.ref S) (.ref I) res)
      (λ fin s'=>match fin with | .done f=>R (.ok f) s' | .again c'=>c'.quiet=true/\codeAny (model prog w) A c' R s') (λ e s'=>R (.error e) s') s:=by
  obtain ⟨T,t1,t2,hT⟩:=J.ty
  have W:=J.walk
  have h1:Builtin.List.listSameRef (.ref S) (.ref I)=false:=by
    have:S≠I:=λ e=>hSf (e ▸ J.mem)
    simp [Builtin.List.listSameRef,this]
  unfold Builtin.List.listExtendWith
  refine wpAny_bind (wpAny_typeOf (hT 0 _ hst) ?_)
  rw [h1,t1,t2,Bool.or_false,Bool.or_false,if_neg Bool.false_ne_true]
  refine wpAny_bind (W.self 0 _ _ _ hst (wpAny_bind (wpAny_holding (J.hint _ _ _ hst λ b tk htk=>?_))))
  have go:∀ (h':Heap) (c:Nat),(∀ b o,b≠S->s.heap.get? b=some o->h'.get? b=some o)->h'.get? S=some (listAt #[] c) →
      codeAny (model prog w) A (.builtin "list.extend.loop" ⟨[.ref S,.ref I,res],[]⟩) R { s with heap:=h',toks:=tk }:=λ h' c kk e=>
    codeAny_extend_loopS W J.few _ hSf _ n 0 _ _ _ rfl (Nat.zero_le _) (W.frame 0 s h' tk hst htk λ b hb o e=>kk b o (λ z=>hSf (z ▸ hb)) e) e (ItemsOf.nil P) λ s' acc c' hm hS' hacc=>
      hR s' acc c' (Moved.trans (s':={ s with heap:=h',toks:=tk }) W.gtrans ⟨λ b o hb e=>kk b o (λ z=>hb (by rw [z];exact List.mem_cons_self)) e,rfl,rfl,rfl,htk⟩ hm) hS' hacc
  refine wpAny_ite_split (λ _=>wpAny_bind (wpAny_rule (wpAny_bind ?_))) (λ _=>wpAny_pure ⟨plainId_quiet F.plain_extend_loop _,go _ _ (λ _ _ _ e=>e) hS⟩)
  refine (show wpAny (model prog w) A.in1 (updateSeq S (·.push .none) >>= λ _=>updateSeq S (·.pop)) _ _ _ from wpAny_bind (wpAny_updateSeq hS rfl ?_))
  have e2:=Heap.get?_update_self (Obj.mapSeq (·.push Value.none)) hS rfl
  refine wpAny_updateSeq (hz:=by seq_fits) e2 rfl (wpAny_pure ⟨plainId_quiet F.plain_extend_loop _,go _ _ (λ b o hb e=>?_) (Heap.get?_update_self (Obj.mapSeq (·.pop)) e2 rfl)⟩)
  exact (Heap.get?_update_other _ _ (Ne.symm hb)).trans ((Heap.get?_update_other _ _ (Ne.symm hb)).trans e)
theorem listOf {Q:Value->Shared->Prop} (J:It prog w A.in1.in1 I fp wr n P St) (hst:St 0 s) (hfp:∀ b∈fp,b < s.heap.objs.size)
    (hQ:∀ s' acc c,Moved (s.heap.objs.size::wr) (λ a b=>b=a) { s with heap:=s.heap.push (listAt #[] 0) } s'->s'.heap.get? s.heap.objs.size=some (listAt acc c)->ItemsOf P acc n->Q (.ref s.heap.objs.size) s') :
    wpAny (model prog w) A (call (.type "list") [.ref I]) Q E s:=by
  have hSf:s.heap.objs.size ∉ fp:=λ hm=>Nat.lt_irrefl _ (hfp _ hm)
  refine callType_codes (Q₁:=λ obj s₁=>obj=.ref s.heap.objs.size/\s₁={ s with heap:=s.heap.push (listAt #[] 0) }) F.called_list (F.typeCall_list_1 _) F.entry_list_init (code_list_new _ ⟨rfl,rfl⟩) ?_
  rintro obj s₁ ⟨rfl,rfl⟩
  have hS:(s.heap.push (listAt #[] 0)).get? s.heap.objs.size=some (listAt #[] 0):=Heap.get?_push_size _ rfl
  refine ⟨⟨_,hS,rfl⟩,F.args_list_init_2 _ _,?_⟩
  refine (show wpAny (model prog w) A.in1.in1 (Builtin.List.listItems (.ref s.heap.objs.size) >>= λ old=>Builtin.List.listUpdate (.ref s.heap.objs.size) (λ _=>#[]) >>= λ _=>letGo old.toList.reverse >>= λ _=>Builtin.List.listExtendWith (.ref s.heap.objs.size) (.ref I) .none) _ _ _ from wpAny_bind ?_)
  unfold Builtin.List.listItems
  refine wpAny_bind (wpAny_seqItems hS rfl (wpAny_pure ?_))
  refine (show wpAny (model prog w) A.in1.in1 (updateSeq s.heap.objs.size (λ _=>#[]) >>= λ _=>letGo (#[]:Array Value).toList.reverse >>= λ _=>Builtin.List.listExtendWith (.ref s.heap.objs.size) (.ref I) .none) _ _ _ from wpAny_bind (wpAny_updateSeq hS rfl (wpAny_bind (wpAny_letGo ?_))))
  have kk:∀ b o,b≠s.heap.objs.size->(s.heap.push (listAt #[] 0)).get? b=some o->((s.heap.push (listAt #[] 0)).update s.heap.objs.size (Obj.mapSeq (λ _=>(#[]:Array Value)))).get? b=some o:=λ b o hb e=>(Heap.get?_update_other _ _ (Ne.symm hb)).trans e
  refine zGq (A:=A.in1) J .none _ (J.walk.frame 0 s _ s.toks hst (Nat.le_refl _) λ b hb o e=>kk b o (λ z=>hSf (z ▸ hb)) (Heap.get?_push_of_some _ e)) hSf (Heap.get?_update_self (Obj.mapSeq (λ _=>(#[]:Array Value))) hS rfl) λ s' acc c hm hS' hacc=>⟨rfl,hQ s' acc c ?_ hS' hacc⟩
  exact Moved.trans (s':={ s with heap:=(s.heap.push (listAt #[] 0)).update s.heap.objs.size (Obj.mapSeq (λ _=>(#[]:Array Value))) }) J.walk.gtrans ⟨λ b o hb e=>kk b o (λ z=>hb (by rw [z];exact List.mem_cons_self)) e,rfl,rfl,rfl,Nat.le_refl _⟩ hm
theorem oJq {Q:List Value->Shared->Prop} (J:It prog w A.in1 I fp wr n P St) (hst:St 0 s) (hfp:∀ b∈fp,b < s.heap.objs.size) (hQ:∀ s' acc,Moved wr (λ a b=>b=a) s s'->ItemsOf P acc n->Q acc.toList s') :
    wpAny (model prog w) A (collect (.ref I)) Q E s:=by
  have hSf:s.heap.objs.size ∉ fp:=λ hm=>Nat.lt_irrefl _ (hfp _ hm)
  unfold collect
  refine wpAny_bind (wpAny_runValue (codeAny_builtin F.entry_proto_collect ?_))
  rw [Around.under_plainId F.plain_proto_collect _]
  refine (show wpAny (model prog w) A.in1 (newList [] >>= λ l=>again (.builtin "list.__iadd__" ⟨[l,.ref I],[]⟩)) _ _ s from wpAny_bind (wpAny_newObj_type (wpAny_pure ⟨plainId_quiet F.plain_list_iadd _,codeAny_builtin F.entry_list_iadd ?_⟩)))
  rw [Around.under_plainId F.plain_list_iadd _]
  have hS:(s.heap.push (listAt #[] 0)).get? s.heap.objs.size=some (listAt #[] 0):=Heap.get?_push_size _ rfl
  have fin:∀ s',(∃ acc c,Moved (s.heap.objs.size::wr) (λ a b=>b=a) { s with heap:=s.heap.push (listAt #[] 0) } s'/\s'.heap.get? s.heap.objs.size=some (listAt acc c)/\ItemsOf P acc n) →
      wpAny (model prog w) A (do
        match (← load s.heap.objs.size).data with
        | .seq xs _=>pure xs.toList
        | _=>unsupported "internal:collect") Q E s':=by
    rintro s' ⟨acc,c,hm,hS',hacc⟩
    exact wpAny_bind (wpAny_load hS' (wpAny_pure (hQ s' acc (Moved.drop_new (o:=listAt #[] 0) (tk:=s.toks) hm (Nat.le_refl _)) hacc)))
  refine (show wpAny (model prog w) A.in1 (Builtin.List.listExtendWith (.ref s.heap.objs.size) (.ref I) (.ref s.heap.objs.size)) _ _ _ from ?_)
  refine wpAny_mono (zGq (A:=A) (R:=λ r s'=>r=.ok (.ret (.ref s.heap.objs.size))/\∃ acc c,Moved (s.heap.objs.size::wr) (λ a b=>b=a) { s with heap:=s.heap.push (listAt #[] 0) } s'/\s'.heap.get? s.heap.objs.size=some (listAt acc c)/\ItemsOf P acc n) J _ _
    (J.walk.frame 0 s _ s.toks hst (Nat.le_refl _) λ b _ o e=>Heap.get?_push_of_some _ e) hSf hS (λ s' acc c hm hS' hacc=>⟨rfl,acc,c,hm,hS',hacc⟩)) (λ fn s' h=>?_) (λ e s' h=>absurd h.1 (by simp))
  cases fn with
  | done f=>
    obtain ⟨e,h⟩:=h
    cases e
    exact fin s' h
  | again c'=>exact ⟨h.1,codeAny_mono h.2 λ r s'' hr=>by obtain ⟨rfl,hr⟩:=hr;exact fin s'' hr⟩
theorem yIq {l:Addr} {k:Nat->Int} {U:Nat->Shared->Prop}:uXq prog w A I (λ i s=>i<=n/\s.heap.IsRevIter I l (k i)/\U i s):=by
  intro s Q E st h
  have hT:s.TypeIs (.ref I) "list_reverseiterator":=st.2.1.typeIs
  unfold Builtin.List.listLengthHint
  refine wpAny_bind (wpAny_specialOf hT aB5q ?_)
  refine (show wpAny (model prog w) A (specialOf (Value.ref I) (Str.ofString "__length_hint__") >>= _) _ _ _ from wpAny_bind (wpAny_specialOf hT aG3q ?_))
  (generalize hid:("list_reverseiterator.__length_hint__" : String)=id0;(fail_if_success (clear hid id0));wp_delta;rw [show splitId id0=some ("list_reverseiterator", "__length_hint__") from by subst hid;decide +kernel];subst hid)
  exact wpAny_bind (wpAny_isInstance (b:=true) hT (by rw [isSubtype_type];kernel_rfl) (wpAny_pure (h _ _ (Nat.le_refl _))))
theorem x7q {t:Addr} {items:Array Value} (hz:items.size<=sizeLine):uXq prog w A I (λ i s=>IsRev s.heap I t ((items.size:Int) - 1 - i)/\IsTup s.heap t items):=by
  intro s Q E st h
  have hT:s.TypeIs (.ref I) "reversed":=⟨_,st.1,rfl⟩
  have hl:=sizeLine_eq
  unfold Builtin.List.listLengthHint
  refine wpAny_bind (wpAny_specialOf hT aM2q ?_)
  refine (show wpAny (model prog w) A (specialOf (Value.ref I) (Str.ofString "__length_hint__") >>= _) _ _ _ from wpAny_bind (wpAny_specialOf hT sHint.lookup ?_))
  (generalize hid:("reversed.__length_hint__" : String)=id0;(fail_if_success (clear hid id0));wp_delta;rw [show splitId id0=some ("reversed", "__length_hint__") from by subst hid;decide +kernel];subst hid)
  refine wpAny_bind (wpAny_isInstance (b:=true) hT (by rw [isSubtype_type];kernel_rfl) ?_)
  rw [if_neg (by decide)]
  refine wpAny_ite_split (λ hab=>absurd hab (by decide +kernel)) (λ _=>wpAny_bind (wpAny_rule (wpAny_bind (wpAny_of_eq (sHint.bind _) ?_))))
  refine (show wpAny (model prog w) A ((call (.builtin "reversed.__length_hint__") [.ref I]).attempt >>= _) _ _ _ from wpAny_bind (wpAny_attempt (aI7q (items:=items) st.1 st.2 (by omega) (by omega) λ u tk htk=>?_)))
  dsimp only
  have ha:∀ (n:Int) (u:Tok),asInt? (Value.int n u)=pure (some n):=λ _ _=>rfl
  have h1:Builtin.List.listFitsIndex (items.size:Int)=true:=by
    unfold Builtin.List.listFitsIndex
    simp only [Bool.and_eq_true,decide_eq_true_eq]
    omega
  have h2:Builtin.List.listTooLong ((items.size:Int)).toNat=false:=by simp [Builtin.List.listTooLong,sizeLine];omega
  rw [ha,pure_bind]
  dsimp only
  rw [h1,h2,if_neg (by decide),if_neg (by omega),if_neg (by decide)]
  exact wpAny_pure (h _ _ htk)
end
theorem moved_eq {wr:List Addr} {s s':Shared} (hm:Moved wr (λ a b=>b=a) s s'):s'={ s with heap:=s'.heap,toks:=s'.toks }:=by
  obtain ⟨h',g',d',tk',os'⟩:=s'
  cases (show g'=s.gens from hm.gens)
  cases (show d'=s.drawn from hm.drawn)
  cases (show os'=s.os from hm.os)
  rfl
theorem back {its:List Value} {acc:Array Value} (h:ItemsOf (λ i v=>its.toArray[its.toArray.size - 1 - i]?=some v) acc its.toArray.size):acc.toList=its.reverse:=by
  obtain ⟨hs0,hp⟩:=h
  have hs:acc.size=its.length:=by simpa using hs0
  apply List.ext_getElem?
  intro i
  by_cases hi:i < its.length
  . have h1:i < acc.size:=by omega
    have e:=hp i acc[i] (by simp [h1])
    rw [List.getElem?_reverse hi,Array.getElem?_toList,Array.getElem?_eq_getElem h1,<- e]
    simp
  . rw [List.getElem?_eq_none (by rw [Array.length_toList];omega),List.getElem?_eq_none (by rw [List.length_reverse];omega)]
theorem itT {prog:Program} {w:World} {A:Around} {I t:Addr} {items:Array Value} (hh:A.handled=none) (hne:t≠I) (hz:items.size<=sizeLine) :
    It prog w A I [I,t] [I] items.size (λ i v=>items[items.size - 1 - i]?=some v) (λ i s=>IsRev s.heap I t ((items.size:Int) - 1 - i)/\IsTup s.heap t items) where
  walk:=(aN3q hh I t hne items (by have:=sizeLine_eq;omega)).toS
  ty:=⟨"reversed", by decide,by decide,λ _ _ st=>⟨_,st.1,rfl⟩⟩
  hint:=x7q hz
  mem:=by simp
  few:=hz
theorem itL {prog:Program} {w:World} {A:Around} {I l:Addr} {items:Array Value} (hh:A.handled=none) (hne:l≠I) (hz:items.size<=sizeLine) :
    It prog w A I [I,l] [I] items.size (λ i v=>items[items.size - 1 - i]?=some v) (λ i s=>i<=items.size/\s.heap.IsRevIter I l ((items.size:Int) - 1 - (i:Int))/\s.heap.IsList l items) where
  walk:=(Walks.listRev hh I l hne items).toS
  ty:=⟨"list_reverseiterator", by decide,by decide,λ _ _ st=>st.2.1.typeIs⟩
  hint:=yIq (k:=λ i=>(items.size:Int) - 1 - (i:Int)) (U:=λ _ s=>s.heap.IsList l items)
  mem:=by simp
  few:=hz
theorem tupleL {prog:Program} {w:World} (it l:Addr) (its:List Value) (hz:its.toArray.size<=sizeLine) :
    MeetsIn prog w (Builtin.«tuple.__new__» ⟨[.type "tuple", .ref it],[]⟩) (λ A R s=>A.handled=none/\l≠it/\s.heap.IsRevIter it l ((its.toArray.size:Int) - 1)/\s.heap.IsList l its.toArray ∧
      ∀ (h':Heap) (tk:Nat),(∀ b o,b≠it->s.heap.get? b=some o->h'.get? b=some o)->R (.ok (.ret (.ref h'.objs.size))) { s with heap:=h'.push { cls:=.type "tuple", data:=.seq its.reverse.toArray },toks:=tk }):=
  .of_wp λ A R s h=>by
    obtain ⟨hp,g,d,tk,os⟩:=s
    obtain ⟨hh,hne,hit,hl,h⟩:=h
    have hsub:=sub_tuple_self
    have hinit:=init_tuple_lookup
    have hmh:=madeHere_tuple
    have hT:Shared.TypeIs ⟨hp,g,d,tk,os⟩ (.ref it) "list_reverseiterator":=hit.typeIs
    obtain ⟨oi,hoi,_⟩:=id hit
    obtain ⟨ol,hol,_⟩:=id hl
    have hfp:∀ b∈[it,l],b < hp.objs.size:=λ b hb=>by
      simp only [List.mem_cons,List.not_mem_nil,or_false] at hb
      rcases hb with rfl | rfl
      . exact Heap.lt_size hoi
      . exact Heap.lt_size hol
    have hcol:∀ (Q:List Value->Shared->Prop) (E:Value->Shared->Prop),(∀ s' acc,Moved [it] (λ a b=>b=a) ⟨hp,g,d,tk,os⟩ s'->ItemsOf (λ i v=>its.toArray[its.toArray.size - 1 - i]?=some v) acc its.toArray.size->Q acc.toList s') →
        wpAny (model prog w) A.in1 (collect (.ref it)) Q E ⟨hp,g,d,tk,os⟩:=λ Q E hQ=>oJq (itL (A:=A.in1.in1) hh hne hz) ⟨Nat.zero_le _,by simpa using hit,hl⟩ hfp hQ
    wp_walk using AutoSeq1.wpAny_loadPart' hoi,wpAny_typeOf hT,hcol _ _
    intro s' acc hm hacc
    rw [back hacc]
    refine (show wpAny (model prog w) A.in1 (Builtin.Tuple.tupleExact its.reverse.toArray >>= λ v=>ret v) _ _ _ from ?_)
    unfold Builtin.Tuple.tupleExact
    refine wpAny_bind (wpAny_newObj_type (wpAny_pure ⟨_,rfl,?_⟩) (by show its.reverse.toArray.size<=sizeLine;simpa using hz))
    rw [moved_eq hm]
    exact h s'.heap s'.toks λ b o hb e=>hm.heap b o (by simpa using hb) e
end KRv
namespace L2
open PySem PySem.Spec PyProof.Rows
section
variable {X:Cx} {e:Expr} {te:TE} {p p2 pos pos2:Pos}
def RevT (X:Cx) (pins:List (Addr × Obj)) (σ:St) (R:Addr->List V->Hp->Prop) (v:Value) (s:Shared):Prop:=
  ∃ (a it:Addr) (xs:List V) (its:List Value) (H:Hp),v=.ref it/\Inv X pins σ H s/\KRv.IsRev s.heap it a ((its.toArray.size:Int) - 1)/\IsTup s.heap a its.toArray/\a≠it/\Vals xs its/\its.toArray.size<=sizeLine/\SqT X.K H a xs/\iHq X pins H it/\R a xs H
def RevL (X:Cx) (pins:List (Addr × Obj)) (σ:St) (R:Addr->List V->Hp->Prop) (v:Value) (s:Shared):Prop:=
  ∃ (a it:Addr) (xs:List V) (its:List Value) (H:Hp),v=.ref it/\Inv X pins σ H s/\s.heap.IsRevIter it a ((its.toArray.size:Int) - 1)/\s.heap.IsList a its.toArray/\a≠it/\Vals xs its/\its.toArray.size<=sizeLine/\SqL X.K H a xs/\iHq X pins H it/\R a xs H
theorem uQq {pins:List (Addr × Obj)} {s:Shared} {σ:St} {H:Hp} {R:Addr->List V->Hp->Prop} (hg:Gl X "reversed") (hm:X.mg "reversed" = none) (he:PE X e te) (hs:aLq e=true) (I:Inv X pins σ H s)
    (h:te σ H λ x H1=>∃ a xs,x=.ref a/\SqT X.K H1 a xs/\R a xs H1):wpAny (model X.prog X.w) X.A (eval (.Call (.Name "reversed" p2) [e] [] pos2) X.env) (RevT X pins σ R) X.xe s:=by
  refine wpAny_Call_Name_kw (c0q I hg hm PyProof.Rows.boot_reversed ?_)
  refine PyProof.Rows.callWith_type1 ?_ (a9q hs) rfl
  rw [a9q hs]
  show wpAny _ _ (spliced ((false,eval e X.env)::backTo pos2 (starEach [] X.env))) _ _ s
  refine Calls.spliced_cons (thn (he pins s σ H _ I h) λ u s1 ⟨x,H1,I1,r1,a,xs,ex,hq,q⟩=>Calls.spliced_nil ?_)
  subst ex
  cases r1
  obtain ⟨its,rv,pl,hz⟩:=I1.tuple hq
  have hl:=rv.length
  have h63:=eGq
  refine KRv.callT pl (by rw [List.size_toArray];omega) λ tk=>?_
  exact ⟨a,s1.heap.objs.size,xs,its,H1,rfl,I1.kept λ b o e=>Heap.get?_push_of_some _ e,Heap.get?_push_size _ rfl,pl.push _,Nat.ne_of_lt pl.lt,rv,by rw [List.size_toArray];omega,hq,I1.fpOk (Nat.le_refl _) (I1.hok.fresh (Nat.le_refl _)),q⟩
theorem tRq {pins:List (Addr × Obj)} {s:Shared} {σ:St} {H:Hp} {R:Addr->List V->Hp->Prop} (hg:Gl X "reversed") (hm:X.mg "reversed" = none) (he:PE X e te) (hs:aLq e=true) (I:Inv X pins σ H s)
    (h:te σ H λ x H1=>∃ a xs,x=.ref a/\SqL X.K H1 a xs/\R a xs H1):wpAny (model X.prog X.w) X.A (eval (.Call (.Name "reversed" p2) [e] [] pos2) X.env) (RevL X pins σ R) X.xe s:=by
  refine wpAny_Call_Name_kw (c0q I hg hm PyProof.Rows.boot_reversed ?_)
  refine PyProof.Rows.callWith_type1 ?_ (a9q hs) rfl
  rw [a9q hs]
  show wpAny _ _ (spliced ((false,eval e X.env)::backTo pos2 (starEach [] X.env))) _ _ s
  refine Calls.spliced_cons (thn (he pins s σ H _ I h) λ u s1 ⟨x,H1,I1,r1,a,xs,ex,hq,q⟩=>Calls.spliced_nil ?_)
  subst ex
  cases r1
  obtain ⟨its,rv,pl,hz⟩:=I1.list hq
  have hl:=rv.length
  have hlt:a < s1.heap.objs.size:=by obtain ⟨o,ho,_⟩:=pl.isList;exact Heap.lt_size ho
  refine call_reversed_list pl.isList ?_
  exact ⟨a,s1.heap.objs.size,xs,its,H1,rfl,I1.kept (t':=s1.toks) λ b o e=>Heap.get?_push_of_some _ e,⟨_,Heap.get?_push_size _ rfl,rfl,rfl⟩,let ⟨o,ho,r⟩:=pl.isList;⟨o,Heap.get?_push_of_some _ ho,r⟩,Nat.ne_of_lt hlt,rv,by rw [List.size_toArray];omega,hq,I1.fpOk (Nat.le_refl _) (I1.hok.fresh (Nat.le_refl _)),q⟩
theorem vQq {pins:List (Addr × Obj)} {σ:St} {H:Hp} {s s':Shared} {it:Addr} {acc:Array Value} {c:Nat} {ys:List V} {Q:VK} (I:Inv X pins σ H s) (fp:iHq X pins H it) (hit:it < s.heap.objs.size)
    (hm:Moved (s.heap.objs.size::[it]) (λ a b=>b=a) { s with heap:=s.heap.push (KRv.listAt #[] 0) } s') (hS:s'.heap.get? s.heap.objs.size=some (KRv.listAt acc c))
    (rv:Vals ys acc.toList) (hz:ys.length<=sizeLine) (q:∀ l,H l=none->Q (.ref l) (upd H l (.lst ys))):EP X pins σ Q (.ref s.heap.objs.size) s':=by
  have I2:Inv X pins σ (upd H s.heap.objs.size (.lst ys)) { s with heap:=s.heap.push { cls:=.type "list", dict:=none,data:=.seq acc c,slots:=#[] } }:=
    I.laid (t':=s.toks) (λ b o e=>Heap.get?_push_of_some _ e) (Nat.le_refl _) (show ObjOk X.prog X.w _ _ _ (.lst ys) from ⟨hz,acc.toList,c,rv,by simpa using Heap.get?_push_size s.heap (o:={ cls:=.type "list", dict:=none,data:=.seq acc c,slots:=#[] }) rfl⟩)
  obtain ⟨f0,f1,f2,f3,f4,f5⟩:=fp
  have I3:=I2.turned (h':=s'.heap) (t':=s'.toks) (it:=it) (λ b o hb e=>?_) (by rw [aFq (Nat.ne_of_lt hit)];exact f0) f1 f3 f4 f5
  . rw [KRv.moved_eq hm]
    exact ⟨.ref s.heap.objs.size,_,I3,rfl,q _ (I.hok.fresh (Nat.le_refl _))⟩
  . rcases Heap.get?_push_cases e with ⟨z1,z2⟩ | e
    . rw [z1,z2];exact hS
    . refine hm.heap b o (λ z=>?_) (Heap.get?_push_of_some _ e)
      simp only [List.mem_cons,List.not_mem_nil,or_false] at z
      rcases z with z | z
      . rw [z] at e;exact absurd (Heap.lt_size e) (Nat.lt_irrefl _)
      . exact hb z
def tCq (K:PySem.W.Frag) (te:TE):TE:=λ σ H Q=>te σ H λ x H1=>∃ a xs,x=.ref a/\SqT K H1 a xs/\∀ l,H1 l=none->Q (.ref l) (upd H1 l (.lst xs.reverse))
def t8q (K:PySem.W.Frag) (te:TE):TE:=λ σ H Q=>te σ H λ x H1=>∃ a xs,x=.ref a/\SqL K H1 a xs/\∀ l,H1 l=none->Q (.ref l) (upd H1 l (.tup xs.reverse))
theorem gOq (hc:X.calm=true) (hgl:Gl X "list") (hml:X.mg "list" = none) (hg:Gl X "reversed") (hm:X.mg "reversed" = none) (he:PE X e te) (hs:aLq e=true) :
    PE X (.Call (.Name "list" p) [.Call (.Name "reversed" p2) [e] [] pos2] [] pos) (tCq X.K te):=by
  intro pins s σ H Q I h
  refine wpAny_Call_Name_kw (c0q I hgl hml PyProof.Rows.boot_list ?_)
  refine PyProof.Rows.callWith_type1 ?_ (a9q rfl) rfl
  rw [a9q rfl]
  show wpAny _ _ (spliced ((false,eval (.Call (.Name "reversed" p2) [e] [] pos2) X.env)::backTo pos (starEach [] X.env))) _ _ s
  refine Calls.spliced_cons (thn (uQq (R:=λ _ xs H1=>∀ l,H1 l=none->Q (.ref l) (upd H1 l (.lst xs.reverse))) hg hm he hs I h) λ v s1 h1=>Calls.spliced_nil ?_)
  obtain ⟨a,it,xs,its,H1,rfl,I1,hit,ht,hne,rv,hz,_,fp,q⟩:=h1
  have hi:=Heap.lt_size hit
  have hl:=rv.length
  refine KRv.listOf (KRv.itT (prog:=X.prog) (w:=X.w) (A:=X.A.in1.in1) (I:=it) (t:=a) (items:=its.toArray) (I.ok.hd hc) hne hz) ⟨by simpa using hit,ht⟩ (λ b hb=>?_) (λ s' acc c' hm' hS hacc=>?_)
  . simp only [List.mem_cons,List.not_mem_nil,or_false] at hb
    rcases hb with rfl | rfl
    . exact hi
    . exact ht.lt
  . exact vQq I1 fp hi hm' hS (by rw [KRv.back hacc];exact rv.reverse) (by rw [List.length_reverse];rw [List.size_toArray] at hz;omega) q
theorem eKq (hc:X.calm=true) (hgl:Gl X "tuple") (hml:X.mg "tuple" = none) (hg:Gl X "reversed") (hm:X.mg "reversed" = none) (he:PE X e te) (hs:aLq e=true) :
    PE X (.Call (.Name "tuple" p) [.Call (.Name "reversed" p2) [e] [] pos2] [] pos) (t8q X.K te):=by
  intro pins s σ H Q I h
  refine wpAny_Call_Name_kw (c0q I hgl hml PyProof.Rows.boot_tuple ?_)
  refine PyProof.Rows.callWith_type1 ?_ (a9q rfl) rfl
  rw [a9q rfl]
  show wpAny _ _ (spliced ((false,eval (.Call (.Name "reversed" p2) [e] [] pos2) X.env)::backTo pos (starEach [] X.env))) _ _ s
  refine Calls.spliced_cons (thn (tRq (R:=λ _ xs H1=>∀ l,H1 l=none->Q (.ref l) (upd H1 l (.tup xs.reverse))) hg hm he hs I h) λ v s1 h1=>Calls.spliced_nil ?_)
  obtain ⟨a,it,xs,its,H1,rfl,I1,hit,ht,hne,rv,hz,_,fp,q⟩:=h1
  have hl:=rv.length
  refine callType_newIn F.called_tuple (by decide) (F.typeCall_tuple_1 _) (F.newCall_tuple_1 _) (λ obj=>F.args_object_init_2 obj _) F.entry_tuple_new (KRv.tupleL it a its hz) ⟨I.ok.hd hc,hne,hit,ht,λ h' tk kk=>⟨⟨_,Heap.get?_push_size _ rfl,rfl⟩,?_⟩⟩
  obtain ⟨f0,f1,f2,f3,f4,f5⟩:=fp
  have I2:=I1.turned (h':=h') (t':=tk) (it:=it) kk f0 f1 f3 f4 f5
  have I3:Inv X pins σ (upd H1 h'.objs.size (.tup xs.reverse)) { s1 with heap:=h'.push { cls:=.type "tuple", data:=.seq its.reverse.toArray },toks:=tk }:=
    I2.laid (t':=tk) (λ b o e=>Heap.get?_push_of_some _ e) (Nat.le_refl _) (show ObjOk X.prog X.w _ _ _ (.tup xs.reverse) from ⟨by rw [List.length_reverse];rw [List.size_toArray] at hz;omega,its.reverse,rv.reverse,IsTup.new _ _⟩)
  exact ⟨.ref h'.objs.size,_,I3,rfl,q _ (I2.hok.fresh (Nat.le_refl _))⟩
theorem oRq:∀ (bs:List Bool),(List.range bs.length).all (λ i=>bs.getD i true)=bs.all id:=by
  intro bs
  rw [Bool.eq_iff_iff,List.all_eq_true,List.all_eq_true]
  constructor
  . intro h x hx
    obtain ⟨i,hi,e⟩:=List.getElem_of_mem hx
    have:=h i (List.mem_range.mpr hi)
    rw [List.getD_eq_getElem?_getD,List.getElem?_eq_getElem hi,Option.getD_some,e] at this
    exact this
  . intro h i hi
    have hi':=List.mem_range.mp hi
    rw [List.getD_eq_getElem?_getD,List.getElem?_eq_getElem hi',Option.getD_some]
    exact h _ (List.getElem_mem hi')
def aO1q (K:PySem.W.Frag):List V->Hp->VK->Prop:=λ xs H Q=>∃ (p:Addr) (bs:List Bool),xs=[.ref p]/\SqL K H p (bs.map V.bl)/\Q (.bl (bs.all id)) H
theorem qDq (hc:X.calm=true):CallR X (.builtin "all") (aO1q X.K):=by
  intro pins s σ H xs us Q I r h
  obtain ⟨p,bs,rfl,hp,hQ⟩:=h
  obtain ⟨u,rfl,ru⟩:=r.one
  cases ru
  obtain ⟨its,rv,pl,hz⟩:=I.list hp
  have hlen:=rv.length
  rw [List.length_map] at hlen
  have hlt:p < s.heap.objs.size:=by obtain ⟨o,ho,_⟩:=pl.isList;exact Heap.lt_size ho
  refine call_all_walk (wpAny_pyIter_list pl.isList ?_)
  refine ⟨s.heap.objs.size,[s.heap.objs.size,p],[s.heap.objs.size],its.toArray.size,_,_,λ i=>bs.getD i true,rfl,Walks.list (A:=X.A.in1) (I.ok.hd hc) _ p (Nat.ne_of_lt hlt) its.toArray,⟨⟨_,Heap.get?_push_size _ rfl,rfl,rfl⟩,let ⟨o,ho,r⟩:=pl.isList;⟨o,Heap.get?_push_of_some _ ho,r⟩⟩,?_,λ h' tk kk=>?_⟩
  . intro i v s' Q' E' hv hq
    have hi:i < its.length:=by
      have:=(Array.getElem?_eq_some_iff.mp hv).1
      simpa using this
    obtain ⟨v1,e1,e2⟩:=rv.get (i:=i) (x:=V.bl bs[i]) (by rw [List.getElem?_map,List.getElem?_eq_getElem (by omega)];rfl)
    have e3:its[i]?=some v:=by simpa using hv
    rw [e1] at e3
    cases e3
    have e4:v=Value.bool bs[i]:=e2
    subst e4
    refine wpAny_truthy_bool ?_
    have e5:bs.getD i true=bs[i]:=by rw [List.getD_eq_getElem?_getD,List.getElem?_eq_getElem (by omega)];rfl
    rw [<- e5]
    exact hq
  . refine ⟨.bl (bs.all id),H,I.kept λ b o e=>kk b o ?_ (Heap.get?_push_of_some _ e),?_,hQ⟩
    . simp only [List.mem_cons,List.not_mem_nil,or_false]
      exact Nat.ne_of_lt (Heap.lt_size e)
    . show Value.bool _=Value.bool _
      rw [List.size_toArray,<- hlen,oRq]
end
section
variable {X:Cx} {e:Expr} {te:TE} {p p2 pos pos2:Pos}
theorem gLq (hgl:Gl X "list") (hml:X.mg "list" = none) (hg:Gl X "reversed") (hm:X.mg "reversed" = none) (he:JE X e te) (hc:X.calm=true:=by rfl) (hs:aLq e=true:=by rfl) :
    JE X (.Call (.Name "list" p) [.Call (.Name "reversed" p2) [e] [] pos2] [] pos) (tCq X.K te):=⟨gOq hc hgl hml hg hm he.run hs⟩
theorem eMq (hgl:Gl X "tuple") (hml:X.mg "tuple" = none) (hg:Gl X "reversed") (hm:X.mg "reversed" = none) (he:JE X e te) (hc:X.calm=true:=by rfl) (hs:aLq e=true:=by rfl) :
    JE X (.Call (.Name "tuple" p) [.Call (.Name "reversed" p2) [e] [] pos2] [] pos) (t8q X.K te):=⟨eKq hc hgl hml hg hm he.run hs⟩
end
end L2
namespace KZp
open PySem PyProof.Rows
section
variable {prog:Program} {w:World} {A:Around} {E:Value->Shared->Prop} {s:Shared}
theorem oneT {it t:Addr} {i:Nat} {items:Array Value} {x:Value} {Q:Value->Shared->Prop} (hit:s.heap.IsTupleIter it t i) (ht:s.heap.IsTuple t items) (hx:items[i]?=some x)
    (hQ:∀ h',h'.IsTupleIter it t (i+1)->Heap.SameBut it s.heap h'->Q x { s with heap:=h' }):wpAny (model prog w) A (Builtin.SmallTypes.nextOf (.ref it)) Q E s:=by
  obtain ⟨o,ho,hc,hd⟩:=id hit
  obtain ⟨ol,hol,_,nl,hdl⟩:=ht
  unfold Builtin.SmallTypes.nextOf
  refine wpAny_bind (wpAny_callSpecial?_slot hit.typeIs F.slot_tuple_iterator_next (wpAny_call_entry F.slot_tuple_iterator_next hit.typeIs F.entry_tuple_iterator_next ?_ (F.args_tuple_iterator_next_1 _)))
  refine (show wpAny (model prog w) A.in1 (field (.ref it) 0 >>= _) _ _ s from wpAny_bind (wpAny_field ho hd (x:=.ref t) rfl ?_))
  refine (show wpAny (model prog w) A.in1 (if (Value.ref t==Value.none)=true then _ else _) _ _ s from ?_)
  rw [if_neg (show ¬ ((Value.ref t==Value.none)=true) from Bool.false_ne_true)]
  refine (show wpAny (model prog w) A.in1 (field (.ref it) 1 >>= _) _ _ s from wpAny_bind (wpAny_field ho hd (x:=.int i 0) rfl ?_))
  refine (show wpAny (model prog w) A.in1 (seqItems? (.ref t) >>= _) _ _ s from wpAny_bind (wpAny_seqItems hol hdl ?_))
  simp only [Int.toNat_natCast,hx]
  refine wpAny_bind (wpAny_setField ho hd (by simp) (wpAny_pure ⟨x,rfl,wpAny_pure (hQ _ ⟨_,Heap.get?_update_self _ ho (Obj.isFreed_of_fields (Obj.data_mapFields hd _)),(Obj.cls_mapFields ..).trans hc,?_⟩ (Heap.SameBut.update ..))⟩))
  rw [Obj.data_mapFields hd]
  simp [rawInt]
theorem aH4q {it t:Addr} {i:Nat} {items:Array Value} {Q:Value->Shared->Prop} (hh:A.handled=none) (hit:s.heap.IsTupleIter it t i) (ht:s.heap.IsTuple t items) (hx:items[i]?=none)
    (hE:∀ h' e,Heap.ExtBut it s.heap h'->Shared.TypeIs { s with heap:=h' } (.ref e) "StopIteration"->E (.ref e) { s with heap:=h' }):wpAny (model prog w) A (Builtin.SmallTypes.nextOf (.ref it)) Q E s:=by
  obtain ⟨o,ho,hc,hd⟩:=id hit
  obtain ⟨ol,hol,_,nl,hdl⟩:=ht
  unfold Builtin.SmallTypes.nextOf
  refine wpAny_bind (wpAny_callSpecial?_slot hit.typeIs F.slot_tuple_iterator_next (wpAny_call_entry F.slot_tuple_iterator_next hit.typeIs F.entry_tuple_iterator_next ?_ (F.args_tuple_iterator_next_1 _)))
  refine (show wpAny (model prog w) A.in1 (field (.ref it) 0 >>= _) _ _ s from wpAny_bind (wpAny_field ho hd (x:=.ref t) rfl ?_))
  refine (show wpAny (model prog w) A.in1 (if (Value.ref t==Value.none)=true then _ else _) _ _ s from ?_)
  rw [if_neg (show ¬ ((Value.ref t==Value.none)=true) from Bool.false_ne_true)]
  refine (show wpAny (model prog w) A.in1 (field (.ref it) 1 >>= _) _ _ s from wpAny_bind (wpAny_field ho hd (x:=.int i 0) rfl ?_))
  refine (show wpAny (model prog w) A.in1 (seqItems? (.ref t) >>= _) _ _ s from wpAny_bind (wpAny_seqItems hol hdl ?_))
  simp only [Int.toNat_natCast,hx]
  refine wpAny_bind (wpAny_rule (wpAny_bind (wpAny_setField ho hd (by simp) ?_)))
  exact KRv.stops (A:=A.in1) hh λ h' e kk hs=>hE _ e (λ b o' hb e'=>kk b o' ((Heap.SameBut.update ..).extBut b o' hb e')) hs
structure St (z TI TO i1 i2 l1 l2:Addr) (f0:Value) (i:Nat) (h:Heap):Prop where
  zip:IsZip h z TI TO f0
  ti:IsPair h TI (.ref i1) (.ref i2)
  to:∃ a b,IsPair h TO a b
  it1:h.IsTupleIter i1 l1 i
  it2:h.IsTupleIter i2 l2 i
variable {z TI TO i1 i2 l1 l2:Addr} {i:Nat} {xs ys:Array Value}
theorem nextZ {x y:Value} {Q:Option Value->Shared->Prop} (D:ZipApart z TI TO i1 i2 l1 l2) (st:St z TI TO i1 i2 l1 l2 .none i s.heap) (hl1:s.heap.IsTuple l1 xs) (hl2:s.heap.IsTuple l2 ys) (hx:xs[i]?=some x) (hy:ys[i]?=some y)
    (hQ:∀ h',St z TI TO i1 i2 l1 l2 (rawInt s.heap.objs.size) (i+1) h'->IsPair h' s.heap.objs.size x y->(∀ c o,c≠z->c≠TO->c≠i1->c≠i2->s.heap.get? c=some o->h'.get? c=some o)->Q (some (.ref s.heap.objs.size)) { s with heap:=h' }) :
    wpAny (model prog w) A (pyNext (.ref z)) Q E s:=by
  obtain ⟨hz,hTI,⟨a,b,hTO⟩,h1,h2⟩:=st
  have hT:s.TypeIs (.ref z) "zip":=⟨_,hz,rfl⟩
  unfold pyNext
  refine wpAny_bind (wpAny_attempt (wpAny_callSpecial?_slot hT F.slot_zip_next (wpAny_call_entry F.slot_zip_next hT F.entry_zip_next ?_ (F.args_zip_next_1 _))))
  refine (show wpAny (model prog w) A.in1 (field (.ref z) 2 >>= _) _ _ _ from wpAny_bind (wpAny_field hz rfl (x:=.bool false) rfl ?_))
  refine (show wpAny (model prog w) A.in1 (field (.ref z) 3 >>= _) _ _ _ from wpAny_bind (wpAny_field hz rfl (x:=.ref TI) rfl (wpAny_bind (wpAny_seqItems hTI rfl ?_))))
  refine (show wpAny (model prog w) A.in1 (Builtin.SmallTypes.ownedTupleIsFree (.ref z) >>= _) _ _ _ from wpAny_bind ?_)
  unfold Builtin.SmallTypes.ownedTupleIsFree
  refine wpAny_bind (wpAny_field hz rfl (x:=.none) rfl (wpAny_pure ?_))
  simp only [if_true]
  refine wpAny_bind (wpAny_rule (wpAny_bind (wpAny_field hz rfl (x:=.ref TO) rfl (wpAny_bind (wpAny_setField_rec hz (by simp) λ g1 hz1 k1=>wpAny_bind ?_)))))
  replace hz1:IsZip g1 z TI TO .ellipsis:=hz1
  simp only [List.zipIdx_cons,List.zipIdx_nil,List.forIn_cons,List.forIn_nil]
  refine wpAny_bind (wpAny_bind (wpAny_onRaise ?_))
  refine (show wpAny (model prog w) A.in1 (Builtin.SmallTypes.nextOf (.ref i1) >>= _) _ _ _ from wpAny_bind (oneT (h1.extBut k1.extBut D.i1z) (hl1.extBut k1.extBut D.l1z) hx λ g2 j1 k2=>wpAny_pure ?_))
  have hTO2:IsPair g2 TO a b:=k2.extBut _ _ D.TOi1 (k1.extBut _ _ D.TOz hTO)
  refine wpAny_bind (wpAny_seqItems hTO2 rfl (wpAny_bind (wpAny_updateSeq_pair hTO2 λ g3 hTO3 k3=>wpAny_bind (wpAny_letGo (wpAny_pure ?_)))))
  replace hTO3:IsPair g3 TO x b:=hTO3
  refine wpAny_bind (wpAny_bind (wpAny_onRaise ?_))
  refine (show wpAny (model prog w) A.in1 (Builtin.SmallTypes.nextOf (.ref i2) >>= _) _ _ _ from wpAny_bind (oneT (((h2.extBut k1.extBut D.i2z).extBut k2.extBut D.i12.symm).extBut k3.extBut D.TOi2.symm) (((hl2.extBut k1.extBut D.l2z).extBut k2.extBut D.l2i1).extBut k3.extBut D.l2TO) hy λ g4 j2 k4=>wpAny_pure ?_))
  have hTO4:IsPair g4 TO x b:=k4.extBut _ _ D.TOi2 hTO3
  refine wpAny_bind (wpAny_seqItems hTO4 rfl (wpAny_bind (wpAny_updateSeq_pair hTO4 λ g5 hTO5 k5=>wpAny_bind (wpAny_letGo (wpAny_pure (wpAny_pure ?_))))))
  replace hTO5:IsPair g5 TO x y:=hTO5
  refine wpAny_bind (wpAny_seqItems hTO5 rfl (wpAny_bind (wpAny_newTuple ?_)))
  have hsz:g5.objs.size=s.heap.objs.size:=by rw [k5.1,k4.1,k3.1,k2.1,k1.1]
  have hz5:IsZip g5 z TI TO .ellipsis:=k5.extBut _ _ D.TOz.symm (k4.extBut _ _ D.i2z.symm (k3.extBut _ _ D.TOz.symm (k2.extBut _ _ D.i1z.symm hz1)))
  have keep:∀ c o,c≠z->c≠TO->c≠i1->c≠i2->s.heap.get? c=some o->g5.get? c=some o:=λ c o c1 c2 c3 c4 e=>k5.extBut _ _ c2 (k4.extBut _ _ c4 (k3.extBut _ _ c2 (k2.extBut _ _ c3 (k1.extBut _ _ c1 e))))
  have J1:g5.IsTupleIter i1 l1 (i+1):=((j1.extBut k3.extBut D.TOi1.symm).extBut k4.extBut D.i12).extBut k5.extBut D.TOi1.symm
  have J2:g5.IsTupleIter i2 l2 (i+1):=j2.extBut k5.extBut D.TOi2.symm
  refine (show wpAny (model prog w) A.in1 (Builtin.SmallTypes.ownedTupleHandOut (.ref z) (.ref g5.objs.size) >>= _) _ _ _ from wpAny_bind ?_)
  unfold Builtin.SmallTypes.ownedTupleHandOut
  have hz6:IsZip (g5.push { cls:=.type "tuple", data:=.seq #[x,y] }) z TI TO .ellipsis:=Heap.get?_push_of_some _ hz5
  refine wpAny_bind (wpAny_setField_rec hz6 (by simp) λ g7 hz7 k7=>?_)
  replace hz7:IsZip g7 z TI TO (rawInt g5.objs.size):=hz7
  refine wpAny_setField_rec hz7 (by simp) λ g8 hz8 k8=>?_
  replace hz8:IsZip g8 z TI TO (rawInt g5.objs.size):=hz8
  have up:∀ c o,c≠z->g5.get? c=some o->g8.get? c=some o:=λ c o c1 e=>k8.extBut _ _ c1 (k7.extBut _ _ c1 (Heap.get?_push_of_some _ e))
  have hzl:g5.objs.size≠z:=Nat.ne_of_gt (Heap.lt_size hz5)
  have hT8:IsPair g8 g5.objs.size x y:=k8.extBut _ _ hzl (k7.extBut _ _ hzl (Heap.get?_push_size _ rfl))
  rw [hsz] at hz8 hT8
  refine wpAny_pure ⟨_,rfl,wpAny_pure ?_⟩
  rw [hsz]
  exact hQ g8 ⟨hz8,up _ _ D.TIz (keep _ _ D.TIz D.TITO D.TIi1 D.TIi2 hTI),⟨x,y,up _ _ D.TOz hTO5⟩,let ⟨o,ho,r⟩:=J1;⟨o,up _ _ D.i1z ho,r⟩,let ⟨o,ho,r⟩:=J2;⟨o,up _ _ D.i2z ho,r⟩⟩ hT8 λ c o c1 c2 c3 c4 e=>up c o c1 (keep c o c1 c2 c3 c4 e)
theorem endZ {Q:Option Value->Shared->Prop} (hh:A.handled=none) (D:ZipApart z TI TO i1 i2 l1 l2) (st:St z TI TO i1 i2 l1 l2 .none i s.heap) (hl1:s.heap.IsTuple l1 xs) (hx:xs[i]?=none)
    (hQ:∀ h',(∀ c o,c≠z->c≠TO->c≠i1->c≠i2->s.heap.get? c=some o->h'.get? c=some o)->Q none { s with heap:=h' }):wpAny (model prog w) A (pyNext (.ref z)) Q E s:=by
  obtain ⟨hz,hTI,⟨a,b,hTO⟩,h1,h2⟩:=st
  have hT:s.TypeIs (.ref z) "zip":=⟨_,hz,rfl⟩
  unfold pyNext
  refine wpAny_bind (wpAny_attempt (wpAny_callSpecial?_slot hT F.slot_zip_next (wpAny_call_entry F.slot_zip_next hT F.entry_zip_next ?_ (F.args_zip_next_1 _))))
  refine (show wpAny (model prog w) A.in1 (field (.ref z) 2 >>= _) _ _ _ from wpAny_bind (wpAny_field hz rfl (x:=.bool false) rfl ?_))
  refine (show wpAny (model prog w) A.in1 (field (.ref z) 3 >>= _) _ _ _ from wpAny_bind (wpAny_field hz rfl (x:=.ref TI) rfl (wpAny_bind (wpAny_seqItems hTI rfl ?_))))
  refine (show wpAny (model prog w) A.in1 (Builtin.SmallTypes.ownedTupleIsFree (.ref z) >>= _) _ _ _ from wpAny_bind ?_)
  unfold Builtin.SmallTypes.ownedTupleIsFree
  refine wpAny_bind (wpAny_field hz rfl (x:=.none) rfl (wpAny_pure ?_))
  simp only [if_true]
  refine wpAny_bind (wpAny_rule (wpAny_bind (wpAny_field hz rfl (x:=.ref TO) rfl (wpAny_bind (wpAny_setField_rec hz (by simp) λ g1 hz1 k1=>wpAny_bind ?_)))))
  replace hz1:IsZip g1 z TI TO .ellipsis:=hz1
  simp only [List.zipIdx_cons,List.zipIdx_nil,List.forIn_cons,List.forIn_nil]
  refine wpAny_bind (wpAny_bind (wpAny_onRaise ?_))
  refine (show wpAny (model prog w) A.in1 (Builtin.SmallTypes.nextOf (.ref i1) >>= _) _ _ _ from wpAny_bind (aH4q (A:=A.in1) hh (h1.extBut k1.extBut D.i1z) (hl1.extBut k1.extBut D.l1z) hx λ g2 e k2 he=>?_))
  obtain ⟨oe,hoe,hce⟩:=he
  have hz2:IsZip g2 z TI TO .ellipsis:=k2 _ _ D.i1z.symm hz1
  have hez:e≠z:=λ q=>by
    subst q
    have q2:some _=some oe:=Eq.trans (Eq.symm hz2) hoe
    cases q2
    simp at hce
  refine wpAny_setField_rec hz2 (by simp) λ g3 _ k3=>?_
  refine wpAny_bind (wpAny_isInstance (T:="StopIteration") (b:=true) ⟨oe,k3.extBut _ _ hez hoe,hce⟩ isSubtype_stop (wpAny_pure (hQ _ λ c o c1 _ c3 _ q=>?_)))
  exact k3.extBut _ _ c1 (k2 _ _ c3 (k1.extBut _ _ c1 q))
end
abbrev g1 (h:Heap) (l1:Addr):Heap:=h.push { cls:=.type "tuple_iterator", data:=.fields #[.ref l1,.int 0 0] }
abbrev g2 (h:Heap) (l1 l2:Addr):Heap:=(g1 h l1).push { cls:=.type "tuple_iterator", data:=.fields #[.ref l2,.int 0 0] }
abbrev g3 (h:Heap) (l1 l2:Addr):Heap:=(g2 h l1 l2).push { cls:=.type "tuple", data:=.seq #[.ref h.objs.size,.ref (g1 h l1).objs.size] }
abbrev g4 (h:Heap) (l1 l2:Addr):Heap:=(g3 h l1 l2).push { cls:=.type "tuple", data:=.seq #[.none,.none] }
abbrev g5 (h:Heap) (l1 l2:Addr):Heap:=(g4 h l1 l2).push { cls:=.type "zip", data:=.fields #[.none,.bool false,.bool false,.ref (g2 h l1 l2).objs.size,.ref (g3 h l1 l2).objs.size] }
theorem newZ (l1 l2:Addr) (xs ys:Array Value) :
    Meets (Builtin.«zip.__new__» ⟨[.type "zip", .ref l1,.ref l2],[]⟩) (λ _ R s=>s.heap.IsTuple l1 xs/\s.heap.IsTuple l2 ys/\R (.ok (.ret (.ref (g4 s.heap l1 l2).objs.size))) { s with heap:=g5 s.heap l1 l2 }):=
  .of_wp λ prog w A R s h=>by
    obtain ⟨hp,g,d,tk,os⟩:=s
    obtain ⟨hl1,hl2,h⟩:=h
    have hsub:=sub_zip
    have hL1:Heap.IsTuple (Shared.heap ⟨hp,g,d,tk,os⟩) l1 xs:=hl1
    have hL2:Heap.IsTuple (Shared.heap ⟨g1 hp l1,g,d,tk,os⟩) l2 ys:=Heap.IsTuple.push hl2 _
    wp_walk using wpAny_pyIter_tuple hL1,wpAny_pyIter_tuple hL2
    exact ⟨_,rfl,h⟩
theorem callZ {prog:Program} {w:World} {A:Around} {E:Value->Shared->Prop} {s:Shared} {l1 l2:Addr} {xs ys:Array Value} {Q:Value->Shared->Prop} (hl1:s.heap.IsTuple l1 xs) (hl2:s.heap.IsTuple l2 ys)
    (h:∀ h',St (s.heap.objs.size+4) (s.heap.objs.size+2) (s.heap.objs.size+3) s.heap.objs.size (s.heap.objs.size+1) l1 l2 .none 0 h'->(∀ c o,s.heap.get? c=some o->h'.get? c=some o)->Q (.ref (s.heap.objs.size+4)) { s with heap:=h' }) :
    wpAny (model prog w) A (call (.type "zip") [.ref l1,.ref l2]) Q E s:=by
  refine callType_new F.called_zip (by decide) (F.typeCall_zip_2 _ _) (F.newCall_zip_2 _ _) (λ obj=>F.args_object_init_3 obj _ _) F.entry_zip_new (newZ l1 l2 xs ys) ⟨hl1,hl2,?_⟩
  have z1:(g1 s.heap l1).objs.size=s.heap.objs.size+1:=Heap.size_push ..
  have z2:(g2 s.heap l1 l2).objs.size=s.heap.objs.size+2:=by rw [Heap.size_push,z1]
  have z3:(g3 s.heap l1 l2).objs.size=s.heap.objs.size+3:=by rw [Heap.size_push,z2]
  have z4:(g4 s.heap l1 l2).objs.size=s.heap.objs.size+4:=by rw [Heap.size_push,z3]
  have e5:(g5 s.heap l1 l2).get? (g4 s.heap l1 l2).objs.size=some _:=Heap.get?_push_size _ rfl
  have e4:(g5 s.heap l1 l2).get? (g3 s.heap l1 l2).objs.size=some _:=Heap.get?_push_of_some _ (Heap.get?_push_size _ rfl)
  have e3:(g5 s.heap l1 l2).get? (g2 s.heap l1 l2).objs.size=some _:=Heap.get?_push_of_some _ (Heap.get?_push_of_some _ (Heap.get?_push_size _ rfl))
  have e2:(g5 s.heap l1 l2).get? (g1 s.heap l1).objs.size=some _:=Heap.get?_push_of_some _ (Heap.get?_push_of_some _ (Heap.get?_push_of_some _ (Heap.get?_push_size _ rfl)))
  have e1:(g5 s.heap l1 l2).get? s.heap.objs.size=some _:=Heap.get?_push_of_some _ (Heap.get?_push_of_some _ (Heap.get?_push_of_some _ (Heap.get?_push_of_some _ (Heap.get?_push_size _ rfl))))
  rw [z2,z3,z4] at e5
  rw [z1,z2] at e3
  rw [z3] at e4
  rw [z1] at e2
  show _/\_
  rw [z4]
  exact ⟨⟨_,e5,rfl⟩,h _ ⟨e5,e3,⟨_,_,e4⟩,⟨_,e1,rfl,rfl⟩,⟨_,e2,rfl,rfl⟩⟩ λ c o x=>Heap.get?_push_of_some _ (Heap.get?_push_of_some _ (Heap.get?_push_of_some _ (Heap.get?_push_of_some _ (Heap.get?_push_of_some _ x))))⟩
end KZp
namespace L2
open PySem PySem.Spec PyProof.Rows
theorem Inv.turnedL {X:Cx} {pins:List (Addr × Obj)} {σ:St} {H:Hp} {s:Shared} {h':Heap} {t':Nat} {fp:List Addr} (I:Inv X pins σ H s) (hf:∀ b∈fp,iHq X pins H b) (k:∀ b o,b ∉ fp->s.heap.get? b=some o->h'.get? b=some o):Inv X pins σ H { s with heap:=h',toks:=t' }:=by
  have nit:∀ b u,H b=some u->b ∉ fp:=λ b u e z=>by rw [(hf b z).1] at e;cases e
  refine I.step (g':=s.gens) (d':=s.drawn) (ch:=fp) (λ b hb=>?_) (λ b o _ _ hc e _=>k b o hc e) (λ b o _ _ hc e _=>⟨o.slots,k b o hc e⟩) (λ _ _ _ _ n=>n)
    (λ b o hc e=>⟨o,k b o hc e⟩) (λ _ _ e=>e) (λ _ _ _ e=>e) (λ b ps e=>⟨#[],by rw [e];simp⟩) (λ m hm=>?_) (λ b u e=>?_) I.bare
  . obtain ⟨f0,f1,f2,f3,f4,f5⟩:=hf b hb
    exact ⟨f3,f1,f4,f5⟩
  . obtain ⟨o,es,ep,ho,r⟩:=hm
    exact ⟨o,es,ep,k _ o (λ z=>(hf _ z).2.1 rfl) ho,r⟩
  . refine (I.hok b u e).stay (λ c v hc q=>k c v ?_ q) (λ _ q=>q) λ _ _ q=>q
    rcases hc with z | z
    . rw [z];exact nit b u e
    . exact nit c _ z
theorem apart (n a b:Nat) (h1:a < n) (h2:b < n):ZipApart (n+4) (n+2) (n+3) n (n+1) a b:=by
  constructor<;>(intro e;have e':(@Eq Nat _ _):=e;omega)
def Itz (K:PySem.W.Frag) (a b:Addr):It:=
  ⟨λ i H=>∃ xs ys x y,SqT K H a xs/\SqT K H b ys/\xs[i]?=some x/\ys[i]?=some y,λ i H v H'=>∃ T x y,v=.ref T/\H T=none/\H'=upd H T (.tup [x,y])/\(∀ xs,SqT K H a xs->xs[i]?=some x)/\∀ ys,SqT K H b ys->ys[i]?=some y,λ i H=>∃ xs,SqT K H a xs/\xs.length<=i⟩
theorem s1q {P:Program} {w:World} {K:PySem.W.Frag} {es:List Expr} {k:Nat} {pos:Pos} {z TI TO i1 i2 l1 l2:Addr} (D:ZipApart z TI TO i1 i2 l1 l2) :
    Turn P w K (.Tuple es k pos) (Itz K l1 l2) [z,TI,TO,i1,i2] z (λ i h=>KZp.St z TI TO i1 i2 l1 l2 .none i h) where
  mem:=by simp
  obj:=λ i h st b hb=>by
    simp only [List.mem_cons,List.not_mem_nil,or_false] at hb
    obtain ⟨a1,a2,⟨p,q,a3⟩,⟨o4,a4,_,d4⟩,⟨o5,a5,_,d5⟩⟩:=st
    rcases hb with rfl | rfl | rfl | rfl | rfl
    . exact ⟨_,a1,λ v e=>by cases (show Data.fields _=Data.cell v from e)⟩
    . exact ⟨_,a2,λ v e=>by cases (show Data.seq _ _=Data.cell v from e)⟩
    . exact ⟨_,a3,λ v e=>by cases (show Data.seq _ _=Data.cell v from e)⟩
    . exact ⟨_,a4,λ v e=>by rw [d4] at e;cases e⟩
    . exact ⟨_,a5,λ v e=>by rw [d5] at e;cases e⟩
  keep:=λ i h h' st kk=>by
    obtain ⟨a1,a2,⟨p,q,a3⟩,⟨o4,a4,r4⟩,⟨o5,a5,r5⟩⟩:=st
    exact ⟨kk _ (by simp) _ a1,kk _ (by simp) _ a2,⟨p,q,kk _ (by simp) _ a3⟩,⟨o4,kk _ (by simp) _ a4,r4⟩,⟨o5,kk _ (by simp) _ a5,r5⟩⟩
  item:=by
    intro X hP hw hK hc i pins s σ H E I hf st hg
    subst hP hw hK
    obtain ⟨xs,ys,x,y,hq1,hq2,hx,hy⟩:=hg
    obtain ⟨its1,rv1,p1,_⟩:=I.tuple hq1
    obtain ⟨its2,rv2,p2,_⟩:=I.tuple hq2
    obtain ⟨u1,hu1,ru1⟩:=rv1.get hx
    obtain ⟨u2,hu2,ru2⟩:=rv2.get hy
    refine KZp.nextZ D st (show s.heap.IsTuple l1 its1.toArray from p1) (show s.heap.IsTuple l2 its2.toArray from p2) (x:=u1) (y:=u2) (by simpa using hu1) (by simpa using hu2) λ h' st' hT kk=>?_
    refine ⟨_,rfl,wpAny_letOwnedTupleGo_zip st'.zip λ h2 hz2 k2=>?_⟩
    have kk2:∀ b o,b ∉ [z,TI,TO,i1,i2]->s.heap.get? b=some o->h2.get? b=some o:=λ b o hb e=>by
      simp only [List.mem_cons,List.not_mem_nil,or_false,not_or] at hb
      exact k2.extBut _ _ hb.1 (kk b o hb.1 hb.2.2.1 hb.2.2.2.1 hb.2.2.2.2 e)
    have I1:Inv X pins σ (upd H s.heap.objs.size (.tup [x,y])) { s with heap:=s.heap.push { cls:=.type "tuple", data:=.seq #[u1,u2] } }:=
      I.laid (t':=s.toks) (λ b o e=>Heap.get?_push_of_some _ e) (Nat.le_refl _) (show ObjOk X.prog X.w _ _ _ (.tup [x,y]) from ⟨by show 2<=sizeLine;decide,[u1,u2],.cons ru1 (.cons ru2 .nil),IsTup.new _ _⟩)
    have hzT:s.heap.objs.size≠z:=Nat.ne_of_gt (Heap.lt_size st.zip)
    have lts:∀ b∈[z,TI,TO,i1,i2],b < s.heap.objs.size:=λ b hb=>by
      obtain ⟨a1,a2,⟨p,q,a3⟩,⟨o4,a4,_⟩,⟨o5,a5,_⟩⟩:=st
      simp only [List.mem_cons,List.not_mem_nil,or_false] at hb
      rcases hb with rfl | rfl | rfl | rfl | rfl
      . exact Heap.lt_size a1
      . exact Heap.lt_size a2
      . exact Heap.lt_size a3
      . exact Heap.lt_size a4
      . exact Heap.lt_size a5
    have I2:Inv X pins σ (upd H s.heap.objs.size (.tup [x,y])) { s with heap:=h2 }:=
      Inv.turnedL (s:={ s with heap:=s.heap.push { cls:=.type "tuple", data:=.seq #[u1,u2] } }) (h':=h2) (t':=s.toks) (fp:=[z,TI,TO,i1,i2]) I1 (λ b hb=>by
        obtain ⟨f0,fr⟩:=hf b hb
        exact ⟨by rw [aFq (Nat.ne_of_lt (lts b hb))];exact f0,fr⟩) (λ b o hb e=>by
        rcases Heap.get?_push_cases e with ⟨e1,e2⟩ | e
        . rw [e1,e2];exact k2.extBut _ _ hzT hT
        . exact kk2 b o hb e)
    refine ⟨.ref s.heap.objs.size,_,I2,rfl,⟨_,x,y,rfl,I.hok.fresh (Nat.le_refl _),rfl,λ xs' h=>by rw [I.tuple_inj h hq1];exact hx,λ ys' h=>by rw [I.tuple_inj h hq2];exact hy⟩,?_,λ b hb=>by rw [aFq (Nat.ne_of_lt (lts b hb))];exact (hf b hb).1⟩
    obtain ⟨a1,a2,⟨p,q,a3⟩,⟨o4,a4,r4⟩,⟨o5,a5,r5⟩⟩:=st'
    exact ⟨hz2,k2.extBut _ _ D.TIz a2,⟨p,q,k2.extBut _ _ D.TOz a3⟩,⟨o4,k2.extBut _ _ D.i1z a4,r4⟩,⟨o5,k2.extBut _ _ D.i2z a5,r5⟩⟩
  done:=by
    intro X hP hw hK hc i pins s σ H E I hf st hg
    subst hP hw hK
    obtain ⟨xs,hq1,hx⟩:=hg
    obtain ⟨its1,rv1,p1,_⟩:=I.tuple hq1
    have hl:=rv1.length
    refine KZp.endZ (I.ok.hd hc) D st (show s.heap.IsTuple l1 its1.toArray from p1) (by simp;omega) λ h' kk=>⟨rfl,?_⟩
    exact I.turnedL (t':=s.toks) (fp:=[z,TI,TO,i1,i2]) hf λ b o hb e=>by
      simp only [List.mem_cons,List.not_mem_nil,or_false,not_or] at hb
      exact kk b o hb.1 hb.2.2.1 hb.2.2.2.1 hb.2.2.2.2 e
  self:=λ _ _ _ _ _ st h=>wpAny_pyIter_zip st.zip h
section
variable {X:Cx}
def iZip (K:PySem.W.Frag) (t:TA):TI:=λ σ H R=>t σ H λ vs H1=>∃ a b,vs=[.ref a,.ref b]/\(∃ xs,SqT K H1 a xs)/\(∃ ys,SqT K H1 b ys)/\R (Itz K a b) H1
theorem zXq {es:List Expr} {k:Nat} {tp:Pos} {a b:Expr} {t:TA} {p pos:Pos} (hg:Gl X "zip") (hm:X.mg "zip" = none) (ha:PA X [a,b] t) (h1:aLq a=true) (h2:aLq b=true):PI X (.Tuple es k tp) (.Call (.Name "zip" p) [a,b] [] pos) (iZip X.K t):=by
  intro pins s σ H R I h
  have hs:starEach [a,b] X.env=(false,eval a X.env)::starEach [b] X.env:=a9q h1
  have hp:(backTo pos (starEach [b] X.env)).any (·.1)=false:=by rw [a9q h2];rfl
  refine Call_ (c0q I hg hm PyProof.Rows.boot_zip (PyProof.Rows.callWith_type1 (thn (ha pos pins s σ H _ I h) λ us s1 ⟨vs,H1,I1,r1,l1,l2,ev,⟨xs,q1⟩,⟨ys,q2⟩,q⟩=>?_) hs hp))
  subst ev
  cases r1 with
  | cons r rr=>
    cases rr with
    | cons r' rr=>
      cases rr
      cases r
      cases r'
      obtain ⟨its1,rv1,p1,_⟩:=I1.tuple q1
      obtain ⟨its2,rv2,p2,_⟩:=I1.tuple q2
      refine KZp.callZ (show s1.heap.IsTuple l1 its1.toArray from p1) (show s1.heap.IsTuple l2 its2.toArray from p2) λ h' st kk=>wpAny_pyIter_zip st.zip ?_
      have b1:=p1.lt
      have b2:=p2.lt
      have D:ZipApart (s1.heap.objs.size+4) (s1.heap.objs.size+2) (s1.heap.objs.size+3) s1.heap.objs.size (s1.heap.objs.size+1) l1 l2:=apart _ _ _ b1 b2
      refine ⟨s1.heap.objs.size+4,_,_,_,H1,rfl,I1.kept (t':=s1.toks) kk,s1q D,st,λ b hb=>?_,q⟩
      have hb':s1.heap.objs.size<=b:=by
        simp only [List.mem_cons,List.not_mem_nil,or_false] at hb
        rcases hb with e | e | e | e | e<;>(rw [e];first | exact Nat.le_refl _ | exact Nat.le_add_right _ _)
      exact I1.fpOk hb' (I1.hok.fresh hb')
theorem yUq {es:List Expr} {k:Nat} {tp:Pos} {a b:Expr} {t:TA} {p pos:Pos} (hg:Gl X "zip") (hm:X.mg "zip" = none) (ha:JA X [a,b] t) (h1:aLq a=true:=by rfl) (h2:aLq b=true:=by rfl):JI X (.Tuple es k tp) (.Call (.Name "zip" p) [a,b] [] pos) (iZip X.K t):=⟨zXq hg hm ha.run h1 h2⟩
end
def fzn (o:Obj):HO:=.frz o (.ext λ _=>True)
def less (H:Hp) (as:List Addr):Hp:=λ b=>if b∈as then none else H b
def more (H:Hp) (as:List Addr) (H0:Hp):Hp:=λ b=>if b∈as then H0 b else H b
theorem g7q {H:Hp} {as:List Addr} {b:Addr} (h:b∈as):less H as b=none:=by unfold less;rw [if_pos h]
theorem aXq {H:Hp} {as:List Addr} {b:Addr} (h:b ∉ as):less H as b=H b:=by unfold less;rw [if_neg h]
theorem g3q {H H0:Hp} {as:List Addr} {b:Addr} (h:b∈as):more H as H0 b=H0 b:=by unfold more;rw [if_pos h]
theorem bOq {H H0:Hp} {as:List Addr} {b:Addr} (h:b ∉ as):more H as H0 b=H b:=by unfold more;rw [if_neg h]
theorem bVq {H:Hp} {as:List Addr} {b:Addr} (h:H b=none):less H as b=none:=by unfold less;split<;>first | rfl | exact h
section
variable {P:Program} {w:World} {H H':Hp} {h h':Heap} {as:List Addr}
def Frz (H:Hp) (as:List Addr):Prop:=∀ a∈as,∃ o,H a=some (fzn o)
theorem cLq {a:Addr} {o:Obj} (ok:HOk P w H h) (e:H a=some (fzn o)):h.get? a=some o:=(ok a _ e).1
theorem jKq {a:Addr} {o:Obj} (e:h.get? a=some o):ObjOk P w H h a (fzn o):=⟨e,trivial,⟨o,e⟩,λ _ _ _ _=>trivial⟩
theorem HOk.less (ok:HOk P w H h) (fz:Frz H as):HOk P w (less H as) h:=λ b u e=>by
  have hb:b ∉ as:=λ z=>by rw [g7q z] at e;cases e
  rw [aXq hb] at e
  refine (ok b u e).stay (λ c v _ q=>q) (λ c q=>?_) λ c xs q=>?_
  . rw [aXq λ z=>?_];exact q
    obtain ⟨o,z⟩:=fz c z;rw [q] at z;cases z
  . rw [aXq λ z=>?_];exact q
    obtain ⟨o,z⟩:=fz c z;rw [q] at z;cases z
theorem HOk.more {H0:Hp} (ok:HOk P w H' h') (no:∀ a∈as,H' a=none) (fz:∀ a∈as,∃ o,H0 a=some (fzn o)/\h'.get? a=some o):HOk P w (more H' as H0) h':=λ b u e=>by
  by_cases hb:b∈as
  . obtain ⟨o,e1,e2⟩:=fz b hb
    rw [g3q hb,e1] at e
    cases e
    exact jKq e2
  . rw [bOq hb] at e
    refine (ok b u e).stay (λ c v _ q=>q) (λ c q=>?_) λ c xs q=>?_
    . rw [bOq λ z=>?_];exact q
      rw [no c z] at q;cases q
    . rw [bOq λ z=>?_];exact q
      rw [no c z] at q;cases q
theorem Un.more {fs:List Addr} (u:Un fs [] (less H as) H' h h') (ok:HOk P w H h) (fz:Frz H as) (nf:∀ a∈as,a ∉ fs):Un fs [] H (more H' as H) h h' where
  keep:=λ b o e n hb hx=>by
    exact u.keep b o e (bVq n) hb hx
  slot:=λ b o e n hb hx=>u.slot b o e (bVq n) hb hx
  free:=λ b o e n hx=>by
    have hb:b ∉ as:=λ z=>by obtain ⟨o',z⟩:=fz b z;rw [n] at z;cases z
    rw [bOq hb];exact u.free b o e (bVq n) hx
  there:=λ b o e hx=>u.there b o e hx
  tups:=λ b xs e=>by
    have hb:b ∉ as:=λ z=>by obtain ⟨o',z⟩:=fz b z;rw [e] at z;cases z
    rw [bOq hb];exact u.tups b xs (by rw [aXq hb];exact e)
  frzs:=λ b o v e=>by
    by_cases hb:b∈as
    . rw [g3q hb];exact e
    . rw [bOq hb];exact u.frzs b o v (by rw [aXq hb];exact e)
  tbls:=λ b ps e=>by
    have hb:b ∉ as:=λ z=>by obtain ⟨o',z⟩:=fz b z;rw [e] at z;cases z
    rw [bOq hb];exact u.tbls b ps (by rw [aXq hb];exact e)
end
structure CloScope (N ps fr:List Str) (sc:Scope):Prop where
  kind:sc.kind=.function
  co:sc.isCoroutine=false
  gen:sc.isGenerator=false
  nd:N.Nodup
  pre:N.take ps.length=ps
  suf:N.drop (N.length - fr.length)=fr
  len:ps.length+fr.length<=N.length
  par:∀ x∈ps,sc.names.lookup x=some .local
  nocell:∀ y∈sc.names,y.2≠.cell
  free:∀ y∈sc.names,y.2=.free->y.1∈fr
  fvis:∀ x∈fr,sc.names.lookup x=some .free
structure CloAt (H:Hp) (f:Addr) (name qual:Str) (st:Stmt) (cl:List (Str × Addr)) (fvs:List V):Prop where
  fn:∃ (oc:Value) (od:Option Addr) (doc pm cdv ct:Value) (sl:Array (Option Value)),H f=some (fzn ⟨oc,od,.func (PySem.W.fnX name qual (bLq st) (b5q st) (a6q st) cl .none .none doc pm none cdv ct),sl⟩) ∧
    ∃ c o vs t,cdv=.ref c/\H c=some (fzn o)/\o.data=.fields vs/\vs[1]?=some (.str qual t)
  cells:∀ (i:Nat) (x:Str) (c:Addr),cl[i]?=some (x,c)->∃ v u o,fvs[i]?=some v/\RelV v u/\H c=some (fzn o)/\o.data=.cell (some u)
  len:cl.length=fvs.length
  nda:(cl.map (·.2)).Nodup
structure CloOk (P:Program) (w:World) (K:PySem.W.Frag) (mg:Str->Option Value) (base:Heap) (k:Nat) (name qual:Str) (st:Stmt) (fr:List Str) (fvs:List V) (ps:List Str) (sp:Sp):Prop where
  len:∀ vs H Q E,sp vs H Q E->vs.length=ps.length
  run:∀ (A:Around) (outer:List Env) (s:Shared) (H:Hp) (f:Addr) (cl:List (Str × Addr)) (us:List Value) (vs:List V) (Q:VK) (E:XK),Room k A->Env0 P w K mg base A outer s H->CloAt H f name qual st cl fvs->cl.map (·.1)=fr->Vals vs us->sp vs H Q E →
    codeAny (model P w) A (.call (.ref f) ⟨us,[]⟩) (CR CX0 outer P w H s Q E) s
def l1q (P:Program) (w:World) (K:PySem.W.Frag) (mg:Str->Option Value) (base:Heap) (N:List Str) (qual:Str) (scope:Scope) (f:Addr) (cd:Value) (cl:List (Str × Addr)) (A:Around) (outer:List Env) (s:Shared) (H:Hp):Cx where
  prog:=P
  w:=w
  K:=K
  mg:=mg
  base:=base
  A:=A.deeper (PySem.W.envX qual scope s.heap.objs.size f cd cl)
  N:=N
  s₀:=s
  H₀:=H
  env:=PySem.W.envX qual scope s.heap.objs.size f cd cl
  outer:=outer
  stack:=PySem.W.envX qual scope s.heap.objs.size f cd cl::outer
  ex:=[]
  calm:=true
  fn:=λ _=>false
  pn:=[]
  xe:=λ _ _=>False
def cIq (N:List Str) (vs fvs:List V):St:=vs.map some++List.replicate (N.length - vs.length - fvs.length) none++fvs.map some
theorem gNq {l:List (Str × Value)} (nd:(l.map (·.1)).Nodup) {x:Str} {u:Value} (h:(x,u)∈l):l.reverse.lookup x=some u:=by
  have nd':(l.reverse.map (·.1)).Nodup:=by rw [List.map_reverse];exact List.pairwise_reverse.mpr (List.Pairwise.imp (λ h=>Ne.symm h) nd)
  have h':(x,u)∈l.reverse:=List.mem_reverse.mpr h
  generalize l.reverse=m at nd' h'
  induction m with
  | nil=>cases h'
  | cons y r ih=>
    rw [List.map_cons,List.nodup_cons] at nd'
    rcases List.mem_cons.mp h' with e | e
    . subst e;simp
    . have ne:x≠y.1:=λ z=>nd'.1 (by rw [<- z];exact List.mem_map_of_mem e)
      rw [List.lookup_cons,beq_false_of_ne ne]
      exact ih nd'.2 e
section
variable {P:Program} {w:World} {K:PySem.W.Frag} {mg:Str->Option Value} {base:Heap} {k:Nat} {name qual:Str} {st:Stmt} {fr:List Str} {fvs:List V} {N ps:List Str} {sp:Sp}
theorem CloAt.frz {H:Hp} {f:Addr} {cl:List (Str × Addr)} (C:CloAt H f name qual st cl fvs):Frz H (cl.map (·.2)):=λ a ha=>by
  obtain ⟨⟨x,c⟩,hm,rfl⟩:=List.mem_map.mp ha
  obtain ⟨i,hi,e⟩:=List.getElem_of_mem hm
  obtain ⟨_,_,o,_,_,z,_⟩:=C.cells i x c (by rw [List.getElem?_eq_getElem hi,e])
  exact ⟨o,z⟩
theorem m4q:∀ {l:List (Str × Addr)} {x y:Str} {c:Addr},(l.map (·.2)).Nodup->(x,c)∈l->(y,c)∈l->x=y
  | q::l,x,y,c,nd,h1,h2=>by
    rw [List.map_cons,List.nodup_cons] at nd
    rcases List.mem_cons.mp h1 with e1 | e1<;>rcases List.mem_cons.mp h2 with e2 | e2
    . rw [<- e1] at e2;cases e2;rfl
    . exact absurd (List.mem_map_of_mem (f:=(·.2)) e2) (by rw [<- e1] at nd;exact nd.1)
    . exact absurd (List.mem_map_of_mem (f:=(·.2)) e1) (by rw [<- e2] at nd;exact nd.1)
    . exact m4q nd.2 e1 e2
theorem w6q {f:Addr} {cd:Value} {cl:List (Str × Addr)} {A:Around} {outer:List Env} {s:Shared} {H:Hp} {us:List Value} {vs:List V} {h₁:Heap} {tk:Nat} (S:CloScope N ps fr (a6q st)) (hd:A.handled=none) (e0:Env0 P w K mg base A outer s H) (C:CloAt H f name qual st cl fvs)
    (hcl:cl.map (·.1)=fr) (hl:vs.length=ps.length) (r:Vals vs us) (hns:h₁.Ns s.heap.objs.size (λ x=>(ps.zip us).reverse.lookup x)) (hk:∀ b o,s.heap.get? b=some o->h₁.get? b=some o) :
    Inv (l1q P w K mg base N qual (a6q st) f cd cl A outer s (less H (cl.map (·.2)))) [] (cIq N vs fvs) (less H (cl.map (·.2))) { s with heap:=h₁,toks:=tk }:=by
  have noA:∀ b:Addr,b ∉ ([]:List Addr):=λ b=>by simp
  have frl:fr.length=fvs.length:=by rw [<- hcl,List.length_map];exact C.len
  have ndN:(cl.map (·.1)).Nodup:=by rw [hcl,<- S.suf];exact S.nd.sublist (List.drop_sublist _ _)
  have lk:∀ {x:Str} {c:Addr},(x,c)∈cl->cl.lookup x=some c:=λ hm=>lookup_of_mem_nodup ndN hm
  have mem:∀ {x:Str} {c:Addr},cl.lookup x=some c->(x,c)∈cl:=λ h=>PySem.mem_of_lookup h
  have cellAt:∀ {x:Str} {c:Addr},(x,c)∈cl->∃ i v u o,cl[i]?=some (x,c)/\fvs[i]?=some v/\RelV v u/\H c=some (fzn o)/\o.data=.cell (some u):=λ{x c} hm=>by
    obtain ⟨i,hi,e⟩:=List.getElem_of_mem hm
    have e':cl[i]?=some (x,c):=by rw [List.getElem?_eq_getElem hi,e]
    obtain ⟨v,u,o,z⟩:=C.cells i x c e'
    exact ⟨i,v,u,o,e',z⟩
  have isCell:∀ {x:Str} {c:Addr},(x,c)∈cl->∃ u,h₁.IsCell c (some u):=λ hm=>by
    obtain ⟨i,v,u,o,_,_,_,z1,z2⟩:=cellAt hm
    exact ⟨u,o,hk _ _ (cLq e0.hok z1),z2⟩
  refine ⟨⟨e0.mod,S.kind,rfl,rfl,Nat.le_refl _,λ y z c h1 h2=>?_,λ y hy=>?_,λ y c h _=>?_,λ _=>hd,Around.frames_deeper e0.frames,.inr ⟨rfl,rfl⟩,λ b z=>absurd z (noA b),λ b o e=>⟨(e0.bs b o e).1,bVq (e0.bs b o e).2⟩,e0.bsz,λ b _ _=>noA b,λ b z=>absurd z (noA b),e0.funs,λ b hb=>bVq (e0.frf b hb)⟩,
    rfl,e0.bare,Un.kept hk,⟨_,hns,λ i y v h1 h2 h3=>?_⟩,λ y c h=>?_,bVq (e0.hok.fresh (Nat.le_refl _)),λ y c h=>g7q (List.mem_map_of_mem (mem h)),λ p hp=>absurd (show p∈([]:List (Addr × Obj)) from hp) (by simp),(e0.hok.less C.frz).kept hk,?_⟩
  . exact m4q C.nda (mem h1) (mem h2)
  . have hy:(a6q st).names.lookup y=some .cell\/(a6q st).names.lookup y=some .free:=hy
    rcases hy with hy | hy
    . exact absurd rfl (S.nocell _ (PySem.mem_of_lookup hy))
    . have hf:=S.free _ (PySem.mem_of_lookup hy) rfl
      rw [<- hcl] at hf
      obtain ⟨⟨x,c⟩,hm,e⟩:=List.mem_map.mp hf
      cases e
      exact ⟨c,lk hm⟩
  . exact absurd h (by simp [l1q])
  . have h1:N[i]?=some y:=h1
    have sl:=S.len
    by_cases hi:i < vs.length
    . have ha:vs[i]?=some v:=by
        unfold cIq at h2
        rw [List.append_assoc,List.getElem?_append_left (by simpa using hi),List.getElem?_map] at h2
        cases e:vs[i]? with
        | none=>rw [e] at h2;cases h2
        | some a=>rw [e] at h2;cases h2;rfl
      obtain ⟨u,hu,rv⟩:=r.get ha
      have hp:ps[i]?=some y:=by rw [<- S.pre,List.getElem?_take_of_lt (by omega)];exact h1
      have ndP:ps.Nodup:=by rw [<- S.pre];exact S.nd.sublist (List.take_sublist _ _)
      refine ⟨u,rv,.inl ⟨S.par y (List.mem_of_getElem? hp),?_⟩⟩
      have hul:us.length=ps.length:=by rw [<- r.length];exact hl
      refine gNq (l:=ps.zip us) ?_ ?_
      . rw [List.map_fst_zip (by omega)];exact ndP
      . refine List.mem_of_getElem? (i:=i) ?_
        rw [List.getElem?_zip_eq_some];exact ⟨hp,hu⟩
    . have hi2:N.length - fvs.length<=i:=by
        unfold cIq at h2
        rcases Nat.lt_or_ge i (N.length - fvs.length) with z | z
        . rw [List.getElem?_append_left (by simp;omega),List.getElem?_append_right (by simpa using hi),List.getElem?_replicate] at h2
          split at h2<;>cases h2
        . exact z
      have hf:fvs[i - (N.length - fvs.length)]?=some v:=by
        unfold cIq at h2
        rw [List.getElem?_append_right (by simp;omega),List.getElem?_map] at h2
        have e1:i - (List.map some vs++List.replicate (N.length - vs.length - fvs.length) none).length=i - (N.length - fvs.length):=by simp;omega
        rw [e1] at h2
        cases e:fvs[i - (N.length - fvs.length)]? with
        | none=>rw [e] at h2;cases h2
        | some a=>rw [e] at h2;cases h2;rfl
      have hy:fr[i - (N.length - fvs.length)]?=some y:=by
        rw [<- S.suf,List.getElem?_drop,frl,show N.length - fvs.length+(i - (N.length - fvs.length))=i by omega]
        exact h1
      rw [<- hcl,List.getElem?_map] at hy
      cases e:cl[i - (N.length - fvs.length)]? with
      | none=>rw [e] at hy;cases hy
      | some q=>
        obtain ⟨x,c⟩:=q
        rw [e] at hy;cases hy
        obtain ⟨v',u,o,z1,z2,z3,z4⟩:=C.cells _ _ _ e
        rw [hf] at z1;cases z1
        have hm:=List.mem_of_getElem? e
        refine ⟨u,z2,.inr ⟨.inr (S.fvis _ (by rw [<- hcl];exact List.mem_map_of_mem hm)),c,lk hm,o,hk _ _ (cLq e0.hok z3),z4⟩⟩
  . obtain ⟨u,z⟩:=isCell (mem h)
    exact ⟨_,z⟩
  . have:=S.len
    show (cIq N vs fvs).length=N.length
    simp only [cIq,List.length_append,List.length_map,List.length_replicate];omega
theorem z4q (S:CloScope N ps fr (a6q st)) (len:∀ vs H Q E,sp vs H Q E->vs.length=ps.length)
    (hbind:∀ (cl:List (Str × Addr)) (doc pm cdv ct:Value) (us:List Value),us.length=ps.length->bindArgs (PySem.W.fnX name qual (bLq st) (b5q st) (a6q st) cl .none .none doc pm none cdv ct) ⟨us,[]⟩=pure (ps.zip us))
    (hbody:∀ (f:Addr) (cdv:Value) (cl:List (Str × Addr)) (A:Around) (outer:List Env) (s:Shared) (H:Hp) (vs:List V) (Q:VK) (E:XK),Room k (A.deeper (PySem.W.envX qual (a6q st) s.heap.objs.size f cdv cl))->cl.map (·.1)=fr->Frz H (cl.map (·.2))->sp vs H Q E →
      ∃ t,PSs (l1q P w K mg base N qual (a6q st) f cdv cl A outer s (less H (cl.map (·.2)))) (b5q st) t ∧
        t { nx:=λ _ H'=>(∀ a∈cl.map (·.2),H' a=none)->Q .non (more H' (cl.map (·.2)) H),rt:=λ v H'=>(∀ a∈cl.map (·.2),H' a=none)->Q v (more H' (cl.map (·.2)) H) } (cIq N vs fvs) (less H (cl.map (·.2)))) :
    CloOk P w K mg base (k+1) name qual st fr fvs ps sp:=by
  refine ⟨len,λ A outer s H f cl us vs Q E hr e0 C hcl r hsp=>?_⟩
  have hl:=len _ _ _ _ hsp
  have lim:s.heap.NoLimit:=e0.mod.nolimit.keeps λ b o e=>(e0.bs b o e).1
  obtain ⟨oc,od,doc,pm,cdv,ct,sl,hf,c,o,vs',t',hcd,hc,hd,hv⟩:=C.fn
  have hul:us.length=ps.length:=by rw [<- r.length];exact hl
  have fz:=C.frz
  refine codeAny_call_def (binds:=ps.zip us) hr.depth (cLq e0.hok hf) rfl lim ⟨c,o,vs',t',hcd,cLq e0.hok hc,hd,hv⟩ rfl (.of_eq (hbind cl doc pm cdv ct us hul)) S.nocell (λ y hy=>S.par y.1 (List.of_mem_zip (show (y.1,y.2)∈ps.zip us from hy)).1) (λ h₀ hns hk=>?_) S.co S.gen S.kind
  obtain ⟨t,ht,hq⟩:=hbody f cdv cl A outer s H vs Q E (hr.deeper _) hcl fz hsp
  have I:=w6q (h₁:=h₀) (tk:=s.toks+(ps.zip us).length) (cd:=cdv) S hr.hd e0 C hcl hl r hns hk
  refine wpAny_mono (ht [] _ _ _ _ I hq) (λ fl s' hs=>?_) λ e s' hs=>False.elim hs
  have nofs:∀ a∈cl.map (·.2),a ∉ frs outer:=λ a ha z=>by
    obtain ⟨o',z'⟩:=fz a ha
    rw [e0.frf a z] at z';cases z'
  have fin:∀ {σ':St} {H':Hp} {v:V} {u:Value},Inv (l1q P w K mg base N qual (a6q st) f cdv cl A outer s (less H (cl.map (·.2)))) [] σ' H' s'->RelV v u->((∀ a∈cl.map (·.2),H' a=none)->Q v (more H' (cl.map (·.2)) H))->CE outer P w H s Q u s':=
    λ{σ' H' v u} J rv q=>by
      have no:∀ a∈cl.map (·.2),H' a=none:=λ a ha=>by
        obtain ⟨o',z⟩:=fz a ha
        exact J.base.free a o' (cLq e0.hok z) (g7q ha) (by simp [l1q])
      refine ⟨v,_,J.os,J.bare,J.base.more e0.hok fz nofs,J.hok.more no λ a ha=>?_,rv,q no⟩
      obtain ⟨o',z⟩:=fz a ha
      exact ⟨o',z,J.base.keep a o' (cLq e0.hok z) (g7q ha) (nofs a ha) (by simp [l1q])⟩
  cases fl with
  | ret u=>
    obtain ⟨v,σ',H',J,rv,q⟩:=hs
    exact fin J rv q
  | next=>
    obtain ⟨σ',H',J,q⟩:=hs
    exact fin (v:=V.non) (u:=Value.none) J rfl q
  | brk=>
    obtain ⟨_,_,_,q⟩:=hs
    exact False.elim q
  | cont=>
    obtain ⟨_,_,_,q⟩:=hs
    exact False.elim q
def tEq (i:Nat) (name qual:Str) (st:Stmt) (fr:List Str) (fvs:List V) (sp:Sp) (t:TA):TE:=λ σ H Q=>∃ f cl,σ[i]?=some (some (.ref f))/\CloAt H f name qual st cl fvs/\cl.map (·.1)=fr/\t σ H λ vs H1=>CloAt H1 f name qual st cl fvs/\sp vs H1 Q E0
end
section
variable {X:Cx} {k j:Nat} {name qual:Str} {st:Stmt} {fr:List Str} {fvs:List V} {ps:List Str} {x:Str} {sp:Sp} {p pos:Pos} {e:Expr} {es:List Expr} {t:TA}
theorem CloAt.at' {H:Hp} {f:Addr} {cl:List (Str × Addr)} {P:Program} {w:World} {h:Heap} (C:CloAt H f name qual st cl fvs) (ok:HOk P w H h):PySem.W.FnAt f h:=by
  obtain ⟨oc,od,doc,pm,cdv,ct,sl,hf,_⟩:=C.fn
  exact ⟨oc,od,_,sl,cLq ok hf⟩
theorem aJ8q {i:Nat} (G:CloOk X.prog X.w X.K X.mg X.base k name qual st fr fvs ps sp) (hr:Room j X.A) (hk:k<=j) (hN:X.N[i]?=some x) (hv:Vis X.env.scope x) (ha:PA X (e::es) t) (hd:(x==("__debug__" : Str))=false) (hcd:(x==("__classdict__" : Str))=false)
    (he:starEach (e::es) X.env=(false,eval e X.env)::starEach es X.env) (hpl:(backTo pos (starEach es X.env)).any (·.1)=false) :
    PE X (.Call (.Name x p) (e::es) [] pos) (tEq i name qual st fr fvs sp t):=by
  intro pins s σ H Q I h
  obtain ⟨f,cl,e1,C,hcl,h⟩:=h
  refine wpAny_Call_Name_kw (thn (oVq (pos:=p) hN hv hd hcd pins s σ H (λ v H1=>v=.ref f/\H1=H) I ⟨_,e1,rfl,rfl⟩) λ u s1 ⟨v,H1,I1,r1,ev,eH⟩=>?_)
  subst ev eH
  obtain rfl:u=Value.ref f:=r1
  refine PySem.W.callWith_F (C.at' I1.hok) (thn (ha pos pins s1 σ H1 _ I1 h) λ us s2 ⟨vs,H2,I2,r,C2,q⟩=>⟨C2.at' I2.hok,?_⟩) he hpl
  refine wpAny_call (codeAny_mono (G.run X.A X.stack s2 H2 f cl us vs Q E0 (hr.mono hk) I2.env0 C2 hcl r q) λ r s' hq=>?_)
  cases r with
  | error e=>exact False.elim hq
  | ok fl=>
    cases fl with
    | ret u=>exact I2.after hq
    | next=>exact False.elim hq
    | brk=>exact False.elim hq
    | cont=>exact False.elim hq
end
def dHq (env:Env) (fr:List Str):List (Str × Addr):=fr.map λ x=>(x,(env.cells.lookup x).getD 0)
structure MadeAt (env:Env) (H:Hp) (f:Addr) (name qual:Str) (st:Stmt) (fr:List Str):Prop where
  fn:∃ (oc:Value) (od:Option Addr) (doc pm cdv ct:Value) (sl:Array (Option Value)),H f=some (fzn ⟨oc,od,.func (PySem.W.fnX name qual (bLq st) (b5q st) (a6q st) (dHq env fr) .none .none doc pm none cdv ct),sl⟩) ∧
    ∃ c o vs t,cdv=.ref c/\H c=some (fzn o)/\o.data=.fields vs/\vs[1]?=some (.str qual t)
section
variable {X:Cx} {pins:List (Addr × Obj)} {σ:St} {H H2:Hp} {s s':Shared} {as:List Addr}
structure Plus (X:Cx) (H H2:Hp) (as:List Addr) (h:Heap):Prop where
  out:∀ b,b ∉ as->H2 b=H b
  no:∀ a∈as,H a=none
  at':∀ a∈as,∃ o,H2 a=some (fzn o)/\h.get? a=some o
  nob:∀ a∈as,X.base.get? a=none
  nof:∀ a∈as,a ∉ frs X.stack
theorem Plus.ok (p:Plus X H H2 as s.heap) (ok:HOk X.prog X.w H s.heap):HOk X.prog X.w H2 s.heap:=λ b u e=>by
  by_cases hb:b∈as
  . obtain ⟨o,e1,e2⟩:=p.at' b hb
    rw [e1] at e;cases e
    exact jKq e2
  . rw [p.out b hb] at e
    refine (ok b u e).stay (λ c v _ q=>q) (λ c q=>?_) λ c xs q=>?_
    . rw [p.out c λ z=>?_];exact q
      rw [p.no c z] at q;cases q
    . rw [p.out c λ z=>?_];exact q
      rw [p.no c z] at q;cases q
theorem Plus.env0 (p:Plus X H H2 as s.heap) (I:Inv X pins σ H s):Env0 X.prog X.w X.K X.mg X.base X.A X.stack s H2:=by
  have e0:=I.env0
  refine ⟨e0.frames,e0.mod,λ b o e=>⟨(e0.bs b o e).1,?_⟩,e0.bsz,e0.funs,λ b hb=>?_,p.ok e0.hok,e0.bare⟩
  . rw [p.out b λ z=>?_];exact (e0.bs b o e).2
    rw [p.nob b z] at e;cases e
  . rw [p.out b λ z=>p.nof b z hb];exact e0.frf b hb
theorem Plus.after {Q:VK} {u:Value} (p:Plus X H H2 as s.heap) (I:Inv X pins σ H s) (h:CE X.stack X.prog X.w H2 s (λ v H'=>Q v (less H' as)) u s'):EP X pins σ Q u s':=by
  obtain ⟨v,H',os,bare,un,hok,r,q⟩:=h
  have fz:∀ a∈as,∃ o,H' a=some (fzn o)/\s.heap.get? a=some o:=λ a ha=>by
    obtain ⟨o,e1,e2⟩:=p.at' a ha
    exact ⟨o,un.frzs a o _ e1,e2⟩
  refine I.after ⟨v,less H' as,os,bare,⟨λ b o e n hb hx=>?_,λ b o e n hb hx=>?_,λ b o e n hx=>?_,λ b o e hx=>un.there b o e hx,λ b xs e=>?_,λ b o x e=>?_,λ b ps e=>?_⟩,hok.less λ a ha=>let ⟨o,e,_⟩:=fz a ha;⟨o,e⟩,r,q⟩
  . by_cases z:b∈as
    . obtain ⟨o',e1,e2⟩:=fz b z
      rw [e] at e2;cases e2
      exact cLq hok e1
    . exact un.keep b o e (by rw [p.out b z];exact n) hb hx
  . have z:b ∉ as:=λ z=>p.nof b z hb
    exact un.slot b o e (by rw [p.out b z];exact n) hb hx
  . by_cases z:b∈as
    . exact g7q z
    . exact bVq (un.free b o e (by rw [p.out b z];exact n) hx)
  . have z:b ∉ as:=λ z=>by rw [p.no b z] at e;cases e
    rw [aXq z];exact un.tups b xs (by rw [p.out b z];exact e)
  . have z:b ∉ as:=λ z=>by rw [p.no b z] at e;cases e
    rw [aXq z];exact un.frzs b o x (by rw [p.out b z];exact e)
  . have z:b ∉ as:=λ z=>by rw [p.no b z] at e;cases e
    rw [aXq z];exact un.tbls b ps (by rw [p.out b z];exact e)
end
def aB1q (X:Cx) (name qual:Str) (st:Stmt) (fr:List Str) (ix:List Nat) (sp:Sp) (t:TA):TE:=λ σ H Q=>t σ H λ vs H1=>∃ (f:Addr) (fvs:List V),MadeAt X.env H1 f name qual st fr/\(∀ (i j:Nat),ix[i]?=some j->∃ v,σ[j]?=some (some v)/\fvs[i]?=some v)/\fvs.length=fr.length ∧
  ∀ H2,(∀ b,b ∉ (dHq X.env fr).map (·.2)->H2 b=H1 b)->(∀ b∈(dHq X.env fr).map (·.2),H1 b=none)->CloAt H2 f name qual st (dHq X.env fr) fvs->sp vs H2 (λ v H'=>Q v (less H' ((dHq X.env fr).map (·.2)))) E0
section
variable {X:Cx} {k j:Nat} {g:Addr} {fd:FuncData} {name qual:Str} {st:Stmt} {fr:List Str} {ix:List Nat} {ps:List Str} {x:Str} {sp:Sp} {p pos:Pos} {e:Expr} {es:List Expr} {t:TA}
theorem sYq (G:Got X.prog X.w X.K X.mg X.base k x ps sp) (hr:Room j X.A) (hk:k<=j) (hg:Gl X x) (ha:PA X (e::es) t) (hdb:(x==("__debug__" : Str))=false) (ndf:fr.Nodup) (hix:ix.length=fr.length)
    (hfr:∀ (i:Nat) (y:Str),fr[i]?=some y->∃ j,ix[i]?=some j/\X.N[j]?=some y/\X.env.scope.names.lookup y=some .cell/\X.fn y=true)
    (he:starEach (e::es) X.env=(false,eval e X.env)::starEach es X.env) (hpl:(backTo pos (starEach es X.env)).any (·.1)=false) :
    PE X (.Call (.Name x p) (e::es) [] pos) (aB1q X name qual st fr ix sp t):=by
  intro pins s σ H Q I h
  obtain ⟨f,fd,F,hm,kp,b⟩:=G.ex
  refine wpAny_Call_Name_kw (kKq I hg hm ?_ hdb)
  refine PySem.W.callWith_K (h₀:=X.base) I.ok.mod.kin kp (thn (ha pos pins s σ H _ I h) λ us s1 ⟨vs,H1,I1,r,f',fvs,M,hv,hfl,q⟩=>⟨I1.kIn,?_⟩) he hpl
  have cells:∀ (i:Nat) (y:Str),fr[i]?=some y->∃ v u c o,fvs[i]?=some v/\RelV v u/\X.env.cells.lookup y=some c/\s1.heap.get? c=some o/\o.data=.cell (some u)/\H1 c=none/\X.s₀.heap.objs.size<=c:=λ i y hy=>by
    obtain ⟨j,h1,h2,h3,h4⟩:=hfr i y hy
    obtain ⟨v,h5,h6⟩:=hv i j h1
    obtain ⟨m,_,hl⟩:=I1.loc
    obtain ⟨u,rv,lk⟩:=hl j y v h2 h5 (.inr (.inl h3))
    rcases lk with ⟨z,_⟩ | ⟨_,c,z1,o,z2,z3⟩
    . have z':X.env.scope.names.lookup y=some .local:=z
      rw [h3] at z';cases z'
    . exact ⟨v,u,c,o,h6,rv,z1,z2,z3,I1.freeC y c z1,I1.ok.cab y c h4 z1⟩
  have mem:∀ a∈(dHq X.env fr).map (·.2),∃ i y,fr[i]?=some y/\X.env.cells.lookup y=some a:=λ a ha=>by
    obtain ⟨q,hq,rfl⟩:=List.mem_map.mp ha
    obtain ⟨y,hy,rfl⟩:=List.mem_map.mp hq
    obtain ⟨i,hi,e1⟩:=List.getElem_of_mem hy
    have e2:fr[i]?=some y:=by rw [List.getElem?_eq_getElem hi,e1]
    obtain ⟨v,u,c,o,_,_,z1,_⟩:=cells i y e2
    exact ⟨i,y,e2,by rw [z1];rfl⟩
  have atc:∀ a∈(dHq X.env fr).map (·.2),∃ o,s1.heap.get? a=some o/\H1 a=none/\X.s₀.heap.objs.size<=a:=λ a ha=>by
    obtain ⟨i,y,h1,h2⟩:=mem a ha
    obtain ⟨v,u,c,o,_,_,z1,z2,_,z3,z4⟩:=cells i y h1
    rw [h2] at z1;cases z1
    exact ⟨o,z2,z3,z4⟩
  let H2:Hp:=λ b=>if b∈(dHq X.env fr).map (·.2) then (s1.heap.get? b).map fzn else H1 b
  have h2in:∀ a∈(dHq X.env fr).map (·.2),∀ o,s1.heap.get? a=some o->H2 a=some (fzn o):=λ a ha o e=>by
    show (if a∈(dHq X.env fr).map (·.2) then (s1.heap.get? a).map fzn else H1 a)=_
    rw [if_pos ha,e];rfl
  have h2out:∀ b,b ∉ (dHq X.env fr).map (·.2)->H2 b=H1 b:=λ b hb=>if_neg hb
  have hno:∀ b∈(dHq X.env fr).map (·.2),H1 b=none:=λ b hb=>let ⟨_,_,z,_⟩:=atc b hb;z
  have h2some:∀ b u,H1 b=some u->H2 b=some u:=λ b u e=>by
    rw [h2out b λ z=>?_];exact e
    rw [hno b z] at e;cases e
  have p2:Plus X H1 H2 ((dHq X.env fr).map (·.2)) s1.heap:=by
    refine ⟨h2out,hno,λ a ha=>?_,λ a ha=>?_,λ a ha z=>?_⟩
    . obtain ⟨o,e,_⟩:=atc a ha
      exact ⟨o,h2in a ha o e,e⟩
    . obtain ⟨o,_,_,z⟩:=atc a ha
      exact Heap.get?_none_of_le (Nat.le_trans I1.ok.bsz z)
    . obtain ⟨o,_,_,z4⟩:=atc a ha
      obtain ⟨i,y,_,h2⟩:=mem a ha
      rcases List.mem_cons.mp (I1.stkSub a z) with e | e
      . exact I1.cne y a h2 e
      . obtain ⟨_,o',ho,_⟩:=I1.ok.funs.mem e
        exact absurd (Nat.lt_of_lt_of_le (Heap.lt_size ho) z4) (Nat.lt_irrefl _)
  have C:CloAt H2 f' name qual st (dHq X.env fr) fvs:=by
    obtain ⟨oc,od,doc,pm,cdv,ct,sl,m1,c,o,vs',t',m2,m3,m4⟩:=M.fn
    refine ⟨⟨oc,od,doc,pm,cdv,ct,sl,h2some _ _ m1,c,o,vs',t',m2,h2some _ _ m3,m4⟩,λ i y c hi=>?_,?_,?_⟩
    . unfold dHq at hi
      rw [List.getElem?_map] at hi
      cases e1:fr[i]? with
      | none=>rw [e1] at hi;cases hi
      | some y'=>
        rw [e1] at hi;cases hi
        obtain ⟨v,u,c,o,z0,z1,z2,z3,z4,_⟩:=cells i _ e1
        refine ⟨v,u,o,z0,z1,?_,z4⟩
        have e3:(X.env.cells.lookup y).getD 0=c:=by rw [z2];rfl
        refine h2in _ (List.mem_map_of_mem (f:=(·.2)) (List.mem_map_of_mem (f:=λ x=>(x,(X.env.cells.lookup x).getD 0)) (List.mem_of_getElem? e1))) o ?_
        show s1.heap.get? ((X.env.cells.lookup y).getD 0)=some o
        rw [e3];exact z3
    . rw [dHq,List.length_map];exact hfl.symm
    . rw [dHq,List.map_map]
      refine List.pairwise_map.mpr (List.Pairwise.imp_of_mem (λ{a b} ha hb hab e=>?_) ndf)
      obtain ⟨i,hi,ea⟩:=List.getElem_of_mem ha
      obtain ⟨j',hj,eb⟩:=List.getElem_of_mem hb
      obtain ⟨_,_,ca,_,_,_,za,_⟩:=cells i a (by rw [List.getElem?_eq_getElem hi,ea])
      obtain ⟨_,_,cb,_,_,_,zb,_⟩:=cells j' b (by rw [List.getElem?_eq_getElem hj,eb])
      have e':ca=cb:=by
        have e2:(X.env.cells.lookup a).getD 0=(X.env.cells.lookup b).getD 0:=e
        rw [za,zb] at e2;exact e2
      exact hab (I1.ok.inj a b ca za (by rw [e'];exact zb))
  have hsp:=q H2 h2out hno C
  have hl:us.length=ps.length:=by rw [<- r.length];exact F.len _ _ _ _ hsp
  have hb:=b s1 us I1.kIn (by rw [List.append_nil];exact hl)
  rw [List.append_nil] at hb
  refine wpAny_call (codeAny_mono (F.run X.A X.stack s1 H2 ⟨us,[]⟩ us vs _ E0 (hr.mono hk) (p2.env0 I1) hb r hsp) λ rr s' hq=>?_)
  cases rr with
  | error e=>exact False.elim hq
  | ok fl=>
    cases fl with
    | ret u=>exact p2.after I1 hq
    | next=>exact False.elim hq
    | brk=>exact False.elim hq
    | cont=>exact False.elim hq
end
def Tab (H:Hp) (T:Addr) (pos:Pos) (qual:Str):Prop:=∃ ps,H T=some (.tbl ps)/\TriplesOk ps.toList/\(codeAmong pos ps.toList=none\/∃ c o vs t,codeAmong pos ps.toList=some (.ref c)/\H c=some (fzn o)/\o.data=.fields vs/\vs[1]?=some (.str qual t))
def f1q (mg:Str->Option Value) (h:Heap):Prop:=∃ bm ob,mg "__builtins__" = some (.ref bm)/\bm≠builtinsNs/\bm≠mainGlobals/\h.get? bm=some ob/\ob.cls=.type "module"/\ob.dict=some builtinsNs/\ob.data=.plain
section
variable {P:Program} {w:World} {H:Hp} {h h':Heap} {T c:Addr} {ps mo:Array Value} {oc:Obj} {fs ex:List Addr}
theorem Un.tab (hT:H T=some (.tbl ps)) (hc:H c=none) (hge:h.objs.size<=c) (hx:Heap.ExtBut T h h') (ht:h'.get? T=some (PySem.W.tabObj (ps++mo))):Un fs ex H (upd (upd H T (.tbl (ps++mo))) c (fzn oc)) h h':=by
  have nT:∀ b u,H b=some u->u≠.tbl ps->b≠T:=λ b u e n z=>by rw [z,hT] at e;exact n (Option.some.inj e).symm
  have nT0:∀ b,H b=none->b≠T:=λ b e z=>by rw [z,hT] at e;cases e
  have nc:∀ b u,H b=some u->b≠c:=λ b u e z=>by rw [z,hc] at e;cases e
  have nc0:∀ b o,h.get? b=some o->b≠c:=λ b o e=>Nat.ne_of_lt (Nat.lt_of_lt_of_le (Heap.lt_size e) hge)
  refine ⟨λ b o e n _ _=>hx b o (nT0 b n) e,λ b o e n _ _=>⟨o.slots,hx b o (nT0 b n) e⟩,λ b o e n _=>?_,λ b o e _=>?_,λ b xs e=>?_,λ b o u e=>?_,λ b qs e=>?_⟩
  . rw [aFq (nc0 b o e),aFq (nT0 b n)];exact n
  . by_cases z:b=T
    . subst z;exact ⟨_,ht⟩
    . exact ⟨o,hx b o z e⟩
  . rw [aFq (nc b _ e),aFq (nT b _ e λ z=>nomatch z)];exact e
  . rw [aFq (nc b _ e),aFq (nT b _ e λ z=>nomatch z)];exact e
  . by_cases z:b=T
    . subst z
      rw [hT] at e;cases e
      exact ⟨mo,by rw [aFq (nc b _ hT),aPq]⟩
    . exact ⟨#[],by rw [aFq (nc b _ e),aFq z,e];simp⟩
theorem HOk.tab (ok:HOk P w H h) (hT:H T=some (.tbl ps)) (hge:h.objs.size<=c) (hx:Heap.ExtBut T h h') (ht:h'.get? T=some (PySem.W.tabObj (ps++mo))) (hoc:h'.get? c=some oc):HOk P w (upd (upd H T (.tbl (ps++mo))) c (fzn oc)) h':=λ b u e=>by
  have hc:H c=none:=ok.fresh hge
  have nT:∀ b u,H b=some u->u≠.tbl ps->b≠T:=λ b u e n z=>by rw [z,hT] at e;exact n (Option.some.inj e).symm
  have nc:∀ b u,H b=some u->b≠c:=λ b u e z=>by rw [z,hc] at e;cases e
  by_cases h1:b=c
  . subst h1;rw [aPq] at e;cases e;exact jKq hoc
  . rw [aFq h1] at e
    by_cases h2:b=T
    . subst h2;rw [aPq] at e;cases e;exact ht
    . rw [aFq h2] at e
      refine (ok b u e).stay (λ d v hd q=>hx d v ?_ q) (λ d q=>?_) λ d xs q=>?_
      . rcases hd with rfl | hd
        . exact h2
        . exact nT d _ hd λ z=>nomatch z
      . rw [aFq (nc d _ q),aFq (nT d _ q λ z=>nomatch z)];exact q
      . rw [aFq (nc d _ q),aFq (nT d _ q λ z=>nomatch z)];exact q
end
def tDef (X:Cx) (i:Nat) (T:Addr) (name qual:Str) (st:Stmt) (fr:List Str) (pos:Pos):TS:=λ D σ H=>Tab H T pos qual/\∀ f H',H f=none->MadeAt X.env H' f name qual st fr->Tab H' T pos qual->(∀ b u,b≠T->H b=some u->H' b=some u)->D.nx (σ.set i (some (.ref f))) H'
section
variable {X:Cx} {i:Nat} {T c:Addr} {name:Str} {params:Arguments} {body:List Stmt} {scope:Scope} {pos:Pos} {fr:List Str}
theorem zUq (hN:X.N.Nodup) (hi:X.N[i]?=some name) (hl:Loc X.env.scope name) (hcode:X.env.code=.ref c) (hC:PySem.W.CodeHd X.base c T) (hB:f1q X.mg X.base)
    (hcl:closureFor scope X.env=pure (dHq X.env fr)) (hd0:params.defaults=[]) (hk0:params.kw_defaults=[]) (ha:annTrees params none X.env=[])
    (hf:X.fn name=true\/X.env.scope.names.lookup name=some .local) :
    PS X (.FunctionDef name params body [] none [] scope none name pos) (tDef X i T name (qualnameIn X.env name name) (.FunctionDef name params body [] none [] scope none name pos) fr pos):=by
  intro pins s σ H D I h
  obtain ⟨⟨ps,hT,ht,hcase⟩,h⟩:=h
  have hTh:s.heap.get? T=some (PySem.W.tabObj ps):=I.hok T _ hT
  have C:=hC.keeps I.bk
  have hg:s.heap.Ns mainGlobals X.mg:=I.ok.mod.glob.keeps I.bk
  obtain ⟨bm,ob,b1,b2,b3,b4,b5,b6,b7⟩:=hB
  have hbm:bm≠T:=λ z=>by
    have e:=I.bk _ _ b4
    rw [z,hTh] at e;cases e;cases b5
  have hgT:mainGlobals≠T:=λ z=>by
    obtain ⟨o,es,ep,e,hd,_⟩:=hg
    rw [z,hTh] at e;cases e;cases hd
  have BA:s.heap.BuiltinsAt X.mg T:=⟨bm,ob,b1,b2,b3,hbm,I.bk _ _ b4,b5,b6,b7⟩
  refine PySem.W.nestDef_K hd0 hk0 ha ?_
  rcases hcase with hn | ⟨c',o,vs,t,hc',hHc,hd,hv⟩
  . refine PySem.W.makeFunction_K (mg:=X.mg) hcl I.ok.glob hg hcode C hTh ht hn hgT BA λ c' ctv doc h' tk hx hge hlt hrec htb=>?_
    obtain ⟨c2,oc,vs,t,e2,hoc,hd,hv⟩:=hrec
    cases e2
    have I1:Inv X pins σ (upd (upd H T (.tbl (ps++#[rawInt pos.line,rawInt pos.col,.ref c']))) c' (fzn oc)) { s with heap:=h',toks:=tk }:=
      I.un (Un.tab hT (I.hok.fresh hge) hge hx htb) (I.hok.tab hT hge hx htb hoc)
    have I2:=I1.laid (a:=h'.objs.size) (o:=fzn (PySem.W.fnMade name (qualnameIn X.env name name) params body scope (dHq X.env fr) doc ((X.mg "__name__").getD .none) c' ctv)) (t':=tk) (h':=h'.push (PySem.W.fnMade name (qualnameIn X.env name name) params body scope (dHq X.env fr) doc ((X.mg "__name__").getD .none) c' ctv)) (λ b u e=>Heap.get?_push_of_some _ e) (Nat.le_refl _) (jKq (Heap.get?_push_size _ rfl))
    have hfn:H h'.objs.size=none:=I.hok.fresh (Nat.le_of_lt (Nat.lt_of_le_of_lt hge hlt))
    have ncf:c'≠h'.objs.size:=Nat.ne_of_lt hlt
    have nTf:T≠h'.objs.size:=λ z=>by rw [z,hfn] at hT;cases hT
    have nTc:T≠c':=λ z=>by rw [z,I.hok.fresh hge] at hT;cases hT
    refine dTq (v:=.ref h'.objs.size) I2 hN hi hl rfl (λ s' I3=>⟨_,_,I3,h _ _ hfn ⟨⟨_,_,doc,_,_,ctv,_,aPq,c',oc,vs,t,rfl,?_,hd,hv⟩⟩ ⟨ps++#[rawInt pos.line,rawInt pos.col,.ref c'],?_,?_,.inr ⟨c',oc,vs,t,by rw [Array.toList_append];exact codeAmong_snoc _ ht hn,?_,hd,hv⟩⟩ λ b u hb e=>?_⟩) hf
    . rw [aFq ncf,aPq]
    . rw [aFq nTf,aFq nTc,aPq]
    . rw [Array.toList_append];exact TriplesOk_snoc _ _ _ _ ht
    . rw [aFq ncf,aPq]
    . rw [aFq (λ z=>by rw [z,hfn] at e;cases e),aFq (λ z=>by rw [z,I.hok.fresh hge] at e;cases e),aFq hb];exact e
  . refine PySem.W.makeFunction_hit (mg:=X.mg) hcl I.ok.glob hg hcode C hTh ht hc' BA λ ctv doc h' tk hk hsz=>?_
    have hfn:H h'.objs.size=none:=I.hok.fresh hsz
    have I2:=I.laid (a:=h'.objs.size) (o:=fzn (PySem.W.fnMade name (qualnameIn X.env name name) params body scope (dHq X.env fr) doc ((X.mg "__name__").getD .none) c' ctv)) (t':=tk) (h':=h'.push (PySem.W.fnMade name (qualnameIn X.env name name) params body scope (dHq X.env fr) doc ((X.mg "__name__").getD .none) c' ctv)) (λ b u e=>Heap.get?_push_of_some _ (hk b u e)) hsz (jKq (Heap.get?_push_size _ rfl))
    have keep:∀ b u,H b=some u->upd H h'.objs.size (fzn (PySem.W.fnMade name (qualnameIn X.env name name) params body scope (dHq X.env fr) doc ((X.mg "__name__").getD .none) c' ctv)) b=some u:=λ b u e=>by
      rw [aFq (λ z=>by rw [z,hfn] at e;cases e)];exact e
    exact dTq (v:=.ref h'.objs.size) I2 hN hi hl rfl (λ s' I3=>⟨_,_,I3,h _ _ hfn ⟨⟨_,_,doc,_,_,ctv,_,aPq,c',o,vs,t,rfl,keep _ _ hHc,hd,hv⟩⟩ ⟨ps,keep _ _ hT,ht,.inr ⟨c',o,vs,t,hc',keep _ _ hHc,hd,hv⟩⟩ λ b u _ e=>keep b u e⟩) hf
end
structure EntryT (tabs:List (Addr × Addr)) (K:PySem.W.Frag) (a:Addr) (H:Hp):Prop where
  only:∀ b,H b=none\/(∃ o xs,H b=some (.frz o (.lst xs)))\/(b∈tabs.map (·.2)/\H b=some (.tbl #[]))
  tab:∀ q∈tabs,H q.2=some (.tbl #[])
def n9q (tabs:List (Addr × Addr)) (K:PySem.W.Frag) (a:Addr) (o:Obj) (xs:List V):Hp:=λ b=>
  if b∈tabs.map (·.2) then some (.tbl #[]) else if b=a then (if (K.lookup a).isSome then none else some (.frz o (.lst xs))) else none
section
variable {P:Program} {w:World} {K:PySem.W.Frag} {mg mb:Str->Option Value} {k:Nat} {fa a:Addr} {fd:FuncData} {x:Str} {sp:Sp} {s₁:Shared} {vs:List Value} {ns:List Int} {tabs:List (Addr × Addr)}
theorem pXq (KX:K.In s₁.heap) (hns:s₁.heap.Ns mainGlobals mg) (hb:s₁.heap.Ns builtinsNs mb) (hbb:∀ x:Str,x≠"__name__"->mb x=bootBuiltins x) (hlim:s₁.heap.NoLimit) (hg:s₁.gens=#[])
    (ha:s₁.heap.get? a=some { cls:=.type "list", data:=.seq vs.toArray }) (hi:IntsAre vs ns) (hl:ns.length<=sizeLine) (hr:Room k callerA)
 (hT:PySem.W.TabsAt tabs s₁.heap) (hK:PySem.W.noTabs K=true) (hB:f1q mg s₁.heap)
    (F:∀ base:Heap,K.In base->base.Ns mainGlobals mg->(∀ q∈tabs,PySem.W.CodeHd base q.1 q.2)->f1q mg base->FnOk P w K mg base CX0 k fa fd [x] sp) (hbind:∀ (s:Shared) (u:Value),BindsTo s fd ⟨[u],[]⟩ [(x,u)])
    (hsp:∀ H:Hp,EntryT tabs K a H->SqL K H a (ns.map V.int)->sp [.ref a] H (λ v _=>v=.bl true) λ _ _ _=>False) :
    codeAny (model P w) callerA (.call (.ref fa) ⟨[.ref a],[]⟩) (λ r s'=>r=.ok (.ret (.bool true))/\OldK s₁.heap s'.heap/\s'.os=s₁.os/\AllBare s'.gens) s₁:=by
  generalize hO:({ cls:=.type "list", data:=.seq vs.toArray }:Obj)=oA at ha
  have dA:oA.data=.seq vs.toArray 0/\oA.cls=.type "list"/\oA.dict=none:=by rw [<- hO];exact ⟨rfl,rfl,rfl⟩
  have rv:=eXq hi
  have tabAt:∀ b∈tabs.map (·.2),s₁.heap.get? b=some (PySem.W.tabObj #[]):=λ b hb=>by
    obtain ⟨q,hq,rfl⟩:=List.mem_map.mp hb
    exact (hT q hq).2
  have aT:a ∉ tabs.map (·.2):=λ z=>by
    have e:=tabAt a z
    rw [ha] at e
    have:=dA.2.1
    rw [Option.some.inj e] at this;cases this
  obtain ⟨H,eH⟩:∃ H,H=n9q tabs K a oA (ns.map V.int):=⟨_,rfl⟩
  have inT:∀ b∈tabs.map (·.2),H b=some (.tbl #[]):=λ b hb=>by rw [eH];exact if_pos hb
  have atA:H a=if (K.lookup a).isSome then none else some (.frz oA (.lst (ns.map V.int))):=by
    rw [eH];unfold n9q;rw [if_neg aT,if_pos rfl]
  have off:∀ b,b ∉ tabs.map (·.2)->b≠a->H b=none:=λ b h1 h2=>by rw [eH];unfold n9q;rw [if_neg h1,if_neg h2]
  have free:∀ {b:Addr} {o:Obj},s₁.heap.get? b=some o->o≠PySem.W.tabObj #[]->(b=a->(K.lookup a).isSome=true)->H b=none:=λ{b o} e h1 h2=>by
    by_cases z:b∈tabs.map (·.2)
    . rw [tabAt b z] at e;exact absurd (Option.some.inj e).symm h1
    . by_cases y:b=a
      . subst y;rw [atA,if_pos (h2 rfl)]
      . exact off b z y
  have notA:∀ {b:Addr} {o:Obj},s₁.heap.get? b=some o->o.cls≠.type "list"->b≠a:=λ{b o} e h1 z=>by
    rw [z,ha] at e;exact h1 (by rw [<- Option.some.inj e];exact dA.2.1)
  have get:∀ {b:Addr} {o:Obj},s₁.heap.get? b=some o->H b=none->(qNq s₁.heap H).get? b=some o:=λ e n=>sCq e n
  have nsK:∀ {b:Addr} {m:Str->Option Value},s₁.heap.Ns b m->(qNq s₁.heap H).Ns b m:=λ{b m} ⟨o,es,ep,e,d,r⟩=>
    ⟨o,es,ep,get e (free e (λ z=>by rw [z] at d;cases d) λ z=>by
      rw [z,ha] at e
      have d':=dA.1
      rw [Option.some.inj e,d] at d';cases d'),d,r⟩
  have kb:K.In (qNq s₁.heap H):=λ b o e=>get (KX b o e) (free (KX b o e) (λ z=>by
      have h2:=List.all_eq_true.mp hK (b,o) (PySem.W.mem_of_lookupK e)
      subst z
      exact absurd (show false=true from h2) Bool.false_ne_true) λ z=>by rw [<- z,e];rfl)
  have cds:∀ q∈tabs,PySem.W.CodeHd (qNq s₁.heap H) q.1 q.2:=λ q hq=>by
    obtain ⟨o,us,file,tf,flags,tg,inF,qOq,tt,e1,r1,r2⟩:=(hT q hq).1
    refine ⟨o,us,file,tf,flags,tg,inF,qOq,tt,get e1 (free e1 (λ z=>by rw [z] at r1;cases r1) λ z=>absurd z (notA e1 (by rw [r1];decide))),r1,r2⟩
  have bl:f1q mg (qNq s₁.heap H):=by
    obtain ⟨bm,ob,b1,b2,b3,b4,b5,b6⟩:=hB
    exact ⟨bm,ob,b1,b2,b3,get b4 (free b4 (λ z=>by rw [z] at b5;cases b5) λ z=>absurd z (notA b4 (by rw [b5];decide))),b5,b6⟩
  have hok:HOk P w H s₁.heap:=λ b u e=>by
    by_cases z:b∈tabs.map (·.2)
    . rw [inT b z] at e;cases e;exact tabAt b z
    . by_cases y:b=a
      . subst y
        rw [atA] at e
        split at e
        . cases e
        . cases e
          refine ⟨ha,?_⟩
          subst hO
          exact ⟨by rw [List.length_map];exact hl,vs,_,rv,ha⟩
      . rw [off b z y] at e;cases e
  have ent:EntryT tabs K a H:=⟨λ b=>by
    by_cases z:b∈tabs.map (·.2)
    . exact .inr (.inr ⟨z,inT b z⟩)
    . by_cases y:b=a
      . subst y
        cases hk:(K.lookup b).isSome with
        | true=>exact .inl (by rw [atA,hk];rfl)
        | false=>exact .inr (.inl ⟨_,_,by rw [atA,hk];rfl⟩)
      . exact .inl (off b z y),λ q hq=>inT _ (List.mem_map_of_mem hq)⟩
  have sq:SqL K H a (ns.map V.int):=by
    cases hk:K.lookup a with
    | some o=>
      have e:=KX a o hk
      rw [ha] at e
      obtain rfl:=Option.some.inj e
      exact .inr ⟨_,vs.toArray,0,hk,dA.2.1,dA.2.2,dA.1,by rw [List.size_toArray,hi.length];exact hl,by simpa using rv⟩
    | none=>exact .inl (.inr ⟨oA,by rw [atA,hk];rfl⟩)
  have e0:Env0 P w K mg (qNq s₁.heap H) callerA [] s₁ H:=⟨rfl,⟨kb,nsK hns,⟨mb,nsK hb,hbb⟩,let ⟨mc,h1,h2⟩:=hlim;⟨mc,nsK h1,h2⟩⟩,λ b o e=>vEq e,Nat.le_of_eq (pEq _ _),trivial,λ b hb=>absurd (show b∈([]:List Addr) from hb) (by simp),hok,.of_eq hg⟩
  refine codeAny_mono ((F _ kb (nsK hns) cds bl).run callerA [] s₁ H ⟨[.ref a],[]⟩ [.ref a] [.ref a] _ _ hr e0 (hbind s₁ (.ref a)) (.cons rfl .nil) (hsp H ent sq)) λ r s' h=>?_
  match r,h with
  | .ok (.ret u),⟨v,H',os,bare,un,hok',r',q⟩=>
    obtain rfl:v=.bl true:=q
    obtain rfl:u=Value.bool true:=r'
    have no:∀ b:Addr,b ∉ frs ([]:List Env):=λ b z=>absurd (show b∈([]:List Addr) from z) (by simp)
    refine ⟨rfl,⟨λ b o e=>?_,λ b o e=>un.there b o e (by simp)⟩,os,bare⟩
    rcases ent.only b with z | ⟨ob,xs,z⟩ | ⟨z,y⟩
    . exact .inl (un.keep b o e z (no b) (by simp))
    . refine .inl ?_
      have z2:=un.frzs b ob _ z
      obtain ⟨e1,_⟩:=hok b _ z
      rw [e] at e1;cases e1
      exact (hok' b _ z2).1
    . obtain ⟨mo,z2⟩:=un.tbls b _ y
      have e3:=tabAt b z
      rw [e] at e3
      obtain rfl:=Option.some.inj e3
      obtain ⟨p,hp,rfl⟩:=List.mem_map.mp z
      exact .inr (.inl ⟨((hT p hp).1.tab (hT p hp).2).isCodeTable,rfl,#[],mo,rfl,hok' p.2 _ z2⟩)
end
theorem sBq {p:Program} {loose:List Str} {mean:ExcName->Option Value} {mg mb:Str->Option Value} {h:Heap} (T:Top p loose mean mg mb h):f1q mg h:=by
  obtain ⟨bm,ob,b1,b2,b3,b4,b5,b6⟩:=T.bmain
  refine ⟨bm,ob,b1,b2,λ z=>?_,b3,b4,b5,b6⟩
  obtain ⟨o,es,ep,e,hd,_⟩:=T.g
  rw [z,e] at b3;cases b3;rw [hd] at b6;cases b6
end L2
namespace L3
open PySem PySem.Spec L2
inductive D where
  | non | bl (b:Bool) | int (i:Int) | str (x:Str) | ref (a:Addr) | ty (n:String) | tup (ds:List D) | frl (ds:List D)
def FrL (K:PySem.W.Frag) (H:Hp) (a:Addr) (xs:List V):Prop:=
  (∃ o,H a=some (.frz o (.lst xs)))\/∃ (o:Obj) (its:Array Value) (n:Nat),K.lookup a=some o/\o.cls=.type "list"/\o.dict=none/\o.data=.seq its n/\its.size<=sizeLine/\Vals xs its.toList
theorem FrL.sq {K:PySem.W.Frag} {H:Hp} {a:Addr} {xs:List V} (h:FrL K H a xs):SqL K H a xs:=by
  rcases h with h | h
  . exact .inl (.inr h)
  . exact .inr h
mutual
def Abs (K:PySem.W.Frag) (H:Hp):D->V->Prop
  | .non,v=>v=.non
  | .bl b,v=>v=.bl b
  | .int i,v=>v=.int i
  | .str x,v=>v=.str x
  | .ref a,v=>v=.ref a
  | .ty n,v=>v=.ty n
  | .tup ds,v=>∃ a vs,v=.ref a/\SqT K H a vs/\AbsL K H ds vs
  | .frl ds,v=>∃ a vs,v=.ref a/\FrL K H a vs/\AbsL K H ds vs
def AbsL (K:PySem.W.Frag) (H:Hp):List D->List V->Prop
  | [],vs=>vs=[]
  | d::ds,vs=>∃ v r,vs=v::r/\Abs K H d v/\AbsL K H ds r
end
structure Mono (K:PySem.W.Frag) (H H':Hp):Prop where
  tp:∀ a xs,SqT K H a xs->SqT K H' a xs
  fr:∀ a xs,FrL K H a xs->FrL K H' a xs
  fz:∀ a o,H a=some (fzn o)->H' a=some (fzn o)
section
variable {K:PySem.W.Frag} {H H':Hp}
mutual
theorem Abs.mono (h:Mono K H H'):∀ {d:D} {v:V},Abs K H d v->Abs K H' d v
  | .non,_,r=>r
  | .bl _,_,r=>r
  | .int _,_,r=>r
  | .str _,_,r=>r
  | .ref _,_,r=>r
  | .ty _,_,r=>r
  | .tup _,_,⟨a,vs,e,q,l⟩=>⟨a,vs,e,h.tp a vs q,AbsL.mono h l⟩
  | .frl _,_,⟨a,vs,e,q,l⟩=>⟨a,vs,e,h.fr a vs q,AbsL.mono h l⟩
theorem AbsL.mono (h:Mono K H H'):∀ {ds:List D} {vs:List V},AbsL K H ds vs->AbsL K H' ds vs
  | [],_,r=>r
  | _::_,_,⟨v,r,e,q,l⟩=>⟨v,r,e,Abs.mono h q,AbsL.mono h l⟩
end
theorem AbsL.len:∀ {ds:List D} {vs:List V},AbsL K H ds vs->vs.length=ds.length
  | [],_,r=>by cases r;rfl
  | _::_,_,⟨v,r,e,_,l⟩=>by subst e;simp [l.len]
theorem AbsL.append:∀ {ds es:List D} {vs us:List V},AbsL K H ds vs->AbsL K H es us->AbsL K H (ds++es) (vs++us)
  | [],_,_,_,r,s=>by cases r;exact s
  | _::_,_,_,_,⟨v,r,e,q,l⟩,s=>by subst e;exact ⟨v,_,rfl,q,l.append s⟩
theorem AbsL.one {d:D} {v:V} (h:Abs K H d v):AbsL K H [d] [v]:=⟨v,[],rfl,h,rfl⟩
theorem AbsL.get:∀ {ds:List D} {vs:List V} {i:Nat} {d:D},AbsL K H ds vs->ds[i]?=some d->∃ v,vs[i]?=some v/\Abs K H d v
  | [],_,_,_,_,e=>by simp at e
  | _::_,_,0,_,⟨v,r,e',q,l⟩,e=>by simp at e;subst e e';exact ⟨v,rfl,q⟩
  | _::_,_,i+1,d,⟨v,r,e',q,l⟩,e=>by
    subst e'
    obtain ⟨u,h1,h2⟩:=AbsL.get (i:=i) (d:=d) l (by simpa using e)
    exact ⟨u,by simpa using h1,h2⟩
theorem AbsL.take:∀ {ds:List D} {vs:List V} (n:Nat),AbsL K H ds vs->AbsL K H (ds.take n) (vs.take n)
  | _,_,0,_=>by simp [AbsL]
  | [],_,n+1,r=>by cases r;simp [AbsL]
  | _::_,_,n+1,⟨v,r,e,q,l⟩=>by subst e;exact ⟨v,_,rfl,q,l.take n⟩
theorem AbsL.drop:∀ {ds:List D} {vs:List V} (n:Nat),AbsL K H ds vs->AbsL K H (ds.drop n) (vs.drop n)
  | _,_,0,r=>r
  | [],_,n+1,r=>by cases r;simp [AbsL]
  | _::_,_,n+1,⟨v,r,e,q,l⟩=>by subst e;exact l.drop n
theorem AbsL.reverse:∀ {ds:List D} {vs:List V},AbsL K H ds vs->AbsL K H ds.reverse vs.reverse
  | [],_,r=>by cases r;simp [AbsL]
  | _::_,_,⟨v,r,e,q,l⟩=>by subst e;rw [List.reverse_cons,List.reverse_cons];exact l.reverse.append (.one q)
theorem AbsL.set {d:D} {v:V} (h:Abs K H d v):∀ {ds:List D} {vs:List V} (i:Nat),AbsL K H ds vs->AbsL K H (ds.set i d) (vs.set i v)
  | [],_,_,r=>by cases r;simp [AbsL]
  | _::_,_,0,⟨u,r,e,q,l⟩=>by subst e;exact ⟨v,r,rfl,h,l⟩
  | _::_,_,i+1,⟨u,r,e,q,l⟩=>by subst e;exact ⟨u,_,rfl,q,l.set h i⟩
theorem AbsL.ints {ns:List Int}:∀ {vs:List V},AbsL K H (ns.map D.int) vs->vs=ns.map V.int:=by
  induction ns with
  | nil=>intro vs h;exact h
  | cons n ns ih=>rintro vs ⟨v,r,e,q,l⟩;subst e;rw [ih l,show v=V.int n from q];rfl
theorem AbsL.of_ints:∀ (ns:List Int),AbsL K H (ns.map D.int) (ns.map V.int)
  | []=>rfl
  | n::ns=>⟨_,_,rfl,rfl,AbsL.of_ints ns⟩
end
def cut {α:Type} (xs:List α) (lo hi:Option Int):List α:=(xs.drop (HT.sIx xs.length 0 lo)).take (HT.sIx xs.length xs.length hi - HT.sIx xs.length 0 lo)
theorem AbsL.cut {K:PySem.W.Frag} {H:Hp} {ds:List D} {vs:List V} (h:AbsL K H ds vs) (lo hi:Option Int):AbsL K H (L3.cut ds lo hi) (n4q vs lo hi):=by
  have e:=h.len
  rw [L3.cut,n4q,e]
  exact (h.drop _).take _
inductive DO where
  | lst (ds:List D)
  | ins (C:Addr) (fs:List (Str × D))
  | dK (kvs:List (Key × D))
  | dT (kvs:List (List Key × D))
  | tab (pos:Pos) (qual:Str) | made (env:Env) (name qual:Str) (st:Stmt) (fr:List Str) | clo (name qual:Str) (st:Stmt) (fr:List Str) (vals:List D)
abbrev DV:=Addr->Option DO
abbrev DSt:=List (Option D)
def up (G:DV) (a:Addr) (o:DO):DV:=λ b=>if b=a then some o else G b
theorem a5q {G:DV} {a:Addr} {o:DO}:up G a o a=some o:=by unfold up;rw [if_pos rfl]
theorem aIq {G:DV} {a b:Addr} {o:DO} (h:b≠a):up G a o b=G b:=by unfold up;rw [if_neg h]
theorem cGq {G:DV} {a:Addr} {o u:DO}:up (up G a o) a u=up G a u:=by funext b;unfold up;split<;>rfl
theorem n7q {G:DV} {a b:Addr} {o u:DO} (h:a≠b):up (up G a o) b u=up (up G b u) a o:=by
  funext c;unfold up;split<;>split<;>simp_all
theorem tYq {G:DV} {a:Addr} {o:DO} (h:G a=some o):up G a o=G:=by
  funext b;unfold up;split
  . next e=>rw [e,h]
  . rfl
def AbsF {κ:Type} (K:PySem.W.Frag) (H:Hp) (fs:List (κ × D)) (gs:List (κ × V)):Prop:=fs.map (·.1)=gs.map (·.1)/\AbsL K H (fs.map (·.2)) (gs.map (·.2))
def BearO (K:PySem.W.Frag) (H:Hp) (a:Addr):DO->Prop
  | .lst ds=>∃ vs,H a=some (.lst vs)/\AbsL K H ds vs
  | .ins C fs=>∃ dx gs,H a=some (.ins C dx gs)/\AbsF K H fs gs
  | .dK kvs=>∃ gs,H a=some (.dK gs)/\AbsF K H kvs gs
  | .dT kvs=>∃ gs,H a=some (.dT gs)/\AbsF K H kvs gs
  | .tab pos qual=>Tab H a pos qual
  | .made env name qual st fr=>MadeAt env H a name qual st fr
  | .clo name qual st fr vals=>∃ cl fvs,CloAt H a name qual st cl fvs/\cl.map (·.1)=fr/\AbsL K H vals fvs
def Vw (K:PySem.W.Frag) (G:DV) (H:Hp):Prop:=∀ a o,G a=some o->BearO K H a o
theorem BearO.some {K:PySem.W.Frag} {H:Hp} {a:Addr} {o:DO} (h:BearO K H a o):∃ u,H a=.some u:=by
  cases o with
  | lst ds=>obtain ⟨_,e,_⟩:=h;exact ⟨_,e⟩
  | ins C fs=>obtain ⟨_,_,e,_⟩:=h;exact ⟨_,e⟩
  | dK kvs=>obtain ⟨_,e,_⟩:=h;exact ⟨_,e⟩
  | dT kvs=>obtain ⟨_,e,_⟩:=h;exact ⟨_,e⟩
  | tab pos qual=>obtain ⟨_,e,_⟩:=h;exact ⟨_,e⟩
  | made env name qual st fr=>obtain ⟨_,_,_,_,_,_,_,e,_⟩:=h.fn;exact ⟨_,e⟩
  | clo name qual st fr vals=>obtain ⟨_,_,h,_⟩:=h;obtain ⟨_,_,_,_,_,_,_,e,_⟩:=h.fn;exact ⟨_,e⟩
theorem Vw.none {K:PySem.W.Frag} {G:DV} {H:Hp} (h:Vw K G H) {a:Addr} (e:H a=.none):G a=.none:=by
  cases q:G a with
  | none=>rfl
  | some o=>obtain ⟨u,z⟩:=(h a o q).some;rw [e] at z;cases z
theorem BearO.mono {K:PySem.W.Frag} {H H':Hp} {a:Addr} {o:DO} (ht:Mono K H H') (e:H' a=H a) (h:BearO K H a o):BearO K H' a o:=by
  cases o with
  | lst ds=>obtain ⟨vs,q,l⟩:=h;exact ⟨vs,by rw [e];exact q,l.mono ht⟩
  | ins C fs=>obtain ⟨dx,gs,q,l⟩:=h;exact ⟨dx,gs,by rw [e];exact q,l.1,l.2.mono ht⟩
  | dK kvs=>obtain ⟨gs,q,l⟩:=h;exact ⟨gs,by rw [e];exact q,l.1,l.2.mono ht⟩
  | dT kvs=>obtain ⟨gs,q,l⟩:=h;exact ⟨gs,by rw [e];exact q,l.1,l.2.mono ht⟩
  | tab pos qual=>
    obtain ⟨ps,h1,h2,h3⟩:=h
    refine ⟨ps,by rw [e];exact h1,h2,?_⟩
    rcases h3 with h3 | ⟨c,o,vs,t,h3,h4,h5⟩
    . exact .inl h3
    . exact .inr ⟨c,o,vs,t,h3,ht.fz _ _ h4,h5⟩
  | made env name qual st fr=>
    obtain ⟨oc,od,doc,pm,cdv,ct,sl,h1,c,o,vs,t,h2,h3,h4⟩:=h.fn
    exact ⟨oc,od,doc,pm,cdv,ct,sl,ht.fz _ _ h1,c,o,vs,t,h2,ht.fz _ _ h3,h4⟩
  | clo name qual st fr vals=>
    obtain ⟨cl,fvs,C,h1,h2⟩:=h
    obtain ⟨oc,od,doc,pm,cdv,ct,sl,h3,c,o,vs,t,h4,h5,h6⟩:=C.fn
    exact ⟨cl,fvs,⟨⟨oc,od,doc,pm,cdv,ct,sl,ht.fz _ _ h3,c,o,vs,t,h4,ht.fz _ _ h5,h6⟩,λ i x c hi=>let ⟨v,u,o,z1,z2,z3,z4⟩:=C.cells i x c hi;⟨v,u,o,z1,z2,ht.fz _ _ z3,z4⟩,C.len,C.nda⟩,h1,h2.mono ht⟩
structure Go (K:PySem.W.Frag) (G:DV) (H:Hp) (G':DV) (H':Hp):Prop where
  tup:Mono K H H'
  dom:∀ a o,H a=some o->∃ o',H' a=some o'
  same:∀ a o,H a=some o->G a=none->H' a=some o
  new:∀ a o,H a=some o->G a=none->G' a=none
  vw:Vw K G' H'
section
variable {K:PySem.W.Frag} {G G1 G2 G':DV} {H H1 H2 H':Hp}
theorem Go.refl (v:Vw K G H):Go K G H G H:=⟨⟨λ _ _ h=>h,λ _ _ h=>h,λ _ _ h=>h⟩,λ _ o e=>⟨o,e⟩,λ _ _ e _=>e,λ _ _ _ e=>e,v⟩
theorem Go.trans (a:Go K G H G1 H1) (b:Go K G1 H1 G2 H2):Go K G H G2 H2:=
  ⟨⟨λ x xs h=>b.tup.tp x xs (a.tup.tp x xs h),λ x xs h=>b.tup.fr x xs (a.tup.fr x xs h),λ x o h=>b.tup.fz x o (a.tup.fz x o h)⟩,λ x o e=>let ⟨o',e'⟩:=a.dom x o e;b.dom x o' e',λ x o e n=>b.same x o (a.same x o e n) (a.new x o e n),
   λ x o e n=>b.new x o (a.same x o e n) (a.new x o e n),b.vw⟩
def Sub (G G':DV):Prop:=∀ a o,G a=some o->G' a=some o
theorem Sub.refl (G:DV):Sub G G:=λ _ _ e=>e
theorem Sub.trans {G G1 G2:DV} (a:Sub G G1) (b:Sub G1 G2):Sub G G2:=λ x o e=>b x o (a x o e)
theorem Sub.none {G G':DV} (h:Sub G G') {a:Addr} (e:G' a=.none):G a=.none:=by
  cases q:G a with
  | none=>rfl
  | some o=>rw [h a o q] at e;cases e
theorem Vw.sub (v:Vw K G' H) (h:Sub G G'):Vw K G H:=λ a o e=>v a o (h a o e)
theorem Go.sub (g:Go K G H G1 H1) (h:Sub G2 G1):Go K G H G2 H1:=⟨g.tup,g.dom,g.same,λ x o e n=>h.none (g.new x o e n),g.vw.sub h⟩
theorem u3q {a p:Addr} {o:HO} {xs:List V} (hp:∀ ys,¬ Rd H p (.tup ys)) (h:SqT K H a xs):SqT K (upd H p o) a xs:=by
  rcases h with h | h
  . have ne:a≠p:=by rintro rfl;exact hp _ h
    refine .inl ?_
    unfold Rd at h ⊢
    rw [aFq ne];exact h
  . exact .inr h
theorem vKq {p:Addr} {ys:List V} (h:H p=none):¬ Rd H p (.tup ys):=by
  rintro (e | ⟨o,e⟩)<;>rw [h] at e<;>cases e
theorem yLq {p:Addr} {xs ys:List V} (h:H p=some (.lst xs)):¬ Rd H p (.tup ys):=by
  rintro (e | ⟨o,e⟩)<;>rw [h] at e<;>cases e
theorem iSq {p:Addr} {o:HO} (hp:∀ ys,¬ Rd H p (.tup ys)) (hl:∀ o ys,H p≠some (.frz o ys)):Mono K H (upd H p o) where
  tp:=λ _ _ q=>u3q hp q
  fr:=λ a xs q=>by
    rcases q with ⟨z,q⟩ | q
    . exact .inl ⟨z,by rw [aFq (by rintro rfl;exact hl _ _ q)];exact q⟩
    . exact .inr q
  fz:=λ a u q=>by rw [aFq (by rintro rfl;exact hl _ _ q)];exact q
theorem c1q {p:Addr} {o:HO} (h:H p=none):Mono K H (upd H p o):=iSq (λ _=>vKq h) λ _ _ e=>by rw [h] at e;cases e
theorem bNq {p:Addr} {o:HO} {xs:List V} (h:H p=some (.lst xs)):Mono K H (upd H p o):=iSq (λ _=>yLq h) λ _ _ e=>by rw [h] at e;cases e
theorem Go.newT (v:Vw K G H) {p:Addr} {o:HO} (h:H p=none):Go K G H G (upd H p o) where
  tup:=c1q h
  dom:=λ a u e=>⟨u,by rw [aFq (aSq e h)];exact e⟩
  same:=λ a u e _=>by rw [aFq (aSq e h)];exact e
  new:=λ _ _ _ e=>e
  vw:=λ a u e=>(v a u e).mono (c1q h) (aFq (by rintro rfl;obtain ⟨z,q⟩:=(v _ _ e).some;rw [h] at q;cases q))
theorem Go.newL (v:Vw K G H) {p:Addr} {ds:List D} {vs:List V} (h:H p=none) (r:AbsL K H ds vs):Go K G H (up G p (.lst ds)) (upd H p (.lst vs)) where
  tup:=c1q h
  dom:=λ a u e=>⟨u,by rw [aFq (aSq e h)];exact e⟩
  same:=λ a u e _=>by rw [aFq (aSq e h)];exact e
  new:=λ a u e n=>by rw [aIq (aSq e h)];exact n
  vw:=λ a u e=>by
    by_cases c:a=p
    . subst c;rw [a5q] at e;cases e
      exact ⟨vs,aPq,r.mono (c1q h)⟩
    . rw [aIq c] at e
      exact (v a u e).mono (c1q h) (aFq c)
theorem Go.setL (v:Vw K G H) {p:Addr} {ds0 ds:List D} {vs:List V} (h:G p=some (.lst ds0)) (r:AbsL K H ds vs):Go K G H (up G p (.lst ds)) (upd H p (.lst vs)):=by
  obtain ⟨us,hp,_⟩:=v p _ h
  exact {
    tup:=bNq hp
    dom:=λ a u e=>by
      by_cases c:a=p
      . subst c;exact ⟨_,aPq⟩
      . exact ⟨u,by rw [aFq c];exact e⟩
    same:=λ a u e n=>by
      have c:a≠p:=by rintro rfl;rw [h] at n;cases n
      rw [aFq c];exact e
    new:=λ a u e n=>by
      have c:a≠p:=by rintro rfl;rw [h] at n;cases n
      rw [aIq c];exact n
    vw:=λ a u e=>by
      by_cases c:a=p
      . subst c;rw [a5q] at e;cases e
        exact ⟨vs,aPq,r.mono (bNq hp)⟩
      . rw [aIq c] at e
        exact (v a u e).mono (bNq hp) (aFq c) }
theorem Go.grow (v:Vw K G H) (h:Same H H'):Go K G H G H':=by
  have ht:Mono K H H':=⟨λ b xs q=>by
    rcases q with q | q
    . rcases q with q | ⟨o,q⟩
      . exact .inl (.inl (h _ _ q))
      . exact .inl (.inr ⟨o,h _ _ q⟩)
    . exact .inr q,λ b xs q=>by
    rcases q with ⟨o,q⟩ | q
    . exact .inl ⟨o,h _ _ q⟩
    . exact .inr q,λ b o q=>h _ _ q⟩
  exact ⟨ht,λ a o e=>⟨o,h a o e⟩,λ a o e _=>h a o e,λ _ _ _ e=>e,λ a u e=>by
    obtain ⟨z,q⟩:=(v a u e).some
    exact (v a u e).mono ht (by rw [q];exact h _ _ q)⟩
end
structure Bears (K:PySem.W.Frag) (ρ:DSt) (G:DV) (σ:St) (H:Hp):Prop where
  len:ρ.length=σ.length
  st:∀ (i:Nat) (d:D),ρ[i]?=some (some d)->∃ v,σ[i]?=some (some v)/\Abs K H d v
  vw:Vw K G H
theorem Bears.go {K:PySem.W.Frag} {ρ:DSt} {G G':DV} {σ:St} {H H':Hp} (b:Bears K ρ G σ H) (g:Go K G H G' H'):Bears K ρ G' σ H':=
  ⟨b.len,λ i d e=>let ⟨v,h1,h2⟩:=b.st i d e;⟨v,h1,h2.mono g.tup⟩,g.vw⟩
theorem Bears.set {K:PySem.W.Frag} {ρ:DSt} {G:DV} {σ:St} {H:Hp} {d:D} {v:V} (b:Bears K ρ G σ H) (h:Abs K H d v) (i:Nat):Bears K (ρ.set i (some d)) G (σ.set i (some v)) H where
  len:=by simp [b.len]
  vw:=b.vw
  st:=λ j e he=>by
    by_cases c:j=i
    . subst c
      rw [List.getElem?_set] at he ⊢
      have l:=b.len
      simp only [if_true] at he ⊢
      split at he
      . next q=>rw [if_pos (by omega)];simp at he;subst he;exact ⟨v,rfl,h⟩
      . cases he
    . rw [List.getElem?_set_ne (by omega)] at he ⊢
      exact b.st j e he
def StSub (ρ ρ':DSt):Prop:=ρ.length=ρ'.length/\∀ (i:Nat) (d:D),ρ[i]?=some (some d)->ρ'[i]?=some (some d)
theorem StSub.refl (ρ:DSt):StSub ρ ρ:=⟨rfl,λ _ _ e=>e⟩
theorem Bears.weak {K:PySem.W.Frag} {ρ ρ':DSt} {G G':DV} {σ:St} {H:Hp} (b:Bears K ρ' G' σ H) (s:StSub ρ ρ') (g:Sub G G'):Bears K ρ G σ H:=
  ⟨s.1.trans b.len,λ i d e=>b.st i d (s.2 i d e),b.vw.sub g⟩
abbrev DK:=D->DV->Prop
abbrev DTE:=DSt->DV->DK->Prop
abbrev DTT:=DSt->DV->(Bool->DV->Prop)->Prop
abbrev DTA:=DSt->DV->(List D->DV->Prop)->Prop
abbrev DTO:=DSt->DV->(Option Int->DV->Prop)->Prop
structure DEnds where
  nx:DSt->DV->Prop
  rt:DK
  bk:DSt->DV->Prop:=λ _ _=>False
  ct:DSt->DV->Prop:=λ _ _=>False
abbrev DTS:=DEnds->DSt->DV->Prop
abbrev Fin (K:PySem.W.Frag) (G:DV) (H:Hp) (DQ:DK) (Q:VK):Prop:=∀ d G' v H',Go K G H G' H'->Abs K H' d v->DQ d G'->Q v H'
abbrev FinB (K:PySem.W.Frag) (G:DV) (H:Hp) (DQ:Bool->DV->Prop) (Q:Bool->Hp->Prop):Prop:=∀ b G' H',Go K G H G' H'->DQ b G'->Q b H'
abbrev FinO (K:PySem.W.Frag) (G:DV) (H:Hp) (DQ:Option Int->DV->Prop) (Q:Option Int->Hp->Prop):Prop:=∀ b G' H',Go K G H G' H'->DQ b G'->Q b H'
abbrev FinL (K:PySem.W.Frag) (n:Nat) (G:DV) (H:Hp) (DQ:List D->DV->Prop) (Q:List V->Hp->Prop):Prop:=∀ ds G' vs H',Go K G H G' H'->AbsL K H' ds vs->ds.length=n->DQ ds G'->Q vs H'
structure AE (X:Cx) (e:Expr) (t:DTE):Prop where
  run:∃ tc:TE,JE X e tc/\∀ ρ G DQ σ H Q,Bears X.K ρ G σ H->t ρ G DQ->Fin X.K G H DQ Q->tc σ H Q
structure AT (X:Cx) (e:Expr) (t:DTT):Prop where
  run:∃ tc:TT,JT X e tc/\∀ ρ G DQ σ H Q,Bears X.K ρ G σ H->t ρ G DQ->FinB X.K G H DQ Q->tc σ H Q
structure AW (X:Cx) (e:Expr) (t:DTT):Prop where
  run:∃ tc:TT,JW X e tc/\∀ ρ G DQ σ H Q,Bears X.K ρ G σ H->t ρ G DQ->FinB X.K G H DQ Q->tc σ H Q
structure AA (X:Cx) (es:List Expr) (t:DTA):Prop where
  run:∃ tc:TA,JA X es tc/\∀ ρ G DQ σ H Q,Bears X.K ρ G σ H->t ρ G DQ->FinL X.K es.length G H DQ Q->tc σ H Q
structure AO (X:Cx) (e:Option Expr) (t:DTO):Prop where
  run:∃ tc:TO,JO X e tc/\∀ ρ G DQ σ H Q,Bears X.K ρ G σ H->t ρ G DQ->FinO X.K G H DQ Q->tc σ H Q
structure EndsOk (K:PySem.W.Frag) (G:DV) (H:Hp) (DD:DEnds) (Dc:Ends):Prop where
  nx:∀ ρ G' σ H',Go K G H G' H'->Bears K ρ G' σ H'->DD.nx ρ G'->Dc.nx σ H'
  rt:Fin K G H DD.rt Dc.rt
  bk:∀ ρ G' σ H',Go K G H G' H'->Bears K ρ G' σ H'->DD.bk ρ G'->Dc.bk σ H'
  ct:∀ ρ G' σ H',Go K G H G' H'->Bears K ρ G' σ H'->DD.ct ρ G'->Dc.ct σ H'
structure AS (X:Cx) (st:Stmt) (t:DTS):Prop where
  run:∃ tc:TS,JS X st tc/\∀ DD Dc ρ G σ H,Bears X.K ρ G σ H->t DD ρ G->EndsOk X.K G H DD Dc->tc Dc σ H
structure AB (X:Cx) (st:List Stmt) (t:DTS):Prop where
  run:∃ tc:TS,JB X st tc/\∀ DD Dc ρ G σ H,Bears X.K ρ G σ H->t DD ρ G->EndsOk X.K G H DD Dc->tc Dc σ H
abbrev DTG:=D->DSt->DV->(DSt->DV->Prop)->Prop
abbrev n3q:=List D->DSt->DV->(DSt->DV->Prop)->Prop
abbrev FinS (K:PySem.W.Frag) (G:DV) (H:Hp) (DQ:DSt->DV->Prop) (Q:St->Hp->Prop):Prop:=∀ ρ G' σ H',Go K G H G' H'->Bears K ρ G' σ H'->DQ ρ G'->Q σ H'
structure AG (X:Cx) (tg:Expr) (t:DTG):Prop where
  run:∃ tc:TG,JG X tg tc/\∀ d v ρ G DQ σ H Q,Bears X.K ρ G σ H->Abs X.K H d v->t d ρ G DQ->FinS X.K G H DQ Q->tc v σ H Q
structure AGs (X:Cx) (tgs:List Expr) (t:n3q):Prop where
  run:∃ tc:TGs,JGs X tgs tc/\∀ ds vs ρ G DQ σ H Q,Bears X.K ρ G σ H->AbsL X.K H ds vs->t ds ρ G DQ->FinS X.K G H DQ Q->tc vs σ H Q
abbrev DR1:=D->DV->DK->Prop
abbrev DR2:=D->D->DV->DK->Prop
abbrev DRL:=List D->DV->DK->Prop
structure AOp (X:Cx) (f:Value->Value->Sem Value) (r:DR2):Prop where
  run:∃ rc:R2,JOp X f rc/\∀ x y vx vy G H DQ Q,Vw X.K G H->Abs X.K H x vx->Abs X.K H y vy->r x y G DQ->Fin X.K G H DQ Q->rc vx vy H Q
structure AUn (X:Cx) (f:Value->Sem Value) (r:DR1):Prop where
  run:∃ rc:V->Hp->VK->Prop,JUn X f rc/\∀ x vx G H DQ Q,Vw X.K G H->Abs X.K H x vx->r x G DQ->Fin X.K G H DQ Q->rc vx H Q
structure ACall (X:Cx) (f:Value) (r:DRL):Prop where
  run:∃ rc:List V->Hp->VK->Prop,JCall X f rc/\∀ xs vs G H DQ Q,Vw X.K G H->AbsL X.K H xs vs->r xs G DQ->Fin X.K G H DQ Q->rc vs H Q
structure AIx (X:Cx) (r:DR2):Prop where
  run:∃ rc:R2,JIx X rc/\∀ x y vx vy G H DQ Q,Vw X.K G H->Abs X.K H x vx->Abs X.K H y vy->r x y G DQ->Fin X.K G H DQ Q->rc vx vy H Q
structure ASl (X:Cx) (r:D->Option Int->Option Int->DV->DK->Prop):Prop where
  run:∃ rc,JSl X rc/\∀ x vx lo hi G H DQ Q,Vw X.K G H->Abs X.K H x vx->r x lo hi G DQ->Fin X.K G H DQ Q->rc vx lo hi H Q
theorem Fin.after {K:PySem.W.Frag} {G G1:DV} {H H1:Hp} {DQ:DK} {Q:VK} (F:Fin K G H DQ Q) (g:Go K G H G1 H1):Fin K G1 H1 DQ Q:=λ d G' v H' g' a q=>F d G' v H' (g.trans g') a q
theorem EndsOk.after {K:PySem.W.Frag} {G G1:DV} {H H1:Hp} {DD:DEnds} {Dc:Ends} (F:EndsOk K G H DD Dc) (g:Go K G H G1 H1):EndsOk K G1 H1 DD Dc:=
  ⟨λ ρ G' σ H' g' b q=>F.nx ρ G' σ H' (g.trans g') b q,λ d G' v H' g' a q=>F.rt d G' v H' (g.trans g') a q,λ ρ G' σ H' g' b q=>F.bk ρ G' σ H' (g.trans g') b q,λ ρ G' σ H' g' b q=>F.ct ρ G' σ H' (g.trans g') b q⟩
end L3
namespace L3
open PySem PySem.Spec L2
section
variable {X:Cx} {a b c e o i:Expr} {es:List Expr} {ta tb te to ti:DTE} {t:DTA} {pos p apos cpos:Pos}
abbrev dC (d:D):DTE:=λ _ G Q=>Q d G
abbrev dVar (k:Nat):DTE:=λ ρ G Q=>match ρ[k]? with
  | some (some d)=>Q d G
  | _=>False
theorem wTq {v:V} {d:D} (h:JE X e (tC v)) (r:∀ H,Abs X.K H d v):AE X e (dC d):=⟨_,h,λ ρ G DQ σ H Q B q F=>F d G v H (.refl B.vw) (r H) q⟩
theorem a3q {n:Int} {j}:AE X (.Constant (.int n) j pos) (dC (.int n)):=wTq wYq λ _=>rfl
theorem mIq {n:Bool} {j}:AE X (.Constant (.bool n) j pos) (dC (.bl n)):=wTq aJ9q λ _=>rfl
theorem c4q {j}:AE X (.Constant .none j pos) (dC .non):=wTq xIq λ _=>rfl
theorem aBq {x:Str} {j}:AE X (.Constant (.str x) j pos) (dC (.str x)):=wTq y5q λ _=>rfl
theorem a1q (k:Nat) {x:Str} (hN:X.N[k]?=some x:=by rfl) (hv:Vis X.env.scope x:=by first | exact Or.inl rfl | exact Or.inr (Or.inl rfl) | exact Or.inr (Or.inr rfl)) (hd:(x==("__debug__" : Str))=false:=by decide)
    (hcd:(x==("__classdict__" : Str))=false:=by decide):AE X (.Name x pos) (dVar k):=⟨_,jv k hN hv hd hcd,λ ρ G DQ σ H Q B q F=>by
  unfold dVar at q
  split at q
  . next d h=>
    obtain ⟨v,h1,h2⟩:=B.st k d h
    exact ⟨v,h1,F d G v H (.refl B.vw) h2 q⟩
  . exact q.elim⟩
theorem dWq {x:Str} {n:String} (hg:Gl X x) (hm:X.mg x=none) (hv:bootBuiltins x=some (.type n)) (hn:x≠"__name__":=by decide) (hd:(x==("__debug__" : Str))=false:=by decide):AE X (.Name x pos) (dC (.ty n)):=
  wTq (tQq (v:=.ty n) hg hm hv rfl hn hd) λ _=>rfl
theorem hJq {x:Str} {v:V} {u:Value} {d:D} (hg:Gl X x) (hm:X.mg x=some u) (r:RelV v u) (ha:∀ H,Abs X.K H d v) (hd:(x==("__debug__" : Str))=false:=by decide):AE X (.Name x pos) (dC d):=wTq (v9q hg hm r hd) ha
abbrev dNil:DTA:=λ _ G Q=>Q [] G
abbrev aF8q (ta:DTE) (tr:DTA):DTA:=λ ρ G Q=>ta ρ G λ x G1=>tr ρ G1 λ xs G2=>Q (x::xs) G2
theorem a2q:AA X [] dNil:=⟨_,aA2q,λ ρ G DQ σ H Q B q F=>F [] G [] H (.refl B.vw) rfl rfl q⟩
theorem a0q (ha:AE X e te) (hr:AA X es t) (hs:aLq e=true:=by rfl):AA X (e::es) (aF8q te t):=by
  obtain ⟨ca,ja,ra⟩:=ha.run
  obtain ⟨cr,jr,rr⟩:=hr.run
  refine ⟨_,vZq ja jr hs,λ ρ G DQ σ H Q B q F=>?_⟩
  refine ra ρ G _ σ H _ B q λ x G1 v H1 g1 ax q1=>rr ρ G1 _ σ H1 _ (B.go g1) q1 λ xs G2 vs H2 g2 axs hl q2=>?_
  exact F (x::xs) G2 (v::vs) H2 (g1.trans g2) ⟨v,vs,rfl,ax.mono g2.tup,axs⟩ (by simp [hl]) q2
abbrev dTup (t:DTA):DTE:=λ ρ G Q=>t ρ G λ ds G1=>Q (.tup ds) G1
abbrev dLst (t:DTA):DTE:=λ ρ G Q=>t ρ G λ ds G1=>∀ p,G1 p=none->Q (.ref p) (up G1 p (.lst ds))
theorem kIq {n:Nat} (h:Nat.ble n 1000=true):n<=sizeLine:=by
  have:=Nat.le_of_ble_eq_true h
  rw [sizeLine_eq];omega
theorem aCq {x1} (h:AA X es t) (hl:Nat.ble es.length 1000=true:=by rfl):AE X (.Tuple es x1 pos) (dTup t):=by
  obtain ⟨ca,ja,ra⟩:=h.run
  refine ⟨_,y6q ja,λ ρ G DQ σ H Q B q F=>ra ρ G _ σ H _ B q λ ds G1 vs H1 g1 al hn q1=>⟨by rw [al.len,hn];exact kIq hl,λ p hp=>?_⟩⟩
  have g2:=Go.newT (o:=.tup vs) g1.vw hp
  exact F (.tup ds) G1 _ _ (g1.trans g2) ⟨p,vs,rfl,.of aPq,al.mono g2.tup⟩ q1
theorem b7q (h:AA X es t) (hl:Nat.ble es.length 1000=true:=by rfl):AE X (.List es pos) (dLst t):=by
  obtain ⟨ca,ja,ra⟩:=h.run
  refine ⟨_,t0q ja,λ ρ G DQ σ H Q B q F=>ra ρ G _ σ H _ B q λ ds G1 vs H1 g1 al hn q1=>⟨by rw [al.len,hn];exact kIq hl,λ p hp=>?_⟩⟩
  exact F (.ref p) _ _ _ (g1.trans (Go.newL g1.vw hp al)) rfl (q1 p (g1.vw.none hp))
def atN (ds:List D):Int->Option D
  | .ofNat k=>ds[k]?
  | .negSucc k=>atI ds (.negSucc k)
theorem tFq (ds:List D) (i:Int):atN ds i=atI ds i:=by
  cases i with
  | negSucc k=>rfl
  | ofNat k=>
    show ds[k]?=atI ds (k:Int)
    by_cases h:k < ds.length
    . rw [List.getElem?_eq_getElem h]
      exact (c2q (List.getElem?_eq_getElem h)).symm
    . rw [List.getElem?_eq_none (by omega)]
      unfold atI ixN
      rw [if_pos (by omega),if_neg (by omega)];rfl
def atD (ds:List D) (i:Int) (G:DV) (Q:DK):Prop:=match atN ds i with
  | some d=>Q d G
  | none=>False
theorem dMq {ds:List D} {i:Int} {G:DV} {Q:DK} {d:D} (h:atI ds i=some d) (q:Q d G):atD ds i G Q:=by unfold atD;rw [tFq,h];exact q
@[irreducible] def onL (G:DV) (l:Addr) (k:List D->Prop):Prop:=match G l with
  | some (.lst ds)=>k ds
  | _=>False
@[irreducible] def onM (G:DV) (l:Addr) (k:List D->Prop):Prop:=match G l with
  | some (.lst ds)=>k ds
  | _=>False
theorem aHq {G:DV} {l:Addr} {k:List D->Prop} {ds:List D} (h:G l=some (.lst ds)) (q:k ds):onL G l k:=by unfold onL;rw [h];exact q
theorem aVq {G:DV} {l:Addr} {k:List D->Prop} {ds:List D} (h:G l=some (.lst ds)) (q:k ds):onM G l k:=by unfold onM;rw [h];exact q
theorem bDq {K:PySem.W.Frag} {G:DV} {H:Hp} {l:Addr} {k:List D->Prop} (v:Vw K G H) (h:onL G l k):∃ ds vs,k ds/\SqL K H l vs/\AbsL K H ds vs:=by
  unfold onL at h
  split at h
  . next ds e=>obtain ⟨vs,z,r⟩:=v _ _ e;exact ⟨ds,vs,h,.of z,r⟩
  . exact h.elim
theorem cNq {K:PySem.W.Frag} {G:DV} {H:Hp} {l:Addr} {k:List D->Prop} (v:Vw K G H) (h:onM G l k):∃ ds vs,k ds/\G l=some (.lst ds)/\H l=some (.lst vs)/\AbsL K H ds vs:=by
  unfold onM at h
  split at h
  . next ds e=>obtain ⟨vs,z,r⟩:=v _ _ e;exact ⟨ds,vs,h,e,z,r⟩
  . exact h.elim
abbrev dOp (r:DR2) (ta tb:DTE):DTE:=λ ρ G Q=>ta ρ G λ x G1=>tb ρ G1 λ y G2=>r x y G2 Q
abbrev dUn (r:DR1) (ta:DTE):DTE:=λ ρ G Q=>ta ρ G λ x G1=>r x G1 Q
theorem aQq {op:Operator} {r:DR2} (ho:AOp X (binaryOp op) r) (ha:AE X a ta) (hb:AE X b tb):AE X (.BinOp a op b pos) (dOp r ta tb):=by
  obtain ⟨ca,ja,ra⟩:=ha.run
  obtain ⟨cb,jb,rb⟩:=hb.run
  obtain ⟨co,jo,ro⟩:=ho.run
  refine ⟨_,aN4q jo ja jb,λ ρ G DQ σ H Q B q F=>?_⟩
  exact ra ρ G _ σ H _ B q λ x G1 v H1 g1 ax q1=>rb ρ G1 _ σ H1 _ (B.go g1) q1 λ y G2 u H2 g2 ay q2=>ro x y v u G2 H2 DQ Q g2.vw (ax.mono g2.tup) ay q2 (F.after (g1.trans g2))
theorem cFq {op:CmpOp} {r:DR2} (ho:AOp X (compareOp op) r) (ha:AE X a ta) (hb:AE X b tb) (hm:behindInMarks op b=false):AE X (.Compare a [op] [b] pos) (dOp r ta tb):=by
  obtain ⟨ca,ja,ra⟩:=ha.run
  obtain ⟨cb,jb,rb⟩:=hb.run
  obtain ⟨co,jo,ro⟩:=ho.run
  refine ⟨_,wIq jo ja jb hm,λ ρ G DQ σ H Q B q F=>?_⟩
  exact ra ρ G _ σ H _ B q λ x G1 v H1 g1 ax q1=>rb ρ G1 _ σ H1 _ (B.go g1) q1 λ y G2 u H2 g2 ay q2=>ro x y v u G2 H2 DQ Q g2.vw (ax.mono g2.tup) ay q2 (F.after (g1.trans g2))
theorem uEq {op:UnaryOp} {r:DR1} (ho:AUn X (unaryOp op) r) (ha:AE X a ta):AE X (.UnaryOp op a pos) (dUn r ta):=by
  obtain ⟨ca,ja,ra⟩:=ha.run
  obtain ⟨co,jo,ro⟩:=ho.run
  refine ⟨_,aK6q jo ja,λ ρ G DQ σ H Q B q F=>?_⟩
  exact ra ρ G _ σ H _ B q λ x G1 v H1 g1 ax q1=>ro x v G1 H1 DQ Q g1.vw ax q1 (F.after g1)
theorem aDq {r:DR2} (hr:AIx X r) (ha:AE X a ta) (hb:AE X b tb) (hs:iFq b):AE X (.Subscript a b pos) (dOp r ta tb):=by
  obtain ⟨ca,ja,ra⟩:=ha.run
  obtain ⟨cb,jb,rb⟩:=hb.run
  obtain ⟨co,jo,ro⟩:=hr.run
  refine ⟨_,y0q jo ja jb hs,λ ρ G DQ σ H Q B q F=>?_⟩
  exact ra ρ G _ σ H _ B q λ x G1 v H1 g1 ax q1=>rb ρ G1 _ σ H1 _ (B.go g1) q1 λ y G2 u H2 g2 ay q2=>ro x y v u G2 H2 DQ Q g2.vw (ax.mono g2.tup) ay q2 (F.after (g1.trans g2))
def Br (c:Bool) (A B:Prop):Prop:=(c=true->A)/\(c=false->B)
theorem Br.yes {c:Bool} {A B:Prop} (h:c=true) (q:A):Br c A B:=⟨λ _=>q,λ z=>absurd (h.symm.trans z) (by decide)⟩
theorem Br.no {c:Bool} {A B:Prop} (h:c=false) (q:B):Br c A B:=⟨λ z=>absurd (h.symm.trans z) (by decide),λ _=>q⟩
abbrev blD (x:D) (k:Bool->Prop):Prop:=match x with
  | .bl c=>k c
  | _=>False
theorem lCq {K:PySem.W.Frag} {H:Hp} {x:D} {v:V} {k:Bool->Prop} (h:blD x k) (r:Abs K H x v):∃ c,v=.bl c/\x=.bl c/\k c:=by
  unfold blD at h
  split at h
  . exact ⟨_,r,rfl,h⟩
  . exact h.elim
abbrev aI8q (ta tb:DTE):DTE:=λ ρ G Q=>ta ρ G λ x G1=>blD x λ c=>Br c (tb ρ G1 Q) (Q (.bl false) G1)
abbrev aK1q (ta:DTE):DTE:=λ ρ G Q=>ta ρ G λ x G1=>blD x λ c=>Q (.bl (!c)) G1
theorem h3q {op} (h:AE X a ta):AE X (.BoolOp op [a] pos) ta:=by
  obtain ⟨ca,ja,ra⟩:=h.run
  exact ⟨_,x4q ja,ra⟩
theorem g4q {rest:List Expr} (ha:AE X a ta) (hb:AE X (.BoolOp .And (b::rest) pos) tb):AE X (.BoolOp .And (a::b::rest) pos) (aI8q ta tb):=by
  obtain ⟨ca,ja,ra⟩:=ha.run
  obtain ⟨cb,jb,rb⟩:=hb.run
  refine ⟨_,z6q ja jb,λ ρ G DQ σ H Q B q F=>ra ρ G _ σ H _ B q λ x G1 v H1 g1 ax q1=>?_⟩
  obtain ⟨c,e1,e2,q2⟩:=lCq q1 ax
  refine ⟨c,e1,?_⟩
  cases c with
  | true=>exact rb ρ G1 _ σ H1 _ (B.go g1) (q2.1 rfl) (F.after g1)
  | false=>exact F (.bl false) _ _ _ g1 rfl (q2.2 rfl)
theorem yBq (ha:AE X a ta):AE X (.UnaryOp .Not a pos) (aK1q ta):=by
  obtain ⟨ca,ja,ra⟩:=ha.run
  refine ⟨_,x9q ja,λ ρ G DQ σ H Q B q F=>ra ρ G _ σ H _ B q λ x G1 v H1 g1 ax q1=>?_⟩
  obtain ⟨c,e1,e2,q2⟩:=lCq q1 ax
  exact ⟨c,e1,F (.bl (!c)) _ _ _ g1 rfl q2⟩
abbrev dIf (tc:DTT) (ta tb:DTE):DTE:=λ ρ G Q=>tc ρ G λ c G1=>Br c (ta ρ G1 Q) (tb ρ G1 Q)
theorem bYq {tc:DTT} (hc:AT X c tc) (ha:AE X a ta) (hb:AE X b tb):AE X (.IfExp c a b pos) (dIf tc ta tb):=by
  obtain ⟨cc,jc,rc⟩:=hc.run
  obtain ⟨ca,ja,ra⟩:=ha.run
  obtain ⟨cb,jb,rb⟩:=hb.run
  refine ⟨_,r7q jc ja jb,λ ρ G DQ σ H Q B q F=>rc ρ G _ σ H _ B q λ c G1 H1 g1 q1=>?_⟩
  cases c with
  | true=>exact ra ρ G1 _ σ H1 _ (B.go g1) (q1.1 rfl) (F.after g1)
  | false=>exact rb ρ G1 _ σ H1 _ (B.go g1) (q1.2 rfl) (F.after g1)
abbrev aM6q (t:DTE):DTT:=λ ρ G Q=>t ρ G λ x G1=>blD x λ c=>Q c G1
theorem aMq {op:CmpOp} {r:DR2} (ho:AOp X (compareOp op) r) (ha:AE X a ta) (hb:AE X b tb) (hm:behindInMarks op b=false):AT X (.Compare a [op] [b] pos) (aM6q (dOp r ta tb)):=by
  obtain ⟨ca,ja,ra⟩:=ha.run
  obtain ⟨cb,jb,rb⟩:=hb.run
  obtain ⟨co,jo,ro⟩:=ho.run
  refine ⟨_,uZq jo ja jb hm,λ ρ G DQ σ H Q B q F=>?_⟩
  refine ra ρ G _ σ H _ B q λ x G1 v H1 g1 ax q1=>rb ρ G1 _ σ H1 _ (B.go g1) q1 λ y G2 u H2 g2 ay q2=>ro x y v u G2 H2 _ _ g2.vw (ax.mono g2.tup) ay q2 λ z G3 w H3 g3 az q3=>?_
  obtain ⟨c,e1,e2,q4⟩:=lCq q3 az
  exact ⟨c,e1,F c G3 H3 ((g1.trans g2).trans g3) q4⟩
abbrev dNot (tc:DTT):DTT:=λ ρ G Q=>tc ρ G λ c G1=>Q (!c) G1
abbrev dAnd (tc td:DTT):DTT:=λ ρ G Q=>tc ρ G λ c G1=>Br c (td ρ G1 Q) (Q false G1)
abbrev dOr (tc td:DTT):DTT:=λ ρ G Q=>tc ρ G λ c G1=>Br c (Q true G1) (td ρ G1 Q)
theorem p9q {tc:DTT} (ha:AT X a tc):AT X (.UnaryOp .Not a pos) (dNot tc):=by
  obtain ⟨ca,ja,ra⟩:=ha.run
  exact ⟨_,aA7q ja,λ ρ G DQ σ H Q B q F=>ra ρ G _ σ H _ B q λ c G1 H1 g1 q1=>F _ _ _ g1 q1⟩
theorem lGq {tc:DTT} (ha:AT X a tc):AW X (.BoolOp .And [a] pos) tc:=by
  obtain ⟨ca,ja,ra⟩:=ha.run
  exact ⟨_,wJq ja,ra⟩
theorem kCq {tc:DTT} (ha:AT X a tc):AW X (.BoolOp .Or [a] pos) tc:=by
  obtain ⟨ca,ja,ra⟩:=ha.run
  exact ⟨_,aC8q ja,ra⟩
theorem qKq {tc td:DTT} {rest:List Expr} (ha:AT X a tc) (hb:AW X (.BoolOp .And (b::rest) pos) td):AW X (.BoolOp .And (a::b::rest) pos) (dAnd tc td):=by
  obtain ⟨ca,ja,ra⟩:=ha.run
  obtain ⟨cb,jb,rb⟩:=hb.run
  refine ⟨_,aC3q ja jb,λ ρ G DQ σ H Q B q F=>ra ρ G _ σ H _ B q λ c G1 H1 g1 q1=>?_⟩
  cases c with
  | true=>exact rb ρ G1 _ σ H1 _ (B.go g1) (q1.1 rfl) λ c G' H' g'=>F c G' H' (g1.trans g')
  | false=>exact F _ _ _ g1 (q1.2 rfl)
theorem oWq {tc td:DTT} {rest:List Expr} (ha:AT X a tc) (hb:AW X (.BoolOp .Or (b::rest) pos) td):AW X (.BoolOp .Or (a::b::rest) pos) (dOr tc td):=by
  obtain ⟨ca,ja,ra⟩:=ha.run
  obtain ⟨cb,jb,rb⟩:=hb.run
  refine ⟨_,aF1q ja jb,λ ρ G DQ σ H Q B q F=>ra ρ G _ σ H _ B q λ c G1 H1 g1 q1=>?_⟩
  cases c with
  | false=>exact rb ρ G1 _ σ H1 _ (B.go g1) (q1.2 rfl) λ c G' H' g'=>F c G' H' (g1.trans g')
  | true=>exact F _ _ _ g1 (q1.1 rfl)
theorem AW.at {tc:DTT} (h:AW X e tc):AT X e tc:=by
  obtain ⟨ca,ja,ra⟩:=h.run
  exact ⟨_,ja.pt,ra⟩
def truD (x:D) (G:DV) (k:Bool->Prop):Prop:=match x with
  | .non=>k false
  | .bl b=>k b
  | .int i=>k (i !=0)
  | .str y=>y.length<=sizeLine/\k ((y.length:Int) !=0)
  | .tup ds=>k (!ds.isEmpty)
  | .ref p=>onL G p λ ds=>k (!ds.isEmpty)
  | _=>False
theorem AbsL.isEmpty {K:PySem.W.Frag} {H:Hp} {ds:List D} {vs:List V} (h:AbsL K H ds vs):vs.isEmpty=ds.isEmpty:=by
  have:=h.len
  cases ds<;>cases vs<;>simp_all
abbrev aA3q (t:DTE):DTT:=λ ρ G Q=>t ρ G λ x G1=>truD x G1 λ c=>Q c G1
theorem bBq (ha:AE X a ta) (he:∀ whole,isTrue a X.env whole=(do let v ← whole;standAt a.pos;holding [v] (truthy v)):=by intro _;rfl):AT X a (aA3q ta):=by
  obtain ⟨ca,ja,ra⟩:=ha.run
  refine ⟨_,qWq ja he,λ ρ G DQ σ H Q B q F=>ra ρ G _ σ H _ B q λ x G1 v H1 g1 ax q1=>?_⟩
  cases x with
  | non=>cases ax;exact ⟨_,rfl,F _ _ _ g1 q1⟩
  | bl b=>cases ax;exact ⟨_,rfl,F _ _ _ g1 q1⟩
  | int i=>cases ax;exact ⟨_,rfl,F _ _ _ g1 q1⟩
  | str y=>cases ax;exact ⟨_,⟨q1.1,rfl⟩,F _ _ _ g1 q1.2⟩
  | ref l=>
    cases ax
    obtain ⟨ds,vs,k,s,r⟩:=bDq g1.vw q1
    exact ⟨_,.inl ⟨vs,s,rfl⟩,by rw [r.isEmpty];exact F _ _ _ g1 k⟩
  | tup ds=>
    obtain ⟨l,vs,rfl,s,r⟩:=ax
    exact ⟨_,.inr (.inl ⟨vs,s,rfl⟩),by rw [r.isEmpty];exact F _ _ _ g1 q1⟩
  | ty n=>exact (show False from q1).elim
  | frl ds=>exact (show False from q1).elim
abbrev vRq:DTO:=λ _ G Q=>Q none G
abbrev aL1q (t:DTE):DTO:=λ ρ G Q=>t ρ G λ x G1=>match x with
  | .int i=>Q (some i) G1
  | _=>False
theorem e8q:AO X none vRq:=⟨_,v8q,λ ρ G DQ σ H Q B q F=>F none G H (.refl B.vw) q⟩
theorem dVq (h:AE X e te):AO X (some e) (aL1q te):=by
  obtain ⟨ca,ja,ra⟩:=h.run
  refine ⟨_,uYq ja,λ ρ G DQ σ H Q B q F=>ra ρ G _ σ H _ B q λ x G1 v H1 g1 ax q1=>?_⟩
  split at q1
  . next i=>exact ⟨i,ax,F _ _ _ g1 q1⟩
  . exact q1.elim
abbrev dSl (r:D->Option Int->Option Int->DV->DK->Prop) (te:DTE) (tl th:DTO):DTE:=λ ρ G Q=>te ρ G λ x G1=>tl ρ G1 λ l G2=>th ρ G2 λ u G3=>r x l u G3 Q
theorem cUq {r:D->Option Int->Option Int->DV->DK->Prop} {lo hi:Option Expr} {tl th:DTO} {p2:Pos} (hr:ASl X r) (he:AE X e te) (hl:AO X lo tl) (hu:AO X hi th):AE X (.Subscript e (.Slice lo hi none p2) pos) (dSl r te tl th):=by
  obtain ⟨ce,je,re⟩:=he.run
  obtain ⟨cl,jl,rl⟩:=hl.run
  obtain ⟨cu,ju,ru⟩:=hu.run
  obtain ⟨cr,jr,rr⟩:=hr.run
  refine ⟨_,rVq jr je jl ju,λ ρ G DQ σ H Q B q F=>re ρ G _ σ H _ B q λ x G1 v H1 g1 ax q1=>rl ρ G1 _ σ H1 _ (B.go g1) q1 λ l G2 H2 g2 q2=>ru ρ G2 _ σ H2 _ ((B.go g1).go g2) q2 λ u G3 H3 g3 q3=>?_⟩
  exact rr x v l u G3 H3 DQ Q g3.vw ((ax.mono g2.tup).mono g3.tup) q3 (F.after ((g1.trans g2).trans g3))
abbrev aJ0q:DTS:=λ D ρ G=>D.nx ρ G
abbrev dSeq (t u:DTS):DTS:=λ D ρ G=>t { D with nx:=u D } ρ G
abbrev aH3q (te:DTE):DTS:=λ D ρ G=>te ρ G λ _ G1=>D.nx ρ G1
abbrev dRet (te:DTE):DTS:=λ D ρ G=>te ρ G D.rt
abbrev dIfS (c:DTT) (t u:DTS):DTS:=λ D ρ G=>c ρ G λ b G1=>Br b (t D ρ G1) (u D ρ G1)
theorem b4q:AB X [] aJ0q:=⟨_,ySq,λ DD Dc ρ G σ H B q F=>F.nx ρ G σ H (.refl B.vw) B q⟩
theorem a4q {st:Stmt} {rest:List Stmt} {ts us:DTS} (h1:AS X st ts) (h2:AB X rest us):AB X (st::rest) (dSeq ts us):=by
  obtain ⟨c1,j1,r1⟩:=h1.run
  obtain ⟨c2,j2,r2⟩:=h2.run
  refine ⟨_,w0q j1 j2,λ DD Dc ρ G σ H B q F=>r1 _ _ ρ G σ H B q ⟨λ ρ' G' σ' H' g b q=>r2 DD Dc ρ' G' σ' H' b q (F.after g),F.rt,F.bk,F.ct⟩⟩
theorem a8q {st:Stmt} {ts:DTS} (h1:AS X st ts):AB X [st] ts:=by
  obtain ⟨c1,j1,r1⟩:=h1.run
  exact ⟨_,zTq j1,r1⟩
theorem bFq (he:AE X e te) (hs:swapsWith e none pos.line X.env=pure false:=by rfl):AS X (.Expr e pos) (aH3q te):=by
  obtain ⟨c1,j1,r1⟩:=he.run
  exact ⟨_,vPq j1 hs,λ DD Dc ρ G σ H B q F=>r1 ρ G _ σ H _ B q λ d G' v H' g _ q=>F.nx ρ G' σ H' g (B.go g) q⟩
theorem aEq (he:AE X e te):AS X (.Return (some e) pos) (dRet te):=by
  obtain ⟨c1,j1,r1⟩:=he.run
  exact ⟨_,aB3q j1,λ DD Dc ρ G σ H B q F=>r1 ρ G _ σ H _ B q F.rt⟩
theorem bAq {ss us:List Stmt} {tc:DTT} {ts tu:DTS} (hc:AT X c tc) (ha:AB X ss ts) (hb:AB X us tu):AS X (.If c ss us pos) (dIfS tc ts tu):=by
  obtain ⟨cc,jc,rc⟩:=hc.run
  obtain ⟨ca,ja,ra⟩:=ha.run
  obtain ⟨cb,jb,rb⟩:=hb.run
  refine ⟨_,aL5q jc ja jb,λ DD Dc ρ G σ H B q F=>rc ρ G _ σ H _ B q λ c G1 H1 g1 q1=>?_⟩
  cases c with
  | true=>exact ra DD Dc ρ G1 σ H1 (B.go g1) (q1.1 rfl) (F.after g1)
  | false=>exact rb DD Dc ρ G1 σ H1 (B.go g1) (q1.2 rfl) (F.after g1)
abbrev jSq (k:Nat):DTG:=λ d ρ G Q=>Q (ρ.set k (some d)) G
abbrev uJq:n3q:=λ ds ρ G Q=>match ds with
  | []=>Q ρ G
  | _=>False
abbrev pGq (t:DTG) (u:n3q):n3q:=λ ds ρ G Q=>match ds with
  | d::r=>t d ρ G λ ρ' G'=>u r ρ' G' Q
  | []=>False
abbrev z3q (t:n3q):DTG:=λ d ρ G Q=>match d with
  | .tup ds=>t ds ρ G Q
  | _=>False
theorem aNq {k:Nat} {x:Str} (hN:X.N.Nodup) (hi:X.N[k]?=some x) (hx:Loc X.env.scope x) (hf:X.fn x=true\/X.env.scope.names.lookup x=some .local:=by first | exact .inl rfl | exact .inr rfl | assumption):AG X (.Name x pos) (jSq k):=
  ⟨_,uTq hN hi hx hf,λ d v ρ G DQ σ H Q B a q F=>F _ G _ H (.refl B.vw) (B.set a k) q⟩
abbrev dAsg (te:DTE) (g:DTG):DTS:=λ D ρ G=>te ρ G λ x G1=>g x ρ G1 D.nx
theorem gWq {tg:Expr} {g:DTG} (he:AE X e te) (hg:AG X tg g) (hs:swapsWithSole [tg] e pos.line X.env=pure false:=by rfl) (hw:swappedStores [tg] e X.env=pure none:=by rfl) (h1:(assignEach [tg] X.env).map (·.2)=[assign tg X.env]:=by rfl):AS X (.Assign [tg] e pos) (dAsg te g):=by
  obtain ⟨c1,j1,r1⟩:=he.run
  obtain ⟨c2,j2,r2⟩:=hg.run
  exact ⟨_,wWq j1 j2 hs hw h1,λ DD Dc ρ G σ H B q F=>r1 ρ G _ σ H _ B q λ d G1 v H1 g1 a q1=>r2 d v ρ G1 _ σ H1 _ (B.go g1) a q1 λ ρ' G' σ' H' g' b q'=>F.nx ρ' G' σ' H' (g1.trans g') b q'⟩
theorem aAq {k:Nat} {x:Str} {pos':Pos} (hN:X.N.Nodup) (hi:X.N[k]?=some x) (hx:Loc X.env.scope x) (he:AE X e te) (hs:swapsWith e (some (.Name x pos')) pos.line X.env=pure false:=by rfl) (hf:X.fn x=true\/X.env.scope.names.lookup x=some .local:=by first | exact .inl rfl | exact .inr rfl | assumption) :
    AS X (.Assign [.Name x pos'] e pos) (dAsg te (jSq k)):=by
  obtain ⟨c1,j1,r1⟩:=he.run
  exact ⟨_,zQq hN hi hx j1 hs hf,λ DD Dc ρ G σ H B q F=>r1 ρ G _ σ H _ B q λ d G1 v H1 g1 a q1=>F.nx _ G1 _ H1 g1 ((B.go g1).set a k) q1⟩
theorem d2q:AGs X [] uJq:=⟨_,u1q,λ ds vs ρ G DQ σ H Q B a q F=>by
  cases ds with
  | nil=>cases a;exact ⟨rfl,F ρ G σ H (.refl B.vw) B q⟩
  | cons d r=>exact (show False from q).elim⟩
theorem b3q {tg:DTG} {u:n3q} (h1:AG X e tg) (h2:AGs X es u) (hs:(assignEach (e::es) X.env).map (·.2)=assign e X.env::(assignEach es X.env).map (·.2):=by rfl):AGs X (e::es) (pGq tg u):=by
  obtain ⟨c1,j1,r1⟩:=h1.run
  obtain ⟨c2,j2,r2⟩:=h2.run
  refine ⟨_,rPq j1 j2 hs,λ ds vs ρ G DQ σ H Q B a q F=>?_⟩
  cases ds with
  | nil=>exact (show False from q).elim
  | cons d r=>
    obtain ⟨v,us,rfl,ad,ar⟩:=a
    exact ⟨v,us,rfl,r1 d v ρ G _ σ H _ B ad q λ ρ' G' σ' H' g b q'=>r2 r us ρ' G' _ σ' H' _ b (ar.mono g.tup) q' λ ρ2 G2 σ2 H2 g2 b2 q2=>F ρ2 G2 σ2 H2 (g.trans g2) b2 q2⟩
theorem fFq {k n:Nat} {tg:n3q} (hc:X.calm=true) (h:AGs X es tg) (hl:es.length=n:=by rfl) (hn:(assignEach es X.env).length=n:=by rfl) (hst:(assignEach es X.env).findIdx? (·.1)=none:=by rfl)
    (hlen:∀ ds ρ G Q,tg ds ρ G Q->ds.length=n:=by intro ds ρ G Q h;match ds,h with | [],h=>(first | rfl | exact (show False from h).elim) | [_],h=>(first | rfl | exact (show False from h).elim) | [_,_],h=>(first | rfl | exact (show False from h).elim) | [_,_,_],h=>(first | rfl | exact (show False from h).elim) | _::_::_::_::_,h=>exact (show False from h).elim):AG X (.Tuple es k pos) (z3q tg):=by
  obtain ⟨c1,j1,r1⟩:=h.run
  refine ⟨_,yFq (n:=n) hc j1 hn hst,λ d v ρ G DQ σ H Q B a q F=>?_⟩
  cases d with
  | tup ds=>
    obtain ⟨l,vs,rfl,s,r⟩:=a
    exact ⟨l,vs,rfl,s,by rw [r.len];exact hlen _ _ _ _ q,r1 ds vs ρ G DQ σ H Q B r q F⟩
  | _=>exact (show False from q).elim
end
end L3
namespace L3
open PySem PySem.Spec L2
section
variable {X:Cx}
def addD:DR2:=λ x y G Q=>match x,y with
  | .int i,.int j=>Q (.int (i+j)) G
  | .str i,.str j=>i.length+j.length<=sizeLine/\Q (.str (i++j)) G
  | .tup xs,.tup ys=>xs.length+ys.length<=sizeLine/\Q (.tup (xs++ys)) G
  | .ref l,.ref m=>onM G l λ xs=>onM G m λ ys=>xs.length+ys.length<=sizeLine/\∀ p,G p=none->Q (.ref p) (up G p (.lst (xs++ys)))
  | _,_=>False
theorem aWq:AOp X (binaryOp .Add) addD:=by
  refine ⟨_,⟨op_add.or (op_add_str.or (op_catW.or zRq))⟩,λ x y vx vy G H DQ Q v ax ay r F=>?_⟩
  cases x with
  | int i=>
    cases y with
    | int j=>cases ax;cases ay;exact .inl ⟨i,j,rfl,rfl,F (.int (i+j)) G _ H (.refl v) rfl r⟩
    | _=>exact (show False from r).elim
  | str i=>
    cases y with
    | str j=>cases ax;cases ay;exact .inr (.inl ⟨i,j,rfl,rfl,r.1,F (.str (i++j)) G _ H (.refl v) rfl r.2⟩)
    | _=>exact (show False from r).elim
  | tup xs=>
    cases y with
    | tup ys=>
      obtain ⟨l,vs,rfl,s1,r1⟩:=ax
      obtain ⟨m,us,rfl,s2,r2⟩:=ay
      have l1:=r1.len
      have l2:=r2.len
      refine .inr (.inr (.inl ⟨l,m,vs,us,rfl,rfl,s1,s2,by rw [l1,l2];exact r.1,λ e=>?_,λ e e2=>?_,λ e e2 p hp=>?_⟩))
      . subst e
        have e':xs=[]:=by cases xs<;>simp_all
        subst e'
        exact F (.tup ys) G _ H (.refl v) ⟨m,us,rfl,s2,r2⟩ (by simpa using r.2)
      . subst e2
        have e':ys=[]:=by cases ys<;>simp_all
        subst e'
        exact F (.tup xs) G _ H (.refl v) ⟨l,vs,rfl,s1,r1⟩ (by simpa using r.2)
      . have g:=Go.newT (o:=.tup (vs++us)) v hp
        exact F (.tup (xs++ys)) G _ _ g ⟨p,_,rfl,.of aPq,(r1.append r2).mono g.tup⟩ r.2
    | _=>exact (show False from r).elim
  | ref l=>
    cases y with
    | ref m=>
      cases ax;cases ay
      obtain ⟨xs,vs,k1,e1,h1,r1⟩:=cNq v r
      obtain ⟨ys,us,k2,e2,h2,r2⟩:=cNq v k1
      have l1:=r1.len
      have l2:=r2.len
      exact .inr (.inr (.inr ⟨l,m,vs,us,rfl,rfl,h1,h2,by rw [l1,l2];exact k2.1,λ p hp=>F (.ref p) _ _ _ (Go.newL v hp (r1.append r2)) rfl (k2.2 p (v.none hp))⟩))
    | _=>exact (show False from r).elim
  | _=>exact (show False from r).elim
def intR (C:Int->Int->Prop) (g:Int->Int->D):DR2:=λ x y G Q=>match x,y with
  | .int i,.int j=>C i j/\Q (g i j) G
  | _,_=>False
def kYq (g:Int->Int->D):DR2:=λ x y G Q=>match x,y with
  | .int i,.int j=>Q (g i j) G
  | _,_=>False
theorem r8q {f:Value->Value->Sem Value} {C:Int->Int->Prop} {g:Int->Int->Int} (h:OpR X f (rI C λ i j=>.int (g i j))):AOp X f (intR C λ i j=>.int (g i j)):=by
  refine ⟨_,⟨h⟩,λ x y vx vy G H DQ Q v ax ay r F=>?_⟩
  cases x with
  | int i=>
    cases y with
    | int j=>cases ax;cases ay;exact ⟨i,j,rfl,rfl,r.1,F (.int (g i j)) G _ H (.refl v) rfl r.2⟩
    | _=>exact (show False from r).elim
  | _=>exact (show False from r).elim
theorem y3q {f:Value->Value->Sem Value} {g:Int->Int->Int} (h:OpR X f (rI0 λ i j=>.int (g i j))):AOp X f (kYq λ i j=>.int (g i j)):=by
  refine ⟨_,⟨h⟩,λ x y vx vy G H DQ Q v ax ay r F=>?_⟩
  cases x with
  | int i=>
    cases y with
    | int j=>cases ax;cases ay;exact ⟨i,j,rfl,rfl,F (.int (g i j)) G _ H (.refl v) rfl r⟩
    | _=>exact (show False from r).elim
  | _=>exact (show False from r).elim
theorem lNq {f:Value->Value->Sem Value} {g:Int->Int->Bool} (h:OpR X f (rI0 λ i j=>.bl (g i j))):AOp X f (kYq λ i j=>.bl (g i j)):=by
  refine ⟨_,⟨h⟩,λ x y vx vy G H DQ Q v ax ay r F=>?_⟩
  cases x with
  | int i=>
    cases y with
    | int j=>cases ax;cases ay;exact ⟨i,j,rfl,rfl,F (.bl (g i j)) G _ H (.refl v) rfl r⟩
    | _=>exact (show False from r).elim
  | _=>exact (show False from r).elim
theorem c3q:AOp X (binaryOp .Sub) (kYq λ i j=>.int (i - j)):=y3q x8q
theorem cKq:AOp X (binaryOp .Mult) (intR CMul λ i j=>.int (i * j)):=r8q zIq
theorem iIq:AOp X (binaryOp .FloorDiv) (intR (λ _ j=>0 < j/\j < 2 ^ 64) λ i j=>.int (i / j)):=r8q sAq
theorem cDq:AOp X (binaryOp .Mod) (intR (λ _ j=>0 < j) λ i j=>.int (i % j)):=r8q z0q
theorem vMq:AOp X (binaryOp .Pow) (intR CPow λ i j=>.int (i ^ j.toNat)):=r8q zLq
theorem k2q:AOp X (compareOp .Lt) (kYq λ i j=>.bl (decide (i < j))):=lNq aI2q
theorem xWq:AOp X (compareOp .LtE) (kYq λ i j=>.bl (decide (i<=j))):=lNq aF4q
theorem dKq:AOp X (compareOp .Gt) (kYq λ i j=>.bl (decide (j < i))):=lNq aM0q
theorem jMq:AOp X (compareOp .GtE) (kYq λ i j=>.bl (decide (j<=i))):=lNq aG8q
def negD:DR1:=λ x G Q=>match x with
  | .int i=>Q (.int (-i)) G
  | _=>False
theorem kNq:AUn X (unaryOp .USub) negD:=by
  refine ⟨_,⟨yNq⟩,λ x vx G H DQ Q v ax r F=>?_⟩
  cases x with
  | int i=>cases ax;exact ⟨i,rfl,F (.int (-i)) G _ H (.refl v) rfl r⟩
  | _=>exact (show False from r).elim
def yVq:D->Bool
  | .non=>true
  | _=>false
def isN (neg:Bool):DR2:=λ x y G Q=>match y with
  | .non=>Q (.bl (neg ^^ yVq x)) G
  | _=>False
theorem nAq {K:PySem.W.Frag} {H:Hp} {x:D} {v:V} (a:Abs K H x v):decide (v=.non)=yVq x:=by
  cases x with
  | tup ds=>obtain ⟨_,_,rfl,_⟩:=a;rfl
  | frl ds=>obtain ⟨_,_,rfl,_⟩:=a;rfl
  | _=>cases a;rfl
theorem pOq:AOp X (compareOp .Is) (isN false):=by
  refine ⟨_,⟨yKq⟩,λ x y vx vy G H DQ Q v ax ay r F=>?_⟩
  cases y with
  | non=>cases ay;exact ⟨rfl,by rw [nAq ax];exact F (.bl _) G _ H (.refl v) rfl (by simpa [isN] using r)⟩
  | _=>exact (show False from r).elim
theorem fRq:AOp X (compareOp .IsNot) (isN true):=by
  refine ⟨_,⟨wCq⟩,λ x y vx vy G H DQ Q v ax ay r F=>?_⟩
  cases y with
  | non=>cases ay;exact ⟨rfl,by rw [nAq ax];exact F (.bl _) G _ H (.refl v) rfl (by simpa [isN] using r)⟩
  | _=>exact (show False from r).elim
theorem hPq {K:PySem.W.Frag} {H:Hp} {ds:List D} {vs:List V} {i:Int} {d:D} (r:AbsL K H ds vs) (h:atI ds i=some d):∃ v,atI vs i=some v/\Abs K H d v:=by
  unfold atI at h ⊢
  rw [r.len]
  cases e:ixN ds.length i with
  | none=>rw [e] at h;cases h
  | some j=>
    rw [e] at h
    exact r.get h
theorem iCq {ds:List D} {i:Int} {G:DV} {Q:DK} (h:atD ds i G Q):∃ d,atI ds i=some d/\Q d G:=by
  unfold atD at h
  rw [tFq] at h
  split at h
  . next d e=>exact ⟨d,e,h⟩
  . exact h.elim
def ixD:DR2:=λ x y G Q=>match x,y with
  | .tup ds,.int i=>atD ds i G Q
  | .ref l,.int i=>onL G l λ ds=>atD ds i G Q
  | .frl ds,.int i=>atD ds i G Q
  | .str z,.int i=>z.length<=sizeLine/\∃ c,atI z.cps.toList i=some c/\Q (.str ⟨#[c]⟩) G
  | _,_=>False
theorem cOq {ds:List D} {i:Int} {G:DV} {Q:DK} {d:D} (h:atI ds i=some d) (q:Q d G):ixD (.tup ds) (.int i) G Q:=dMq h q
theorem tDq {ds:List D} {i:Int} {G:DV} {Q:DK} {d:D} (h:atI ds i=some d) (q:Q d G):ixD (.frl ds) (.int i) G Q:=dMq h q
theorem bRq {l:Addr} {ds:List D} {i:Int} {G:DV} {Q:DK} {d:D} (hl:G l=some (.lst ds)) (h:atI ds i=some d) (q:Q d G):ixD (.ref l) (.int i) G Q:=aHq hl (dMq h q)
theorem aix:AIx X ixD:=by
  refine ⟨_,⟨t9q⟩,λ x y vx vy G H DQ Q v ax ay r F=>?_⟩
  cases x with
  | tup ds=>
    cases y with
    | int i=>
      cases ay
      obtain ⟨l,vs,rfl,s,rl⟩:=ax
      obtain ⟨d,hd,q⟩:=iCq r
      obtain ⟨u,hu,ad⟩:=hPq rl hd
      exact .inr (.inl ⟨l,vs,i,u,rfl,rfl,s,hu,F d G u H (.refl v) ad q⟩)
    | _=>exact (show False from r).elim
  | ref l=>
    cases y with
    | int i=>
      cases ax;cases ay
      obtain ⟨ds,vs,k,s,rl⟩:=bDq v r
      obtain ⟨d,hd,q⟩:=iCq k
      obtain ⟨u,hu,ad⟩:=hPq rl hd
      exact .inl ⟨l,vs,i,u,rfl,rfl,s,hu,F d G u H (.refl v) ad q⟩
    | _=>exact (show False from r).elim
  | frl ds=>
    cases y with
    | int i=>
      cases ay
      obtain ⟨l,vs,rfl,s,rl⟩:=ax
      obtain ⟨d,hd,q⟩:=iCq r
      obtain ⟨u,hu,ad⟩:=hPq rl hd
      exact .inl ⟨l,vs,i,u,rfl,rfl,s.sq,hu,F d G u H (.refl v) ad q⟩
    | _=>exact (show False from r).elim
  | str z=>
    cases y with
    | int i=>
      cases ax;cases ay
      obtain ⟨hz,c,hc,q⟩:=r
      exact .inr (.inr ⟨z,i,c,rfl,rfl,hz,hc,F (.str ⟨#[c]⟩) G _ H (.refl v) rfl q⟩)
    | _=>exact (show False from r).elim
  | _=>exact (show False from r).elim
def slD:D->Option Int->Option Int->DV->DK->Prop:=λ x lo hi G Q=>match x with
  | .tup ds=>Q (.tup (cut ds lo hi)) G
  | .ref l=>onL G l λ ds=>∀ p,G p=none->Q (.ref p) (up G p (.lst (cut ds lo hi)))
  | .frl ds=>∀ p,G p=none->Q (.ref p) (up G p (.lst (cut ds lo hi)))
  | _=>False
theorem asl:ASl X slD:=by
  refine ⟨_,⟨sl_tupU.or w3q⟩,λ x vx lo hi G H DQ Q v ax r F=>?_⟩
  cases x with
  | tup ds=>
    obtain ⟨l,vs,rfl,s,rl⟩:=ax
    refine .inl ⟨l,vs,rfl,s,λ t H2 sm st=>?_⟩
    have g:=Go.grow v sm
    exact F (.tup (cut ds lo hi)) G _ _ g ⟨t,_,rfl,st,(rl.cut lo hi).mono g.tup⟩ r
  | ref l=>
    cases ax
    obtain ⟨ds,vs,k,s,rl⟩:=bDq v r
    exact .inr ⟨l,vs,rfl,s,λ p hp=>F (.ref p) _ _ _ (Go.newL v hp (rl.cut lo hi)) rfl (k p (v.none hp))⟩
  | frl ds=>
    obtain ⟨l,vs,rfl,s,rl⟩:=ax
    exact .inr ⟨l,vs,rfl,s.sq,λ p hp=>F (.ref p) _ _ _ (Go.newL v hp (rl.cut lo hi)) rfl (r p (v.none hp))⟩
  | _=>exact (show False from r).elim
def dZq:D->Bool
  | .non=>true
  | .bl _=>true
  | .int _=>true
  | .str _=>true
  | _=>false
def toV:D->V
  | .non=>.non
  | .bl b=>.bl b
  | .int i=>.int i
  | .str x=>.str x
  | _=>.non
theorem nTq {K:PySem.W.Frag} {H:Hp} {d:D} {v:V} (a:Abs K H d v) (h:dZq d=true):v=toV d/\gMq v=true:=by
  cases d with
  | non=>cases a;exact ⟨rfl,rfl⟩
  | bl b=>cases a;exact ⟨rfl,rfl⟩
  | int b=>cases a;exact ⟨rfl,rfl⟩
  | str b=>cases a;exact ⟨rfl,rfl⟩
  | _=>exact absurd h (by simp [dZq])
theorem toVs {K:PySem.W.Frag} {H:Hp}:∀ {ds:List D} {vs:List V},AbsL K H ds vs->ds.all dZq=true->vs=ds.map toV/\vs.all gMq=true
  | [],_,r,_=>by cases r;exact ⟨rfl,rfl⟩
  | _::_,_,⟨v,r,e,q,l⟩,h=>by
    subst e
    rw [List.all_cons,Bool.and_eq_true] at h
    obtain ⟨h1,h2⟩:=nTq q h.1
    obtain ⟨h3,h4⟩:=toVs l h.2
    exact ⟨by rw [List.map_cons,<- h1,<- h3],by rw [List.all_cons,h2,h4];rfl⟩
def eqF:D->D->Bool
  | .non,.non=>true
  | .bl a,.bl b=>a==b
  | .bl a,.int b=>(if a then 1 else 0)==b
  | .int a,.bl b=>a==(if b then 1 else 0)
  | .int a,.int b=>a==b
  | .str a,.str b=>a==b
  | _,_=>false
theorem aI9q {x y:D} (hx:dZq x=true) (hy:dZq y=true):eqV (toV x) (toV y)=eqF x y:=by
  cases x<;>cases y<;>first | rfl | (simp [dZq] at hx;done) | (simp [dZq] at hy;done)
def inL (x:D) (ds:List D):Bool:=ds.any λ y=>eqF y x
theorem w4q {x:D} (hx:dZq x=true):∀ {ds:List D},ds.all dZq=true->inV (toV x) (ds.map toV)=inL x ds
  | [],_=>rfl
  | d::ds,h=>by
    rw [List.all_cons,Bool.and_eq_true] at h
    have ih:=w4q hx h.2
    unfold inV inL at *
    rw [List.map_cons,List.any_cons,List.any_cons,ih,aI9q h.1 hx]
def inD (neg:Bool):DR2:=λ x y G Q=>match y with
  | .tup ds=>dZq x=true/\ds.all dZq=true/\Q (.bl (neg ^^ inL x ds)) G
  | .ref l=>onL G l λ ds=>dZq x=true/\ds.all dZq=true/\Q (.bl (neg ^^ inL x ds)) G
  | .str j=>(match x with
      | .str i=>Q (.bl (neg ^^ !(Builtin.Str.occurrences j i 0 j.length 1).isEmpty)) G
      | _=>False)
  | _=>False
theorem tGq:AOp X (compareOp .In) (inD false):=by
  refine ⟨_,⟨op_in_seq.or oSq⟩,λ x y vx vy G H DQ Q v ax ay r F=>?_⟩
  cases y with
  | tup ds=>
    obtain ⟨h1,h2,q⟩:=r
    obtain ⟨l,vs,rfl,s,rl⟩:=ay
    obtain ⟨e1,f1⟩:=nTq ax h1
    obtain ⟨e2,f2⟩:=toVs rl h2
    refine .inl ⟨l,vs,rfl,.inr s,f1,f2,?_⟩
    rw [e1,e2,w4q h1 h2]
    exact F (.bl _) G _ H (.refl v) rfl (by simpa using q)
  | ref l=>
    cases ay
    obtain ⟨ds,vs,⟨h1,h2,q⟩,s,rl⟩:=bDq v r
    obtain ⟨e1,f1⟩:=nTq ax h1
    obtain ⟨e2,f2⟩:=toVs rl h2
    refine .inl ⟨l,vs,rfl,.inl s,f1,f2,?_⟩
    rw [e1,e2,w4q h1 h2]
    exact F (.bl _) G _ H (.refl v) rfl (by simpa using q)
  | str j=>
    cases x with
    | str i=>cases ax;cases ay;exact .inr ⟨i,j,rfl,rfl,F (.bl _) G _ H (.refl v) rfl (by simpa [inD] using r)⟩
    | _=>exact (show False from r).elim
  | _=>exact (show False from r).elim
variable {e o:Expr} {es:List Expr} {te to:DTE} {t:DTA} {pos p apos cpos:Pos}
abbrev dCB (r:DRL) (t:DTA):DTE:=λ ρ G Q=>t ρ G λ ds G1=>r ds G1 Q
theorem aTq {x:Str} {id:String} {r:DRL} (hc:ACall X (.builtin id) r) (hg:Gl X x) (hm:X.mg x=none) (hv:bootBuiltins x=some (.builtin id)) (ha:AA X (e::es) t) (hn:x≠"__name__":=by decide) (hdb:(x==("__debug__" : Str))=false:=by decide)
    (hs:(e::es).all aLq=true:=by rfl):AE X (.Call (.Name x p) (e::es) [] pos) (dCB r t):=by
  obtain ⟨ca,ja,ra⟩:=ha.run
  obtain ⟨cc,jc,rc⟩:=hc.run
  exact ⟨_,qPq jc hg hm hv ja hn hdb hs,λ ρ G DQ σ H Q B q F=>ra ρ G _ σ H _ B q λ ds G1 vs H1 g1 al _ q1=>rc ds vs G1 H1 DQ Q g1.vw al q1 (F.after g1)⟩
theorem g9q {x:Str} {T:String} {r:DRL} (hc:ACall X (.type T) r) (hg:Gl X x) (hm:X.mg x=none) (hv:bootBuiltins x=some (.type T)) (ha:AA X (e::es) t) (hn:x≠"__name__":=by decide) (hdb:(x==("__debug__" : Str))=false:=by decide)
    (hs:(e::es).all aLq=true:=by rfl):AE X (.Call (.Name x p) (e::es) [] pos) (dCB r t):=by
  obtain ⟨ca,ja,ra⟩:=ha.run
  obtain ⟨cc,jc,rc⟩:=hc.run
  exact ⟨_,oPq jc hg hm hv ja hn hdb hs,λ ρ G DQ σ H Q B q F=>ra ρ G _ σ H _ B q λ ds G1 vs H1 g1 al _ q1=>rc ds vs G1 H1 DQ Q g1.vw al q1 (F.after g1)⟩
abbrev wSq (r:D->DV->DK->Prop):DRL:=λ xs G Q=>match xs with
  | [x]=>r x G Q
  | _=>False
abbrev two2 (r:D->D->DV->DK->Prop):DRL:=λ xs G Q=>match xs with
  | [x,y]=>r x y G Q
  | _=>False
theorem ePq {K:PySem.W.Frag} {H:Hp} {r:D->DV->DK->Prop} {xs:List D} {vs:List V} {G:DV} {Q:DK} (h:wSq r xs G Q) (a:AbsL K H xs vs):∃ x v,xs=[x]/\vs=[v]/\Abs K H x v/\r x G Q:=by
  unfold wSq at h
  split at h
  . obtain ⟨v,r,rfl,q,l⟩:=a;cases l;exact ⟨_,v,rfl,rfl,q,h⟩
  . exact h.elim
theorem m0q {K:PySem.W.Frag} {H:Hp} {r:D->D->DV->DK->Prop} {xs:List D} {vs:List V} {G:DV} {Q:DK} (h:two2 r xs G Q) (a:AbsL K H xs vs):∃ x y v u,xs=[x,y]/\vs=[v,u]/\Abs K H x v/\Abs K H y u/\r x y G Q:=by
  unfold two2 at h
  split at h
  . obtain ⟨v,r,rfl,q,u,r2,rfl,q2,l⟩:=a;cases l;exact ⟨_,_,v,u,rfl,rfl,q,q2,h⟩
  . exact h.elim
def lenD:D->DV->DK->Prop:=λ x G Q=>match x with
  | .tup ds=>Q (.int ds.length) G
  | .ref l=>onL G l λ ds=>Q (.int ds.length) G
  | .frl ds=>Q (.int ds.length) G
  | .str z=>z.length<=sizeLine/\Q (.int z.length) G
  | _=>False
theorem b2q:ACall X (.builtin "len") (wSq lenD):=by
  refine ⟨_,⟨call_len_seq.or k9q⟩,λ xs vs G H DQ Q v a r F=>?_⟩
  obtain ⟨x,u,rfl,rfl,ax,r⟩:=ePq r a
  cases x with
  | tup ds=>
    obtain ⟨l,ws,rfl,s,rl⟩:=ax
    exact .inl ⟨l,ws,rfl,.inr s,by rw [rl.len];exact F (.int ds.length) G _ H (.refl v) rfl r⟩
  | ref l=>
    cases ax
    obtain ⟨ds,ws,k,s,rl⟩:=bDq v r
    exact .inl ⟨l,ws,rfl,.inl s,by rw [rl.len];exact F (.int ds.length) G _ H (.refl v) rfl k⟩
  | frl ds=>
    obtain ⟨l,ws,rfl,s,rl⟩:=ax
    exact .inl ⟨l,ws,rfl,.inl s.sq,by rw [rl.len];exact F (.int ds.length) G _ H (.refl v) rfl r⟩
  | str z=>cases ax;exact .inr ⟨z,rfl,r.1,F (.int z.length) G _ H (.refl v) rfl r.2⟩
  | _=>exact (show False from r).elim
def intD:D->DV->DK->Prop:=λ x G Q=>match x with
  | .int i=>Q (.int i) G
  | .bl k=>Q (.int (if k then 1 else 0)) G
  | _=>False
theorem oQq:ACall X (.type "int") (wSq intD):=by
  refine ⟨_,⟨o7q⟩,λ xs vs G H DQ Q v a r F=>?_⟩
  obtain ⟨x,u,rfl,rfl,ax,r⟩:=ePq r a
  cases x with
  | int i=>cases ax;exact .inl ⟨i,rfl,F (.int i) G _ H (.refl v) rfl r⟩
  | bl k=>cases ax;exact .inr ⟨k,rfl,F (.int (if k then 1 else 0)) G _ H (.refl v) rfl r⟩
  | _=>exact (show False from r).elim
def aM1q (g:Int->Int->Int):D->D->DV->DK->Prop:=λ x y G Q=>match x,y with
  | .int i,.int j=>Q (.int (g i j)) G
  | _,_=>False
theorem k8q (hc:X.calm=true):ACall X (.builtin "min") (two2 (aM1q λ i j=>if j < i then j else i)):=by
  refine ⟨_,⟨q0q hc⟩,λ xs vs G H DQ Q v a r F=>?_⟩
  obtain ⟨x,y,u,w,rfl,rfl,ax,ay,r⟩:=m0q r a
  cases x with
  | int i=>
    cases y with
    | int j=>cases ax;cases ay;exact ⟨i,j,rfl,F (.int (if j < i then j else i)) G _ H (.refl v) rfl r⟩
    | _=>exact (show False from r).elim
  | _=>exact (show False from r).elim
def tupD:D->DV->DK->Prop:=λ x G Q=>match x with
  | .tup ds=>Q (.tup ds) G
  | .ref l=>onL G l λ ds=>Q (.tup ds) G
  | _=>False
theorem fUq:ACall X (.type "tuple") (wSq tupD):=by
  refine ⟨_,⟨hLq⟩,λ xs vs G H DQ Q v a r F=>?_⟩
  obtain ⟨x,u,rfl,rfl,ax,r⟩:=ePq r a
  cases x with
  | tup ds=>
    obtain ⟨l,ws,rfl,s,rl⟩:=ax
    exact ⟨l,ws,rfl,.inr ⟨s,F (.tup ds) G _ H (.refl v) ⟨l,ws,rfl,s,rl⟩ r⟩⟩
  | ref l=>
    cases ax
    obtain ⟨ds,ws,k,s,rl⟩:=bDq v r
    refine ⟨l,ws,rfl,.inl ⟨s,λ p hp=>?_⟩⟩
    have g:=Go.newT (o:=.tup ws) v hp
    exact F (.tup ds) G _ _ g ⟨p,ws,rfl,.of aPq,rl.mono g.tup⟩ k
  | _=>exact (show False from r).elim
def eCq:List D->Option (List Int)
  | []=>some []
  | .int i::r=>(eCq r).map (i::·)
  | _::_=>none
theorem fWq:∀ {ds:List D} {ns:List Int},eCq ds=some ns->ds=ns.map D.int
  | [],ns,h=>by cases h;rfl
  | d::r,ns,h=>by
    cases d with
    | int i=>
      simp only [eCq,Option.map_eq_some_iff] at h
      obtain ⟨ms,h1,rfl⟩:=h
      rw [fWq h1];rfl
    | _=>simp [eCq] at h
theorem dYq:∀ ns:List Int,eCq (ns.map D.int)=some ns
  | []=>rfl
  | n::ns=>by simp [eCq,dYq ns]
end
end L3
namespace L2
open PySem PySem.Spec PyProof.Rows
def iSeq (K:PySem.W.Frag) (tl:TE):TI:=λ σ H R=>tl σ H λ x H1=>∃ a,x=.ref a/\(((∃ xs,SqL K H1 a xs)/\R (Itl K a) H1)\/((∃ xs,SqT K H1 a xs)/\R (Itt K a) H1))
theorem aB2q {X:Cx} {tg l:Expr} {tl:TE} (hl:PE X l tl):PI X tg l (iSeq X.K tl):=by
  intro pins s σ H R I h
  refine thn (hl pins s σ H _ I h) λ v s1 ⟨x,H1,I1,r1,q1⟩=>?_
  obtain ⟨a,e,q1⟩:=q1
  subst e
  cases r1
  rcases q1 with ⟨⟨xs,hq⟩,q⟩ | ⟨⟨xs,hq⟩,q⟩
  . obtain ⟨its,rv,p,hz⟩:=I1.list hq
    refine wpAny_pyIter_list p.isList ?_
    refine ⟨s1.heap.objs.size,[s1.heap.objs.size],_,_,H1,rfl,I1.kept (t':=s1.toks) λ b o e=>Heap.get?_push_of_some _ e,pIq a _,⟨_,Heap.get?_push_size _ rfl,rfl,rfl⟩,λ b hb=>?_,q⟩
    have e:b=s1.heap.objs.size:=by simpa using hb
    subst e
    exact I1.fpOk (Nat.le_refl _) (I1.hok.fresh (Nat.le_refl _))
  . obtain ⟨its,rv,p,hz⟩:=I1.tuple hq
    refine wpAny_pyIter_tuple (show s1.heap.IsTuple a its.toArray from p) ?_
    refine ⟨s1.heap.objs.size,[s1.heap.objs.size],_,_,H1,rfl,I1.kept (t':=s1.toks) λ b o e=>Heap.get?_push_of_some _ e,mGq a _,⟨_,Heap.get?_push_size _ rfl,rfl,rfl⟩,λ b hb=>?_,q⟩
    have e:b=s1.heap.objs.size:=by simpa using hb
    subst e
    exact I1.fpOk (Nat.le_refl _) (I1.hok.fresh (Nat.le_refl _))
end L2
namespace L3
open PySem PySem.Spec L2
section
variable {X:Cx} {a b c e o i tg iter:Expr} {es:List Expr} {ta tb te to ti:DTE} {t:DTA} {pos p apos cpos:Pos}
structure DIt where
  items:List D
  held:DV->Prop
abbrev DTI:=DSt->DV->(DIt->DV->Prop)->Prop
def ItOk (K:PySem.W.Frag) (J:DIt) (Jc:It) (G:DV) (H:Hp):Prop:=∀ G1 H1,Go K G H G1 H1->J.held G1 →
  (∀ (i:Nat) (d:D),J.items[i]?=some d->Jc.go i H1/\∀ x H',Jc.yld i H1 x H'->Go K G1 H1 G1 H'/\Abs K H' d x)/\∀ i,J.items.length<=i->Jc.stop i H1
structure AI (X:Cx) (tg iter:Expr) (wi:DTI):Prop where
  run:∃ wc:TI,JI X tg iter wc/\∀ ρ G DR σ H R,Bears X.K ρ G σ H->wi ρ G DR->(∀ J Jc G' H',Go X.K G H G' H'->ItOk X.K J Jc G' H'->DR J G'->R Jc H')->wc σ H R
@[irreducible] def wXq (G:DV) (l:Addr) (k:DIt->Prop):Prop:=match G l with
  | some (.lst ds)=>k ⟨ds,λ G=>G l=some (.lst ds)⟩
  | _=>False
abbrev aK9q (ta:DTE):DTI:=λ ρ G R=>ta ρ G λ x G1=>match x with
  | .tup ds=>R ⟨ds,λ _=>True⟩ G1
  | .ref l=>wXq G1 l λ J=>R J G1
  | .frl ds=>R ⟨ds,λ _=>True⟩ G1
  | _=>False
theorem d3q {G:DV} {l:Addr} {k:DIt->Prop} {ds:List D} (h:G l=some (.lst ds)) (q:k ⟨ds,λ G=>G l=some (.lst ds)⟩):wXq G l k:=by unfold wXq;rw [h];exact q
theorem yMq {K:PySem.W.Frag} {ds:List D} {vs:List V} {l:Addr} {G1:DV} {H1:Hp} (v:Vw K G1 H1) (s:SqT K H1 l vs) (r:AbsL K H1 ds vs) :
    (∀ (i:Nat) (d:D),ds[i]?=some d->(Itt K l).go i H1/\∀ x H',(Itt K l).yld i H1 x H'->Go K G1 H1 G1 H'/\Abs K H' d x)/\∀ i,ds.length<=i->(Itt K l).stop i H1:=by
  refine ⟨λ i d hd=>?_,λ i hi=>⟨vs,s,by rw [r.len];exact hi⟩⟩
  obtain ⟨w,hw,aw⟩:=r.get hd
  refine ⟨⟨vs,w,s,hw⟩,λ x H' y=>?_⟩
  obtain ⟨rfl,y⟩:=y
  have z:=y vs s
  rw [hw] at z
  cases z
  exact ⟨.refl v,aw⟩
theorem pMq {K:PySem.W.Frag} {ds:List D} {vs:List V} {l:Addr} {G1:DV} {H1:Hp} (v:Vw K G1 H1) (s:SqL K H1 l vs) (r:AbsL K H1 ds vs) :
    (∀ (i:Nat) (d:D),ds[i]?=some d->(Itl K l).go i H1/\∀ x H',(Itl K l).yld i H1 x H'->Go K G1 H1 G1 H'/\Abs K H' d x)/\∀ i,ds.length<=i->(Itl K l).stop i H1:=by
  refine ⟨λ i d hd=>?_,λ i hi=>⟨vs,s,by rw [r.len];exact hi⟩⟩
  obtain ⟨w,hw,aw⟩:=r.get hd
  refine ⟨⟨vs,w,s,hw⟩,λ x H' y=>?_⟩
  obtain ⟨rfl,y⟩:=y
  have z:=y vs s
  rw [hw] at z
  cases z
  exact ⟨.refl v,aw⟩
theorem yHq {tc:TE} (hl:JE X a tc):JI X tg a (iSeq X.K tc):=⟨aB2q hl.run⟩
theorem cBq (ha:AE X a ta):AI X tg a (aK9q ta):=by
  obtain ⟨ca,ja,ra⟩:=ha.run
  refine ⟨_,yHq ja,λ ρ G DR σ H R B q F=>ra ρ G _ σ H _ B q λ x G1 v H1 g1 ax q1=>?_⟩
  cases x with
  | tup ds=>
    obtain ⟨l,vs,rfl,s,r⟩:=ax
    exact ⟨l,rfl,.inr ⟨⟨vs,s⟩,F ⟨ds,λ _=>True⟩ _ G1 H1 g1 (λ G2 H2 g2 _=>yMq g2.vw (g2.tup.tp _ _ s) (r.mono g2.tup)) q1⟩⟩
  | ref l=>
    cases ax
    refine ⟨l,rfl,.inl ?_⟩
    replace q1:wXq G1 l λ J=>DR J G1:=q1
    unfold wXq at q1
    split at q1
    . next ds hd=>
      obtain ⟨vs,z,r⟩:=g1.vw _ _ hd
      refine ⟨⟨vs,.of z⟩,F ⟨ds,λ G=>G l=some (.lst ds)⟩ _ G1 H1 g1 (λ G2 H2 g2 h2=>?_) q1⟩
      obtain ⟨us,z2,r2⟩:=g2.vw _ _ h2
      exact pMq g2.vw (.of z2) r2
    . exact q1.elim
  | frl ds=>
    obtain ⟨l,vs,rfl,s,r⟩:=ax
    exact ⟨l,rfl,.inl ⟨⟨vs,s.sq⟩,F ⟨ds,λ _=>True⟩ _ G1 H1 g1 (λ G2 H2 g2 _=>pMq g2.vw (g2.tup.fr _ _ s).sq (r.mono g2.tup)) q1⟩⟩
  | _=>exact (show False from q1).elim
def bQq (lo:Int) (n:Nat):List D:=(List.range n).map λ(i:Nat)=>D.int (lo+(i:Int))
theorem mXq {lo:Int} {n i:Nat} {d:D} (h:(bQq lo n)[i]?=some d):i < n/\d=.int (lo+i):=by
  unfold bQq at h
  rw [List.getElem?_map] at h
  by_cases c:i < n
  . rw [List.getElem?_range c] at h
    simp at h
    exact ⟨c,h.symm⟩
  . rw [List.getElem?_eq_none (by simpa using c)] at h
    cases h
theorem b8q {lo:Int} {n:Nat}:(bQq lo n).length=n:=by simp [bQq]
@[irreducible] def onR (r:List D->Option (Int × Nat)) (ds:List D) (k:Int->Nat->Prop):Prop:=match r ds with
  | some (lo,n)=>k lo n
  | none=>False
abbrev vYq (r:List D->Option (Int × Nat)) (t:DTA):DTI:=λ ρ G R=>t ρ G λ ds G1=>onR r ds λ lo n=>R ⟨bQq lo n,λ _=>True⟩ G1
def iJq (i:Int):Bool:=decide (-(2 ^ 62)<=i)&&decide (i < 2 ^ 62)
def xKq:List D->Option (Int × Nat)
  | [.int j]=>if iJq j=true then some (0,j.toNat) else none
  | _=>none
theorem small62_iff {i:Int}:iJq i=true ↔ -(2 ^ 62)<=i/\i < 2 ^ 62:=by unfold iJq;simp
theorem aD8q {K:PySem.W.Frag} {lo:Int} {n:Nat} {G1:DV} {H1:Hp} (v:Vw K G1 H1) :
    (∀ (i:Nat) (d:D),(bQq lo n)[i]?=some d->(Itr lo n).go i H1/\∀ x H',(Itr lo n).yld i H1 x H'->Go K G1 H1 G1 H'/\Abs K H' d x)/\∀ i,(bQq lo n).length<=i->(Itr lo n).stop i H1:=by
  refine ⟨λ i d hd=>?_,λ i hi=>by rw [b8q] at hi;exact hi⟩
  obtain ⟨h1,rfl⟩:=mXq hd
  refine ⟨h1,λ x H' y=>?_⟩
  obtain ⟨rfl,rfl⟩:=y
  exact ⟨.refl v,rfl⟩
theorem sFq {ds:List D} {lo:Int} {n:Nat} (h:xKq ds=some (lo,n)):∃ j,ds=[.int j]/\(-(2 ^ 62)<=j/\j < 2 ^ 62)/\lo=0/\n=j.toNat:=by
  unfold xKq at h
  split at h
  . next j=>
    split at h
    . next c=>cases h;exact ⟨j,rfl,small62_iff.mp c,rfl,rfl⟩
    . cases h
  . cases h
theorem d6q {j:Int} {k:Int->Nat->Prop} (h:-(2 ^ 62)<=j/\j < 2 ^ 62) (q:k 0 j.toNat):onR xKq [.int j] k:=by
  have e:xKq [.int j]=some (0,j.toNat):=if_pos (small62_iff.mpr h)
  unfold onR;rw [e];exact q
theorem l0q {r:List D->Option (Int × Nat)} {ds:List D} {R:DIt->DV->Prop} {G:DV} (h:onR r ds λ lo n=>R ⟨bQq lo n,λ _=>True⟩ G):∃ lo n,r ds=some (lo,n)/\R ⟨bQq lo n,λ _=>True⟩ G:=by
  unfold onR at h
  split at h
  . next lo n e=>exact ⟨lo,n,e,h⟩
  . exact h.elim
theorem bWq (hg:Gl X "range") (hm:X.mg "range" = none) (ha:AA X [a] t) (hs:aLq a=true:=by rfl):AI X tg (.Call (.Name "range" p) [a] [] pos) (vYq xKq t):=by
  obtain ⟨ca,ja,ra⟩:=ha.run
  refine ⟨_,nVq hg hm ja hs,λ ρ G DR σ H R B q F=>ra ρ G _ σ H _ B q λ ds G1 vs H1 g1 al hl q1=>?_⟩
  obtain ⟨lo,n,e,q2⟩:=l0q q1
  obtain ⟨j,rfl,c,rfl,rfl⟩:=sFq e
  obtain ⟨v,r,rfl,av,l⟩:=al
  cases l;cases av
  exact ⟨j,rfl,c.1,c.2,F _ _ G1 H1 g1 (λ G2 H2 g2 _=>aD8q g2.vw) q2⟩
def nQq (hi:Int) (n:Nat):List D:=(List.range n).map λ(i:Nat)=>D.int (hi - (i:Int))
abbrev xXq (t:DTA):DTI:=λ ρ G R=>t ρ G λ ds G1=>match ds with
  | [.int i,.int j,.int k]=>j=-1/\k=-1/\iJq i=true/\R ⟨nQq i (i+1).toNat,λ _=>True⟩ G1
  | _=>False
theorem k0q {lo:Int} {n i:Nat} {d:D} (h:(nQq lo n)[i]?=some d):i < n/\d=.int (lo - i):=by
  unfold nQq at h
  rw [List.getElem?_map] at h
  by_cases c:i < n
  . rw [List.getElem?_range c] at h
    simp at h
    exact ⟨c,h.symm⟩
  . rw [List.getElem?_eq_none (by simpa using c)] at h
    cases h
theorem j8q {lo:Int} {n:Nat}:(nQq lo n).length=n:=by simp [nQq]
theorem nIq (hg:Gl X "range") (hm:X.mg "range" = none) (ha:AA X [a,b,c] t) (h1:aLq a=true:=by rfl) (h2:aLq b=true:=by rfl) (h3:aLq c=true:=by rfl):AI X tg (.Call (.Name "range" p) [a,b,c] [] pos) (xXq t):=by
  obtain ⟨ca,ja,ra⟩:=ha.run
  refine ⟨_,oBq hg hm ja h1 h2 h3,λ ρ G DR σ H R B q F=>ra ρ G _ σ H _ B q λ ds G1 vs H1 g1 al hl q1=>?_⟩
  split at q1
  . next i j k=>
    obtain ⟨rfl,rfl,c,q2⟩:=q1
    obtain ⟨v,r,rfl,av,u,r2,rfl,au,w,r3,rfl,aw,l⟩:=al
    cases l;cases av;cases au;cases aw
    refine ⟨i,rfl,small62_iff.mp c,F _ _ G1 H1 g1 (λ G2 H2 g2 _=>⟨λ n d hd=>?_,λ n hn=>?_⟩) q2⟩
    . obtain ⟨z1,rfl⟩:=k0q hd
      refine ⟨z1,λ x H' y=>?_⟩
      obtain ⟨rfl,rfl⟩:=y
      exact ⟨.refl g2.vw,rfl⟩
    . rw [j8q] at hn;exact hn
  . exact q1.elim
def Wk (P:DSt->DV->Prop):DSt->DV->Prop:=λ ρ G=>∃ ρ' G',StSub ρ' ρ/\Sub G' G/\P ρ' G'
theorem Wk.of {P:DSt->DV->Prop} {ρ:DSt} {G:DV} (h:P ρ G):Wk P ρ G:=⟨ρ,G,.refl _,.refl _,h⟩
abbrev dFor (wi:DTI) (g:DTG) (tb:DTS):DTS:=λ DD ρ G=>wi ρ G λ J G1=>∃ P:Nat->DSt->DV->Prop,P 0 ρ G1/\(∀ i ρ G,i<=J.items.length->P i ρ G->J.held G) ∧
  (∀ (i:Nat) (d:D) (ρ:DSt) (G:DV),J.items[i]?=some d->P i ρ G->g d ρ G λ ρ' G'=>tb { DD with nx:=Wk (P (i+1)),ct:=Wk (P (i+1)),bk:=DD.nx } ρ' G')/\∀ ρ G,P J.items.length ρ G->DD.nx ρ G
theorem fLq {body:List Stmt} {wi:DTI} {g:DTG} {tb:DTS} (hp:PassesOwn (model X.prog X.w) X.A X.env X.xe) (hc:X.calm=true) (hi:AI X tg iter wi) (hg:AG X tg g) (hb:AB X body tb) (hs:∀ x,foldedSetIterable iter X.env x=pure x:=by intro _;rfl) :
    AS X (.For tg iter body [] pos) (dFor wi g tb):=by
  obtain ⟨ci,ji,ri⟩:=hi.run
  obtain ⟨cg,jg,rg⟩:=hg.run
  obtain ⟨cb,jb,rb⟩:=hb.run
  refine ⟨_,yEq hp hc ji jg jb hs,λ DD Dc ρ G σ H B q F=>ri ρ G _ σ H _ B q λ J Jc G1 H1 g1 ok q1=>?_⟩
  obtain ⟨P,p0,held,turn,done⟩:=q1
  refine ⟨λ i m σ' H'=>m=J.items.length - i/\i<=J.items.length/\∃ ρ' G',P i ρ' G'/\Bears X.K ρ' G' σ' H'/\Go X.K G1 H1 G' H',⟨_,rfl,Nat.zero_le _,ρ,G1,p0,B.go g1,.refl g1.vw⟩,?_⟩
  rintro i m σ2 H2 ⟨rfl,hi,ρ2,G2,p2,b2,g2⟩
  have k2:=ok G2 H2 g2 (held i ρ2 G2 hi p2)
  by_cases hlt:i < J.items.length
  . have hd:J.items[i]?=some J.items[i]:=by simp [hlt]
    obtain ⟨go,yl⟩:=k2.1 i _ hd
    refine .inr ⟨go,λ σ' H'=>∃ ρ' G',P (i+1) ρ' G'/\Bears X.K ρ' G' σ' H'/\Go X.K G1 H1 G' H',λ σ' H' ⟨ρ',G',z1,z2,z3⟩=>⟨J.items.length - (i+1),by omega,rfl,hlt,ρ',G',z1,z2,z3⟩,λ x H' y=>?_⟩
    obtain ⟨g3,ax⟩:=yl x H' y
    refine rg _ x ρ2 G2 _ σ2 H' _ (b2.go g3) ax (turn i _ ρ2 G2 hd p2) λ ρ4 G4 σ4 H4 g4 b4 q4=>?_
    have gg:=(g2.trans g3).trans g4
    have again:∀ ρ' G' σ' H',Go X.K G4 H4 G' H'->Bears X.K ρ' G' σ' H'->Wk (P (i+1)) ρ' G'->∃ ρ' G',P (i+1) ρ' G'/\Bears X.K ρ' G' σ' H'/\Go X.K G1 H1 G' H':=λ ρ' G' σ' H' g' b' ⟨ρ5,G5,s1,s2,w⟩=>
      ⟨ρ5,G5,w,b'.weak s1 s2,(gg.trans g').sub s2⟩
    exact rb _ _ ρ4 G4 σ4 H4 b4 q4 ⟨λ ρ' G' σ' H' g' b' w=>again ρ' G' σ' H' g' b' w,(F.after ((g1.trans gg))).rt,λ ρ' G' σ' H' g' b' w=>F.nx ρ' G' σ' H' ((g1.trans gg).trans g') b' w,λ ρ' G' σ' H' g' b' w=>again ρ' G' σ' H' g' b' w⟩
  . have e:i=J.items.length:=by omega
    subst e
    exact .inl ⟨k2.2 _ (Nat.le_refl _),F.nx ρ2 G2 σ2 H2 (g1.trans g2) b2 (done ρ2 G2 p2)⟩
abbrev aC6q (tc:DTT) (tb:DTS):DTS:=λ DD ρ G=>∃ W:Nat->DSt->DV->Prop,(∃ m,W m ρ G)/\∀ m ρ G,W m ρ G →
  tc ρ G λ b G1=>Br b (tb { DD with nx:=Wk λ ρ' G'=>∃ m',m' < m/\W m' ρ' G',ct:=Wk λ ρ' G'=>∃ m',m' < m/\W m' ρ' G',bk:=DD.nx } ρ G1) (DD.nx ρ G1)
theorem bZq {body:List Stmt} {tc:DTT} {tb:DTS} (hp:PassesOwn (model X.prog X.w) X.A X.env X.xe) (hc:AT X c tc) (hb:AB X body tb):AS X (.While c body [] pos) (aC6q tc tb):=by
  obtain ⟨cc,jc,rc⟩:=hc.run
  obtain ⟨cb,jb,rb⟩:=hb.run
  refine ⟨_,r0q hp jc jb,λ DD Dc ρ G σ H B q F=>?_⟩
  obtain ⟨W,⟨m0,w0⟩,turn⟩:=q
  refine ⟨λ m σ' H'=>∃ ρ' G',W m ρ' G'/\Bears X.K ρ' G' σ' H'/\Go X.K G H G' H',⟨m0,ρ,G,w0,B,.refl B.vw⟩,?_⟩
  rintro m σ2 H2 ⟨ρ2,G2,w2,b2,g2⟩
  refine rc ρ2 G2 _ σ2 H2 _ b2 (turn m ρ2 G2 w2) λ k G3 H3 g3 q3=>?_
  cases k with
  | true=>
    refine ⟨λ σ' H'=>∃ m',m' < m/\∃ ρ' G',W m' ρ' G'/\Bears X.K ρ' G' σ' H'/\Go X.K G H G' H',λ σ' H' ⟨m',z,ρ',G',z1,z2,z3⟩=>⟨m',z,ρ',G',z1,z2,z3⟩,?_⟩
    have gg:=g2.trans g3
    have again:∀ ρ' G' σ' H',Go X.K G3 H3 G' H'->Bears X.K ρ' G' σ' H'->Wk (λ ρ' G'=>∃ m',m' < m/\W m' ρ' G') ρ' G'->∃ m',m' < m/\∃ ρ' G',W m' ρ' G'/\Bears X.K ρ' G' σ' H'/\Go X.K G H G' H':=λ ρ' G' σ' H' g' b' ⟨ρ5,G5,s1,s2,m',hm,w⟩=>
      ⟨m',hm,ρ5,G5,w,b'.weak s1 s2,(gg.trans g').sub s2⟩
    exact rb _ _ ρ2 G3 σ2 H3 (b2.go g3) (q3.1 rfl) ⟨λ ρ' G' σ' H' g' b' w=>again ρ' G' σ' H' g' b' w,(F.after gg).rt,λ ρ' G' σ' H' g' b' w=>F.nx ρ' G' σ' H' (gg.trans g') b' w,λ ρ' G' σ' H' g' b' w=>again ρ' G' σ' H' g' b' w⟩
  | false=>exact F.nx ρ2 G3 σ2 H3 (g2.trans g3) (b2.go g3) (q3.2 rfl)
end
end L3
namespace L2
open PySem PySem.Spec PyProof.Rows
theorem JE.imp {X:Cx} {e:Expr} {t t':TE} (h:JE X e t) (i:∀ σ H Q,t' σ H Q->t σ H Q):JE X e t':=⟨λ pins s σ H Q I q=>h.run pins s σ H Q I (i σ H Q q)⟩
theorem JT.imp {X:Cx} {e:Expr} {t t':TT} (h:JT X e t) (i:∀ σ H Q,t' σ H Q->t σ H Q):JT X e t':=⟨λ pins s σ H Q I q=>h.run pins s σ H Q I (i σ H Q q)⟩
theorem JG.imp {X:Cx} {e:Expr} {t t':TG} (h:JG X e t) (i:∀ v σ H Q,t' v σ H Q->t v σ H Q):JG X e t':=⟨λ pins s σ H x v Q I r q=>h.run pins s σ H x v Q I r (i _ _ _ _ q)⟩
end L2
namespace L3
open PySem PySem.Spec L2
section
variable {X:Cx} {a b c e o i tg iter elt ct:Expr} {es:List Expr} {ta tb te to ti:DTE} {t:DTA} {pos p apos cpos:Pos}
abbrev wOq (K:PySem.W.Frag) (tc:TE) (t:DTE):Prop:=∀ ρ G DQ σ H Q,Bears K ρ G σ H->t ρ G DQ->Fin K G H DQ Q->tc σ H Q
abbrev ImpT (K:PySem.W.Frag) (tc:TT) (t:DTT):Prop:=∀ ρ G DQ σ H Q,Bears K ρ G σ H->t ρ G DQ->FinB K G H DQ Q->tc σ H Q
abbrev ImpG (K:PySem.W.Frag) (tc:TG) (t:DTG):Prop:=∀ d v ρ G DQ σ H Q,Bears K ρ G σ H->Abs K H d v->t d ρ G DQ->FinS K G H DQ Q->tc v σ H Q
theorem AE.uni {ι:Type} {cx:ι->Cx} {K:PySem.W.Frag} (hK:∀ z,(cx z).K=K) (h:∀ z,AE (cx z) e te):∃ tc:TE,(∀ z,JE (cx z) e tc)/\wOq K tc te:=by
  have h':∀ z,∃ tc,JE (cx z) e tc/\wOq K tc te:=λ z=>by
    have q:=(h z).run
    rw [hK z] at q
    exact q
  exact ⟨λ σ H Q=>∀ z,Classical.choose (h' z) σ H Q,λ z=>(Classical.choose_spec (h' z)).1.imp λ σ H Q q=>q z,λ ρ G DQ σ H Q B q F z=>(Classical.choose_spec (h' z)).2 ρ G DQ σ H Q B q F⟩
theorem AT.uni {ι:Type} {cx:ι->Cx} {K:PySem.W.Frag} {te:DTT} (hK:∀ z,(cx z).K=K) (h:∀ z,AT (cx z) e te):∃ tc:TT,(∀ z,JT (cx z) e tc)/\ImpT K tc te:=by
  have h':∀ z,∃ tc,JT (cx z) e tc/\ImpT K tc te:=λ z=>by
    have q:=(h z).run
    rw [hK z] at q
    exact q
  exact ⟨λ σ H Q=>∀ z,Classical.choose (h' z) σ H Q,λ z=>(Classical.choose_spec (h' z)).1.imp λ σ H Q q=>q z,λ ρ G DQ σ H Q B q F z=>(Classical.choose_spec (h' z)).2 ρ G DQ σ H Q B q F⟩
theorem AG.uni {ι:Type} {cx:ι->Cx} {K:PySem.W.Frag} {te:DTG} (hK:∀ z,(cx z).K=K) (h:∀ z,AG (cx z) e te):∃ tc:TG,(∀ z,JG (cx z) e tc)/\ImpG K tc te:=by
  have h':∀ z,∃ tc,JG (cx z) e tc/\ImpG K tc te:=λ z=>by
    have q:=(h z).run
    rw [hK z] at q
    exact q
  exact ⟨λ v σ H Q=>∀ z,Classical.choose (h' z) v σ H Q,λ z=>(Classical.choose_spec (h' z)).1.imp λ v σ H Q q=>q z,λ d v ρ G DQ σ H Q B ad q F z=>(Classical.choose_spec (h' z)).2 d v ρ G DQ σ H Q B ad q F⟩
def cWq (nt:Nat) (cap:List Nat) (ρ:DSt):DSt:=List.replicate nt none++cap.map λ i=>(ρ[i]?).join
theorem dEq {nt:Nat} {cap:List Nat} {ρ:DSt} {i:Nat} {d:D} (h:(cWq nt cap ρ)[i]?=some (some d)):nt<=i:=by
  by_cases c:nt<=i
  . exact c
  . unfold cWq at h
    rw [List.getElem?_append_left (by simpa using c),List.getElem?_replicate] at h
    rw [if_pos (by omega)] at h
    cases h
theorem Bears.comp {K:PySem.W.Frag} {ρ:DSt} {G:DV} {σ:St} {H:Hp} (B:Bears K ρ G σ H) (nt:Nat) (cap:List Nat):Bears K (cWq nt cap ρ) G (cZq nt cap σ) H:=by
  refine ⟨by simp [cWq,cZq],λ i d h=>?_,B.vw⟩
  have hi:=dEq h
  unfold cWq at h
  unfold cZq
  rw [List.getElem?_append_right (by simpa using hi)] at h ⊢
  rw [List.length_replicate,List.getElem?_map] at h ⊢
  cases e:cap[i - nt]? with
  | none=>rw [e] at h;cases h
  | some k=>
    rw [e] at h
    have h':(ρ[k]?).join=some d:=by simpa using h
    have h2:ρ[k]?=some (some d):=by
      cases q:ρ[k]? with
      | none=>rw [q] at h';cases h'
      | some z=>rw [q] at h';cases z with
        | none=>cases h'
        | some y=>simp at h';rw [h']
    obtain ⟨v,h3,h4⟩:=B.st k d h2
    exact ⟨v,by simp [h3],h4⟩
def jQq (nt:Nat) (g:DTG):Prop:=∀ d ρ G Q,g d ρ G Q->g d ρ G λ ρ' G'=>Q ρ' G'/\ρ'.length=ρ.length/\∀ i,nt<=i->ρ'[i]?=ρ[i]?
def lKq (nt:Nat) (g:n3q):Prop:=∀ d ρ G Q,g d ρ G Q->g d ρ G λ ρ' G'=>Q ρ' G'/\ρ'.length=ρ.length/\∀ i,nt<=i->ρ'[i]?=ρ[i]?
theorem aRq {nt k:Nat} (h:k < nt):jQq nt (jSq k):=λ d ρ G Q q=>⟨q,by simp,λ i hi=>List.getElem?_set_ne (by omega)⟩
theorem e2q {nt:Nat}:lKq nt uJq:=λ ds ρ G Q q=>by
  cases ds with
  | nil=>exact ⟨q,rfl,λ _ _=>rfl⟩
  | cons _ _=>exact (show False from q).elim
def MonG (g:DTG):Prop:=∀ d ρ G Q Q',(∀ ρ' G',Q ρ' G'->Q' ρ' G')->g d ρ G Q->g d ρ G Q'
def s5q (g:n3q):Prop:=∀ d ρ G Q Q',(∀ ρ' G',Q ρ' G'->Q' ρ' G')->g d ρ G Q->g d ρ G Q'
theorem bUq {k:Nat}:MonG (jSq k):=λ _ _ _ _ _ i q=>i _ _ q
theorem cRq:s5q uJq:=λ ds ρ G Q Q' i q=>by
  cases ds with
  | nil=>exact i _ _ q
  | cons _ _=>exact (show False from q).elim
theorem f6q {g:DTG} {u:n3q} (h1:MonG g) (h2:s5q u):s5q (pGq g u):=λ ds ρ G Q Q' i q=>by
  cases ds with
  | nil=>exact (show False from q).elim
  | cons d r=>exact h1 d ρ G _ _ (λ ρ' G' z=>h2 r ρ' G' _ _ i z) q
theorem bMq {nt:Nat} {g:DTG} {u:n3q} (m1:MonG g) (m2:s5q u) (h1:jQq nt g) (h2:lKq nt u):lKq nt (pGq g u):=λ ds ρ G Q q=>by
  cases ds with
  | nil=>exact (show False from q).elim
  | cons d r=>exact m1 d ρ G _ _ (λ ρ' G' ⟨z,z1,z2⟩=>m2 r ρ' G' _ _ (λ ρ2 G2 ⟨y,y1,y2⟩=>⟨y,y1.trans z1,λ i hi=>(y2 i hi).trans (z2 i hi)⟩) (h2 r ρ' G' Q z)) (h1 d ρ G _ q)
theorem fSq {nt:Nat} {u:n3q} (h:lKq nt u):jQq nt (z3q u):=λ d ρ G Q q=>by
  cases d with
  | tup ds=>exact h ds ρ G Q q
  | _=>exact (show False from q).elim
def WkV (P:DV->Prop):DV->Prop:=λ G=>∃ G',Sub G' G/\P G'
theorem WkV.of {P:DV->Prop} {G:DV} (h:P G):WkV P G:=⟨G,.refl _,h⟩
@[irreducible] def lDq (g:DTG) (te:DTE) (nt:Nat) (cap:List Nat) (ρ:DSt) (Q:DK) (J:DIt) (G1:DV):Prop:=J.items.length < sizeLine/\∃ P:Nat->List D->DV->Prop,P 0 [] G1/\(∀ i ds G,i<=J.items.length->P i ds G->J.held G) ∧
  (∀ (i:Nat) (d:D) (ds:List D) (G:DV),J.items[i]?=some d->P i ds G->g d (cWq nt cap ρ) G λ ρ3 G3=>te ρ3 G3 λ y G4=>WkV (P (i+1) (ds++[y])) G4)/\∀ ds G,P J.items.length ds G->∀ p,G p=none->Q (.ref p) (up G p (.lst ds))
@[irreducible] def iLq (g:DTG) (tc:DTT) (te:DTE) (nt:Nat) (cap:List Nat) (ρ:DSt) (Q:DK) (J:DIt) (G1:DV):Prop:=J.items.length < sizeLine/\∃ P:Nat->List D->DV->Prop,P 0 [] G1/\(∀ i ds G,i<=J.items.length->P i ds G->J.held G) ∧
  (∀ (i:Nat) (d:D) (ds:List D) (G:DV),J.items[i]?=some d->P i ds G->g d (cWq nt cap ρ) G λ ρ3 G3=>tc ρ3 G3 λ b G5=>Br b (te ρ3 G5 λ y G4=>WkV (P (i+1) (ds++[y])) G4) (WkV (P (i+1) ds) G5))/\∀ ds G,P J.items.length ds G->∀ p,G p=none->Q (.ref p) (up G p (.lst ds))
abbrev vJq (wi:DTI) (g:DTG) (te:DTE) (nt:Nat) (cap:List Nat):DTE:=λ ρ G Q=>wi ρ G (lDq g te nt cap ρ Q)
abbrev nZq (wi:DTI) (g:DTG) (tc:DTT) (te:DTE) (nt:Nat) (cap:List Nat):DTE:=λ ρ G Q=>wi ρ G (iLq g tc te nt cap ρ Q)
theorem iUq {g:DTG} {te:DTE} {nt:Nat} {cap:List Nat} {ρ:DSt} {Q:DK} {J:DIt} {G1:DV} (P:Nat->List D->DV->Prop) (hz:J.items.length < sizeLine) (h0:P 0 [] G1) (held:∀ i ds G,i<=J.items.length->P i ds G->J.held G)
    (turn:∀ (i:Nat) (d:D) (ds:List D) (G:DV),J.items[i]?=some d->P i ds G->g d (cWq nt cap ρ) G λ ρ3 G3=>te ρ3 G3 λ y G4=>WkV (P (i+1) (ds++[y])) G4) (done:∀ ds G,P J.items.length ds G->∀ p,G p=none->Q (.ref p) (up G p (.lst ds))):lDq g te nt cap ρ Q J G1:=by
  unfold lDq;exact ⟨hz,P,h0,held,turn,done⟩
theorem cTq {α:Type} {J:DIt} {G1:DV} {g:DTG} {te:DTE} {nt:Nat} {cap:List Nat} {ρ:DSt} {Q:DK} (xs:List α) (en fn:α->D) (he:J.items=xs.map en) (hz:xs.length < sizeLine) (held:J.held G1)
    (turn:∀ x∈xs,∀ R:DK,R (fn x) G1->g (en x) (cWq nt cap ρ) G1 λ ρ3 G3=>te ρ3 G3 R) (q:∀ p,G1 p=none->Q (.ref p) (up G1 p (.lst (xs.map fn)))) :
    lDq g te nt cap ρ Q J G1:=by
  unfold lDq
  refine ⟨by rw [he,List.length_map];exact hz,λ i ds G=>G=G1/\ds=(xs.take i).map fn,⟨rfl,rfl⟩,λ i ds G _ h=>h.1 ▸ held,?_,?_⟩
  . rintro i d ds G hd ⟨rfl,rfl⟩
    rw [he,List.getElem?_map] at hd
    cases e:xs[i]? with
    | none=>rw [e] at hd;cases hd
    | some x=>
      rw [e] at hd
      cases hd
      refine turn x (List.mem_of_getElem? e) _ (WkV.of ⟨rfl,?_⟩)
      rw [List.take_add_one,e,List.map_append];rfl
  . rintro ds G ⟨rfl,rfl⟩ p hp
    rw [he,List.length_map,List.take_length]
    exact q p hp
theorem gXq {α:Type} {J:DIt} {G1:DV} {g:DTG} {tc:DTT} {te:DTE} {nt:Nat} {cap:List Nat} {ρ:DSt} {Q:DK} (xs:List α) (en:α->D) (fn:α->Option D) (he:J.items=xs.map en) (hz:xs.length < sizeLine) (held:J.held G1)
    (turn:∀ x∈xs,∀ (R:DK) (S:DV->Prop),(∀ y,fn x=some y->R y G1)->(fn x=none->S G1)->g (en x) (cWq nt cap ρ) G1 λ ρ3 G3=>tc ρ3 G3 λ b G5=>Br b (te ρ3 G5 R) (S G5)) (q:∀ p,G1 p=none->Q (.ref p) (up G1 p (.lst (xs.filterMap fn)))) :
    iLq g tc te nt cap ρ Q J G1:=by
  unfold iLq
  refine ⟨by rw [he,List.length_map];exact hz,λ i ds G=>G=G1/\ds=(xs.take i).filterMap fn,⟨rfl,rfl⟩,λ i ds G _ h=>h.1 ▸ held,?_,?_⟩
  . rintro i d ds G hd ⟨rfl,rfl⟩
    rw [he,List.getElem?_map] at hd
    cases e:xs[i]? with
    | none=>rw [e] at hd;cases hd
    | some x=>
      rw [e] at hd
      cases hd
      refine turn x (List.mem_of_getElem? e) _ _ (λ y hy=>WkV.of ⟨rfl,?_⟩) (λ hy=>WkV.of ⟨rfl,?_⟩)
      . rw [List.take_add_one,e,List.filterMap_append];simp [hy]
      . rw [List.take_add_one,e,List.filterMap_append];simp [hy]
  . rintro ds G ⟨rfl,rfl⟩ p hp
    rw [he,List.length_map,List.take_length]
    exact q p hp
theorem Vw.priv {K:PySem.W.Frag} {G:DV} {H:Hp} {acc:Addr} {ys zs:List V} (v:Vw K G H) (h:H acc=some (.lst ys)) (n:G acc=Option.none):Vw K G (upd H acc (.lst zs)):=λ a o e=>
  (v a o e).mono (bNq h) (aFq (by rintro rfl;rw [n] at e;cases e))
theorem Go.priv {K:PySem.W.Frag} {G G':DV} {H H':Hp} {acc:Addr} {ys zs:List V} (g:Go K G H G' H') (h0:H acc=none) (h:H' acc=some (.lst ys)) (n:G' acc=none):Go K G H G' (upd H' acc (.lst zs)) where
  tup:=⟨λ a xs q=>(bNq h).tp a xs (g.tup.tp a xs q),λ a xs q=>(bNq h).fr a xs (g.tup.fr a xs q),λ a o q=>(bNq (K:=K) h).fz a o (g.tup.fz a o q)⟩
  dom:=λ a o e=>by
    obtain ⟨o',e'⟩:=g.dom a o e
    exact ⟨o',by rw [aFq (aSq e h0)];exact e'⟩
  same:=λ a o e z=>by rw [aFq (aSq e h0)];exact g.same a o e z
  new:=g.new
  vw:=g.vw.priv h n
theorem Bears.priv {K:PySem.W.Frag} {ρ:DSt} {G:DV} {σ:St} {H:Hp} {acc:Addr} {ys zs:List V} (B:Bears K ρ G σ H) (h:H acc=some (.lst ys)) (n:G acc=none):Bears K ρ G σ (upd H acc (.lst zs)):=
  ⟨B.len,λ i d e=>let ⟨v,h1,h2⟩:=B.st i d e;⟨v,h1,h2.mono (bNq h)⟩,B.vw.priv h n⟩
theorem Go.held {K:PySem.W.Frag} {G G':DV} {H H':Hp} {acc:Addr} {ds:List D} {ys:List V} (g:Go K G H G' H') (h0:H acc=none) (h:H' acc=some (.lst ys)) (r:AbsL K H' ds ys):Go K G H (up G' acc (.lst ds)) H' where
  tup:=g.tup
  dom:=g.dom
  same:=g.same
  new:=λ a o e z=>by rw [aIq (aSq e h0)];exact g.new a o e z
  vw:=λ a o e=>by
    by_cases c:a=acc
    . subst c;rw [a5q] at e;cases e;exact ⟨ys,h,r⟩
    . rw [aIq c] at e;exact g.vw a o e
theorem j3q {K:PySem.W.Frag} {ci:TI} {cg:TG} {ce:TE} {wi:DTI} {g:DTG} {te:DTE} {nt:Nat} {cap:List Nat} (hk:jQq nt g)
    (ri:∀ ρ G DR σ H R,Bears K ρ G σ H->wi ρ G DR->(∀ J Jc G' H',Go K G H G' H'->ItOk K J Jc G' H'->DR J G'->R Jc H')->ci σ H R) (rg:ImpG K cg g) (re:wOq K ce te):wOq K (pDq ci cg ce nt cap) (vJq wi g te nt cap):=by
  intro ρ G DQ σ H Q B q F
  refine ri ρ G _ σ H _ B q λ J Jc G1 H1 g1 ok q1=>?_
  unfold lDq at q1
  obtain ⟨hsz,P,p0,held,turn,done⟩:=q1
  intro acc hacc
  have n1:=g1.vw.none hacc
  have gN:=Go.newT (o:=.lst []) g1.vw hacc
  refine ⟨λ i m ys σ' H'=>m=J.items.length - i/\i<=J.items.length/\∃ ds G',P i ds G'/\AbsL K H' ds ys/\ds.length<=i/\Bears K (cWq nt cap ρ) G' σ' H'/\Go K G1 H1 G' H'/\G' acc=none/\H' acc=some (.lst ys),
    ⟨_,rfl,Nat.zero_le _,[],G1,p0,rfl,Nat.le_refl _,((B.go g1).comp nt cap).go gN,gN,n1,aPq⟩,?_⟩
  rintro i m ys σ2 H2 ⟨rfl,hi,ds,G2,p2,r2,l2,b2,g2,n2,h2⟩
  have k2:=ok G2 H2 g2 (held i ds G2 hi p2)
  by_cases hlt:i < J.items.length
  . have hd:J.items[i]?=some J.items[i]:=by simp [hlt]
    obtain ⟨go,yl⟩:=k2.1 i _ hd
    refine .inr ⟨go,λ x H' y=>?_⟩
    obtain ⟨g3,ax⟩:=yl x H' y
    refine rg _ x _ G2 _ σ2 H' _ (b2.go g3) ax (hk _ _ _ _ (turn i _ ds G2 hd p2)) λ ρ4 G4 σ4 H4 g4 b4 ⟨q4,hl4,hs4⟩=>?_
    refine re ρ4 G4 _ σ4 H4 _ b4 q4 λ z G5 u H5 g5 az q5=>?_
    obtain ⟨G6,s6,p6⟩:=q5
    have gg:=(g3.trans g4).trans g5
    have h5:=gg.same acc _ h2 n2
    have n5:=gg.new acc _ h2 n2
    have n6:=s6.none n5
    have b5:Bears K (cWq nt cap ρ) G6 σ4 H5:=(b4.go g5).weak ⟨hl4.symm,λ j d e=>by rw [hs4 j (dEq e)];exact e⟩ s6
    refine ⟨h5,by rw [r2.len];omega,J.items.length - (i+1),by omega,rfl,hlt,ds++[z],G6,p6,((r2.mono gg.tup).append (.one az)).mono (bNq h5),by simp;omega,b5.priv h5 n6,(((g2.trans gg).sub s6)).priv hacc h5 n6,n6,aPq⟩
  . have e:i=J.items.length:=by omega
    subst e
    refine .inl ⟨k2.2 _ (Nat.le_refl _),F (.ref acc) (up G2 acc (.lst ds)) _ _ ((g1.trans g2).held ?_ h2 r2) rfl (done ds G2 p2 acc n2)⟩
    cases z:H acc with
    | none=>rfl
    | some o=>obtain ⟨o',e'⟩:=g1.dom acc o z;rw [hacc] at e';cases e'
theorem kMq {K:PySem.W.Frag} {ci:TI} {cg:TG} {cc:TT} {ce:TE} {wi:DTI} {g:DTG} {tc:DTT} {te:DTE} {nt:Nat} {cap:List Nat} (hk:jQq nt g)
    (ri:∀ ρ G DR σ H R,Bears K ρ G σ H->wi ρ G DR->(∀ J Jc G' H',Go K G H G' H'->ItOk K J Jc G' H'->DR J G'->R Jc H')->ci σ H R) (rg:ImpG K cg g) (rt:ImpT K cc tc) (re:wOq K ce te):wOq K (kZq ci cg cc ce nt cap) (nZq wi g tc te nt cap):=by
  intro ρ G DQ σ H Q B q F
  refine ri ρ G _ σ H _ B q λ J Jc G1 H1 g1 ok q1=>?_
  unfold iLq at q1
  obtain ⟨hsz,P,p0,held,turn,done⟩:=q1
  intro acc hacc
  have n1:=g1.vw.none hacc
  have gN:=Go.newT (o:=.lst []) g1.vw hacc
  refine ⟨λ i m ys σ' H'=>m=J.items.length - i/\i<=J.items.length/\∃ ds G',P i ds G'/\AbsL K H' ds ys/\ds.length<=i/\Bears K (cWq nt cap ρ) G' σ' H'/\Go K G1 H1 G' H'/\G' acc=none/\H' acc=some (.lst ys),
    ⟨_,rfl,Nat.zero_le _,[],G1,p0,rfl,Nat.le_refl _,((B.go g1).comp nt cap).go gN,gN,n1,aPq⟩,?_⟩
  rintro i m ys σ2 H2 ⟨rfl,hi,ds,G2,p2,r2,l2,b2,g2,n2,h2⟩
  have k2:=ok G2 H2 g2 (held i ds G2 hi p2)
  by_cases hlt:i < J.items.length
  . have hd:J.items[i]?=some J.items[i]:=by simp [hlt]
    obtain ⟨go,yl⟩:=k2.1 i _ hd
    refine .inr ⟨go,λ x H' y=>?_⟩
    obtain ⟨g3,ax⟩:=yl x H' y
    refine rg _ x _ G2 _ σ2 H' _ (b2.go g3) ax (hk _ _ _ _ (turn i _ ds G2 hd p2)) λ ρ4 G4 σ4 H4 g4 b4 ⟨q4,hl4,hs4⟩=>?_
    refine rt ρ4 G4 _ σ4 H4 _ b4 q4 λ bb G7 H7 g7 q7=>?_
    cases bb with
    | true=>
      refine re ρ4 G7 _ σ4 H7 _ (b4.go g7) (q7.1 rfl) λ z G5 u H5 g5 az q5=>?_
      obtain ⟨G6,s6,p6⟩:=q5
      have gg:=((g3.trans g4).trans g7).trans g5
      have h5:=gg.same acc _ h2 n2
      have n5:=gg.new acc _ h2 n2
      have n6:=s6.none n5
      have b5:Bears K (cWq nt cap ρ) G6 σ4 H5:=((b4.go g7).go g5).weak ⟨hl4.symm,λ j d e=>by rw [hs4 j (dEq e)];exact e⟩ s6
      exact ⟨h5,by rw [r2.len];omega,J.items.length - (i+1),by omega,rfl,hlt,ds++[z],G6,p6,((r2.mono gg.tup).append (.one az)).mono (bNq h5),by simp;omega,b5.priv h5 n6,(((g2.trans gg).sub s6)).priv hacc h5 n6,n6,aPq⟩
    | false=>
      obtain ⟨G6,s6,p6⟩:=q7.2 rfl
      have gg:=(g3.trans g4).trans g7
      have h5:=gg.same acc _ h2 n2
      have n5:=gg.new acc _ h2 n2
      have n6:=s6.none n5
      have b5:Bears K (cWq nt cap ρ) G6 σ4 H7:=(b4.go g7).weak ⟨hl4.symm,λ j d e=>by rw [hs4 j (dEq e)];exact e⟩ s6
      exact ⟨J.items.length - (i+1),by omega,rfl,hlt,ds,G6,p6,r2.mono gg.tup,by omega,b5,(g2.trans gg).sub s6,n6,h5⟩
  . have e:i=J.items.length:=by omega
    subst e
    refine .inl ⟨k2.2 _ (Nat.le_refl _),F (.ref acc) (up G2 acc (.lst ds)) _ _ ((g1.trans g2).held ?_ h2 r2) rfl (done ds G2 p2 acc n2)⟩
    cases z:H acc with
    | none=>rfl
    | some o=>obtain ⟨o',e'⟩:=g1.dom acc o z;rw [hacc] at e';cases e'
theorem cHq {scope:Scope} {N':List Str} {nt:Nat} {cap:List Nat} {wi:DTI} {g:DTG} (hc:X.calm=true) (ok:CompOk X scope N' nt cap) (hk:jQq nt g) (hi:AI X tg iter wi) (hg:∀ C ex s H,AG (aOq X scope N' C ex s H) tg g) (he:∀ C ex s H,AE (aOq X scope N' C ex s H) elt te)
    (hs:∀ x,foldedSetIterable iter X.env x=pure x:=by intro _;rfl):AE X (.ListComp elt [⟨tg,iter,[],0⟩] scope pos) (vJq wi g te nt cap):=by
  obtain ⟨ci,ji,ri⟩:=hi.run
  obtain ⟨cg,jg,rg⟩:=AG.uni (ι:=Addr × List Addr × Shared × Hp) (cx:=λ z=>aOq X scope N' z.1 z.2.1 z.2.2.1 z.2.2.2) (K:=X.K) (λ _=>rfl) λ z=>hg _ _ _ _
  obtain ⟨ce,je,re⟩:=AE.uni (ι:=Addr × List Addr × Shared × Hp) (cx:=λ z=>aOq X scope N' z.1 z.2.1 z.2.2.1 z.2.2.2) (K:=X.K) (λ _=>rfl) λ z=>he _ _ _ _
  exact ⟨_,vUq hc ok ji (λ C ex s H=>jg (C,ex,s,H)) (λ C ex s H=>je (C,ex,s,H)) hs,j3q hk ri rg re⟩
theorem jPq {scope:Scope} {N':List Str} {nt:Nat} {cap:List Nat} {wi:DTI} {g:DTG} {tc:DTT} (hc:X.calm=true) (ok:CompOk X scope N' nt cap) (hk:jQq nt g) (hi:AI X tg iter wi) (hg:∀ C ex s H,AG (aOq X scope N' C ex s H) tg g) (ht:∀ C ex s H,AT (aOq X scope N' C ex s H) ct tc) (he:∀ C ex s H,AE (aOq X scope N' C ex s H) elt te)
    (hs:∀ x,foldedSetIterable iter X.env x=pure x:=by intro _;rfl):AE X (.ListComp elt [⟨tg,iter,[ct],0⟩] scope pos) (nZq wi g tc te nt cap):=by
  obtain ⟨ci,ji,ri⟩:=hi.run
  obtain ⟨cg,jg,rg⟩:=AG.uni (ι:=Addr × List Addr × Shared × Hp) (cx:=λ z=>aOq X scope N' z.1 z.2.1 z.2.2.1 z.2.2.2) (K:=X.K) (λ _=>rfl) λ z=>hg _ _ _ _
  obtain ⟨cc,jt,rt⟩:=AT.uni (ι:=Addr × List Addr × Shared × Hp) (cx:=λ z=>aOq X scope N' z.1 z.2.1 z.2.2.1 z.2.2.2) (K:=X.K) (λ _=>rfl) λ z=>ht _ _ _ _
  obtain ⟨ce,je,re⟩:=AE.uni (ι:=Addr × List Addr × Shared × Hp) (cx:=λ z=>aOq X scope N' z.1 z.2.1 z.2.2.1 z.2.2.2) (K:=X.K) (λ _=>rfl) λ z=>he _ _ _ _
  exact ⟨_,nRq hc ok ji (λ C ex s H=>jg (C,ex,s,H)) (λ C ex s H=>jt (C,ex,s,H)) (λ C ex s H=>je (C,ex,s,H)) hs,kMq hk ri rg rt re⟩
theorem c6q {scope:Scope} {N':List Str} {nt:Nat} {cap:List Nat} {wi:DTI} {g:DTG} {y:Str} {py spos:Pos} {k:Nat} (hc:X.calm=true) (hN:X.N.Nodup) (hy:X.N[k]?=some y) (hl:Loc X.env.scope y) (ok:CompOk X scope N' nt cap) (hk:jQq nt g) (hi:AI X tg iter wi) (hg:∀ C ex s H,AG (aOq X scope N' C ex s H) tg g) (he:∀ C ex s H,AE (aOq X scope N' C ex s H) elt te)
    (hs:∀ x,foldedSetIterable iter X.env x=pure x:=by intro _;rfl) (hsw:swapsWith (.ListComp elt [⟨tg,iter,[],0⟩] scope pos) (some (.Name y py)) spos.line X.env=pure true:=by rfl) (hf:X.fn y=true\/X.env.scope.names.lookup y=some .local:=by first | exact .inl rfl | exact .inr rfl | assumption) :
    AS X (.Assign [.Name y py] (.ListComp elt [⟨tg,iter,[],0⟩] scope pos) spos) (dAsg (vJq wi g te nt cap) (jSq k)):=by
  obtain ⟨ci,ji,ri⟩:=hi.run
  obtain ⟨cg,jg,rg⟩:=AG.uni (ι:=Addr × List Addr × Shared × Hp) (cx:=λ z=>aOq X scope N' z.1 z.2.1 z.2.2.1 z.2.2.2) (K:=X.K) (λ _=>rfl) λ z=>hg _ _ _ _
  obtain ⟨ce,je,re⟩:=AE.uni (ι:=Addr × List Addr × Shared × Hp) (cx:=λ z=>aOq X scope N' z.1 z.2.1 z.2.2.1 z.2.2.2) (K:=X.K) (λ _=>rfl) λ z=>he _ _ _ _
  exact ⟨_,mKq hc hN hy hl ok ji (λ C ex s H=>jg (C,ex,s,H)) (λ C ex s H=>je (C,ex,s,H)) hs hsw hf,λ DD Dc ρ G σ H B q F=>j3q hk ri rg re ρ G _ σ H _ B q λ d G1 v H1 g1 a q1=>F.nx _ G1 _ H1 g1 ((B.go g1).set a k) q1⟩
structure AMt (X:Cx) (T id:String) (ty:D->DV->Prop) (r:D->List D->DV->DK->Prop):Prop where
  run:∃ rc:V->List V->Hp->VK->Prop,JMt X id rc/\(∀ x v G H,Vw X.K G H->Abs X.K H x v->ty x G->tyV X.K T v H) ∧
    ∀ x xs vx vs G H DQ Q,Vw X.K G H->Abs X.K H x vx->AbsL X.K H xs vs->r x xs G DQ->Fin X.K G H DQ Q->rc vx vs H Q
abbrev dBM (ty:D->DV->Prop) (r:D->List D->DV->DK->Prop) (to:DTE) (t:DTA):DTE:=λ ρ G Q=>to ρ G λ x G1=>ty x G1/\t ρ G1 λ xs G2=>r x xs G2 Q
abbrev dBM0 (ty:D->DV->Prop) (r:D->List D->DV->DK->Prop) (to:DTE):DTE:=λ ρ G Q=>to ρ G λ x G1=>ty x G1/\r x [] G1 Q
theorem cXq {name:Str} {T id:String} {ty:D->DV->Prop} {r:D->List D->DV->DK->Prop} (pa:PlainAttrs T) (slot:Slot T name id) (hty:typeOf (.builtin id)=pure (.type "method_descriptor")) (hm:AMt X T id ty r) (ho:AE X o to) (ha:AA X [e] t)
    (hbase:attributeBase o name X.env (eval o X.env)=eval o X.env:=by rfl) (hline:(apos.endLine==cpos.line)=true:=by rfl) (hs:aLq e=true:=by rfl):AE X (.Call (.Attribute o name apos) [e] [] cpos) (dBM ty r to t):=by
  obtain ⟨co,jo,ro⟩:=ho.run
  obtain ⟨ca,ja,ra⟩:=ha.run
  obtain ⟨cm,jm,hy,rm⟩:=hm.run
  refine ⟨_,aL0q pa slot hty jm jo ja hbase hline hs,λ ρ G DQ σ H Q B q F=>ro ρ G _ σ H _ B q λ x G1 v H1 g1 ax ⟨h1,q1⟩=>⟨hy x v G1 H1 g1.vw ax h1,?_⟩⟩
  exact ra ρ G1 _ σ H1 _ (B.go g1) q1 λ xs G2 vs H2 g2 al _ q2=>rm x xs v vs G2 H2 DQ Q g2.vw (ax.mono g2.tup) al q2 (F.after (g1.trans g2))
theorem fBq {name:Str} {T id:String} {ty:D->DV->Prop} {r:D->List D->DV->DK->Prop} (pa:PlainAttrs T) (slot:Slot T name id) (hty:typeOf (.builtin id)=pure (.type "method_descriptor")) (hm:AMt X T id ty r) (ho:AE X o to)
    (hbase:attributeBase o name X.env (eval o X.env)=eval o X.env:=by rfl) (hline:(apos.endLine==cpos.line)=true:=by rfl):AE X (.Call (.Attribute o name apos) [] [] cpos) (dBM0 ty r to):=by
  obtain ⟨co,jo,ro⟩:=ho.run
  obtain ⟨cm,jm,hy,rm⟩:=hm.run
  exact ⟨_,xNq pa slot hty jm jo hbase hline,λ ρ G DQ σ H Q B q F=>ro ρ G _ σ H _ B q λ x G1 v H1 g1 ax ⟨h1,q1⟩=>⟨hy x v G1 H1 g1.vw ax h1,rm x [] v [] G1 H1 DQ Q g1.vw ax rfl q1 (F.after g1)⟩⟩
def rEq:D->DV->Prop:=λ x G=>match x with
  | .ref l=>onL G l λ _=>True
  | _=>False
theorem hRq {K:PySem.W.Frag} {x:D} {v:V} {G:DV} {H:Hp} (w:Vw K G H) (ax:Abs K H x v) (h:rEq x G):tyV K "list" v H:=by
  cases x with
  | ref l=>cases ax;obtain ⟨ds,vs,_,s,_⟩:=bDq w h;exact .inl ⟨rfl,vs,s⟩
  | _=>exact (show False from h).elim
def appD:D->List D->DV->DK->Prop:=λ x xs G Q=>match x,xs with
  | .ref l,[y]=>onM G l λ ds=>ds.length < sizeLine/\Q .non (up G l (.lst (ds++[y])))
  | _,_=>False
theorem b1q:AMt X "list" "list.append" rEq appD:=by
  refine ⟨_,⟨dPq⟩,λ x v G H w ax h=>hRq w ax h,λ x xs vx vs G H DQ Q v ax al r F=>?_⟩
  unfold appD at r
  split at r
  . next l y=>
    cases ax
    obtain ⟨u,us,rfl,au,z⟩:=al
    cases z
    obtain ⟨ds,ws,k,e1,h1,r1⟩:=cNq v r
    exact ⟨l,ws,u,rfl,rfl,h1,by rw [r1.len];exact k.1,F .non _ _ _ (Go.setL v e1 (r1.append (.one au))) rfl k.2⟩
  . exact r.elim
def extD:D->List D->DV->DK->Prop:=λ x xs G Q=>match x,xs with
  | .ref l,[.tup es]=>onM G l λ ds=>ds.length+es.length<=sizeLine/\Q .non (up G l (.lst (ds++es)))
  | .ref l,[.ref m]=>onM G l λ ds=>onM G m λ es=>ds.length+es.length<=sizeLine/\Q .non (up G l (.lst (ds++es)))
  | _,_=>False
theorem JMt.or {id:String} {r r':V->List V->Hp->VK->Prop} (h:JMt X id r) (h':JMt X id r'):JMt X id (λ x xs H Q=>r x xs H Q\/r' x xs H Q):=⟨h.run.or h'.run⟩
theorem cQq:AMt X "list" "list.extend" rEq extD:=by
  refine ⟨_,JMt.or ⟨uCq⟩ ⟨nUq⟩,λ x v G H w ax h=>hRq w ax h,λ x xs vx vs G H DQ Q v ax al r F=>?_⟩
  unfold extD at r
  split at r
  . next l es'=>
    cases ax
    obtain ⟨u,us,rfl,⟨m,zs,rfl,s,rz⟩,z⟩:=al
    cases z
    obtain ⟨ds,ws,k,e1,h1,r1⟩:=cNq v r
    exact .inl ⟨l,m,ws,zs,rfl,rfl,h1,s,by rw [r1.len,rz.len];exact k.1,F .non _ _ _ (Go.setL v e1 (r1.append rz)) rfl k.2⟩
  . next l m=>
    cases ax
    obtain ⟨u,us,rfl,au,z⟩:=al
    cases z;cases au
    obtain ⟨ds,ws,k,e1,h1,r1⟩:=cNq v r
    obtain ⟨es',zs,k2,e2,h2,r2⟩:=cNq v k
    exact .inr ⟨l,m,ws,zs,rfl,rfl,h1,h2,by rw [r1.len,r2.len];exact k2.1,F .non _ _ _ (Go.setL v e1 (r1.append r2)) rfl k2.2⟩
  . exact r.elim
def popD:D->List D->DV->DK->Prop:=λ x xs G Q=>match x,xs with
  | .ref l,[]=>onM G l λ ds=>∃ es d,ds=es++[d]/\Q d (up G l (.lst es))
  | _,_=>False
theorem d5q:AMt X "list" "list.pop" rEq popD:=by
  refine ⟨_,⟨aA0q⟩,λ x v G H w ax h=>hRq w ax h,λ x xs vx vs G H DQ Q v ax al r F=>?_⟩
  unfold popD at r
  split at r
  . next l=>
    cases ax;cases al
    obtain ⟨ds,ws,⟨es',d,rfl,k⟩,e1,h1,r1⟩:=cNq v r
    have hl:=r1.len
    have hd:(es'++[d])[es'.length]?=some d:=by simp
    obtain ⟨u,hu,au⟩:=r1.get hd
    have e:ws.length - 1=es'.length:=by rw [hl];simp
    have r2:AbsL X.K H es' ws.dropLast:=by
      have z:=r1.take es'.length
      rw [List.take_left] at z
      rw [List.dropLast_eq_take,e];exact z
    have g:=Go.setL v e1 r2
    exact ⟨l,ws,u,rfl,rfl,h1,by rw [e];exact hu,F d _ _ _ g (au.mono g.tup) k⟩
  . exact r.elim
abbrev DSp:=List D->DV->DK->Prop
def aKq (K:PySem.W.Frag) (dsp:DSp):Sp:=λ vs H Q _=>∃ ds G DQ,AbsL K H ds vs/\Vw K G H/\dsp ds G DQ/\Fin K G H DQ Q
abbrev wUq (dsp:DSp) (t:DTA):DTE:=λ ρ G Q=>t ρ G λ ds G1=>dsp ds G1 Q
theorem a7q {k j:Nat} {x:Str} {ps:List Str} {dsp:DSp} (Gt:Got X.prog X.w X.K X.mg X.base k x ps (aKq X.K dsp)) (hr:Room j X.A) (hk:k<=j) (hg:Gl X x) (ha:AA X (e::es) t) (hdb:(x==("__debug__" : Str))=false:=by decide)
    (hs:(e::es).all aLq=true:=by rfl):AE X (.Call (.Name x p) (e::es) [] pos) (wUq dsp t):=by
  obtain ⟨ca,ja,ra⟩:=ha.run
  exact ⟨_,aJ1q Gt hr hk hg ja hdb hs,λ ρ G DQ σ H Q B q F=>ra ρ G _ σ H _ B q λ ds G1 vs H1 g1 al _ q1=>⟨ds,G1,DQ,by rw [List.append_nil];exact al,g1.vw,q1,F.after g1⟩⟩
abbrev xSq (k:Nat) (f:Addr) (dsp:DSp) (t:DTA):DTE:=λ ρ G Q=>ρ[k]?=some (some (.ref f))/\wUq dsp t ρ G Q
theorem yZq (n:Nat) {k j:Nat} {f:Addr} {x:Str} {dsp:DSp} (Gt:FnV X.prog X.w X.K X.mg X.base k f (aKq X.K dsp)) (hr:Room j X.A) (hk:k<=j) (ha:AA X (e::es) t) (hN:X.N[n]?=some x:=by rfl) (hv:Vis X.env.scope x:=by first | exact Or.inl rfl | exact Or.inr (Or.inl rfl) | exact Or.inr (Or.inr rfl))
    (hd:(x==("__debug__" : Str))=false:=by decide) (hcd:(x==("__classdict__" : Str))=false:=by decide) (hs:(e::es).all aLq=true:=by rfl):AE X (.Call (.Name x p) (e::es) [] pos) (xSq n f dsp t):=by
  obtain ⟨ca,ja,ra⟩:=ha.run
  refine ⟨_,aL3q n Gt hr hk ja hN hv hd hcd hs,λ ρ G DQ σ H Q B q F=>?_⟩
  obtain ⟨q0,q⟩:=q
  obtain ⟨v,h1,h2⟩:=B.st n _ q0
  cases h2
  exact ⟨h1,ra ρ G _ σ H _ B q λ ds G1 vs H1 g1 al _ q1=>⟨ds,G1,DQ,by rw [List.append_nil];exact al,g1.vw,q1,F.after g1⟩⟩
def Dr (DQ:DK):DK:=λ d G=>∃ G',Sub G' G/\DQ d G'
theorem Dr.of {DQ:DK} {d:D} {G:DV} (h:DQ d G):Dr DQ d G:=⟨G,.refl _,h⟩
def fGq (N:List Str) (ds:List D):DSt:=ds.map some++List.replicate (N.length - ds.length) none
theorem eYq {K:PySem.W.Frag} {N:List Str} {ds:List D} {vs:List V} {G:DV} {H:Hp} (r:AbsL K H ds vs) (v:Vw K G H):Bears K (fGq N ds) G (L2.dLq N vs) H:=by
  have hl:=r.len
  refine ⟨by simp [fGq,L2.dLq,hl],λ i d h=>?_,v⟩
  unfold fGq at h
  unfold L2.dLq
  by_cases c:i < ds.length
  . rw [List.getElem?_append_left (by simpa using c),List.getElem?_map] at h
    rw [List.getElem?_append_left (by simpa [hl] using c),List.getElem?_map]
    cases e:ds[i]? with
    | none=>rw [e] at h;cases h
    | some z=>
      rw [e] at h
      simp at h
      subst h
      obtain ⟨u,h1,h2⟩:=r.get e
      exact ⟨u,by rw [h1];rfl,h2⟩
  . rw [List.getElem?_append_right (by simpa using c),List.getElem?_replicate] at h
    split at h<;>cases h
theorem okD {P:Program} {w:World} {K:PySem.W.Frag} {mg:Str->Option Value} {base:Heap} {x qual:Str} {st:Stmt} {f:Addr} {fd:FuncData} {N ps:List Str} {k:Nat} {dsp:DSp} (F:Fun K x qual st f fd) (S:FnScope N ps (a6q st)) (len:∀ ds G DQ,dsp ds G DQ->ds.length=ps.length)
    (hbody:∀ (cdv:Value) (A:Around) (outer:List Env) (s:Shared) (H:Hp) (E:XK),Room k (A.deeper (PyProof.Rows.envOfC qual (a6q st) s.heap.objs.size f cdv))->∀ (ds:List D) (G:DV) (DQ:DK),dsp ds G DQ →
      ∃ t,AB (rKq CX0 P w K mg base N qual (a6q st) f cdv A outer s H E).nox (b5q st) t/\t { nx:=λ _ G'=>Dr DQ .non G',rt:=Dr DQ } (fGq N ds) G):FnOk P w K mg base CX0 (k+1) f fd ps (aKq K dsp):=by
  refine F.okJ S (λ vs H Q E h=>?_) (λ cdv A outer s H vs Q E hr h=>?_)
  . obtain ⟨ds,G,DQ,r,_,h,_⟩:=h
    rw [r.len];exact len ds G DQ h
  . obtain ⟨ds,G,DQ,r,v,h,Fn⟩:=h
    obtain ⟨t,⟨tc,j,imp⟩,q⟩:=hbody cdv A outer s H E hr ds G DQ h
    refine ⟨tc,j,imp _ _ (fGq N ds) G (L2.dLq N vs) H (eYq r v) q ⟨λ ρ' G' σ' H' g b ⟨G2,s2,q2⟩=>Fn .non G2 .non H' (g.sub s2) rfl q2,λ d G' v H' g a ⟨G2,s2,q2⟩=>Fn d G2 v H' (g.sub s2) a q2,λ _ _ _ _ _ _ z=>z.elim,λ _ _ _ _ _ _ z=>z.elim⟩⟩
end
end L3
namespace L3
open PySem PySem.Spec L2
mutual
def eqD:D->D->Bool
  | .non,.non=>true
  | .bl a,.bl b=>a==b
  | .bl a,.int b=>(if a then 1 else 0)==b
  | .int a,.bl b=>a==(if b then 1 else 0)
  | .int a,.int b=>a==b
  | .str a,.str b=>a==b
  | .tup xs,.tup ys=>lQq xs ys
  | _,_=>false
def lQq:List D->List D->Bool
  | [],[]=>true
  | x::xs,y::ys=>eqD x y&&lQq xs ys
  | _,_=>false
end
mutual
def D.data:D->Bool
  | .ref _=>false
  | .ty _=>false
  | .frl _=>false
  | .tup ds=>dRq ds
  | _=>true
def dRq:List D->Bool
  | []=>true
  | d::ds=>d.data&&dRq ds
end
mutual
def D.dp:D->Nat
  | .tup ds=>1+kDq ds
  | _=>0
def kDq:List D->Nat
  | []=>0
  | d::ds=>max d.dp (kDq ds)
end
def eqJ (ds es:List D) (j:Nat):Bool:=match ds[j]?,es[j]? with
  | some d,some e=>eqD d e
  | _,_=>false
theorem c5q:∀ (ds es:List D),((List.range (min ds.length es.length)).all (eqJ ds es)&&ds.length==es.length)=lQq ds es
  | [],[]=>by simp [lQq]
  | [],e::es=>by simp [lQq]
  | d::ds,[]=>by simp [lQq]
  | d::ds,e::es=>by
    rw [lQq,<- c5q ds es,List.length_cons,List.length_cons,Nat.succ_min_succ,List.range_succ_eq_map,List.all_cons,List.all_map]
    have h1:eqJ (d::ds) (e::es) 0=eqD d e:=rfl
    have h2:(eqJ (d::ds) (e::es) ∘ Nat.succ)=eqJ ds es:=by funext j;simp [eqJ]
    rw [h1,h2,Bool.and_assoc]
    congr 2
    rw [Bool.eq_iff_iff];simp
section
variable {X:Cx} {pins:List (Addr × Obj)} {σ:L2.St} {H:Hp} {s:Shared}
mutual
theorem tWq (I:Inv X pins σ H s):∀ {d e:D} {v:V},d.data=true->e.data=true->Abs X.K H d v->Abs X.K H e v->d=e
  | .non,e,v,_,h,a,b=>by
    cases a
    cases e<;>first | rfl | (cases b;done) | (obtain ⟨_,_,z,_⟩:=b;cases z)
  | .bl _,e,v,_,h,a,b=>by
    cases a
    cases e<;>first | (cases b;rfl) | (cases b;done) | (obtain ⟨_,_,z,_⟩:=b;cases z)
  | .int _,e,v,_,h,a,b=>by
    cases a
    cases e<;>first | (cases b;rfl) | (cases b;done) | (obtain ⟨_,_,z,_⟩:=b;cases z)
  | .str _,e,v,_,h,a,b=>by
    cases a
    cases e<;>first | (cases b;rfl) | (cases b;done) | (obtain ⟨_,_,z,_⟩:=b;cases z)
  | .ref _,_,_,h,_,_,_=>by simp [D.data] at h
  | .ty _,_,_,h,_,_,_=>by simp [D.data] at h
  | .frl _,_,_,h,_,_,_=>by simp [D.data] at h
  | .tup ds,e,v,h0,h,a,b=>by
    obtain ⟨l,vs,rfl,s1,r1⟩:=a
    cases e with
    | tup es=>
      obtain ⟨m,us,z,s2,r2⟩:=b
      cases z
      have e:=I.tuple_inj s1 s2
      subst e
      rw [iRq I (by simpa [D.data] using h0) (by simpa [D.data] using h) r1 r2]
    | ref m=>simp [D.data] at h
    | frl m=>simp [D.data] at h
    | _=>cases b
theorem iRq (I:Inv X pins σ H s):∀ {ds es:List D} {vs:List V},dRq ds=true->dRq es=true->AbsL X.K H ds vs->AbsL X.K H es vs->ds=es
  | [],[],_,_,_,_,_=>rfl
  | [],e::es,_,_,_,a,b=>by cases a;obtain ⟨_,_,z,_⟩:=b;cases z
  | d::ds,[],_,_,_,a,b=>by cases b;obtain ⟨_,_,z,_⟩:=a;cases z
  | d::ds,e::es,vs,h1,h2,⟨v,r,e1,a1,l1⟩,⟨u,q,e2,a2,l2⟩=>by
    subst e1
    cases e2
    simp only [dRq,Bool.and_eq_true] at h1 h2
    rw [tWq I h1.1 h2.1 a1 a2,iRq I h1.2 h2.2 l1 l2]
end
mutual
theorem lOq:∀ {d:D},d.data=true->eqD d d=true
  | .non,_=>rfl
  | .bl _,_=>by simp [eqD]
  | .int _,_=>by simp [eqD]
  | .str _,_=>by simp [eqD]
  | .ref _,h=>by simp [D.data] at h
  | .ty _,h=>by simp [D.data] at h
  | .frl _,h=>by simp [D.data] at h
  | .tup ds,h=>by rw [eqD];exact j5q (by simpa [D.data] using h)
theorem j5q:∀ {ds:List D},dRq ds=true->lQq ds ds=true
  | [],_=>rfl
  | d::ds,h=>by
    simp only [dRq,Bool.and_eq_true] at h
    rw [lQq,lOq h.1,j5q h.2];rfl
end
mutual
theorem aH6q (I:Inv X pins σ H s):∀ (d e:D) (A:Around) (x y:V) (u v:Value),d.data=true->e.data=true->Abs X.K H d x->Abs X.K H e y->RelV x u->RelV y v->A.units+d.dp < cLine->SeqAt.EqAt A s u v (eqD d e)
  | .tup ds,e,A,x,y,u,v,hd,he,ax,ay,ru,rv,hu=>by
    obtain ⟨a,vs,rfl,s1,r1⟩:=ax
    cases ru
    obtain ⟨its,rr,t1,_⟩:=I.tuple s1
    have hu0:A.units < cLine:=by omega
    cases e with
    | non=>cases ay;cases rv;exact SeqAt.EqAt.tuple_none t1 hu0
    | bl b=>cases ay;cases rv;exact SeqAt.EqAt.tuple_bool b t1 hu0
    | int b=>cases ay;obtain ⟨t,rfl⟩:=rv;exact SeqAt.EqAt.tuple_int b t t1 hu0
    | str b=>cases ay;obtain ⟨t,rfl⟩:=rv;exact SeqAt.EqAt.tuple_str b t t1 hu0
    | ref b=>simp [D.data] at he
    | ty b=>simp [D.data] at he
    | frl b=>simp [D.data] at he
    | tup es=>
      obtain ⟨b,us,rfl,s2,r2⟩:=ay
      cases rv
      by_cases hab:a=b
      . subst hab
        have e1:=I.tuple_inj s1 s2
        subst e1
        have e2:=iRq I (by simpa [D.data] using hd) (by simpa [D.data] using he) r1 r2
        subst e2
        rw [lOq hd]
        exact SeqAt.EqAt.same _
      . obtain ⟨its2,rr2,t2,_⟩:=I.tuple s2
        have l1:=rr.length
        have l2:=rr2.length
        have l3:=r1.len
        have l4:=r2.len
        simp only [D.dp] at hu
        have z:=SeqAt.RcAt.tuples (A:=A) (e:=eqJ ds es) t1 t2 hu0 (λ j h1 h2=>by
          have q:=hDq I ds es A.in1 vs us its its2 (by simpa [D.data] using hd) (by simpa [D.data] using he) r1 r2 rr rr2 (by show A.units+1+kDq ds < cLine;omega) j (by simpa using h1) (by simpa using h2)
          simpa using q)
        have ez:((List.range (min its.toArray.size its2.toArray.size)).all (eqJ ds es)&&its.toArray.size==its2.toArray.size)=eqD (.tup ds) (.tup es):=by
          rw [List.size_toArray,List.size_toArray,<- l1,<- l2,l3,l4,c5q];rfl
        rw [ez] at z
        exact SeqAt.EqAt.of_refs hab z
  | .ref _,_,_,_,_,_,_,hd,_,_,_,_,_,_=>by simp [D.data] at hd
  | .ty _,_,_,_,_,_,_,hd,_,_,_,_,_,_=>by simp [D.data] at hd
  | .frl _,_,_,_,_,_,_,hd,_,_,_,_,_,_=>by simp [D.data] at hd
  | .non,e,A,x,y,u,v,hd,he,ax,ay,ru,rv,hu=>by
    cases ax;cases ru
    have hu0:A.units < cLine:=by omega
    cases e with
    | non=>cases ay;cases rv;exact SeqAt.EqAt.same _
    | bl b=>cases ay;cases rv;exact SeqAt.EqAt.none_bool b
    | int b=>cases ay;obtain ⟨t,rfl⟩:=rv;exact SeqAt.EqAt.none_int b t
    | str b=>cases ay;obtain ⟨t,rfl⟩:=rv;exact SeqAt.EqAt.none_str b t
    | ref b=>simp [D.data] at he
    | ty b=>simp [D.data] at he
    | frl b=>simp [D.data] at he
    | tup es=>obtain ⟨b,us,rfl,s2,r2⟩:=ay;cases rv;obtain ⟨its2,rr2,t2,_⟩:=I.tuple s2;exact SeqAt.EqAt.none_tuple t2 hu0
  | .bl a,e,A,x,y,u,v,hd,he,ax,ay,ru,rv,hu=>by
    cases ax;cases ru
    have hu0:A.units < cLine:=by omega
    cases e with
    | non=>cases ay;cases rv;exact SeqAt.EqAt.bool_none a
    | bl b=>cases ay;cases rv;exact SeqAt.EqAt.bool_bool a b
    | int b=>cases ay;obtain ⟨t,rfl⟩:=rv;exact SeqAt.EqAt.bool_int a b t
    | str b=>cases ay;obtain ⟨t,rfl⟩:=rv;exact SeqAt.EqAt.bool_str a b t
    | ref b=>simp [D.data] at he
    | ty b=>simp [D.data] at he
    | frl b=>simp [D.data] at he
    | tup es=>obtain ⟨b,us,rfl,s2,r2⟩:=ay;cases rv;obtain ⟨its2,rr2,t2,_⟩:=I.tuple s2;exact SeqAt.EqAt.bool_tuple a t2 hu0
  | .int a,e,A,x,y,u,v,hd,he,ax,ay,ru,rv,hu=>by
    cases ax;obtain ⟨t',rfl⟩:=ru
    have hu0:A.units < cLine:=by omega
    cases e with
    | non=>cases ay;cases rv;exact SeqAt.EqAt.int_none a t'
    | bl b=>cases ay;cases rv;exact SeqAt.EqAt.int_bool a t' b
    | int b=>cases ay;obtain ⟨t,rfl⟩:=rv;exact SeqAt.EqAt.int_int a t' b t
    | str b=>cases ay;obtain ⟨t,rfl⟩:=rv;exact SeqAt.EqAt.int_str a t' b t
    | ref b=>simp [D.data] at he
    | ty b=>simp [D.data] at he
    | frl b=>simp [D.data] at he
    | tup es=>obtain ⟨b,us,rfl,s2,r2⟩:=ay;cases rv;obtain ⟨its2,rr2,t2,_⟩:=I.tuple s2;exact SeqAt.EqAt.int_tuple a t' t2 hu0
  | .str a,e,A,x,y,u,v,hd,he,ax,ay,ru,rv,hu=>by
    cases ax;obtain ⟨t',rfl⟩:=ru
    have hu0:A.units < cLine:=by omega
    cases e with
    | non=>cases ay;cases rv;exact SeqAt.EqAt.str_none a t'
    | bl b=>cases ay;cases rv;exact SeqAt.EqAt.str_bool a t' b
    | int b=>cases ay;obtain ⟨t,rfl⟩:=rv;exact SeqAt.EqAt.str_int a t' b t
    | str b=>cases ay;obtain ⟨t,rfl⟩:=rv;exact SeqAt.EqAt.str_str a t' b t
    | ref b=>simp [D.data] at he
    | ty b=>simp [D.data] at he
    | frl b=>simp [D.data] at he
    | tup es=>obtain ⟨b,us,rfl,s2,r2⟩:=ay;cases rv;obtain ⟨its2,rr2,t2,_⟩:=I.tuple s2;exact SeqAt.EqAt.str_tuple a t' t2 hu0
theorem hDq (I:Inv X pins σ H s):∀ (ds es:List D) (A:Around) (vs us:List V) (its its2:List Value),dRq ds=true->dRq es=true->AbsL X.K H ds vs->AbsL X.K H es us->Vals vs its->Vals us its2->A.units+kDq ds < cLine →
    ∀ j (h1:j < its.length) (h2:j < its2.length),SeqAt.EqAt A s its[j] its2[j] (eqJ ds es j)
  | [],es,A,vs,us,its,its2,_,_,e,e',rr,rr2,_,j,h1,h2=>by
    rw [show vs=[] from e] at rr
    cases rr
    exact absurd h1 (by simp)
  | d::ds,[],A,vs,us,its,its2,_,_,e,e',rr,rr2,_,j,h1,h2=>by
    rw [show us=[] from e'] at rr2
    cases rr2
    exact absurd h2 (by simp)
  | d::ds,e0::es,A,vs,us,its,its2,hd,he,⟨v,r,e,q,t⟩,⟨v',r',e',q',t'⟩,rr,rr2,hu,j,h1,h2=>by
    subst e e'
    cases rr with
    | cons r1 rt=>
      cases rr2 with
      | cons r2 rt2=>
        simp only [kDq] at hu
        simp only [dRq,Bool.and_eq_true] at hd he
        cases j with
        | zero=>exact aH6q I d e0 A _ _ _ _ hd.1 he.1 q q' r1 r2 (by omega)
        | succ j=>
          have z:=hDq I ds es A _ _ _ _ hd.2 he.2 t t' rt rt2 (by omega) j (by simpa using h1) (by simpa using h2)
          simpa [eqJ] using z
end
theorem aI0q (I:Inv X pins σ H s) (d e:D) (A:Around) (x y:V) (u v:Value) (hd:d.data=true) (he:e.data=true) (ax:Abs X.K H d x) (ay:Abs X.K H e y) (ru:RelV x u) (rv:RelV y v) (hu:A.units+d.dp < cLine):SeqAt.RcAt A s u v (eqD d e):=by
  have hu0:A.units < cLine:=by omega
  cases d with
  | tup ds=>
    obtain ⟨a,vs,rfl,s1,r1⟩:=ax
    cases ru
    obtain ⟨its,rr,t1,_⟩:=I.tuple s1
    cases e with
    | non=>cases ay;cases rv;exact SeqAt.RcAt.tuple_none t1 hu0
    | bl b=>cases ay;cases rv;exact SeqAt.RcAt.tuple_bool b t1 hu0
    | int b=>cases ay;obtain ⟨t,rfl⟩:=rv;exact SeqAt.RcAt.tuple_int b t t1 hu0
    | str b=>cases ay;obtain ⟨t,rfl⟩:=rv;exact SeqAt.RcAt.tuple_str b t t1 hu0
    | ref b=>simp [D.data] at he
    | ty b=>simp [D.data] at he
    | frl b=>simp [D.data] at he
    | tup es=>
      obtain ⟨b,us,rfl,s2,r2⟩:=ay
      cases rv
      obtain ⟨its2,rr2,t2,_⟩:=I.tuple s2
      have l1:=rr.length
      have l2:=rr2.length
      have l3:=r1.len
      have l4:=r2.len
      simp only [D.dp] at hu
      have z:=SeqAt.RcAt.tuples (A:=A) (e:=eqJ ds es) t1 t2 hu0 (λ j h1 h2=>by
        have q:=hDq I ds es A.in1 vs us its its2 (by simpa [D.data] using hd) (by simpa [D.data] using he) r1 r2 rr rr2 (by show A.units+1+kDq ds < cLine;omega) j (by simpa using h1) (by simpa using h2)
        simpa using q)
      have ez:((List.range (min its.toArray.size its2.toArray.size)).all (eqJ ds es)&&its.toArray.size==its2.toArray.size)=eqD (.tup ds) (.tup es):=by
        rw [List.size_toArray,List.size_toArray,<- l1,<- l2,l3,l4,c5q];rfl
      rw [ez] at z
      exact z
  | ref a=>simp [D.data] at hd
  | ty a=>simp [D.data] at hd
  | frl a=>simp [D.data] at hd
  | non=>
    cases ax;cases ru
    cases e with
    | non=>cases ay;cases rv;exact SeqAt.RcAt.none_none
    | bl b=>cases ay;cases rv;exact SeqAt.RcAt.none_bool b
    | int b=>cases ay;obtain ⟨t,rfl⟩:=rv;exact SeqAt.RcAt.none_int b t
    | str b=>cases ay;obtain ⟨t,rfl⟩:=rv;exact SeqAt.RcAt.none_str b t
    | ref b=>simp [D.data] at he
    | ty b=>simp [D.data] at he
    | frl b=>simp [D.data] at he
    | tup es=>obtain ⟨b,us,rfl,s2,r2⟩:=ay;cases rv;obtain ⟨its2,rr2,t2,_⟩:=I.tuple s2;exact SeqAt.RcAt.none_tuple t2 hu0
  | bl a=>
    cases ax;cases ru
    cases e with
    | non=>cases ay;cases rv;exact SeqAt.RcAt.bool_none a
    | bl b=>cases ay;cases rv;exact SeqAt.RcAt.bool_bool a b
    | int b=>cases ay;obtain ⟨t,rfl⟩:=rv;exact SeqAt.RcAt.bool_int a b t
    | str b=>cases ay;obtain ⟨t,rfl⟩:=rv;exact SeqAt.RcAt.bool_str a b t
    | ref b=>simp [D.data] at he
    | ty b=>simp [D.data] at he
    | frl b=>simp [D.data] at he
    | tup es=>obtain ⟨b,us,rfl,s2,r2⟩:=ay;cases rv;obtain ⟨its2,rr2,t2,_⟩:=I.tuple s2;exact SeqAt.RcAt.bool_tuple a t2 hu0
  | int a=>
    cases ax;obtain ⟨t',rfl⟩:=ru
    cases e with
    | non=>cases ay;cases rv;exact SeqAt.RcAt.int_none a t'
    | bl b=>cases ay;cases rv;exact SeqAt.RcAt.int_bool a t' b
    | int b=>cases ay;obtain ⟨t,rfl⟩:=rv;exact SeqAt.RcAt.int_int a t' b t
    | str b=>cases ay;obtain ⟨t,rfl⟩:=rv;exact SeqAt.RcAt.int_str a t' b t
    | ref b=>simp [D.data] at he
    | ty b=>simp [D.data] at he
    | frl b=>simp [D.data] at he
    | tup es=>obtain ⟨b,us,rfl,s2,r2⟩:=ay;cases rv;obtain ⟨its2,rr2,t2,_⟩:=I.tuple s2;exact SeqAt.RcAt.int_tuple a t' t2 hu0
  | str a=>
    cases ax;obtain ⟨t',rfl⟩:=ru
    cases e with
    | non=>cases ay;cases rv;exact SeqAt.RcAt.str_none a t'
    | bl b=>cases ay;cases rv;exact SeqAt.RcAt.str_bool a t' b
    | int b=>cases ay;obtain ⟨t,rfl⟩:=rv;exact SeqAt.RcAt.str_int a t' b t
    | str b=>cases ay;obtain ⟨t,rfl⟩:=rv;exact SeqAt.RcAt.str_str a t' b t
    | ref b=>simp [D.data] at he
    | ty b=>simp [D.data] at he
    | frl b=>simp [D.data] at he
    | tup es=>obtain ⟨b,us,rfl,s2,r2⟩:=ay;cases rv;obtain ⟨its2,rr2,t2,_⟩:=I.tuple s2;exact SeqAt.RcAt.str_tuple a t' t2 hu0
end
end L3
namespace L3
open PySem PySem.Spec L2
section
variable {X:Cx} {pins:List (Addr × Obj)} {σ:L2.St} {H:Hp} {s:Shared}
theorem aL7q (I:Inv X pins σ H s) (d e:D) (A:Around) (x y:V) (u v:Value) (hd:d.data=true) (he:e.data=true) (ax:Abs X.K H d x) (ay:Abs X.K H e y) (ru:RelV x u) (rv:RelV y v) (hu:A.units+d.dp < cLine):SeqAt.RcNeAt A s u v (!eqD d e):=by
  have hu0:A.units < cLine:=by omega
  cases d with
  | tup ds=>
    obtain ⟨a,vs,rfl,s1,r1⟩:=ax
    cases ru
    obtain ⟨its,rr,t1,_⟩:=I.tuple s1
    cases e with
    | non=>cases ay;cases rv;exact SeqAt.RcNeAt.tuple_none t1 hu0
    | bl b=>cases ay;cases rv;exact SeqAt.RcNeAt.tuple_bool b t1 hu0
    | int b=>cases ay;obtain ⟨t,rfl⟩:=rv;exact SeqAt.RcNeAt.tuple_int b t t1 hu0
    | str b=>cases ay;obtain ⟨t,rfl⟩:=rv;exact SeqAt.RcNeAt.tuple_str b t t1 hu0
    | ref b=>simp [D.data] at he
    | ty b=>simp [D.data] at he
    | frl b=>simp [D.data] at he
    | tup es=>
      obtain ⟨b,us,rfl,s2,r2⟩:=ay
      cases rv
      obtain ⟨its2,rr2,t2,_⟩:=I.tuple s2
      have l1:=rr.length
      have l2:=rr2.length
      have l3:=r1.len
      have l4:=r2.len
      simp only [D.dp] at hu
      have z:=SeqAt.RcNeAt.tuples (A:=A) (e:=eqJ ds es) t1 t2 hu0 (λ j h1 h2=>by
        have q:=hDq I ds es A.in1 vs us its its2 (by simpa [D.data] using hd) (by simpa [D.data] using he) r1 r2 rr rr2 (by show A.units+1+kDq ds < cLine;omega) j (by simpa using h1) (by simpa using h2)
        simpa using q)
      have ez:((List.range (min its.toArray.size its2.toArray.size)).all (eqJ ds es)&&its.toArray.size==its2.toArray.size)=eqD (.tup ds) (.tup es):=by
        rw [List.size_toArray,List.size_toArray,<- l1,<- l2,l3,l4,c5q];rfl
      rw [ez] at z
      exact z
  | ref a=>simp [D.data] at hd
  | ty a=>simp [D.data] at hd
  | frl a=>simp [D.data] at hd
  | non=>
    cases ax;cases ru
    cases e with
    | non=>cases ay;cases rv;exact SeqAt.RcNeAt.none_none
    | bl b=>cases ay;cases rv;exact SeqAt.RcNeAt.none_bool b
    | int b=>cases ay;obtain ⟨t,rfl⟩:=rv;exact SeqAt.RcNeAt.none_int b t
    | str b=>cases ay;obtain ⟨t,rfl⟩:=rv;exact SeqAt.RcNeAt.none_str b t
    | ref b=>simp [D.data] at he
    | ty b=>simp [D.data] at he
    | frl b=>simp [D.data] at he
    | tup es=>obtain ⟨b,us,rfl,s2,r2⟩:=ay;cases rv;obtain ⟨its2,rr2,t2,_⟩:=I.tuple s2;exact SeqAt.RcNeAt.none_tuple t2 hu0
  | bl a=>
    cases ax;cases ru
    cases e with
    | non=>cases ay;cases rv;exact SeqAt.RcNeAt.bool_none a
    | bl b=>cases ay;cases rv;exact SeqAt.RcNeAt.bool_bool a b
    | int b=>cases ay;obtain ⟨t,rfl⟩:=rv;exact SeqAt.RcNeAt.bool_int a b t
    | str b=>cases ay;obtain ⟨t,rfl⟩:=rv;exact SeqAt.RcNeAt.bool_str a b t
    | ref b=>simp [D.data] at he
    | ty b=>simp [D.data] at he
    | frl b=>simp [D.data] at he
    | tup es=>obtain ⟨b,us,rfl,s2,r2⟩:=ay;cases rv;obtain ⟨its2,rr2,t2,_⟩:=I.tuple s2;exact SeqAt.RcNeAt.bool_tuple a t2 hu0
  | int a=>
    cases ax;obtain ⟨t',rfl⟩:=ru
    cases e with
    | non=>cases ay;cases rv;exact SeqAt.RcNeAt.int_none a t'
    | bl b=>cases ay;cases rv;exact SeqAt.RcNeAt.int_bool a t' b
    | int b=>cases ay;obtain ⟨t,rfl⟩:=rv;exact SeqAt.RcNeAt.int_int a t' b t
    | str b=>cases ay;obtain ⟨t,rfl⟩:=rv;exact SeqAt.RcNeAt.int_str a t' b t
    | ref b=>simp [D.data] at he
    | ty b=>simp [D.data] at he
    | frl b=>simp [D.data] at he
    | tup es=>obtain ⟨b,us,rfl,s2,r2⟩:=ay;cases rv;obtain ⟨its2,rr2,t2,_⟩:=I.tuple s2;exact SeqAt.RcNeAt.int_tuple a t' t2 hu0
  | str a=>
    cases ax;obtain ⟨t',rfl⟩:=ru
    cases e with
    | non=>cases ay;cases rv;exact SeqAt.RcNeAt.str_none a t'
    | bl b=>cases ay;cases rv;exact SeqAt.RcNeAt.str_bool a t' b
    | int b=>cases ay;obtain ⟨t,rfl⟩:=rv;exact SeqAt.RcNeAt.str_int a t' b t
    | str b=>cases ay;obtain ⟨t,rfl⟩:=rv;exact SeqAt.RcNeAt.str_str a t' b t
    | ref b=>simp [D.data] at he
    | ty b=>simp [D.data] at he
    | frl b=>simp [D.data] at he
    | tup es=>obtain ⟨b,us,rfl,s2,r2⟩:=ay;cases rv;obtain ⟨its2,rr2,t2,_⟩:=I.tuple s2;exact SeqAt.RcNeAt.str_tuple a t' t2 hu0
end
end L3
namespace L3
open PySem PySem.Spec L2
section
variable {X:Cx} {a b c e o i tg iter:Expr} {es:List Expr} {ta tb te to ti tc:DTE} {t:DTA} {pos p apos cpos:Pos}
theorem bCq {A:Around} {k:Nat} (hr:Room k A):A.units+200 < cLine:=by have:=hr.un;omega
def rEqD (K:PySem.W.Frag) (f:Bool->Bool):R2:=λ x y H Q=>∃ d e,Abs K H d x/\Abs K H e y/\d.data=true/\e.data=true/\d.dp<=150/\Q (.bl (f (eqD d e))) H
def vFq (K:PySem.W.Frag) (f:Bool->Bool):R2:=λ x y H Q=>∃ l m vs us ds es,x=.ref l/\y=.ref m/\SqL K H l vs/\SqL K H m us/\AbsL K H ds vs/\AbsL K H es us/\dRq ds=true/\dRq es=true/\kDq ds<=150/\Q (.bl (f (lQq ds es))) H
theorem aD2q (hu:X.A.units+200 < cLine):OpR X (compareOp .Eq) (rEqD X.K id):=by
  intro pins s σ H x y v u Q I rx ry h
  obtain ⟨d,e,ax,ay,hd,he,hz,q⟩:=h
  exact aI0q I d e X.A x y v u hd he ax ay rx ry (by omega) X.prog X.w X.xe _ ⟨.bl _,H,I,rfl,q⟩
theorem wZq (hu:X.A.units+200 < cLine):OpR X (compareOp .NotEq) (rEqD X.K (!·)):=by
  intro pins s σ H x y v u Q I rx ry h
  obtain ⟨d,e,ax,ay,hd,he,hz,q⟩:=h
  exact aL7q I d e X.A x y v u hd he ax ay rx ry (by omega) X.prog X.w X.xe _ ⟨.bl _,H,I,rfl,q⟩
theorem iBq:∀ {ds es:List D},ds.length≠es.length->lQq ds es=false
  | [],[],h=>absurd rfl h
  | [],_::_,_=>rfl
  | _::_,[],_=>rfl
  | d::ds,e::es,h=>by rw [lQq,iBq (by simpa using h),Bool.and_false]
theorem lYq {ds es:List D} (h:ds.length=es.length):(List.range ds.length).all (eqJ ds es)=lQq ds es:=by
  rw [<- c5q,<- h,Nat.min_self];simp
theorem w5q (hu:X.A.units+200 < cLine):OpR X (compareOp .Eq) (vFq X.K id):=by
  intro pins s σ H x y v u Q I rx ry h
  obtain ⟨l,m,vs,us,ds,es,rfl,rfl,s1,s2,r1,r2,hd,he,hz,q⟩:=h
  cases rx;cases ry
  obtain ⟨its,rr,t1,_⟩:=I.list s1
  obtain ⟨its2,rr2,t2,_⟩:=I.list s2
  have l1:=rr.length
  have l2:=rr2.length
  have l3:=r1.len
  have l4:=r2.len
  by_cases hl:ds.length=es.length
  . refine SeqAt.RcAt.lists (e:=eqJ ds es) t1.isList t2.isList (by rw [List.size_toArray,List.size_toArray];omega) (by omega) (λ j h1 h2=>?_) X.prog X.w X.xe _ ⟨.bl _,H,I,?_,q⟩
    . have q:=hDq I ds es X.A.in1 vs us its its2 hd he r1 r2 rr rr2 (by show X.A.units+1+kDq ds < cLine;omega) j (by simpa using h1) (by simpa using h2)
      simpa using q
    . show Value.bool _=Value.bool _
      rw [List.size_toArray,<- l1,l3,lYq hl];rfl
  . refine SeqAt.RcAt.lists_lengths t1.isList t2.isList (by rw [List.size_toArray,List.size_toArray];simp;omega) (by omega) X.prog X.w X.xe _ ⟨.bl _,H,I,?_,q⟩
    rw [iBq hl];rfl
theorem vDq (hu:X.A.units+200 < cLine):OpR X (compareOp .NotEq) (vFq X.K (!·)):=by
  intro pins s σ H x y v u Q I rx ry h
  obtain ⟨l,m,vs,us,ds,es,rfl,rfl,s1,s2,r1,r2,hd,he,hz,q⟩:=h
  cases rx;cases ry
  obtain ⟨its,rr,t1,_⟩:=I.list s1
  obtain ⟨its2,rr2,t2,_⟩:=I.list s2
  have l1:=rr.length
  have l2:=rr2.length
  have l3:=r1.len
  have l4:=r2.len
  by_cases hl:ds.length=es.length
  . refine SeqAt.RcNeAt.lists (e:=eqJ ds es) t1.isList t2.isList (by rw [List.size_toArray,List.size_toArray];omega) (by omega) (λ j h1 h2=>?_) X.prog X.w X.xe _ ⟨.bl _,H,I,?_,q⟩
    . have q:=hDq I ds es X.A.in1 vs us its its2 hd he r1 r2 rr rr2 (by show X.A.units+1+kDq ds < cLine;omega) j (by simpa using h1) (by simpa using h2)
      simpa using q
    . show Value.bool _=Value.bool _
      rw [List.size_toArray,<- l1,l3,lYq hl]
  . refine SeqAt.RcNeAt.lists_lengths t1.isList t2.isList (by rw [List.size_toArray,List.size_toArray];simp;omega) (by omega) X.prog X.w X.xe _ ⟨.bl _,H,I,?_,q⟩
    rw [iBq hl];rfl
def eqR (f:Bool->Bool):DR2:=λ x y G Q=>match x,y with
  | .int i,.int j=>Q (.bl (f (i==j))) G
  | .str i,.str j=>Q (.bl (f (i==j))) G
  | .tup _,.str _=>Q (.bl (f false)) G
  | .str _,.tup _=>Q (.bl (f false)) G
  | .ref l,.ref m=>onL G l λ ds=>onL G m λ es=>dRq ds=true/\dRq es=true/\kDq ds<=150/\Q (.bl (f (lQq ds es))) G
  | x,y=>x.data=true/\y.data=true/\x.dp<=150/\Q (.bl (f (eqD x y))) G
theorem xGq {f:Bool->Bool} {x y:D} {G:DV} {Q:DK} (hx:x.data=true) (hy:y.data=true) (hd:x.dp<=150) (q:Q (.bl (f (eqD x y))) G):eqR f x y G Q:=by
  cases x<;>cases y<;>first | exact q | exact ⟨hx,hy,hd,q⟩ | (simp [D.data] at hx;done) | (simp [D.data] at hy;done)
def rTS (K:PySem.W.Frag) (f:Bool->Bool):R2:=λ x y H Q=>(∃ a vs z,x=.ref a/\SqT K H a vs/\y=.str z/\Q (.bl (f false)) H)\/∃ a vs z,y=.ref a/\SqT K H a vs/\x=.str z/\Q (.bl (f false)) H
theorem uVq (hu:X.A.units+200 < cLine):OpR X (compareOp .Eq) (rTS X.K id):=by
  intro pins s σ H x y v u Q I rx ry h
  rcases h with ⟨a,vs,z,rfl,sq,rfl,q⟩ | ⟨a,vs,z,rfl,sq,rfl,q⟩
  . cases rx;obtain ⟨t,rfl⟩:=ry
    obtain ⟨its,rr,t1,_⟩:=I.tuple sq
    exact SeqAt.RcAt.tuple_str z t t1 (by omega) X.prog X.w X.xe _ ⟨.bl false,H,I,rfl,q⟩
  . cases ry;obtain ⟨t,rfl⟩:=rx
    obtain ⟨its,rr,t1,_⟩:=I.tuple sq
    exact SeqAt.RcAt.str_tuple z t t1 (by omega) X.prog X.w X.xe _ ⟨.bl false,H,I,rfl,q⟩
theorem wAq (hu:X.A.units+200 < cLine):OpR X (compareOp .NotEq) (rTS X.K (!·)):=by
  intro pins s σ H x y v u Q I rx ry h
  rcases h with ⟨a,vs,z,rfl,sq,rfl,q⟩ | ⟨a,vs,z,rfl,sq,rfl,q⟩
  . cases rx;obtain ⟨t,rfl⟩:=ry
    obtain ⟨its,rr,t1,_⟩:=I.tuple sq
    exact SeqAt.RcNeAt.tuple_str z t t1 (by omega) X.prog X.w X.xe _ ⟨.bl true,H,I,rfl,q⟩
  . cases ry;obtain ⟨t,rfl⟩:=rx
    obtain ⟨its,rr,t1,_⟩:=I.tuple sq
    exact SeqAt.RcNeAt.str_tuple z t t1 (by omega) X.prog X.w X.xe _ ⟨.bl true,H,I,rfl,q⟩
theorem tNq {f:Bool->Bool} {op:CmpOp} (h1:OpR X (compareOp op) (rEqD X.K f)) (h2:OpR X (compareOp op) (vFq X.K f)) (h3:OpR X (compareOp op) (rTS X.K f)):AOp X (compareOp op) (eqR f):=by
  refine ⟨_,⟨h1.or (h2.or h3)⟩,λ x y vx vy G H DQ Q v ax ay r F=>?_⟩
  have fin:∀ b:Bool,DQ (.bl b) G->Q (.bl b) H:=λ b q=>F (.bl b) G _ H (.refl v) rfl q
  have gen:x.data=true/\y.data=true/\x.dp<=150/\DQ (.bl (f (eqD x y))) G->rEqD X.K f vx vy H Q:=λ⟨z1,z2,z3,z4⟩=>⟨x,y,ax,ay,z1,z2,z3,fin _ z4⟩
  unfold eqR at r
  split at r
  . exact .inl (gen ⟨rfl,rfl,Nat.zero_le _,r⟩)
  . exact .inl (gen ⟨rfl,rfl,Nat.zero_le _,r⟩)
  . obtain ⟨l,vs,rfl,s1,_⟩:=ax
    cases ay
    exact .inr (.inr (.inl ⟨l,vs,_,rfl,s1,rfl,fin _ r⟩))
  . obtain ⟨l,vs,rfl,s1,_⟩:=ay
    cases ax
    exact .inr (.inr (.inr ⟨l,vs,_,rfl,s1,rfl,fin _ r⟩))
  . cases ax;cases ay
    obtain ⟨ds,vs,k1,s1,r1⟩:=bDq v r
    obtain ⟨es,us,⟨z1,z2,z3,k2⟩,s2,r2⟩:=bDq v k1
    exact .inr (.inl ⟨_,_,vs,us,ds,es,rfl,rfl,s1,s2,r1,r2,z1,z2,z3,fin _ k2⟩)
  . exact .inl (gen r)
theorem b0q (hu:X.A.units+200 < cLine):AOp X (compareOp .Eq) (eqR id):=tNq (aD2q hu) (w5q hu) (uVq hu)
theorem p7q (hu:X.A.units+200 < cLine):AOp X (compareOp .NotEq) (eqR (!·)):=tNq (wZq hu) (vDq hu) (wAq hu)
abbrev aB0q (t:DTE):DTE:=λ ρ G Q=>t ρ G λ d G'=>∃ G2,Sub G2 G'/\Q d G2
theorem bJq (h:AE X e te):AE X e (aB0q te):=by
  obtain ⟨ca,ja,ra⟩:=h.run
  exact ⟨_,ja,λ ρ G DQ σ H Q B q F=>ra ρ G _ σ H _ B q λ d G' v H' g a ⟨G2,s2,q2⟩=>F d G2 v H' (g.sub s2) a q2⟩
@[irreducible] def atS (ds:List D) (i:Int) (G:DV) (Q:DK):Prop:=atD ds i G Q
theorem pUq {ds:List D} {i:Int} {G:DV} {Q:DK} (h:atD ds i G Q):atS ds i G Q:=by unfold atS;exact h
abbrev dIxD (t:DTA) (tb:DTE):DTE:=λ ρ G Q=>t ρ G λ ds G1=>tb ρ G1 λ y G2=>match y with
  | .int i=>atS ds i G2 Q
  | _=>False
theorem c9q {lp:Pos} (h:AA X es t) (hb:AE X b tb) (hs:iFq b) (hl:Nat.ble es.length 1000=true:=by rfl):AE X (.Subscript (.List es lp) b pos) (dIxD t tb):=by
  obtain ⟨ca,ja,ra⟩:=h.run
  obtain ⟨cb,jb,rb⟩:=hb.run
  refine ⟨_,y0q ⟨t9q⟩ (t0q ja) jb hs,λ ρ G DQ σ H Q B q F=>ra ρ G _ σ H _ B q λ ds G1 vs H1 g1 al hn q1=>⟨by rw [al.len,hn];exact kIq hl,λ p hp=>?_⟩⟩
  have g2:=Go.newT (o:=.lst vs) g1.vw hp
  have n1:=g1.vw.none hp
  refine rb ρ G1 _ σ _ _ ((B.go g1).go g2) q1 λ y G3 u H3 g3 ay q3=>?_
  have h3:=g3.same p _ aPq n1
  split at q3
  . next i=>
    cases ay
    unfold atS at q3
    obtain ⟨d,hd,q4⟩:=iCq q3
    obtain ⟨w,hw,aw⟩:=hPq ((al.mono g2.tup).mono g3.tup) hd
    exact .inl ⟨p,vs,i,w,rfl,rfl,.of h3,hw,F d G3 w H3 ((g1.trans g2).trans g3) aw q4⟩
  . exact q3.elim
def oHq (sc:Scope) (N:List Str) (scope:Scope) (N':List Str) (nt:Nat) (cap:List Nat):Bool:=
  scope.names.all (λ y=>y.2 !=.cell)&&scope.names.all (λ y=>y.2 !=.local||scope.names.lookup y.1==some .local) &&
  scope.names.all (λ y=>y.2 !=.free||(sc.names.lookup y.1==some .cell||sc.names.lookup y.1==some .free))&&N'.length==nt+cap.length &&
  (List.range cap.length).all λ j=>match cap[j]?,N'[nt+j]? with
    | some i,some x=>N[i]?==some x&&scope.names.lookup x==some .free
    | _,_=>true
theorem CompOk.of {scope:Scope} {N':List Str} {nt:Nat} {cap:List Nat} (hk:scope.kind=.function) (h:oHq X.env.scope X.N scope N' nt cap=true):CompOk X scope N' nt cap:=by
  unfold oHq at h
  simp only [Bool.and_eq_true,List.all_eq_true] at h
  obtain ⟨⟨⟨⟨h1,h2⟩,h3⟩,h4⟩,h5⟩:=h
  refine ⟨hk,λ y hy=>by simpa using h1 y hy,λ y hy e=>?_,λ y hy e=>?_,by simpa using h4,λ j i x hj hx=>?_⟩
  . have z:=h2 y hy
    rw [e] at z
    simpa using z
  . have z:=h3 y hy
    rw [e] at z
    simpa using z
  . have lt:j < cap.length:=by
      rcases Nat.lt_or_ge j cap.length with z | z
      . exact z
      . rw [List.getElem?_eq_none z] at hj;cases hj
    have z:=h5 j (List.mem_range.mpr lt)
    rw [hj,hx] at z
    simpa using z
abbrev aH7q (to ti:DTE):DTG:=λ d ρ G Q=>to ρ G λ x G1=>ti ρ G1 λ y G2=>match x,y with
  | .ref l,.int k=>onM G2 l λ ds=>∃ j,ixN ds.length k=some j/\Q ρ (up G2 l (.lst (ds.set j d)))
  | _,_=>False
theorem tOq (ho:AE X o to) (hi:AE X i ti) (ha:∀ v,assign (.Subscript o i pos) X.env v=(do
      let ov ← holding [v] (eval o X.env)
      let iv ← holding [v,ov] (eval i X.env)
      standAt pos
      holding [v,ov,iv] (setItem ov iv v)
      release [v,ov,iv] []):=by intro _;rfl):AG X (.Subscript o i pos) (aH7q to ti):=by
  obtain ⟨co,jo,ro⟩:=ho.run
  obtain ⟨ci,ji,ri⟩:=hi.run
  refine ⟨_,aA5q jo ji ⟨sHq⟩ ha,λ d v ρ G DQ σ H Q B ad q F=>ro ρ G _ σ H _ B q λ x G1 vx H1 g1 ax q1=>ri ρ G1 _ σ H1 _ (B.go g1) q1 λ y G2 vy H2 g2 ay q2=>?_⟩
  split at q2
  . next l k=>
    cases ax;cases ay
    obtain ⟨ds,vs,⟨j,hj,q3⟩,e1,h1,r1⟩:=cNq g2.vw q2
    have ad2:=(ad.mono g1.tup).mono g2.tup
    have g3:=Go.setL g2.vw e1 (r1.set ad2 j)
    have gg:=(g1.trans g2).trans g3
    exact ⟨l,vs,k,j,rfl,rfl,h1,by rw [r1.len];exact hj,F ρ _ σ _ gg (B.go gg) q3⟩
  . exact q2.elim
abbrev dAug (k:Nat) (te:DTE) (f:Int->Int->Int):DTS:=λ DD ρ G=>match ρ[k]? with
  | some (some (.int x))=>te ρ G λ y G1=>(match y with
      | .int z=>DD.nx (ρ.set k (some (.int (f x z)))) G1
      | _=>False)
  | _=>False
structure AIp (X:Cx) (op:Operator) (f:Int->Int->Int):Prop where
  run:JIp X op (ipI f)
theorem uRq:AIp X .Add (λ i j=>i+j):=⟨⟨z8q⟩⟩
theorem yXq {k:Nat} {x:Str} {op:Operator} {f:Int->Int->Int} {pos':Pos} (hN:X.N.Nodup) (hi:X.N[k]?=some x) (hx:Loc X.env.scope x) (he:AE X e te) (ho:AIp X op f) (hf:X.fn x=true\/X.env.scope.names.lookup x=some .local:=by first | exact .inl rfl | exact .inr rfl | assumption) :
    AS X (.AugAssign (.Name x pos') op e pos) (dAug k te f):=by
  obtain ⟨ce,je,re⟩:=he.run
  refine ⟨_,z2q hN hi hx je ho.run hf,λ DD Dc ρ G σ H B q F=>?_⟩
  unfold dAug at q
  split at q
  . next x h=>
    obtain ⟨v,h1,h2⟩:=B.st k _ h
    cases h2
    refine ⟨.int x,h1,re ρ G _ σ H _ B q λ y G1 u H1 g1 ay q1=>?_⟩
    split at q1
    . next z=>cases ay;exact ⟨x,z,rfl,rfl,F.nx _ G1 _ H1 g1 ((B.go g1).set (d:=.int (f x z)) rfl k) q1⟩
    . exact q1.elim
  . exact q.elim
abbrev rMq (te:DTE):DTE:=λ ρ G Q=>te ρ G λ x G1=>match x with
  | .tup ds=>∀ p,G1 p=none->Q (.ref p) (up G1 p (.lst ds.reverse))
  | _=>False
theorem gRq (hgl:Gl X "list") (hml:X.mg "list" = none) (hg:Gl X "reversed") (hm:X.mg "reversed" = none) (he:AE X e te) (hc:X.calm=true:=by rfl) (hs:aLq e=true:=by rfl):AE X (.Call (.Name "list" p) [.Call (.Name "reversed" apos) [e] [] cpos] [] pos) (rMq te):=by
  obtain ⟨ce,je,re⟩:=he.run
  refine ⟨_,gLq hgl hml hg hm je hc hs,λ ρ G DQ σ H Q B q F=>re ρ G _ σ H _ B q λ x G1 v H1 g1 ax q1=>?_⟩
  split at q1
  . next ds=>
    obtain ⟨l,vs,rfl,s,r⟩:=ax
    exact ⟨l,vs,rfl,s,λ p hp=>F (.ref p) _ _ _ (g1.trans (Go.newL g1.vw hp r.reverse)) rfl (q1 p (g1.vw.none hp))⟩
  . exact q1.elim
abbrev xBq (te:DTE):DTE:=λ ρ G Q=>te ρ G λ x G1=>match x with
  | .ref l=>onL G1 l λ ds=>∀ p,G1 p=none->Q (.ref p) (up G1 p (.lst ds.reverse))
  | _=>False
abbrev sIq (te:DTE):DTE:=λ ρ G Q=>te ρ G λ x G1=>match x with
  | .ref l=>onL G1 l λ ds=>Q (.tup ds.reverse) G1
  | _=>False
theorem eLq (hgl:Gl X "tuple") (hml:X.mg "tuple" = none) (hg:Gl X "reversed") (hm:X.mg "reversed" = none) (he:AE X e te) (hc:X.calm=true:=by rfl) (hs:aLq e=true:=by rfl):AE X (.Call (.Name "tuple" p) [.Call (.Name "reversed" apos) [e] [] cpos] [] pos) (sIq te):=by
  obtain ⟨ce,je,re⟩:=he.run
  refine ⟨_,eMq hgl hml hg hm je hc hs,λ ρ G DQ σ H Q B q F=>re ρ G _ σ H _ B q λ x G1 v H1 g1 ax q1=>?_⟩
  split at q1
  . next l=>
    cases ax
    obtain ⟨ds,vs,k,s,r⟩:=bDq g1.vw q1
    refine ⟨l,vs,rfl,s,λ p hp=>?_⟩
    have g:=Go.newT (o:=.tup vs.reverse) g1.vw hp
    exact F (.tup ds.reverse) _ _ _ (g1.trans g) ⟨p,_,rfl,.of aPq,r.reverse.mono g.tup⟩ k
  . exact q1.elim
def d7q:List D->Option (List Bool)
  | []=>some []
  | .bl i::r=>(d7q r).map (i::·)
  | _::_=>none
theorem gFq {K:PySem.W.Frag} {H:Hp}:∀ {ds:List D} {bs:List Bool} {vs:List V},d7q ds=some bs->AbsL K H ds vs->vs=bs.map V.bl
  | [],bs,vs,h,r=>by cases h;exact r
  | d::ds,bs,vs,h,⟨v,q,e,av,l⟩=>by
    cases d with
    | bl i=>
      simp only [d7q,Option.map_eq_some_iff] at h
      obtain ⟨ms,h1,rfl⟩:=h
      subst e
      cases av
      rw [gFq h1 l];rfl
    | _=>simp [d7q] at h
theorem d8q:∀ bs:List Bool,d7q (bs.map D.bl)=some bs
  | []=>rfl
  | b::bs=>by simp [d7q,d8q bs]
def allD:D->DV->DK->Prop:=λ x G Q=>match x with
  | .ref l=>onL G l λ ds=>∃ bs,d7q ds=some bs/\Q (.bl (bs.all id)) G
  | _=>False
theorem jJq (hc:X.calm=true):ACall X (.builtin "all") (wSq allD):=by
  refine ⟨_,⟨qDq hc⟩,λ xs vs G H DQ Q v a r F=>?_⟩
  obtain ⟨x,u,rfl,rfl,ax,r⟩:=ePq r a
  cases x with
  | ref l=>
    cases ax
    obtain ⟨ds,ws,⟨bs,e,k⟩,s,rl⟩:=bDq v r
    rw [gFq e rl] at s
    exact ⟨l,bs,rfl,s,F (.bl (bs.all id)) G _ H (.refl v) rfl k⟩
  | _=>exact (show False from r).elim
def tyN (x:D) (G:DV) (k:String->Prop):Prop:=match x with
  | .non=>k "NoneType"
  | .bl _=>k "bool"
  | .int _=>k "int"
  | .str _=>k "str"
  | .tup _=>k "tuple"
  | .ref l=>onL G l λ _=>k "list"
  | _=>False
def isTy (t T:String):Option Bool:=
  if (t = "NoneType"\/t = "bool"\/t = "int"\/t = "str"\/t = "tuple"\/t = "list")/\(T = "bool"\/T = "int"\/T = "str"\/T = "tuple"\/T = "list") then some (decide (t=T)||(decide (t = "bool")&&decide (T = "int"))) else none
theorem cPq {K:PySem.W.Frag} {t T:String} {b:Bool} (h:isTy t T=some b):PySem.W.kitOne K (.type t) (.type T)=some b:=by
  unfold isTy at h
  split at h
  . next c=>
    obtain ⟨c1,c2⟩:=c
    rcases c1 with rfl | rfl | rfl | rfl | rfl | rfl<;>rcases c2 with rfl | rfl | rfl | rfl | rfl<;>(simp at h;subst h;first | rfl | exact kit_other rfl (by decide))
  . cases h
def rIsI (K:PySem.W.Frag):List V->Hp->VK->Prop:=λ xs H Q=>∃ x T t b,xs=[x,.ty T]/\((TyOf K H x (.type t))\/(t = "tuple"/\∃ a vs,x=.ref a/\SqT K H a vs)\/(t = "list"/\∃ a vs,x=.ref a/\SqL K H a vs))/\PySem.W.kitOne K (.type t) (.type T)=some b/\Q (.bl b) H
theorem pFq:CallR X (.builtin "isinstance") (rIsI X.K):=by
  intro pins s σ H xs us Q I r h
  obtain ⟨x,T,t,b,rfl,ty,hk,hQ⟩:=h
  obtain ⟨u,v,rfl,ru,rv⟩:=Vals.two r
  cases rv
  rcases ty with ty | ⟨rfl,a,vs,rfl,sq⟩ | ⟨rfl,a,vs,rfl,sq⟩
  . exact q1q I ru ty hk λ tk=>⟨.bl b,H,I.tok tk,rfl,hQ⟩
  . cases ru
    obtain ⟨its,_,⟨o,h1,h2,_⟩,_⟩:=I.tuple sq
    exact PySem.W.kia_one PySem.W.kitx_tuple I.kIn ⟨o,h1,h2⟩ hk (λ z=>nomatch z) λ tk=>⟨.bl b,H,I.tok tk,rfl,hQ⟩
  . cases ru
    obtain ⟨its,_,⟨o,n,h1,h2,_⟩,_⟩:=I.list sq
    exact PySem.W.kia_one PySem.W.kitx_list I.kIn ⟨o,h1,h2⟩ hk (λ z=>nomatch z) λ tk=>⟨.bl b,H,I.tok tk,rfl,hQ⟩
def isID:D->D->DV->DK->Prop:=λ x y G Q=>match y with
  | .ty T=>tyN x G λ t=>∃ b,isTy t T=some b/\Q (.bl b) G
  | _=>False
theorem c8q:ACall X (.builtin "isinstance") (two2 isID):=by
  refine ⟨_,⟨pFq⟩,λ xs vs G H DQ Q v a r F=>?_⟩
  obtain ⟨x,y,u,w,rfl,rfl,ax,ay,r⟩:=m0q r a
  cases y with
  | ty T=>
    cases ay
    cases x with
    | non=>cases ax;obtain ⟨b,hb,q⟩:=r;exact ⟨_,T,_,b,rfl,.inl .non,cPq hb,F (.bl b) G _ H (.refl v) rfl q⟩
    | bl z=>cases ax;obtain ⟨b,hb,q⟩:=r;exact ⟨_,T,_,b,rfl,.inl (.bl z),cPq hb,F (.bl b) G _ H (.refl v) rfl q⟩
    | int z=>cases ax;obtain ⟨b,hb,q⟩:=r;exact ⟨_,T,_,b,rfl,.inl (.int z),cPq hb,F (.bl b) G _ H (.refl v) rfl q⟩
    | str z=>cases ax;obtain ⟨b,hb,q⟩:=r;exact ⟨_,T,_,b,rfl,.inl (.str z),cPq hb,F (.bl b) G _ H (.refl v) rfl q⟩
    | tup ds=>obtain ⟨l,ws,rfl,s,_⟩:=ax;obtain ⟨b,hb,q⟩:=r;exact ⟨_,T,"tuple", b,rfl,.inr (.inl ⟨rfl,l,ws,rfl,s⟩),cPq hb,F (.bl b) G _ H (.refl v) rfl q⟩
    | ref l=>
      cases ax
      obtain ⟨ds,ws,⟨b,hb,q⟩,s,_⟩:=bDq v r
      exact ⟨_,T,"list", b,rfl,.inr (.inr ⟨rfl,l,ws,rfl,s⟩),cPq hb,F (.bl b) G _ H (.refl v) rfl q⟩
    | ty z=>exact (show False from r).elim
    | frl z=>exact (show False from r).elim
  | _=>exact (show False from r).elim
abbrev aK7q (t:DTA):DTI:=λ ρ G R=>t ρ G λ ds G1=>match ds with
  | [.tup xs,.tup ys]=>xs.length<=ys.length/\R ⟨(xs.zip ys).map λ z=>.tup [z.1,z.2],λ _=>True⟩ G1
  | _=>False
theorem xRq {k:Nat} {tp:Pos} (hg:Gl X "zip") (hm:X.mg "zip" = none) (ha:AA X [a,b] t) (h1:aLq a=true:=by rfl) (h2:aLq b=true:=by rfl):AI X (.Tuple es k tp) (.Call (.Name "zip" p) [a,b] [] pos) (aK7q t):=by
  obtain ⟨ca,ja,ra⟩:=ha.run
  refine ⟨_,yUq hg hm ja h1 h2,λ ρ G DR σ H R B q F=>ra ρ G _ σ H _ B q λ ds G1 vs H1 g1 al hl q1=>?_⟩
  split at q1
  . next xs ys=>
    obtain ⟨hle,q2⟩:=q1
    obtain ⟨v,r,rfl,⟨l,ws,rfl,s1,r1⟩,u,r2,rfl,⟨m,zs,rfl,s2,r2'⟩,z⟩:=al
    cases z
    refine ⟨l,m,rfl,⟨ws,s1⟩,⟨zs,s2⟩,F _ _ G1 H1 g1 (λ G2 H2 g2 _=>⟨λ n d hd=>?_,λ n hn=>⟨ws,g2.tup.tp _ _ s1,?_⟩⟩) q2⟩
    . rw [List.getElem?_map] at hd
      cases e:(xs.zip ys)[n]? with
      | none=>rw [e] at hd;cases hd
      | some z=>
        rw [e] at hd
        simp at hd
        subst hd
        obtain ⟨e1,e2⟩:=List.getElem?_zip_eq_some.mp e
        obtain ⟨w1,k1,a1⟩:=(r1.mono g2.tup).get e1
        obtain ⟨w2,k2,a2⟩:=(r2'.mono g2.tup).get e2
        refine ⟨⟨ws,zs,w1,w2,g2.tup.tp _ _ s1,g2.tup.tp _ _ s2,k1,k2⟩,λ x H' y=>?_⟩
        obtain ⟨T,x1,y1,rfl,hT,rfl,hx,hy⟩:=y
        have z1:=hx ws (g2.tup.tp _ _ s1)
        have z2:=hy zs (g2.tup.tp _ _ s2)
        rw [k1] at z1;rw [k2] at z2
        cases z1;cases z2
        have g3:=Go.newT (o:=.tup [w1,w2]) g2.vw hT
        exact ⟨g3,T,_,rfl,.of aPq,⟨_,_,rfl,a1.mono g3.tup,.one (a2.mono g3.tup)⟩⟩
    . have:=r1.len
      simp at hn
      omega
  . exact q1.elim
end
end L3
namespace L3
open PySem PyProof L2
open PySem.MeetsSeq
section
variable {X:Cx}
variable {e:Expr} {t:DTA} {pos apos cpos:Pos}
end
theorem p6q {a b:String} (h:Str.ofString a=Str.ofString b):a=b:=by
  rw [Str.ofString_eq_toList,Str.ofString_eq_toList] at h
  have h1:a.toList.map Char.toNat=b.toList.map Char.toNat:=by simpa using h
  have h2:a.toList=b.toList:=by
    generalize a.toList=x at h1
    generalize b.toList=y at h1
    induction x generalizing y with
    | nil=>cases y with
      | nil=>rfl
      | cons _ _=>simp at h1
    | cons c x ih=>cases y with
      | nil=>simp at h1
      | cons d y=>
        simp only [List.map_cons,List.cons.injEq] at h1
        rw [Char.ext (UInt32.toNat_inj.mp h1.1),ih y h1.2]
  exact String.toList_inj.mp h2
theorem i3q {a b:String}:(Str.ofString a=Str.ofString b)=(a=b):=propext ⟨p6q,λ h=>by rw [h]⟩
theorem j9q {a b:String}:(Str.ofString a==Str.ofString b)=(a==b):=by
  rw [Bool.eq_iff_iff];simp [i3q]
inductive Tm where
  | name (k:Nat) | whole (n:Int) | way (t:Tm) | give (t u:Tm) | pair (t u:Tm) | first (t:Tm) | second (t:Tm) | plus (t u:Tm) | look (t u v:Tm)
def Tm.inn:Tm->List Tm
  | .name _=>[]
  | .whole _=>[]
  | .way t=>[t]
  | .give t u=>[t,u]
  | .pair t u=>[t,u]
  | .first t=>[t]
  | .second t=>[t]
  | .plus t u=>[t,u]
  | .look t u v=>[t,u,v]
def Tm.word:Tm->Str
  | .name _=>"name" | .whole _=>"whole" | .way _=>"way" | .give _ _=>"give" | .pair _ _=>"pair" | .first _=>"first" | .second _=>"second" | .plus _ _=>"plus" | .look _ _ _=>"look"
def Tm.enc:Tm->D
  | .name k=>.tup [.str "name", .int k]
  | .whole n=>.tup [.str "whole", .int n]
  | .way t=>.tup [.str "way", t.enc]
  | .give t u=>.tup [.str "give", t.enc,u.enc]
  | .pair t u=>.tup [.str "pair", t.enc,u.enc]
  | .first t=>.tup [.str "first", t.enc]
  | .second t=>.tup [.str "second", t.enc]
  | .plus t u=>.tup [.str "plus", t.enc,u.enc]
  | .look t u v=>.tup [.str "look", t.enc,u.enc,v.enc]
def Tm.sz:Tm->Nat
  | .name _=>1
  | .whole _=>1
  | .way t=>1+t.sz
  | .give t u=>1+t.sz+u.sz
  | .pair t u=>1+t.sz+u.sz
  | .first t=>1+t.sz
  | .second t=>1+t.sz
  | .plus t u=>1+t.sz+u.sz
  | .look t u v=>1+t.sz+u.sz+v.sz
def Tm.dp:Tm->Nat
  | .name _=>0
  | .whole _=>0
  | .way t=>1+t.dp
  | .give t u=>1+max t.dp u.dp
  | .pair t u=>1+max t.dp u.dp
  | .first t=>1+t.dp
  | .second t=>1+t.dp
  | .plus t u=>1+max t.dp u.dp
  | .look t u v=>1+max t.dp (max u.dp v.dp)
theorem Tm.sz_pos (t:Tm):1<=t.sz:=by cases t<;>simp [Tm.sz]<;>omega
theorem Tm.enc_dp (t:Tm):t.enc.dp=t.dp+1:=by
  induction t<;>simp_all [Tm.enc,D.dp,kDq,Tm.dp]<;>omega
theorem Tm.dp_sz (t:Tm):t.dp<=t.sz:=by
  induction t<;>simp_all [Tm.dp,Tm.sz]<;>omega
def Tm.args:Tm->List D
  | .name k=>[.int k]
  | .whole n=>[.int n]
  | t=>t.inn.map Tm.enc
theorem Tm.enc_eq (t:Tm):t.enc=.tup (.str t.word::t.args):=by cases t<;>rfl
abbrev fed (x y:Int):DO:=.lst [.int x,.int y]
def Fd (G:DV) (a:Addr):Prop:=∃ x y,G a=some (fed x y)
theorem Fd.up {G:DV} {a:Addr} {x y:Int}:Fd (up G a (fed x y)) a:=⟨x,y,a5q⟩
theorem Fd.new {G:DV} {a l:Addr} {o:DO} (h:Fd G a) (n:G l=none):Fd (L3.up G l o) a:=by
  obtain ⟨x,y,e⟩:=h
  exact ⟨x,y,by rw [aIq (by rintro rfl;rw [n] at e;cases e)];exact e⟩
theorem Fd.ne {G:DV} {a l:Addr} (h:Fd G a) (n:G l=none):l≠a:=by
  obtain ⟨x,y,e⟩:=h
  rintro rfl
  rw [n] at e;cases e
theorem bKq {G:DV} {a l:Addr} {f o:DO} (n:up G a f l=none):up (up G a f) l o=up (up G l o) a f/\G l=none/\l≠a:=by
  have ne:l≠a:=by rintro rfl;rw [a5q] at n;cases n
  exact ⟨n7q (Ne.symm ne),by rw [aIq ne] at n;exact n,ne⟩
theorem Sub.new {G G1:DV} {p:Addr} {o:DO} (h:Sub G G1) (n:G p=Option.none):Sub G (up G1 p o):=λ b u e=>by
  rw [aIq (by rintro rfl;rw [n] at e;cases e)];exact h b u e
theorem Sub.put {G G1:DV} {a:Addr} {o:DO} (h:Sub G G1):Sub (up G a o) (up G1 a o):=λ b u e=>by
  by_cases c:b=a
  . subst c;rw [a5q] at e ⊢;exact e
  . rw [aIq c] at e ⊢;exact h b u e
def Fx (a:Addr) (G G':DV):Prop:=∃ x y,G'=up G a (fed x y)
theorem Fx.mk {a:Addr} {G:DV} {x y:Int}:Fx a G (up G a (fed x y)):=⟨x,y,rfl⟩
theorem Fx.trans {a:Addr} {G G1 G2:DV} (h:Fx a G G1) (k:Fx a G1 G2):Fx a G G2:=by
  obtain ⟨x,y,rfl⟩:=h
  obtain ⟨z,u,rfl⟩:=k
  exact ⟨z,u,cGq⟩
theorem Fx.fd {a:Addr} {G G':DV} (h:Fx a G G'):Fd G' a:=by obtain ⟨x,y,rfl⟩:=h;exact .up
theorem Fx.refl {a:Addr} {G:DV} (h:Fd G a):Fx a G G:=by obtain ⟨x,y,e⟩:=h;exact ⟨x,y,(tYq e).symm⟩
theorem Fx.other {a l:Addr} {G G':DV} (h:Fx a G G') (n:l≠a):G' l=G l:=by obtain ⟨x,y,rfl⟩:=h;exact aIq n
theorem Fx.none {a l:Addr} {G G':DV} (h:Fx a G G') (n:G' l=Option.none):G l=Option.none:=by
  obtain ⟨x,y,rfl⟩:=h
  exact (bKq (o:=fed 0 0) n).2.1
def d1q:DSp:=λ ds G Q=>match ds with
  | [.ref a,.int m]=>Fd G a/\0 < m/\m < 2 ^ 62/\∀ d G',Fx a G G'->0<=d->d < m->Q (.int d) G'
  | _=>False
def iZq:DSp:=λ ds G Q=>match ds with
  | [.frl ss,.int k]=>∃ ns:List Int,ss=ns.map D.int/\ns.length<=63/\0<=k/\k < 2 ^ 32/\∀ r x y,G r=none->Q (.ref r) (up G r (fed x y))
  | _=>False
def d4q:DSp:=λ ds G Q=>match ds with
  | [.ref a]=>Fd G a/\∀ n G',Fx a G G'->-(2 ^ 40) < n->n < 2 ^ 40->Q (Tm.enc (.whole n)) G'
  | _=>False
theorem okNo {P:Program} {w:World} {K:PySem.W.Frag} {mg:Str->Option Value} {base:Heap} {f:Addr} {fd:FuncData} {ps:List Str} {k:Nat} {dsp:DSp} (no:∀ ds G DQ,¬ dsp ds G DQ):FnOk P w K mg base CX0 k f fd ps (aKq K dsp):=
  ⟨λ vs H Q E ⟨ds,G,DQ,_,_,h,_⟩=>absurd h (no ds G DQ),λ A outer s H args us vs Q E _ _ _ _ ⟨ds,G,DQ,_,_,h,_⟩=>absurd h (no ds G DQ)⟩
theorem at2 {x y:D} {G:DV} {Q:DK} {i:Int} (h0:0<=i) (h1:i < 2) (hx:i=0->Q x G) (hy:i=1->Q y G):atS [x,y] i G Q:=by
  refine pUq ?_
  rcases (by omega:i=0\/i=1) with rfl | rfl
  . exact hx rfl
  . exact hy rfl
theorem at4 {x y z u:D} {G:DV} {Q:DK} {i:Int} (h0:0<=i) (h1:i < 4) (hx:i=0->Q x G) (hy:i=1->Q y G) (hz:i=2->Q z G) (hu:i=3->Q u G):atS [x,y,z,u] i G Q:=by
  refine pUq ?_
  rcases (by omega:i=0\/i=1\/i=2\/i=3) with rfl | rfl | rfl | rfl
  . exact hx rfl
  . exact hy rfl
  . exact hz rfl
  . exact hu rfl
def plD (ns:List Int):D:=.tup (ns.map D.int)
def Tm.hasRule:Tm->Bool
  | .give (.way _) _=>true
  | .first (.pair _ _)=>true
  | .second (.pair _ _)=>true
  | .plus (.whole _) (.whole _)=>true
  | .look (.whole _) _ _=>true
  | _=>false
def i9q (b:Tm->Bool):DSp:=λ ds G Q=>∃ t:Tm,ds=[t.enc]/\Q (.bl (b t)) G
theorem j4q (t u:Tm):(Tm.give t u).hasRule=(t.word=="way"):=by cases t<;>first | rfl | decide
theorem hKq (t:Tm):(Tm.first t).hasRule=(t.word=="pair"):=by cases t<;>first | rfl | decide
theorem gKq (t:Tm):(Tm.second t).hasRule=(t.word=="pair"):=by cases t<;>first | rfl | decide
theorem jBq (t u:Tm):(Tm.plus t u).hasRule=(t.word=="whole"&&u.word=="whole"):=by cases t<;>cases u<;>first | rfl | decide
theorem kAq (t u v:Tm):(Tm.look t u v).hasRule=(t.word=="whole"):=by cases t<;>first | rfl | decide
def dIq {α:Type} (enc:α->D) (inn:α->List α):DSp:=λ ds G Q=>∃ x,ds=[enc x]/\Q (.tup ((inn x).map enc)) G
section
variable {α:Type} {all:α->List (List Int × α)} {inn:α->List α}
theorem small {n:Nat} (h:n<=200000):n<=sizeLine:=by rw [sizeLine_eq];omega
theorem aYq {n:Nat} (h:n<=200000):n < sizeLine:=by rw [sizeLine_eq];omega
theorem up3 {G:DV} {p q:Addr} {x y z:DO} (h:p≠q):up (up (up G q x) p y) q z=up (up G q z) p y:=by
  rw [n7q h,cGq]
end
theorem Tm.dp_inn {t u:Tm} (h:u∈t.inn):u.dp+1<=t.dp:=by
  cases t<;>simp [Tm.inn] at h<;>simp only [Tm.dp]<;>first | (subst h;omega) | (rcases h with rfl | rfl<;>omega) | (rcases h with rfl | rfl | rfl<;>omega)
theorem Tm.sz_mem {t u:Tm} (h:u∈t.inn):u.sz+1<=t.sz:=by
  cases t<;>simp [Tm.inn] at h<;>simp only [Tm.sz]<;>first | (subst h;omega) | (rcases h with rfl | rfl<;>omega) | (rcases h with rfl | rfl | rfl<;>omega)
theorem Tm.inn_len (t:Tm):t.inn.length<=3:=by cases t<;>simp [Tm.inn]
def Tm.at:Tm->List Int->Option Tm
  | t,[]=>some t
  | t,k::ks=>if 0<=k then (match t.inn[k.toNat]? with | some u=>Tm.at u ks | none=>none) else none
theorem Tm.at_go {t u:Tm} {k:Int} {ks:List Int} (h0:0<=k) (h:t.inn[k.toNat]?=some u):t.at (k::ks)=u.at ks:=by rw [Tm.at,if_pos h0,h]
theorem Tm.at_cons {t:Tm} {k:Int} {ks:List Int} {q:Tm} (h:t.at (k::ks)=some q):0<=k/\∃ x,t.inn[k.toNat]?=some x/\x.at ks=some q:=by
  rw [Tm.at] at h
  split at h
  . next c=>
    split at h
    . next u e=>exact ⟨c,u,e,h⟩
    . cases h
  . cases h
theorem Tm.at_take:∀ {ns:List Int} {t q:Tm} {i:Nat} {k:Int},t.at ns=some q->ns[i]?=some k->∃ u v,t.at (ns.take i)=some u/\0<=k/\u.inn[k.toNat]?=some v/\t.at (ns.take (i+1))=some v
  | [],_,_,_,_,_,hi=>by simp at hi
  | n::ns,t,q,0,k,h,hi=>by
    simp at hi;subst hi
    obtain ⟨n0,x,hx,h'⟩:=Tm.at_cons h
    exact ⟨t,x,rfl,n0,hx,by rw [List.take_succ_cons,List.take_zero,Tm.at_go n0 hx];rfl⟩
  | n::ns,t,q,i+1,k,h,hi=>by
    obtain ⟨n0,x,hx,h'⟩:=Tm.at_cons h
    obtain ⟨u,v,h1,h2,h3,h4⟩:=Tm.at_take (i:=i) (k:=k) h' (by simpa using hi)
    exact ⟨u,v,by rw [List.take_succ_cons,Tm.at_go n0 hx];exact h1,h2,h3,by rw [List.take_succ_cons,Tm.at_go n0 hx];exact h4⟩
def spAt:DSp:=λ ds G Q=>∃ (t:Tm) (ns:List Int) (u:Tm),ds=[t.enc,plD ns]/\t.at ns=some u/\Q u.enc G
mutual
def D.plain:D->Bool
  | .int _=>true
  | .str _=>true
  | .tup ds=>decide (ds.length<=100000)&&hCq ds
  | _=>false
def hCq:List D->Bool
  | []=>true
  | d::ds=>d.plain&&hCq ds
end
theorem gUq:∀ {ds:List D} {d:D},hCq ds=true->d∈ds->d.plain=true
  | d::ds,e,h,m=>by
    simp only [hCq,Bool.and_eq_true] at h
    rcases List.mem_cons.mp m with rfl | m
    . exact h.1
    . exact gUq h.2 m
theorem m5q:∀ {ds:List D} {d:D},d∈ds->d.dp<=kDq ds
  | d::ds,e,m=>by
    rcases List.mem_cons.mp m with rfl | m
    . simp only [kDq];omega
    . have:=m5q m
      simp only [kDq];omega
def gAq (n:Nat):DSp:=λ ds G Q=>∃ d:D,ds=[d,d]/\d.plain=true/\d.dp < n/\Q (.bl true) G
theorem lHq {α β:Type} (f:α × α->β):∀ xs:List α,(xs.zip xs).map f=xs.map λ x=>f (x,x)
  | []=>rfl
  | x::xs=>by rw [List.zip_cons_cons,List.map_cons,List.map_cons,lHq f xs]
theorem Tm.plain_enc (t:Tm):t.enc.plain=true:=by
  induction t<;>simp_all [Tm.enc,D.plain,hCq]
end L3
namespace L3
open PySem PyProof L2
section
variable {X:Cx}
abbrev dDef (i:Nat) (T:Addr) (env:Env) (name qual:Str) (st:Stmt) (fr:List Str) (pos:Pos):DTS:=λ DD ρ G=>G T=some (.tab pos qual)/\∀ f,G f=none->DD.nx (ρ.set i (some (.ref f))) (up G f (.made env name qual st fr))
theorem Go.def {K:PySem.W.Frag} {G:DV} {H H':Hp} {T f:Addr} {env:Env} {name qual:Str} {st:Stmt} {fr:List Str} {pos:Pos} (v:Vw K G H) (hT:G T=some (.tab pos qual)) (hf:H f=none) (M:MadeAt env H' f name qual st fr) (tb:Tab H' T pos qual) (kp:∀ b u,b≠T->H b=some u->H' b=some u) :
    Go K G H (up G f (.made env name qual st fr)) H':=by
  obtain ⟨ps,eT,_⟩:=v T _ hT
  obtain ⟨ps',eT',_⟩:=id tb
  have nT:∀ a u,H a=some u->u≠.tbl ps->a≠T:=λ a u e n z=>by rw [z,eT] at e;exact n (Option.some.inj e).symm
  have ht:Mono K H H':=by
    refine ⟨λ a xs q=>?_,λ a xs q=>?_,λ a o q=>kp _ _ (nT _ _ q λ z=>nomatch z) q⟩
    . rcases q with (q | ⟨o,q⟩) | q
      . exact .inl (.inl (kp _ _ (nT _ _ q λ z=>nomatch z) q))
      . exact .inl (.inr ⟨o,kp _ _ (nT _ _ q λ z=>nomatch z) q⟩)
      . exact .inr q
    . rcases q with ⟨o,q⟩ | q
      . exact .inl ⟨o,kp _ _ (nT _ _ q λ z=>nomatch z) q⟩
      . exact .inr q
  refine ⟨ht,λ a o e=>?_,λ a o e n=>?_,λ a o e n=>?_,λ a u e=>?_⟩
  . by_cases z:a=T
    . subst z;exact ⟨_,eT'⟩
    . exact ⟨o,kp a o z e⟩
  . exact kp a o (λ z=>by rw [z,hT] at n;cases n) e
  . rw [aIq (λ z=>by rw [z,hf] at e;cases e)];exact n
  . by_cases z:a=f
    . subst z;rw [a5q] at e;cases e;exact M
    . rw [aIq z] at e
      by_cases y:a=T
      . subst y;rw [hT] at e;cases e;exact tb
      . obtain ⟨z',q⟩:=(v a u e).some
        exact (v a u e).mono ht (by rw [q];exact kp _ _ y q)
variable {i:Nat} {T c:Addr} {name:Str} {params:Arguments} {body:List Stmt} {scope:Scope} {pos:Pos} {fr:List Str}
theorem t4q (hN:X.N.Nodup) (hi:X.N[i]?=some name) (hl:Loc X.env.scope name) (hcode:X.env.code=.ref c) (hC:PySem.W.CodeHd X.base c T) (hB:f1q X.mg X.base)
    (hcl:closureFor scope X.env=pure (dHq X.env fr)) (hd0:params.defaults=[]) (hk0:params.kw_defaults=[]) (ha:annTrees params none X.env=[])
    (hf:X.fn name=true\/X.env.scope.names.lookup name=some .local:=by first | exact .inl rfl | exact .inr rfl | assumption) :
    AS X (.FunctionDef name params body [] none [] scope none name pos) (dDef i T X.env name (qualnameIn X.env name name) (.FunctionDef name params body [] none [] scope none name pos) fr pos):=by
  refine ⟨_,⟨zUq (T:=T) hN hi hl hcode hC hB hcl hd0 hk0 ha hf⟩,λ DD Dc ρ G σ H B q F=>?_⟩
  obtain ⟨hT,q⟩:=q
  refine ⟨B.vw T _ hT,λ f H' hf' M tb kp=>?_⟩
  have g:=Go.def B.vw hT hf' M tb kp
  exact F.nx _ _ _ _ g ((B.go g).set (d:=.ref f) rfl i) (q f (B.vw.none hf'))
end
end L3
namespace L2
open PySem PySem.Spec PyProof.Rows
def aC0q (i:Nat) (name qual:Str) (st:Stmt) (fr:List Str) (sp:List V->Sp) (t:TA):TE:=λ σ H Q=>∃ fvs,tEq i name qual st fr fvs (sp fvs) t σ H Q
theorem aH5q {X:Cx} {k j i:Nat} {name qual:Str} {st:Stmt} {fr:List Str} {ps:List Str} {x:Str} {sp:List V->Sp} {p pos:Pos} {e:Expr} {es:List Expr} {t:TA} (G:∀ fvs,CloOk X.prog X.w X.K X.mg X.base k name qual st fr fvs ps (sp fvs)) (hr:Room j X.A) (hk:k<=j) (hN:X.N[i]?=some x) (hv:Vis X.env.scope x) (ha:PA X (e::es) t)
    (hd:(x==("__debug__" : Str))=false) (hcd:(x==("__classdict__" : Str))=false) (he:starEach (e::es) X.env=(false,eval e X.env)::starEach es X.env) (hpl:(backTo pos (starEach es X.env)).any (·.1)=false) :
    PE X (.Call (.Name x p) (e::es) [] pos) (aC0q i name qual st fr sp t):=λ pins s σ H Q I ⟨fvs,h⟩=>aJ8q (G fvs) hr hk hN hv ha hd hcd he hpl pins s σ H Q I h
end L2
namespace L3
open PySem PyProof L2
def aO0q (K:PySem.W.Frag) (vals:List D) (dsp:DSp) (fvs:List V):Sp:=λ vs H Q _=>∃ ds G DQ,AbsL K H ds vs/\AbsL K H vals fvs/\Vw K G H/\dsp ds G DQ/\Fin K G H DQ Q
structure CloD (P:Program) (w:World) (K:PySem.W.Frag) (mg:Str->Option Value) (base:Heap) (k:Nat) (name qual:Str) (st:Stmt) (fr:List Str) (vals:List D) (ps:List Str) (dsp:DSp):Prop where
  ok:∀ fvs,CloOk P w K mg base k name qual st fr fvs ps (aO0q K vals dsp fvs)
section
variable {X:Cx} {k j:Nat} {name qual:Str} {st:Stmt} {fr:List Str} {vals:List D} {ps:List Str} {x:Str} {dsp:DSp} {p pos:Pos} {e:Expr} {es:List Expr} {t:DTA}
abbrev xZq (n:Nat) (name qual:Str) (st:Stmt) (fr:List Str) (vals:List D) (dsp:DSp) (t:DTA):DTE:=λ ρ G Q=>∃ f,ρ[n]?=some (some (.ref f))/\G f=some (.clo name qual st fr vals)/\t ρ G λ ds G1=>G1 f=some (.clo name qual st fr vals)/\dsp ds G1 Q
theorem Go.frz {K:PySem.W.Frag} {G G1:DV} {H H1:Hp} {f:Addr} {cl:List (Str × Addr)} {fvs:List V} (g:Go K G H G1 H1) (C:CloAt H f name qual st cl fvs):CloAt H1 f name qual st cl fvs:=by
  obtain ⟨oc,od,doc,pm,cdv,ct,sl,h3,c,o,vs,t,h4,h5,h6⟩:=C.fn
  exact ⟨⟨oc,od,doc,pm,cdv,ct,sl,g.tup.fz _ _ h3,c,o,vs,t,h4,g.tup.fz _ _ h5,h6⟩,λ i x c hi=>let ⟨v,u,o,z1,z2,z3,z4⟩:=C.cells i x c hi;⟨v,u,o,z1,z2,g.tup.fz _ _ z3,z4⟩,C.len,C.nda⟩
theorem aG7q (n:Nat) (Ck:CloD X.prog X.w X.K X.mg X.base k name qual st fr vals ps dsp) (hr:Room j X.A) (hk:k<=j) (ha:AA X (e::es) t) (hN:X.N[n]?=some x:=by rfl) (hv:Vis X.env.scope x:=by first | exact Or.inl rfl | exact Or.inr (Or.inl rfl) | exact Or.inr (Or.inr rfl))
    (hd:(x==("__debug__" : Str))=false:=by decide) (hcd:(x==("__classdict__" : Str))=false:=by decide) (hs:(e::es).all aLq=true:=by rfl):AE X (.Call (.Name x p) (e::es) [] pos) (xZq n name qual st fr vals dsp t):=by
  obtain ⟨ca,ja,ra⟩:=ha.run
  have h:=hs
  rw [List.all_cons,Bool.and_eq_true] at h
  refine ⟨_,⟨aH5q Ck.ok hr hk hN hv ja.run hd hcd (a9q h.1) (bHq h.2)⟩,λ ρ G DQ σ H Q B q F=>?_⟩
  obtain ⟨f,q0,q1,q⟩:=q
  obtain ⟨v,h1,h2⟩:=B.st n _ q0
  cases h2
  obtain ⟨cl,fvs,C,hcl,hvals⟩:=B.vw f _ q1
  exact ⟨fvs,f,cl,h1,C,hcl,ra ρ G _ σ H _ B q λ ds G1 vs H1 g1 al _ ⟨_,q3⟩=>⟨g1.frz C,ds,G1,DQ,al,hvals.mono g1.tup,g1.vw,q3,F.after g1⟩⟩
end
end L3
namespace L3
open PySem PyProof L2
section
variable {K:PySem.W.Frag} {H H':Hp}
mutual
theorem Abs.mono2 (tp:∀ a xs,SqT K H a xs->SqT K H' a xs) (fr:∀ a xs,FrL K H a xs->FrL K H' a xs):∀ {d:D} {v:V},Abs K H d v->Abs K H' d v
  | .non,_,r=>r
  | .bl _,_,r=>r
  | .int _,_,r=>r
  | .str _,_,r=>r
  | .ref _,_,r=>r
  | .ty _,_,r=>r
  | .tup _,_,⟨a,vs,e,q,l⟩=>⟨a,vs,e,tp a vs q,AbsL.mono2 tp fr l⟩
  | .frl _,_,⟨a,vs,e,q,l⟩=>⟨a,vs,e,fr a vs q,AbsL.mono2 tp fr l⟩
theorem AbsL.mono2 (tp:∀ a xs,SqT K H a xs->SqT K H' a xs) (fr:∀ a xs,FrL K H a xs->FrL K H' a xs):∀ {ds:List D} {vs:List V},AbsL K H ds vs->AbsL K H' ds vs
  | [],_,r=>r
  | _::_,_,⟨v,r,e,q,l⟩=>⟨v,r,e,Abs.mono2 tp fr q,AbsL.mono2 tp fr l⟩
end
def DO.vary:DO->Bool
  | .lst _=>true
  | .ins _ _=>true
  | .dK _=>true
  | .dT _=>true
  | _=>false
theorem BearO.mono2 {a:Addr} {o:DO} (tp:∀ a xs,SqT K H a xs->SqT K H' a xs) (fr:∀ a xs,FrL K H a xs->FrL K H' a xs) (ho:o.vary=true) (e:H' a=H a) (h:BearO K H a o):BearO K H' a o:=by
  cases o with
  | lst ds=>obtain ⟨vs,q,l⟩:=h;exact ⟨vs,by rw [e];exact q,l.mono2 tp fr⟩
  | ins C fs=>obtain ⟨dx,gs,q,l⟩:=h;exact ⟨dx,gs,by rw [e];exact q,l.1,l.2.mono2 tp fr⟩
  | dK kvs=>obtain ⟨gs,q,l⟩:=h;exact ⟨gs,by rw [e];exact q,l.1,l.2.mono2 tp fr⟩
  | dT kvs=>obtain ⟨gs,q,l⟩:=h;exact ⟨gs,by rw [e];exact q,l.1,l.2.mono2 tp fr⟩
  | _=>cases ho
theorem BearO.nfz {a:Addr} {o:DO} (ho:o.vary=true) (h:BearO K H a o) {u:Obj} (e:H a=Option.some (fzn u)):False:=by
  cases o with
  | lst ds=>obtain ⟨vs,q,l⟩:=h;rw [e] at q;cases q
  | ins C fs=>obtain ⟨dx,gs,q,l⟩:=h;rw [e] at q;cases q
  | dK kvs=>obtain ⟨gs,q,l⟩:=h;rw [e] at q;cases q
  | dT kvs=>obtain ⟨gs,q,l⟩:=h;rw [e] at q;cases q
  | _=>cases ho
theorem Same.mono (h:Same H H'):Mono K H H':=⟨λ b xs q=>by
    rcases q with q | q
    . rcases q with q | ⟨o,q⟩
      . exact .inl (.inl (h _ _ q))
      . exact .inl (.inr ⟨o,h _ _ q⟩)
    . exact .inr q,λ b xs q=>by
    rcases q with ⟨o,q⟩ | q
    . exact .inl ⟨o,h _ _ q⟩
    . exact .inr q,λ b o q=>h _ _ q⟩
theorem dAq {as:List Addr} (fz:Frz H as):∀ a xs,SqT K H a xs->SqT K (less H as) a xs:=λ a xs q=>by
  have out:∀ {u},H a=some u->(∀ o,u≠fzn o)->less H as a=some u:=λ{u} e n=>by
    rw [aXq λ z=>?_];exact e
    obtain ⟨o,z⟩:=fz a z;rw [e] at z;exact n o (Option.some.inj z)
  rcases q with (q | ⟨o,q⟩) | q
  . exact .inl (.inl (out q λ o z=>nomatch z))
  . exact .inl (.inr ⟨o,out q λ o z=>nomatch z⟩)
  . exact .inr q
theorem d9q {as:List Addr} (fz:Frz H as):∀ a xs,FrL K H a xs->FrL K (less H as) a xs:=λ a xs q=>by
  rcases q with ⟨o,q⟩ | q
  . refine .inl ⟨o,?_⟩
    rw [aXq λ z=>?_];exact q
    obtain ⟨o,z⟩:=fz a z;rw [q] at z;cases z
  . exact .inr q
end
def tAq (sc:Scope) (N:List Str) (fn:Str->Bool) (fr:List Str) (ix:List Nat):Bool:=
  ix.length==fr.length&&(List.range fr.length).all λ i=>match fr[i]?,ix[i]? with
    | some y,some j=>N[j]?==some y&&sc.names.lookup y==some .cell&&fn y
    | _,_=>false
section
variable {X:Cx} {e:Expr} {es:List Expr} {t:DTA} {p pos:Pos}
abbrev y2q (env:Env) (name qual:Str) (st:Stmt) (fr:List Str) (ix:List Nat) (dsp:DSp) (t:DTA):DTE:=λ ρ G Q=>t ρ G λ ds G1=>∃ f vals,G1 f=some (.made env name qual st fr)/\vals.length=fr.length ∧
  (∀ (i j:Nat),ix[i]?=some j->∃ d,ρ[j]?=some (some d)/\vals[i]?=some d)/\dsp ds (up G1 f (.clo name qual st fr vals)) λ d G2=>G2=up G1 f (.clo name qual st fr vals)/\Q d G1
theorem mDq {k j:Nat} {x:Str} {ps:List Str} {dsp:DSp} {name qual:Str} {st:Stmt} {fr:List Str} {ix:List Nat} (Gt:Got X.prog X.w X.K X.mg X.base k x ps (aKq X.K dsp)) (hr:Room j X.A) (hk:k<=j) (hg:Gl X x) (ndf:fr.Nodup) (hB:tAq X.env.scope X.N X.fn fr ix=true) (ha:AA X (e::es) t)
    (hdb:(x==("__debug__" : Str))=false:=by decide) (hs:(e::es).all aLq=true:=by rfl):AE X (.Call (.Name x p) (e::es) [] pos) (y2q X.env name qual st fr ix dsp t):=by
  obtain ⟨ca,ja,ra⟩:=ha.run
  have h:=hs
  rw [List.all_cons,Bool.and_eq_true] at h
  unfold tAq at hB
  rw [Bool.and_eq_true,List.all_eq_true] at hB
  have hix:ix.length=fr.length:=by simpa using hB.1
  have hfr:∀ (i:Nat) (y:Str),fr[i]?=some y->∃ j,ix[i]?=some j/\X.N[j]?=some y/\X.env.scope.names.lookup y=some .cell/\X.fn y=true:=λ i y hy=>by
    have lt:i < fr.length:=(List.getElem?_eq_some_iff.mp hy).1
    have z:=hB.2 i (List.mem_range.mpr lt)
    have ej:ix[i]?=some (ix[i]'(by omega)):=List.getElem?_eq_getElem (by omega)
    rw [hy,ej] at z
    simp only [Bool.and_eq_true,beq_iff_eq] at z
    exact ⟨_,ej,z.1.1,z.1.2,z.2⟩
  refine ⟨_,⟨sYq (name:=name) (qual:=qual) (st:=st) (ix:=ix) Gt hr hk hg ja.run hdb ndf hix hfr (a9q h.1) (bHq h.2)⟩,λ ρ G DQ σ H Q B q F=>?_⟩
  refine ra ρ G _ σ H _ B q λ ds G1 vs H1 g1 al _ q1=>?_
  obtain ⟨f,vals,hf,hvl,hvals,q2⟩:=q1
  have M:MadeAt X.env H1 f name qual st fr:=g1.vw f _ hf
  let fvs:List V:=ix.map λ j=>match σ[j]? with
    | some (some v)=>v
    | _=>.non
  have hfv:∀ (i j:Nat),ix[i]?=some j->∃ d v,ρ[j]?=some (some d)/\vals[i]?=some d/\σ[j]?=some (some v)/\fvs[i]?=some v/\Abs X.K H1 d v:=λ i j hj=>by
    obtain ⟨d,h1,h2⟩:=hvals i j hj
    obtain ⟨v,h3,h4⟩:=B.st j d h1
    refine ⟨d,v,h1,h2,h3,?_,h4.mono g1.tup⟩
    show (ix.map _)[i]?=_
    rw [List.getElem?_map,hj]
    simp only [Option.map_some,h3]
  have habs:AbsL X.K H1 vals fvs:=by
    have key:∀ (n:Nat) (ws:List D) (us:List V),ws.length=n->us.length=n->(∀ (i:Nat) (d:D),ws[i]?=some d->∃ v:V,us[i]?=some v/\Abs X.K H1 d v)->AbsL X.K H1 ws us:=λ n=>by
      induction n with
      | zero=>intro ws us h1 h2 _;cases ws<;>cases us<;>simp_all [AbsL]
      | succ n ih=>
        intro ws us h1 h2 hh
        cases ws with
        | nil=>simp at h1
        | cons w ws=>
          cases us with
          | nil=>simp at h2
          | cons u us=>
            obtain ⟨v,e1,e2⟩:=hh 0 w rfl
            cases e1
            exact ⟨u,us,rfl,e2,ih ws us (by simpa using h1) (by simpa using h2) λ i d hd=>by simpa using hh (i+1) d (by simpa using hd)⟩
    refine key vals.length vals fvs rfl (by show (ix.map _).length=_;rw [List.length_map];omega) λ i d hd=>?_
    have lt:i < ix.length:=by have:=(List.getElem?_eq_some_iff.mp hd).1;omega
    obtain ⟨d',v,_,h2,_,h4,h5⟩:=hfv i ix[i] (List.getElem?_eq_getElem lt)
    rw [hd] at h2;cases h2
    exact ⟨v,h4,h5⟩
  refine ⟨f,fvs,M,λ i j hj=>let ⟨d,v,_,_,h3,h4,_⟩:=hfv i j hj;⟨v,h3,h4⟩,by show (ix.map _).length=_;rw [List.length_map];exact hix,λ H2 out no C=>?_⟩
  have s12:Same H1 H2:=λ b u eb=>by
    rw [out b λ z=>?_];exact eb
    rw [no b z] at eb;cases eb
  have m12:Mono X.K H1 H2:=Same.mono s12
  have v2:Vw X.K (up G1 f (.clo name qual st fr vals)) H2:=λ a o ea=>by
    by_cases z:a=f
    . subst z;rw [a5q] at ea;cases ea
      refine ⟨_,fvs,C,?_,habs.mono m12⟩
      rw [dHq,List.map_map]
      exact List.map_id fr
    . rw [aIq z] at ea
      obtain ⟨u,eu⟩:=(g1.vw a o ea).some
      exact (g1.vw a o ea).mono m12 (by rw [eu];exact s12 a u eu)
  refine ⟨ds,_,_,by rw [show vs=vs from rfl];exact al.mono m12,v2,q2,λ d G2 v H' g2 ad hq=>?_⟩
  obtain ⟨rfl,hq⟩:=hq
  have fz2:Frz H2 ((dHq X.env fr).map (·.2)):=C.frz
  have fz':Frz H' ((dHq X.env fr).map (·.2)):=λ a ha=>let ⟨o,z⟩:=fz2 a ha;⟨o,g2.tup.fz a o z⟩
  have nin:∀ {b u},H1 b=some u->b ∉ (dHq X.env fr).map (·.2):=λ{b u} eb z=>by rw [no b z] at eb;cases eb
  have m':Mono X.K H1 (less H' ((dHq X.env fr).map (·.2))):=⟨λ a xs q=>dAq fz' a xs (g2.tup.tp a xs (m12.tp a xs q)),λ a xs q=>d9q fz' a xs (g2.tup.fr a xs (m12.fr a xs q)),λ a o q=>by rw [aXq (nin q)];exact g2.tup.fz a o (m12.fz a o q)⟩
  refine F d G1 v _ (g1.trans ⟨m',λ a o ea=>?_,λ a o ea n=>?_,λ _ _ _ n=>n,λ a o ea=>?_⟩) (ad.mono2 (dAq fz') (d9q fz')) hq
  . rw [aXq (nin ea)]
    exact g2.dom a o (s12 a o ea)
  . rw [aXq (nin ea)]
    refine g2.same a o (s12 a o ea) ?_
    rw [aIq (by rintro rfl;rw [hf] at n;cases n)];exact n
  . have b1:=g1.vw a o ea
    obtain ⟨u,eu⟩:=b1.some
    by_cases ho:o.vary=true
    . have z:a≠f:=by rintro rfl;rw [hf] at ea;cases ea;cases ho
      exact (g2.vw a o (by rw [aIq z];exact ea)).mono2 (dAq fz') (d9q fz') ho (aXq (nin eu))
    . cases o with
      | made env' name' qual' st' fr'=>
        obtain ⟨_,_,_,_,_,_,_,z,_⟩:=(show MadeAt env' H1 a name' qual' st' fr' from b1).fn
        exact b1.mono m' (by rw [z];exact m'.fz _ _ z)
      | clo name' qual' st' fr' vals'=>
        obtain ⟨cl,us,C',_⟩:=id b1
        obtain ⟨_,_,_,_,_,_,_,z,_⟩:=C'.fn
        exact b1.mono m' (by rw [z];exact m'.fz _ _ z)
      | tab pos' qual'=>
        have z:a≠f:=by rintro rfl;rw [hf] at ea;cases ea
        obtain ⟨ps',t1,t2,t3⟩:=g2.vw a (.tab pos' qual') (by rw [aIq z];exact ea)
        refine ⟨ps',by rw [aXq (nin eu)];exact t1,t2,?_⟩
        rcases t3 with t3 | ⟨c,o,us,tt,t3,t4,t5,t6⟩
        . exact .inl t3
        . refine .inr ⟨c,o,us,tt,t3,?_,t5,t6⟩
          rw [aXq λ zc=>?_];exact t4
          obtain ⟨⟨y,c'⟩,hm,hc⟩:=List.mem_map.mp zc
          cases hc
          obtain ⟨i,hi,ei⟩:=List.getElem_of_mem hm
          obtain ⟨_,_,oc,_,_,z3,z4⟩:=C.cells i y c' (by rw [List.getElem?_eq_getElem hi,ei])
          have z5:=g2.tup.fz _ _ z3
          rw [t4] at z5
          cases z5
          rw [t5] at z4;cases z4
      | _=>exact absurd rfl ho
end
def vry (G:DV):DV:=λ a=>match G a with
  | some o=>if o.vary then some o else none
  | none=>none
theorem vry_get {G:DV} {a:Addr} {o:DO}:vry G a=some o ↔ G a=some o/\o.vary=true:=by
  unfold vry
  cases e:G a with
  | none=>simp
  | some u=>
    by_cases h:u.vary=true
    . simp only [h,if_true,Option.some.injEq]
      exact ⟨λ z=>(by subst z;exact ⟨rfl,h⟩),λ z=>z.1⟩
    . simp only [if_neg h]
      exact ⟨λ z=>(by cases z),λ z=>(by rw [Option.some.inj z.1] at h;exact absurd z.2 h)⟩
def fAq (N:List Str) (ds vals:List D):DSt:=ds.map some++List.replicate (N.length - ds.length - vals.length) none++vals.map some
theorem jWq {K:PySem.W.Frag} {N:List Str} {ds vals:List D} {vs fvs:List V} {G:DV} {H:Hp} (r:AbsL K H ds vs) (r2:AbsL K H vals fvs) (v:Vw K G H):Bears K (fAq N ds vals) G (cIq N vs fvs) H:=by
  have hl:=r.len
  have hl2:=r2.len
  have one:∀ {ws:List D} {us:List V} {i:Nat} {d:D},AbsL K H ws us->(ws.map some)[i]?=some (some d)->∃ v,(us.map some)[i]?=some (some v)/\Abs K H d v:=λ{ws us i d} r h=>by
    rw [List.getElem?_map] at h
    cases e:ws[i]? with
    | none=>rw [e] at h;cases h
    | some z=>
      rw [e] at h
      simp at h
      subst h
      obtain ⟨u,h1,h2⟩:=r.get e
      exact ⟨u,by rw [List.getElem?_map,h1];rfl,h2⟩
  refine ⟨by simp [fAq,cIq,hl,hl2],λ i d h=>?_,v⟩
  unfold fAq at h
  unfold cIq
  rw [hl,hl2]
  by_cases c:i < (ds.map some++List.replicate (N.length - ds.length - vals.length) (none:Option D)).length
  . rw [List.getElem?_append_left c] at h
    rw [List.getElem?_append_left (by simpa [hl] using c)]
    by_cases c2:i < (ds.map (some:D->Option D)).length
    . rw [List.getElem?_append_left c2] at h
      rw [List.getElem?_append_left (by simpa [hl] using c2)]
      exact one r h
    . rw [List.getElem?_append_right (by omega),List.getElem?_replicate] at h
      split at h<;>cases h
  . rw [List.getElem?_append_right (by omega)] at h
    rw [List.getElem?_append_right (by simpa [hl] using c)]
    have e1:(ds.map some++List.replicate (N.length - ds.length - vals.length) (none:Option D)).length=(vs.map some++List.replicate (N.length - ds.length - vals.length) (none:Option V)).length:=by simp [hl]
    rw [<- e1]
    exact one r2 h
theorem zBq {P:Program} {w:World} {K:PySem.W.Frag} {mg:Str->Option Value} {base:Heap} {k:Nat} {name qual:Str} {st:Stmt} {fr N ps:List Str} {vals:List D} {dsp:DSp} (S:CloScope N ps fr (a6q st)) (len:∀ ds G DQ,dsp ds G DQ->ds.length=ps.length)
    (hbind:∀ (cl:List (Str × Addr)) (doc pm cdv ct:Value) (us:List Value),us.length=ps.length->bindArgs (PySem.W.fnX name qual (bLq st) (b5q st) (a6q st) cl .none .none doc pm none cdv ct) ⟨us,[]⟩=pure (ps.zip us))
    (hbody:∀ (f:Addr) (cdv:Value) (cl:List (Str × Addr)) (A:Around) (outer:List Env) (s:Shared) (H:Hp),Room k (A.deeper (PySem.W.envX qual (a6q st) s.heap.objs.size f cdv cl))->∀ (ds:List D) (G:DV) (DQ:DK),dsp ds G DQ →
      ∃ t,AB (l1q P w K mg base N qual (a6q st) f cdv cl A outer s H) (b5q st) t/\t { nx:=λ _ G'=>Sub (vry G) G'/\DQ .non G,rt:=λ d G'=>Sub (vry G) G'/\DQ d G } (fAq N ds vals) (vry G)):CloD P w K mg base (k+1) name qual st fr vals ps dsp:=by
  refine ⟨λ fvs=>z4q S (λ vs H Q E h=>?_) hbind λ f cdv cl A outer s H vs Q E hr hcl fz hsp=>?_⟩
  . obtain ⟨ds,G,DQ,r,_,_,h,_⟩:=h
    rw [r.len];exact len ds G DQ h
  . obtain ⟨ds,G,DQ,r,r2,v,h,Fn⟩:=hsp
    obtain ⟨t,⟨tc,j,imp⟩,q⟩:=hbody f cdv cl A outer s (less H (cl.map (·.2))) hr ds G DQ h
    have v0:Vw K (vry G) (less H (cl.map (·.2))):=λ a o e=>by
      obtain ⟨e1,ho⟩:=vry_get.mp e
      refine (v a o e1).mono2 (dAq fz) (d9q fz) ho (aXq λ z=>?_)
      obtain ⟨u,z⟩:=fz a z
      exact (v a o e1).nfz ho z
    have fin:∀ {d G' v H'},Go K (vry G) (less H (cl.map (·.2))) G' H'->Abs K H' d v->Sub (vry G) G'/\DQ d G->(∀ a∈cl.map (·.2),H' a=none)->Q v (more H' (cl.map (·.2)) H):=λ{d G' u H'} g ad q no=>by
      have sm:Same H' (more H' (cl.map (·.2)) H):=λ b u eb=>by
        rw [bOq λ z=>?_];exact eb
        rw [no b z] at eb;cases eb
      have mm:Mono K H' (more H' (cl.map (·.2)) H):=Same.mono sm
      have m:Mono K H (more H' (cl.map (·.2)) H):=⟨λ a xs q=>mm.tp a xs (g.tup.tp a xs (dAq fz a xs q)),λ a xs q=>mm.fr a xs (g.tup.fr a xs (d9q fz a xs q)),λ a o q=>by
        by_cases z:a∈cl.map (·.2)
        . rw [g3q z];exact q
        . exact mm.fz a o (g.tup.fz a o (by rw [aXq z];exact q))⟩
      have same:∀ a o,H a=some o->vry G a=none->more H' (cl.map (·.2)) H a=some o:=λ a o e n=>by
        by_cases z:a∈cl.map (·.2)
        . rw [g3q z];exact e
        . rw [bOq z];exact g.same a o (by rw [aXq z];exact e) n
      refine Fn d G u _ ⟨m,λ a o e=>?_,λ a o e n=>same a o e ?_,λ _ _ _ n=>n,λ a o e=>?_⟩ (ad.mono mm) q.2
      . by_cases z:a∈cl.map (·.2)
        . rw [g3q z];exact ⟨o,e⟩
        . rw [bOq z];exact g.dom a o (by rw [aXq z];exact e)
      . unfold vry;rw [n]
      . by_cases ho:o.vary=true
        . have b:=g.vw a o (q.1 a o (vry_get.mpr ⟨e,ho⟩))
          obtain ⟨x,ex⟩:=b.some
          exact b.mono mm (by rw [ex];exact sm a x ex)
        . obtain ⟨x,ex⟩:=(v a o e).some
          refine (v a o e).mono m ?_
          rw [ex]
          refine same a x ex ?_
          cases z:vry G a with
          | none=>rfl
          | some y=>
            obtain ⟨z1,z2⟩:=vry_get.mp z
            rw [e] at z1;cases z1;exact absurd z2 ho
    refine ⟨tc,j.run,imp _ _ (fAq N ds vals) (vry G) (cIq N vs fvs) _ (jWq (r.mono2 (dAq fz) (d9q fz)) (r2.mono2 (dAq fz) (d9q fz)) v0) q ⟨λ ρ' G' σ' H' g b z no=>fin (d:=.non) (v:=.non) g rfl z no,λ d G' v H' g a z no=>fin g a z no,λ _ _ _ _ _ _ z=>z.elim,λ _ _ _ _ _ _ z=>z.elim⟩⟩
structure FunC (K:PySem.W.Frag) (x qual:Str) (st:Stmt) (f:Addr) (fd:FuncData) (c:Addr):Prop where
  ex:∃ (oc:Value) (od:Option Addr) (kV doc pm:Value) (an:Option Addr) (ct:Value) (osl:Array (Option Value)),
    fd=PySem.W.fnOf x qual (bLq st) (b5q st) (a6q st) .none kV doc pm an (.ref c) ct/\K.lookup f=some ⟨oc,od,.func fd,osl⟩/\PySem.W.codeIn K (.ref c) qual=true
theorem okDc {P:Program} {w:World} {K:PySem.W.Frag} {mg:Str->Option Value} {base:Heap} {x qual:Str} {st:Stmt} {f c:Addr} {fd:FuncData} {N ps:List Str} {k:Nat} {dsp:DSp} (F:FunC K x qual st f fd c) (S:FnScope N ps (a6q st)) (len:∀ ds G DQ,dsp ds G DQ->ds.length=ps.length)
    (hbody:∀ (A:Around) (outer:List Env) (s:Shared) (H:Hp) (E:XK),Room k (A.deeper (PyProof.Rows.envOfC qual (a6q st) s.heap.objs.size f (.ref c)))->∀ (ds:List D) (G:DV) (DQ:DK),dsp ds G DQ →
      ∃ t,AB (rKq CX0 P w K mg base N qual (a6q st) f (.ref c) A outer s H E).nox (b5q st) t/\t { nx:=λ _ G'=>Dr DQ .non G',rt:=Dr DQ } (fGq N ds) G):FnOk P w K mg base CX0 (k+1) f fd ps (aKq K dsp):=by
  obtain ⟨oc,od,kV,doc,pm,an,ct,osl,rfl,lk,hcd⟩:=F.ex
  refine yTq lk hcd S (λ vs H Q E h=>?_) λ A outer s H vs Q E hr h=>?_
  . obtain ⟨ds,G,DQ,r,_,h,_⟩:=h
    rw [r.len];exact len ds G DQ h
  . obtain ⟨ds,G,DQ,r,v,h,Fn⟩:=h
    obtain ⟨t,⟨tc,j,imp⟩,q⟩:=hbody A outer s H E hr ds G DQ h
    refine ⟨tc,(j.run).nox,imp _ _ (fGq N ds) G (L2.dLq N vs) H (eYq r v) q ⟨λ ρ' G' σ' H' g b ⟨G2,s2,q2⟩=>Fn .non G2 .non H' (g.sub s2) rfl q2,λ d G' v H' g a ⟨G2,s2,q2⟩=>Fn d G2 v H' (g.sub s2) a q2,λ _ _ _ _ _ _ z=>z.elim,λ _ _ _ _ _ _ z=>z.elim⟩⟩
def FnAt (K:PySem.W.Frag) (x q:Str) (st:Stmt) (f:Addr) (cd:Value):Prop:=∃ (oc:Value) (od:Option Addr) (kV doc pm:Value) (an:Option Addr) (ct:Value) (osl:Array (Option Value)),
  K.lookup f=some ⟨oc,od,.func (PySem.W.fnOf x q (bLq st) (b5q st) (a6q st) .none kV doc pm an cd ct),osl⟩/\PySem.W.codeIn K cd q=true/\PySem.W.keepIn K (.ref f)=true
def DT (K:PySem.W.Frag) (x:Str) (st:Stmt):Prop:=∃ (f:Addr) (cd:Value),PySem.W.nsIn K mainGlobals x=some (some (.ref f))/\FnAt K x x st f cd
def DTc (K:PySem.W.Frag) (x:Str) (st:Stmt) (c:Addr):Prop:=∃ f:Addr,PySem.W.nsIn K mainGlobals x=some (some (.ref f))/\FnAt K x x st f (.ref c)
section
variable {K:PySem.W.Frag} {x m q:Str} {st:Stmt} {C c:Addr}
theorem DT.mk {f:Addr} {cd oc kV doc pm ct:Value} {od an:Option Addr} {osl:Array (Option Value)} (a:PySem.W.nsIn K mainGlobals x=some (some (.ref f))) (l:K.lookup f=some ⟨oc,od,.func (PySem.W.fnOf x x (bLq st) (b5q st) (a6q st) .none kV doc pm an cd ct),osl⟩) (k:PySem.W.codeIn K cd x=true) (p:PySem.W.keepIn K (.ref f)=true):DT K x st:=⟨f,cd,a,_,_,_,_,_,_,_,_,l,k,p⟩
theorem DTc.mk {f:Addr} {oc kV doc pm ct:Value} {od an:Option Addr} {osl:Array (Option Value)} (a:PySem.W.nsIn K mainGlobals x=some (some (.ref f))) (l:K.lookup f=some ⟨oc,od,.func (PySem.W.fnOf x x (bLq st) (b5q st) (a6q st) .none kV doc pm an (.ref c) ct),osl⟩) (k:PySem.W.codeIn K (.ref c) x=true) (p:PySem.W.keepIn K (.ref f)=true):DTc K x st c:=⟨f,a,_,_,_,_,_,_,_,_,l,k,p⟩
theorem DT.ok (h:DT K x st):∃ (f:Addr) (fd:FuncData),PySem.W.nsIn K mainGlobals x=some (some (.ref f))/\Fun K x x st f fd:=
  let ⟨f,_,a,_,_,_,_,_,_,_,_,l,k,p⟩:=h;⟨f,_,a,xHq l k p⟩
theorem DTc.ok (h:DTc K x st c):∃ (f:Addr) (fd:FuncData),PySem.W.nsIn K mainGlobals x=some (some (.ref f))/\FunC K x x st f fd c/\PySem.W.keepIn K (.ref f)=true:=
  let ⟨f,a,_,_,_,_,_,_,_,_,l,k,p⟩:=h;⟨f,_,a,⟨⟨_,_,_,_,_,_,_,_,rfl,l,k⟩⟩,p⟩
theorem FunC.fun {f:Addr} {fd:FuncData} (F:FunC K x q st f fd c) (k:PySem.W.keepIn K (.ref f)=true):Fun K x q st f fd:=by
  obtain ⟨oc,od,kV,doc,pm,an,ct,osl,h⟩:=F.ex
  exact ⟨⟨oc,od,kV,doc,pm,an,_,ct,osl,h⟩,k⟩
end
end L3
namespace L3
open PySem PyProof L2
section
variable {K:PySem.W.Frag} {H:Hp}
end
section
variable {K:PySem.W.Frag} {G:DV} {H:Hp}
end
section
variable {X:Cx} {o e value:Expr} {es:List Expr} {f m:Str} {C:Addr} {pos pos' tpos apos p:Pos} {ta tv:DTE} {t:DTA}
end
end L3
namespace L2
open PySem PySem.Spec PyProof.Rows
section
variable {X:Cx} {e:Expr} {ta:TA} {p p2 pos pos2:Pos}
end
end L2
namespace L3
open PySem PyProof L2
section
variable {X:Cx} {e:Expr} {t:DTA} {p p2 pos pos2:Pos}
end
end L3
namespace L2
open PySem PySem.Spec PyProof.Rows
theorem rZq {l:PySem.W.OpenLaw} {n k:Nat} {q:Program} {loose:List Str} {XP:(Str->Option Value)->Heap->Prop} {YP:World->Heap->Prop} {d:DefRec} {K:Params->PySem.W.Frag} {sp:PySem.W.Frag->Sp} {x:Str} {tabs:List (Addr × Addr)}
    (hn:l.most=some n) (hn2:n<=sizeLine) (hdf:d.params.defaults=[]) (hr:Room k callerA) (hY:∀ (w:World) (h:Heap),YP w h->(K w.params).In h) (hK:∀ w:World,PySem.W.noTabs (K w.params)=true)
    (hTab:∀ (w:World) (h:Heap),YP w h->PySem.W.TabsAt tabs h)
    (F:∀ (w:World) (mg:Str->Option Value) (fa:Addr) (h:Heap),(K w.params).In h->h.Ns mainGlobals mg->mg d.name=some (.ref fa) →
      ∃ fd:FuncData,(∀ (s:Shared) (u:Value),BindsTo s fd ⟨[u],[]⟩ [(x,u)]) ∧
        ∀ base:Heap,(K w.params).In base->base.Ns mainGlobals mg->(∀ q∈tabs,PySem.W.CodeHd base q.1 q.2)->f1q mg base->FnOk l.prog w (K w.params) mg base CX0 k fa fd [x] (sp (K w.params)))
    (hsp:∀ (K:PySem.W.Frag) (H:Hp) (a:Addr) (ns:List Int),ns.length<=n->EntryT tabs K a H->SqL K H a (ns.map V.int)->sp K [.ref a] H (λ v _=>v=.bl true) λ _ _ _=>False) :
    PySem.W.WalkO q loose XP YP l.row.toRowW d [] (λ f vs=>PySem.call f vs):=by
  refine Att.attach_call hn hdf λ w s₀ s₁ mg mb fa o pm cd doc a vs ns G Y ho hd hcd hmg hobj hints hlen hg=>?_
  have KX:=hY w _ Y
  obtain ⟨fd,hb,hF⟩:=F w mg fa _ KX G.T.g hmg
  exact pXq KX G.T.g G.T.b G.T.builtins G.T.nolimit hg hobj hints (Nat.le_trans hlen hn2) hr (hTab w _ Y) (hK w) (sBq G.T) hF hb λ H hE hS=>hsp _ H a ns hlen hE hS
end L2
namespace L3
open PySem PyProof L2
def fEq (tl:List (Addr × Pos × Str)):DSp:=λ ds G Q=>∃ ns:List Int,ds=[.frl (ns.map D.int)]/\ns.length<=63/\(∀ q∈tl,G q.1=some (.tab q.2.1 q.2.2))/\∀ G',Q (.bl true) G'
def ndA:List Addr->Bool
  | []=>true
  | a::r=>!r.contains a&&ndA r
theorem jLq:∀ {tl:List (Addr × Pos × Str)} {q:Addr × Pos × Str},ndA (tl.map (·.1))=true->q∈tl->tl.lookup q.1=some q.2
  | (p1,p2)::r,(q1,q2),nd,h=>by
    simp only [List.map_cons,ndA,Bool.and_eq_true,Bool.not_eq_true',List.contains_eq_mem,decide_eq_false_iff_not] at nd
    show ((p1,p2)::r).lookup q1=some q2
    rcases List.mem_cons.mp h with e | h
    . cases e;rw [List.lookup_cons,beq_self_eq_true]
    . have ne:q1≠p1:=λ z=>nd.1 (by rw [<- z];exact List.mem_map_of_mem (f:=(·.1)) h)
      rw [List.lookup_cons,beq_false_of_ne ne]
      exact jLq nd.2 h
theorem h0q:∀ {tl:List (Addr × Pos × Str)} {a:Addr} {z:Pos × Str},tl.lookup a=some z->(a,z)∈tl
  | (p1,p2)::r,a,z,h=>by
    rw [List.lookup_cons] at h
    cases e:(a==p1) with
    | true=>
      rw [e] at h;cases h
      obtain rfl:a=p1:=by simpa using e
      exact List.mem_cons_self ..
    | false=>rw [e] at h;exact List.mem_cons_of_mem _ (h0q h)
theorem rUq {K:PySem.W.Frag} {H:Hp} {a:Addr} {ns:List Int} {tabs:List (Addr × Addr)} {tl:List (Addr × Pos × Str)} (hm:tl.map (·.1)=tabs.map (·.2)) (nd:ndA (tl.map (·.1))=true) (hl:ns.length<=63) (o:EntryT tabs K a H) (h:SqL K H a (ns.map V.int)) :
    aKq K (fEq tl) [.ref a] H (λ v _=>v=.bl true) λ _ _ _=>False:=by
  have f:FrL K H a (ns.map V.int):=by
    rcases h with (h | h) | h
    . rcases o.only a with z | ⟨_,_,z⟩ | ⟨_,z⟩<;>(rw [h] at z;cases z)
    . exact .inl h
    . exact .inr h
  refine ⟨[.frl (ns.map D.int)],λ b=>(tl.lookup b).map λ z=>.tab z.1 z.2,λ d _=>d=.bl true,⟨.ref a,[],rfl,⟨a,_,rfl,f,AbsL.of_ints ns⟩,rfl⟩,λ b u e=>?_,⟨ns,rfl,hl,λ q hq=>by simp only [jLq nd hq,Option.map_some],λ _=>rfl⟩,λ d G' v H' g ad e=>?_⟩
  . cases z:tl.lookup b with
    | none=>simp only [z,Option.map_none] at e;cases e
    | some y=>
      simp only [z,Option.map_some] at e
      cases e
      have hb:b∈tabs.map (·.2):=by rw [<- hm];exact List.mem_map_of_mem (h0q z)
      obtain ⟨q,hq,rfl⟩:=List.mem_map.mp hb
      exact ⟨#[],o.tab q hq,trivial,.inl rfl⟩
  . subst e
    exact ad
end L3
namespace KSs
open PySem PyProof.Rows
abbrev Up (xs:Array Nat):Prop:=xs.toList.Pairwise (· < ·)
theorem Up.lt {xs:Array Nat} (h:Up xs) {i j:Nat} (hij:i < j) (hj:j < xs.size):xs.getD i 0 < xs.getD j 0:=by
  have hi:i < xs.size:=by omega
  have z:=List.pairwise_iff_getElem.mp h i j (by simpa using hi) (by simpa using hj) hij
  simpa [Array.getD,hi,hj] using z
theorem uUq {xs:Array Nat} (h:Up xs) (j:Nat):∀ (fuel lo hi:Nat),hi - lo<=fuel->lo<=hi->hi<=xs.size->(∀ i,i < lo->xs.getD i 0 < j)->(∀ i,hi<=i->i < xs.size->j<=xs.getD i 0) →
    ∃ p,SetTable.below.go xs j fuel lo hi=p/\p<=xs.size/\(∀ i,i < p->xs.getD i 0 < j)/\∀ i,p<=i->i < xs.size->j<=xs.getD i 0:=by
  intro fuel
  induction fuel with
  | zero=>
    intro lo hi h1 h2 h3 h4 h5
    obtain rfl:lo=hi:=by omega
    exact ⟨lo,rfl,h3,h4,h5⟩
  | succ fuel ih=>
    intro lo hi h1 h2 h3 h4 h5
    unfold SetTable.below.go
    by_cases c:lo < hi
    . rw [if_pos c]
      dsimp only
      have hm:(lo+hi) / 2 < xs.size:=by omega
      have e0:xs.getD ((lo+hi) / 2) j=xs.getD ((lo+hi) / 2) 0:=by simp [Array.getD,hm]
      by_cases d:xs.getD ((lo+hi) / 2) j < j
      . rw [if_pos d]
        refine ih _ _ (by omega) (by omega) h3 (λ i hi'=>?_) h5
        rw [e0] at d
        rcases Nat.lt_or_eq_of_le (Nat.lt_succ_iff.mp hi') with z | z
        . exact Nat.lt_trans (h.lt z hm) d
        . rw [z];exact d
      . rw [if_neg d]
        refine ih _ _ (by omega) (by omega) (by omega) h4 (λ i hi' hs=>?_)
        rw [e0] at d
        rcases Nat.lt_or_eq_of_le hi' with z | z
        . exact Nat.le_of_lt (Nat.lt_of_le_of_lt (Nat.not_lt.mp d) (h.lt z hs))
        . rw [<- z];exact Nat.not_lt.mp d
    . rw [if_neg c]
      obtain rfl:lo=hi:=by omega
      exact ⟨lo,rfl,h3,h4,h5⟩
theorem gZq {xs:Array Nat} (h:Up xs) (j:Nat):SetTable.below xs j<=xs.size/\(∀ i,i < SetTable.below xs j->xs.getD i 0 < j)/\∀ i,SetTable.below xs j<=i->i < xs.size->j<=xs.getD i 0:=by
  obtain ⟨p,e,q⟩:=uUq h j xs.size 0 xs.size (by omega) (Nat.zero_le _) (Nat.le_refl _) (by omega) (by omega)
  unfold SetTable.below;rw [e];exact q
theorem nJq {xs:Array Nat} (h:Up xs) {j:Nat} (hj:xs[SetTable.below xs j]?≠some j):Up (SetTable.insertAt xs (SetTable.below xs j) j):=by
  obtain ⟨h1,h2,h3⟩:=gZq h j
  generalize SetTable.below xs j=p at *
  unfold Up
  rw [SetTable.toList_insertAt]
  have gt:∀ y∈xs.toList.drop p,j < y:=λ y hy=>by
    obtain ⟨i,hi,e⟩:=List.getElem_of_mem hy
    rw [List.getElem_drop] at e
    rw [List.length_drop] at hi
    have hs:p+i < xs.size:=by simpa using (by omega:p+i < xs.toList.length)
    have z:=h3 (p+i) (by omega) hs
    have e2:xs.getD (p+i) 0=y:=by rw [<- e];simp [Array.getD,hs]
    rw [e2] at z
    rcases Nat.lt_or_eq_of_le z with z | z
    . exact z
    . exfalso
      subst z
      rcases Nat.eq_zero_or_pos i with z0 | z0
      . subst z0
        apply hj
        have hp:p < xs.size:=by omega
        have e3:xs[p]=j:=by rw [<- e];simp
        rw [Array.getElem?_eq_getElem hp,e3]
      . have l:=h.lt (show p < p+i by omega) hs
        have:=h3 p (Nat.le_refl _) (by omega)
        omega
  refine List.pairwise_append.mpr ⟨h.sublist (List.take_sublist _ _),List.pairwise_cons.mpr ⟨gt,h.sublist (List.drop_sublist _ _)⟩,λ x hx y hy=>?_⟩
  have lt:x < j:=by
    obtain ⟨i,hi,e⟩:=List.getElem_of_mem hx
    rw [List.getElem_take] at e
    rw [List.length_take] at hi
    have hs:i < xs.size:=by simpa using (by omega:i < xs.toList.length)
    have z:=h2 i (by omega)
    rw [<- e];simpa [Array.getD,hs] using z
  rcases List.mem_cons.mp hy with rfl | hy
  . exact lt
  . exact Nat.lt_trans lt (gt y hy)
theorem r1q (n:Nat):Up (Array.range n):=by
  unfold Up;rw [Array.toList_range];exact List.pairwise_lt_range
theorem qXq {t:SetTable} (h:t.dummies=#[]) (j:Nat):t.slot j≠.dummy:=by
  unfold SetTable.slot SetTable.has
  rw [h]
  dsimp only
  split
  . exact nofun
  . rw [if_neg (by simp)];exact nofun
theorem gJq {t:SetTable} (h:t.dummies=#[]) {hs:Nat->Int} {k:Int}:∀ (fuel:Nat) (p:SetTable.Probe) (j:Nat) (d:Option Nat),SetTable.probe.go t hs k fuel p=some (.empty j d)->t.slot j=.empty/\d=p.dummy
  | 0,_,_,_,e=>by cases e
  | fuel+1,p,j,d,e=>by
    unfold SetTable.probe.go at e
    have adv:∀ q:SetTable.Probe,(t.advance q).dummy=q.dummy:=λ q=>by unfold SetTable.advance;split<;>rfl
    split at e
    . next z=>cases e;exact ⟨z,rfl⟩
    . next z=>exact absurd z (qXq h _)
    . split at e
      . cases e
      . obtain ⟨h1,h2⟩:=gJq h fuel _ j d e
        exact ⟨h1,by rw [h2,adv]⟩
theorem oXq {t:SetTable} (h:t.dummies=#[]) {k:Int} {j:Nat} {b:Bool} (e:t.freeSlot k=some (j,b)):t.slot j=.empty/\b=false:=by
  unfold SetTable.freeSlot at e
  split at e
  . next j' d z=>
    obtain ⟨h1,h2⟩:=gJq h _ _ _ _ (show SetTable.probe.go t (λ _=>k+1) k (10 * SetTable.turns t.mask) (t.probeStart k)=_ from z)
    have:d=none:=h2
    subst this
    cases e
    exact ⟨h1,rfl⟩
  . cases e
theorem n0q {t:SetTable} {j:Nat} (h:t.slot j=.empty):t.place[SetTable.below t.place j]?≠some j:=λ z=>by
  unfold SetTable.slot at h
  dsimp only at h
  rw [if_pos (by rw [z];simp)] at h
  cases h
structure Cl (b:Bool) (t:SetTable):Prop where
  up:Up t.place
  led:b=false->t.led=true
  nod:t.dummies=#[]
theorem Cl.standIn {b:Bool} {t:SetTable} (h:Cl b t) (n:Nat):Cl b (t.standIn n):=⟨r1q n,h.led,rfl⟩
theorem Cl.orStandIn {b:Bool} {t:SetTable} (h:Cl b t) (n:Nat):Cl b (t.orStandIn n):=by
  unfold SetTable.orStandIn;split
  . exact h
  . exact h.standIn n
theorem Cl.lay {b:Bool} {t:SetTable} (h:Cl b t) (es:Array (Int × Value)) (k:Int) (x:Value):Cl b (layNew t es k x).2.1/\(layNew t es k x).2.2.1=false:=by
  unfold layNew
  split
  . next slot d e=>
    obtain ⟨h1,rfl⟩:=oXq h.nod e
    have c:Cl b (t.put slot).1:=⟨nJq h.up (n0q h1),h.led,by
      show (if SetTable.has t.dummies slot=true then _ else t.dummies)=#[]
      rw [h.nod,if_neg (by simp [SetTable.has])]⟩
    exact ⟨c.orStandIn _,rfl⟩
  . exact ⟨h.standIn _,rfl⟩
theorem eRq {α:Type} (g:Nat->Option α):∀ l:List Nat,((l.filterMap λ j=>(g j).map (j,·)).map (·.1)).Sublist l
  | []=>by simp
  | a::l=>by
    cases e:g a with
    | none=>simp only [List.filterMap_cons,e,Option.map_none];exact (eRq g l).cons _
    | some y=>simp only [List.filterMap_cons,e,Option.map_some,List.map_cons];exact (eRq g l).cons₂ _
theorem uAq {b:Bool} {mask finger moves:Nat} {led plain:Bool} {hs:Array Int} {t':SetTable} {order:Array Nat} (hl:b=false->led=true) (e:SetTable.laid mask finger moves led plain hs=some (t',order)):Cl b t':=by
  unfold SetTable.laid at e
  cases z:SetTable.layClean mask hs with
  | none=>rw [z] at e;cases e
  | some owner=>
    rw [z] at e
    simp only [Option.pure_def,Option.bind_eq_bind,Option.bind_some,Option.some.injEq,Prod.mk.injEq] at e
    obtain ⟨rfl,_⟩:=e
    refine ⟨?_,hl,rfl⟩
    show ((List.map _ _).toArray.toList).Pairwise _
    rw [List.toList_toArray]
    exact (List.pairwise_lt_range (n:=mask+1)).sublist (eRq (λ j=>owner.getD j none) _)
theorem Cl.relay {b:Bool} {t:SetTable} (h:Cl b t) (es:Array (Int × Value)) (n:Nat):Cl b (relayAll t es n).2.1:=by
  unfold relayAll
  split
  . next t' order e=>
    dsimp only
    split
    . exact uAq h.led e
    . exact h.standIn _
  . exact h.standIn _
end KSs
namespace KSs
open PySem PyProof.Rows
abbrev byT (w:World):Bool:=w.params.followText "set-order"
def bPq:Value->Int
  | .int k _=>k
  | _=>0
def AllI (es:List (Int × Value)):Prop:=∀ e∈es,(∃ t,e.2=.int (bPq e.2) t)/\e.1=hashInt (bPq e.2)
abbrev keys (es:Array (Int × Value)):List Int:=es.toList.map λ e=>bPq e.2
abbrev setAt (es:Array (Int × Value)) (ep:Nat) (t:SetTable):Obj:={ cls:=.type "set", dict:=none,data:=.set es ep t,slots:=#[] }
theorem AllI.elems {prog:Program} {w:World} {es:List (Int × Value)} (h:AllI es):ElemsOf (intKind prog w) es:=λ e he=>by
  obtain ⟨⟨t,e1⟩,e2⟩:=h e he
  refine ⟨⟨bPq e.2,?_,e2⟩,?_⟩
  . rw [e1];exact intKind_is _ _ _ _
  . rw [e1];rfl
theorem AllI.perm {es es':List (Int × Value)} (h:AllI es) (p:es'.Perm es):AllI es':=λ e he=>h e (p.mem_iff.mp he)
theorem AllI.snoc {es:List (Int × Value)} (h:AllI es) (k:Int) (u:Tok):AllI (es++[(hashInt k,.int k u)]):=λ e he=>by
  rcases List.mem_append.mp he with he | he
  . exact h e he
  . rw [List.mem_singleton.mp he];exact ⟨⟨u,rfl⟩,rfl⟩
theorem AllI.met {prog:Program} {w:World} {es:List (Int × Value)} (h:AllI es) {k:Int}:(∃ e∈es,(intKind prog w).is k e.2=true) ↔ k∈es.map λ e=>bPq e.2:=by
  constructor
  . rintro ⟨e,he,q⟩
    obtain ⟨⟨t,e1⟩,_⟩:=h e he
    refine List.mem_map.mpr ⟨e,he,?_⟩
    rw [e1] at q ⊢
    exact (intKind prog w).inj _ _ _ (intKind_is prog w _ t) q
  . intro hk
    obtain ⟨e,he,rfl⟩:=List.mem_map.mp hk
    obtain ⟨⟨t,e1⟩,_⟩:=h e he
    exact ⟨e,he,by rw [e1];exact intKind_is _ _ _ _⟩
structure SX (w:World) (h:Heap) (a:Addr) (es:Array (Int × Value)) (ep:Nat) (t:SetTable):Prop where
  at_:h.get? a=some (setAt es ep t)
  all:AllI es.toList
  nd:(keys es).Nodup
  fits:t.fits es.size=true
  few:es.size < 1000
  cl:Cl (byT w) t
theorem eTq {n:Nat} (h:n < 1000):n<=sizeLine:=by have:=sizeLine_eq;omega
section
variable {prog:Program} {w:World} {A:Around} {E:Value->Shared->Prop} {s:Shared} {a:Addr} {es:Array (Int × Value)} {ep:Nat} {t:SetTable}
theorem e5q {h:Heap} (e:h.get? a=some (setAt es ep t)) (es':Array (Int × Value)) (t':SetTable):(h.update a (Obj.putSet es' t')).get? a=some (setAt es' (ep+1) t'):=Heap.get?_update_self (Obj.putSet es' t') e rfl
theorem tail {g:Bool->Sem Unit} (hg:∀ b (s1:Shared) (Q':Unit->Shared->Prop),Q' () s1->wpAny (model prog w) A (g b) Q' E s1) (e0:s.heap.get? a=some (setAt es ep t)) {xs:Array (Int × Value)} {t2:SetTable} (hall:AllI xs.toList) (hnd:(keys xs).Nodup) (hf:t2.fits xs.size=true) (hfew:xs.size < 1000) (hc:Cl (byT w) t2) {wd:Bool} {R:Option Bool->Shared->Prop}
    (h:∀ h' xs' ep' t',Heap.SameBut a s.heap h'->SX w h' a xs' ep' t'->xs'.toList.Perm xs.toList->R (some true) { s with heap:=h' }) :
    wpAny (model prog w) A (do storeSet a xs t2;(if (!wd&&t2.tooFull)=true then (do g (relayAll t2 xs (SetTable.grown xs.size)).2.2;storeSet a (relayAll t2 xs (SetTable.grown xs.size)).1 (relayAll t2 xs (SetTable.grown xs.size)).2.1;pure (some true)) else pure (some true))) R E s:=by
  have e1:=e5q e0 xs t2
  have b1:=Heap.SameBut.update s.heap a (Obj.putSet xs t2)
  refine wpAny_bind (wpAny_storeSet_of e0 rfl ?_ (eTq hfew))
  have pm:=relayAll_perm t2 xs (SetTable.grown xs.size)
  have fr:=relayAll_fits t2 xs (SetTable.grown xs.size)
  have cr:=hc.relay xs (SetTable.grown xs.size)
  have sz:(relayAll t2 xs (SetTable.grown xs.size)).1.size=xs.size:=by rw [<- Array.length_toList,pm.length_eq,Array.length_toList]
  split
  . refine wpAny_bind (hg _ _ _ (wpAny_bind (wpAny_storeSet_of e1 rfl (wpAny_pure (h _ _ _ _ (b1.trans (Heap.SameBut.update _ a _)) ⟨e5q e1 _ _,hall.perm pm,?_,fr,by rw [sz];exact hfew,cr⟩ pm)) (eTq (by rw [sz];exact hfew)))))
    exact (pm.map λ e=>bPq e.2).nodup_iff.mpr hnd
  . exact wpAny_pure (h _ _ _ _ b1 ⟨e1,hall,hnd,hf,hfew,hc⟩ (List.Perm.refl _))
theorem add {k:Int} {u:Tok} {Q:Bool->Shared->Prop} (X:SX w s.heap a es ep t) (hr:es.size+1 < 1000)
    (h:∀ b h' es' ep' t',Heap.SameBut a s.heap h'->SX w h' a es' ep' t'->(∀ j,j∈keys es' ↔ j∈keys es\/j=k)->es'.size<=es.size+1->Q b { s with heap:=h' }):wpAny (model prog w) A (setAddHashed a (.int k u) (hashInt k)) Q E s:=by
  have els:=X.all.elems (prog:=prog) (w:=w)
  have sb:es.size < scanBound:=by have:=X.few;unfold scanBound;omega
  unfold setAddHashed setAddHashedIn
  refine wpAny_holding (wpAny_bind (wpAny_setState_of X.at_ rfl X.fits ?_))
  dsimp only
  rw [byScan_of (knd:=intKind prog w) (x:=.int k u) rfl sb els,if_pos rfl]
  unfold setAddByScan
  refine wpAny_bind (wpAny_bind (wpAny_rule (wpAny_bind (wpAny_setScan_of (knd:=intKind prog w) (k:=k) (intKind_is _ _ _ _) X.at_ rfl X.fits els ?_))))
  cases hi:List.findIdx? (λ e=>(intKind prog w).is k e.2) es.toList with
  | some j=>
    obtain ⟨hj,q,_⟩:=List.findIdx?_eq_some_iff_getElem.mp hi
    have hk:k∈keys es:=X.all.met.mp ⟨_,List.getElem_mem hj,q⟩
    exact wpAny_pure (wpAny_pure (h false s.heap es ep t (Heap.SameBut.refl a _) X (λ i=>⟨.inl,λ z=>z.elim id λ z=>by rw [z];exact hk⟩) (Nat.le_succ _)))
  | none=>
    have hk:k ∉ keys es:=λ z=>by
      obtain ⟨e,he,q⟩:=(X.all.met (prog:=prog) (w:=w)).mpr z
      have:=List.findIdx?_eq_none_iff.mp hi e he
      rw [q] at this;cases this
    have pm:=layNew_perm t es (hashInt k) (.int k u)
    have fr:=layNew_fits t es (hashInt k) (.int k u)
    have cr:=X.cl.lay es (hashInt k) (.int k u)
    dsimp only
    generalize layNew t es (hashInt k) (.int k u)=L at pm fr cr ⊢
    obtain ⟨xs,t1,wd,gv⟩:=L
    dsimp only at pm fr cr ⊢
    obtain ⟨cr,rfl⟩:=cr
    rw [Array.toList_push] at pm
    have sz:xs.size=es.size+1:=by rw [<- Array.length_toList,pm.length_eq];simp
    have kp:(keys xs).Perm (keys es++[k]):=by have z:=pm.map λ e=>bPq e.2;rwa [List.map_append] at z
    have nd:(keys xs).Nodup:=kp.nodup_iff.mpr (List.nodup_append.mpr ⟨X.nd,by simp,λ x hx y hy=>by rw [List.mem_singleton.mp hy];rintro rfl;exact hk hx⟩)
    have gw:∀ b (s1:Shared) (Q':Unit->Shared->Prop),Q' () s1->wpAny (model prog w) A (match b with | true=>rule "set.scan.the-table-gave-way" | false=>pure ()) Q' E s1:=λ b s1 Q' hq=>by
      cases b
      . exact wpAny_pure hq
      . exact wpAny_rule hq
    have fin:∀ h' xs' ep' t',Heap.SameBut a s.heap h'->SX w h' a xs' ep' t'->xs'.toList.Perm xs.toList->Q true { s with heap:=h' }:=λ h' xs' ep' t' hb hX hp=>by
      refine h true h' xs' ep' t' hb hX (λ j=>?_) (by rw [<- Array.length_toList,hp.length_eq,Array.length_toList,sz];exact Nat.le_refl _)
      rw [((hp.map λ e=>bPq e.2).trans kp).mem_iff,List.mem_append,List.mem_singleton]
    refine wpAny_bind (gw _ _ _ ?_)
    split
    . refine wpAny_bind ?_
      rw [hashByValue_scannable 8 (x:=.int k u) rfl]
      refine wpAny_pure ?_
      refine tail gw X.at_ ((X.all.snoc k u).perm pm) nd (by simpa [plainKind] using fr) (by omega) (by simpa [plainKind] using cr) λ h' xs' ep' t' hb hX hp=>wpAny_pure (fin h' xs' ep' t' hb hX hp)
    . refine wpAny_bind (wpAny_pure ?_)
      refine tail gw X.at_ ((X.all.snoc k u).perm pm) nd (by simpa using fr) (by omega) (by simpa using cr) λ h' xs' ep' t' hb hX hp=>wpAny_pure (fin h' xs' ep' t' hb hX hp)
end
end KSs
namespace KSs
open PySem PyProof.Rows
section
variable {prog:Program} {w:World} {A:Around} {E:Value->Shared->Prop} {s:Shared}
abbrev hAq (w:World):Obj:=setAt #[] 0 (.fresh 0 0 (!byT w))
theorem SX.fresh {h:Heap} {a:Addr} (e:h.get? a=some (hAq w)):SX w h a #[] 0 (.fresh 0 0 (!byT w)):=
  ⟨e,λ _ h=>(nomatch (show _∈([]:List (Int × Value)) from h)),List.Pairwise.nil,rfl,by decide,List.Pairwise.nil,λ h=>by simp [SetTable.fresh,h],rfl⟩
theorem newS (x:Value) {Q:Value->Shared->Prop} (h:Q (.ref s.heap.objs.size) { s with heap:=s.heap.push (hAq w) }):codeAny (model prog w) A (.call (.builtin "set.__new__") ⟨[.type "set", x],[]⟩) (wants Q E) s:=by
  refine codeAny_of_tree (show wpAny _ A.in1 (checkBuiltinCall "set.__new__" ⟨[.type "set", x],[]⟩ >>= λ _=>again (.builtin "set.__new__" ⟨[.type "set", x],[]⟩)) _ _ s from ?_)
  refine wpAny_bind (wpAny_of_eq (F.newCall_set_1 x) (wpAny_pure ⟨plainId_quiet F.plain_set_new _,codeAny_builtin F.entry_set_new ?_⟩))
  rw [Around.under_plainId F.plain_set_new _]
  unfold Builtin.«set.__new__» Builtin.Frozenset.newClass
  have sub:=sub_set_self
  cases s
  dsimp only
  wp_walk
  refine wpAny_askSetting (wpAny_pure ?_)
  dsimp only
  unfold newObj
  exact wpAny_bind (wpAny_alloc (wpAny_pure (wpAny_pure h)))
theorem aN1q {I l S:Addr} {items:Array Value} {ns:List Int} {R:Result->Shared->Prop} (hh:A.handled=none) (hne:l≠I) (hI:S≠I) (hl:S≠l) (hi:IntsAre items.toList ns) (hb:items.size < 900) :
    ∀ (k i:Nat) (s:Shared) (es:Array (Int × Value)) (ep:Nat) (t:SetTable),items.size - i=k->i<=items.size->s.heap.IsListIter I l i->s.heap.IsList l items->SX w s.heap S es ep t->es.size<=i->(∀ j,j∈keys es ↔ j∈ns.take i) →
      (∀ h' tk es' ep' t',SX w h' S es' ep' t'->es'.size<=items.size->(∀ j,j∈keys es' ↔ j∈ns)->(∀ b o,b≠S->b≠I->s.heap.get? b=some o->h'.get? b=some o)->R (.ok (.ret .none)) { s with heap:=h',toks:=tk }) →
      codeAny (model prog w) A (.builtin "set.update.loop" ⟨[.ref S,.ref I],[]⟩) R s:=by
  have W:=Walks.list (prog:=prog) (w:=w) (A:=A.in1) hh I l hne items
  have hlen:=hi.length
  rw [Array.length_toList] at hlen
  intro k
  induction k with
  | zero=>
    intro i s es ep t hk hle h1 h2 X hsz hmem fin
    obtain rfl:i=items.size:=by omega
    refine codeAny_builtin F.entry_set_update_loop ?_
    rw [Around.under_plainId F.plain_set_update_loop _]
    refine (show wpAny _ A.in1 (pyNext (.ref I) >>= _) _ _ s from wpAny_bind (W.done s _ _ ⟨h1,h2⟩ λ h' tk kk=>?_))
    have e:=kk S _ (by simpa using hI) X.at_
    exact wpAny_pure (fin h' tk es ep t ⟨e,X.all,X.nd,X.fits,X.few,X.cl⟩ hsz (λ j=>by rw [hmem,List.take_of_length_le (by omega)]) λ b o _ hb e=>kk b o (by simpa using hb) e)
  | succ k ih=>
    intro i s es ep t hk hle h1 h2 X hsz hmem fin
    refine codeAny_builtin F.entry_set_update_loop ?_
    rw [Around.under_plainId F.plain_set_update_loop _]
    refine (show wpAny _ A.in1 (pyNext (.ref I) >>= _) _ _ s from wpAny_bind (W.item i s _ _ (by omega) ⟨h1,h2⟩ λ v h' tk hv st kk=>?_))
    obtain ⟨u,rfl⟩:=IntsAre.int_at hi i v (by rw [Array.getElem?_toList];exact hv)
    have e:=kk S _ (by simpa using hI) X.at_
    refine (show wpAny _ A.in1 (holding [Value.int (ns.getD i 0) u] (setAdd S (.int (ns.getD i 0) u)) >>= _) _ _ { s with heap:=h',toks:=tk } from wpAny_bind (wpAny_holding ?_))
    unfold setAdd
    refine wpAny_holding (wpAny_bind ((intKind prog w).pyHash (k:=ns.getD i 0) (intKind_is _ _ _ _) ?_))
    refine add (s:={ s with heap:=h',toks:=tk+1 }) (X:=⟨e,X.all,X.nd,X.fits,X.few,X.cl⟩) (by omega) λ b h2' es' ep' t' sb X' hmem' hsz'=>?_
    have ne:∀ b o,b≠S->h'.get? b=some o->h2'.get? b=some o:=λ b o hb e=>by rw [sb.2 b hb];exact e
    refine wpAny_pure ⟨plainId_quiet F.plain_set_update_loop _,ih (i+1) _ es' ep' t' (by omega) (by omega) ?_ ?_ X' (by omega) (λ j=>?_) λ h3 tk3 es3 ep3 t3 X3 z3 m3 k3=>?_⟩
    . obtain ⟨o,ho,r⟩:=st.1;exact ⟨o,ne I o (Ne.symm hI) ho,r⟩
    . obtain ⟨o,ho,r⟩:=st.2;exact ⟨o,ne l o (Ne.symm hl) ho,r⟩
    . rw [hmem',hmem,List.take_add_one]
      have:ns[i]?=some (ns.getD i 0):=by rw [List.getD_eq_getElem?_getD,List.getElem?_eq_getElem (by omega)];rfl
      rw [this]
      simp
    . exact fin h3 tk3 es3 ep3 t3 X3 z3 m3 λ b o hb1 hb2 e=>k3 b o hb1 hb2 (ne b o hb1 (kk b o (by simpa using hb2) e))
set_option maxHeartbeats 4000000 in
theorem ofList {l:Addr} {items:Array Value} {ns:List Int} {Q:Value->Shared->Prop} (hh:A.handled=none) (hl:s.heap.IsList l items) (hi:IntsAre items.toList ns) (hb:items.size < 900)
    (h:∀ h' tk es ep t,SX w h' s.heap.objs.size es ep t->es.size<=items.size->(∀ j,j∈keys es ↔ j∈ns)->(∀ b o,s.heap.get? b=some o->h'.get? b=some o)->Q (.ref s.heap.objs.size) { s with heap:=h',toks:=tk }) :
    wpAny (model prog w) A (call (.type "set") [.ref l]) Q E s:=by
  obtain ⟨c,tl,hmro⟩:=F.called_set.mro
  have q1:=F.called_set.made
  have q2:=F.called_set.sub
  have q3:=F.called_set.notType
  have q4:=F.called_set.canCreate
  have q5:=F.typeCall_set_1 (.ref l)
  refine wpAny_call (codeAny_of_tree (show wpAny _ _ (callAny (.type "set") _) _ _ _ from wpAny_pure ⟨Code.quiet_builtin _ (by decide +kernel),codeAny_builtin F.entry_type_call ?_⟩))
  rw [Around.under_plain (weight_type_call_type "set" [.ref l] []) rfl]
  repeat (any_goals (first | assumption | wp_step))
  refine codeAny_mono (newS (.ref l) (E:=E) (Q:=λ obj s1=>obj=.ref s.heap.objs.size/\s1={ s with heap:=s.heap.push (hAq w) }) ⟨rfl,rfl⟩) λ r s1 hr=>?_
  cases r with
  | error e=>exact hr
  | ok fl=>
    cases fl with
    | ret obj=>
      obtain ⟨rfl,rfl⟩:=hr
      have gS:(s.heap.push (hAq w)).get? s.heap.objs.size=some (hAq w):=Heap.get?_push_size _ rfl
      have tS:Shared.TypeIs { s with heap:=s.heap.push (hAq w) } (.ref s.heap.objs.size) "set":=⟨_,gS,rfl⟩
      have q6:=F.called_set.init.lookup
      have q7:=F.called_set.init.bind (.ref s.heap.objs.size)
      repeat (any_goals (first | assumption | wp_step))
      refine codeAny_mono (codeAny_call_builtin (R:=wants (λ r s2=>r=.none/\Q (.ref s.heap.objs.size) s2) E) F.called_set.init.plain F.entry_set_init (check_set_init_1 tS ?_)) λ r2 s2 hr2=>?_
      . obtain ⟨⟨oc,od,oda,osl⟩,ho,hc,nl,hd⟩:=hl
        simp only at hc hd
        subst hc;subst hd
        have hlt:=Heap.lt_size ho
        have ho1:(s.heap.push (hAq w)).get? l=some { cls:=.type "list", dict:=od,data:=.seq items nl,slots:=osl }:=Heap.get?_push_of_some _ ho
        have hL:(s.heap.push (hAq w)).IsList l items:=⟨_,ho1,rfl,nl,rfl⟩
        have n1:=F.sub_list_set
        have n2:=F.sub_list_frozenset
        have n3:(Value.type "list"==Value.type "dict")=false:=by decide
        unfold Builtin.«set.__init__» noKeywords Builtin.Frozenset.updateFrom
        generalize hP:pyIter=P
        wp_walk
        subst hP
        refine wpAny_pyIter_list hL (wpAny_bind (wpAny_runValue ?_))
        have sz:(s.heap.push (hAq w)).objs.size=s.heap.objs.size+1:=Heap.size_push ..
        refine aN1q (I:=(s.heap.push (hAq w)).objs.size) (l:=l) (S:=s.heap.objs.size) (show A.in1.in1.handled=none from hh) ?zza ?zzb (Nat.ne_of_gt hlt) hi hb (items.size - 0) 0 _ #[] 0 (.fresh 0 0 (!byT w)) rfl (Nat.zero_le _) ?zzd ?zze ?zzf (Nat.le_refl _) ?zzg ?zzh
        case zza=>rw [sz];exact Nat.ne_of_lt (Nat.lt_succ_of_lt hlt)
        case zzb=>rw [sz];exact Nat.ne_of_lt (Nat.lt_succ_self _)
        case zzd=>exact ⟨_,Heap.get?_push_size _ rfl,rfl,rfl⟩
        case zze=>exact hL.push _
        case zzf=>exact SX.fresh (Heap.get?_push_of_some _ gS)
        case zzg=>intro j;simp
        case zzh=>
          intro h' tk es ep t X z m k
          refine wpAny_pure (show wpAny _ _ (ret Value.none) _ _ _ from wpAny_pure ⟨rfl,h h' tk es ep t X z m λ b o e=>k b o (Nat.ne_of_lt (Heap.lt_size e)) ?_ (Heap.get?_push_of_some _ (Heap.get?_push_of_some _ e))⟩)
          rw [sz];exact Nat.ne_of_lt (Nat.lt_succ_of_lt (Heap.lt_size e))
      . cases r2 with
        | error e=>exact hr2
        | ok fl2=>
          cases fl2 with
          | ret r=>
            obtain ⟨rfl,hq⟩:=hr2
            repeat (any_goals (first | assumption | wp_step))
          | _=>exact hr2.elim
    | _=>exact hr.elim
end
end KSs
namespace KSs
open PySem PyProof.Rows
theorem own:Manifest.owners.lookup (String.ofList ['r', 'o', 't', 'a', 'r', 'e', 't', 'i', '_', 't', 'e', 's'].reverse)=some Manifest.sig_set_iterator:=by kernel_rfl
theorem sNext:Slot "set_iterator" "__next__" "set_iterator.__next__":=.of (owner:="set_iterator") (n:="__next__") (by rw [typeLookup_type,builtinLookup_eq_fast];kernel_rfl) (by decide +kernel) (by decide +kernel) (by decide +kernel) (by first | exact .inl (by decide +kernel) | exact .inr (by decide +kernel)) (by rw [isSubtype_type];kernel_rfl)
theorem sItI:Slot "set_iterator" "__iter__" "set_iterator.__iter__":=.of (owner:="set_iterator") (n:="__iter__") (by rw [typeLookup_type,builtinLookup_eq_fast];kernel_rfl) (by decide +kernel) (by decide +kernel) (by decide +kernel) (by first | exact .inl (by decide +kernel) | exact .inr (by decide +kernel)) (by rw [isSubtype_type];kernel_rfl)
theorem p4q:Slot "set" "__iter__" "set.__iter__":=.of (owner:="set") (n:="__iter__") (by rw [typeLookup_type,builtinLookup_eq_fast];kernel_rfl) (by decide +kernel) (by decide +kernel) (by decide +kernel) (by first | exact .inl (by decide +kernel) | exact .inr (by decide +kernel)) (by rw [isSubtype_type];kernel_rfl)
theorem sLen:Slot "set" "__len__" "set.__len__":=.of (owner:="set") (n:="__len__") (by rw [typeLookup_type,builtinLookup_eq_fast];kernel_rfl) (by decide +kernel) (by decide +kernel) (by decide +kernel) (by first | exact .inl (by decide +kernel) | exact .inr (by decide +kernel)) (by rw [isSubtype_type];kernel_rfl)
theorem kHq:entryFor table "set_iterator.__next__" = some Builtin.«set_iterator.__next__»:=entryFor_of_tree (by kernel_rfl)
theorem eItI:entryFor table "set_iterator.__iter__" = some Builtin.«dict_keyiterator.__iter__»:=entryFor_alias (id':="dict_keyiterator.__iter__") (by kernel_rfl) (by first | rfl | decide +kernel | (unfold String.splitOn;simp +decide [String.splitOnAux])) (by decide +kernel) (by kernel_rfl)
theorem u7q:entryFor table "set.__iter__" = some Builtin.«frozenset.__iter__»:=entryFor_alias (id':="frozenset.__iter__") (by kernel_rfl) (by first | rfl | decide +kernel | (unfold String.splitOn;simp +decide [String.splitOnAux])) (by decide +kernel) (by kernel_rfl)
theorem lEq (a:Value):argsOk "set_iterator.__next__" ⟨[a],[]⟩:=by unfold argsOk;rw [signature?_of (id:="set_iterator.__next__") (n:=['_', '_', 't', 'x', 'e', 'n', '_', '_']) (o:=['r', 'o', 't', 'a', 'r', 'e', 't', 'i', '_', 't', 'e', 's']) (by kernel_rfl) own];kernel_rfl
theorem aItI (a:Value):argsOk "set_iterator.__iter__" ⟨[a],[]⟩:=by unfold argsOk;rw [signature?_of (id:="set_iterator.__iter__") (n:=['_', '_', 'r', 'e', 't', 'i', '_', '_']) (o:=['r', 'o', 't', 'a', 'r', 'e', 't', 'i', '_', 't', 'e', 's']) (by kernel_rfl) own];kernel_rfl
theorem uWq (a:Value):argsOk "set.__iter__" ⟨[a],[]⟩:=by unfold argsOk;rw [signature?_of (id:="set.__iter__") (n:=['_', '_', 'r', 'e', 't', 'i', '_', '_']) (o:=['t', 'e', 's']) (by kernel_rfl) F.owner_set];kernel_rfl
end KSs
namespace KSs
open PySem PyProof.Rows
theorem oOq {α:Type} (f:Nat->Nat):∀ (fuel k:Nat) (left:List α) (out:Array α),left.length=fuel->(pickOrder.go f fuel k left out).toList.Perm (out.toList++left)
  | 0,k,left,out,h=>by
    have:left=[]:=List.length_eq_zero_iff.mp h
    subst this
    simp [pickOrder.go]
  | fuel+1,k,left,out,h=>by
    have lt:f k % left.length < left.length:=Nat.mod_lt _ (by omega)
    unfold pickOrder.go
    rw [List.getElem?_eq_getElem lt]
    dsimp only
    refine (oOq f fuel (k+1) _ _ (by rw [List.length_eraseIdx_of_lt lt];omega)).trans ?_
    rw [Array.toList_push,List.append_assoc]
    refine List.Perm.append_left _ ?_
    have e:=List.take_append_drop (f k % left.length) left
    have e2:left.eraseIdx (f k % left.length)=left.take (f k % left.length)++left.drop (f k % left.length+1):=List.eraseIdx_eq_take_drop_succ ..
    rw [e2,List.singleton_append]
    have e3:left=left.take (f k % left.length)++left[f k % left.length]::left.drop (f k % left.length+1):=by
      rw [<- List.drop_eq_getElem_cons lt,e]
    conv=>rhs;rw [e3]
    exact List.perm_middle.symm
theorem jEq {α:Type} (f:Nat->Nat) (xs:Array α):(pickOrder f xs).toList.Perm xs.toList:=by
  have h:=oOq f xs.size 0 xs.toList #[] (by simp)
  simpa [pickOrder] using h
theorem jOq {M:Model} {A:Around} {E:Value->Shared->Prop} {s:Shared} {src:Source} {n:Nat} {Q:Nat->Shared->Prop} (hn:0 < n) (h:∀ i d,i < n->Q i { s with drawn:=d }):wpAny M A (choose src n) Q E s:=
  λ _ _ _=>⟨by omega,h _ _ (Nat.mod_lt _ hn)⟩
theorem draw {α:Type} {M:Model} {A:Around} {E:Value->Shared->Prop}:∀ (n:Nat) (xs:List α) (s:Shared) (Q:List α->Shared->Prop),xs.length=n->(∀ ys d,ys.Perm xs->Q ys { s with drawn:=d })->wpAny M A (drawOrder n xs) Q E s
  | 0,xs,s,Q,h,q=>by
    have:xs=[]:=List.length_eq_zero_iff.mp h
    subst this
    exact wpAny_pure (q [] s.drawn (.refl _))
  | n+1,[],s,Q,h,q=>by simp at h
  | n+1,x::xs,s,Q,h,q=>by
    unfold drawOrder
    refine wpAny_bind (jOq (by simp) λ i d hi=>?_)
    rw [List.getElem?_eq_getElem hi]
    dsimp only
    refine wpAny_bind (draw n _ _ _ (by rw [List.length_eraseIdx_of_lt hi];simp at h ⊢;omega) λ ys d' hp=>wpAny_pure (q _ d' ?_))
    have e2:(x::xs).eraseIdx i=(x::xs).take i++(x::xs).drop (i+1):=List.eraseIdx_eq_take_drop_succ ..
    rw [e2] at hp
    have e3:x::xs=(x::xs).take i++(x::xs)[i]::(x::xs).drop (i+1):=by
      rw [<- List.drop_eq_getElem_cons hi,List.take_append_drop]
    refine (hp.cons _).trans ?_
    conv=>rhs;rw [e3]
    exact List.perm_middle.symm
structure SW (w:World) (h:Heap) (a:Addr) (es:Array (Int × Value)) (ep:Nat) (t:SetTable):Prop where
  at_:h.get? a=some (setAt es ep t)
  fits:t.fits es.size=true
  few:es.size < 1000
  led:byT w=false->t.led=true
  up:Up t.place
theorem SX.sw {w:World} {h:Heap} {a:Addr} {es:Array (Int × Value)} {ep:Nat} {t:SetTable} (X:SX w h a es ep t):SW w h a es ep t:=⟨X.at_,X.fits,X.few,X.cl.led,X.cl.up⟩
abbrev iPq (first:Value) (i:Nat) (a:Addr) (n ep:Nat):Obj:={ cls:=.type "set_iterator", dict:=none,data:=.fields #[first,rawInt i,.ref a,rawInt n,rawInt ep],slots:=#[] }
section
variable {prog:Program} {w:World} {A:Around} {E:Value->Shared->Prop} {s:Shared} {a I T:Addr} {es:Array (Int × Value)} {ep:Nat} {t:SetTable}
theorem qOq (Q:Bool->Shared->Prop) (h:Q (byT w) s):wpAny (model prog w) A setsByText Q E s:=by
  unfold setsByText
  exact wpAny_bind (wpAny_askSetting (wpAny_pure h))
theorem aO2q {Q:Option (Value × Nat)->Shared->Prop} (hb:byT w=true) (X:SW w s.heap a es ep t) {sl i:Nat} (h:Q (((pickOrder (w.params.setOrder a ep) es)[i]?).map λ e=>(e.2,sl)) s):wpAny (model prog w) A (setNext a sl i ep) Q E s:=by
  unfold setNext
  refine wpAny_bind (wpAny_setState_of X.at_ rfl X.fits (wpAny_bind (qOq _ ?_)))
  rw [hb,if_pos rfl]
  rw [if_neg (by simp)]
  unfold setWalk
  refine wpAny_bind (wpAny_bind (wpAny_setState_of X.at_ rfl X.fits (wpAny_bind (qOq _ ?_))))
  rw [hb,if_pos rfl]
  exact wpAny_bind (wpAny_askSetting (wpAny_pure (wpAny_pure h)))
theorem hFq (X:SW w s.heap a es ep t):t.place.size=es.size:=by
  have:=X.fits
  simp only [SetTable.fits,Bool.and_eq_true,beq_iff_eq] at this
  exact this.1
def cJq (t:SetTable):Nat->Nat
  | 0=>0
  | i+1=>t.place.getD i 0+1
theorem mFq (hu:Up t.place) {i:Nat} (hi:i<=t.place.size):SetTable.below t.place (cJq t i)=i:=by
  obtain ⟨h1,h2,h3⟩:=gZq hu (cJq t i)
  generalize SetTable.below t.place (cJq t i)=p at *
  cases i with
  | zero=>
    rcases Nat.eq_zero_or_pos p with z | z
    . exact z
    . exact absurd (h2 0 z) (by simp [cJq])
  | succ i=>
    rcases Nat.lt_trichotomy p (i+1) with z | z | z
    . have:=h3 i (by omega) (by omega)
      simp only [cJq] at this
      omega
    . exact z
    . have y:=h2 (i+1) z
      have l:=hu.lt (show i < i+1 by omega) (by omega)
      simp only [cJq] at y
      omega
theorem aL8q {Q:Option (Value × Nat)->Shared->Prop} (hb:byT w=false) (hd:(!t.plain&&decide (es.size > 1))=false) (X:SW w s.heap a es ep t) {i:Nat} (hi:i<=es.size) (h:Q ((es[i]?).map λ e=>(e.2,cJq t (i+1))) s):wpAny (model prog w) A (setNext a (cJq t i) i ep) Q E s:=by
  have hp:=hFq X
  unfold setNext
  refine wpAny_bind (wpAny_setState_of X.at_ rfl X.fits (wpAny_bind (qOq _ ?_)))
  rw [hb,if_neg (by simp)]
  refine (show wpAny (model prog w) A (if (!t.plain&&decide (es.size > 1))=true then _ else _) _ _ s from ?_)
  rw [hd,if_neg (by simp)]
  refine (show wpAny (model prog w) A ((if (!t.led&&!es.isEmpty)=true then unsupported "set:maker-not-led" else pure ()) >>= λ _=>_) _ _ s from ?_)
  rw [X.led hb,if_neg (by simp)]
  refine wpAny_bind (wpAny_pure (wpAny_pure ?_))
  rw [mFq X.up (by omega)]
  cases e:es[i]? with
  | none=>rw [e] at h;exact h
  | some y=>
    have lt:i < t.place.size:=by have:=(Array.getElem?_eq_some_iff.mp e).1;omega
    rw [e] at h
    rw [Array.getElem?_eq_getElem lt]
    have:cJq t (i+1)=t.place[i]+1:=by simp [cJq,Array.getD,lt]
    rw [this] at h
    exact h
end
end KSs
namespace KSs
open PySem PyProof.Rows
section
variable {prog:Program} {w:World} {A:Around} {E:Value->Shared->Prop} {s:Shared} {a I T:Addr} {es:Array (Int × Value)} {ep:Nat} {t:SetTable}
theorem oMq {first:Value} {i n:Nat} {Q:Value->Shared->Prop} (hit:s.heap.get? I=some (iPq first i a n ep)) (h:Q (.ref I) s):wpAny (model prog w) A (pyIter (.ref I)) Q E s:=
  have hT:s.TypeIs (.ref I) "set_iterator":=⟨_,hit,rfl⟩
  wpAny_pyIter_slot hT sItI (wpAny_call_entry sItI hT eItI (wpAny_pure ⟨_,rfl,"set_iterator", _,hT,sNext.lookup,h⟩) (aItI _))
theorem v2q {sl i sl':Nat} {x:Value} {Q:Option Value->Shared->Prop} (hne:a≠I) (hit:s.heap.get? I=some (iPq (rawInt sl) i a es.size ep)) (X:SW w s.heap a es ep t)
    (hN:∀ (A:Around) (E:Value->Shared->Prop) (Q:Option (Value × Nat)->Shared->Prop),Q (some (x,sl')) s->wpAny (model prog w) A (setNext a sl i ep) Q E s)
    (hQ:∀ h',h'.get? I=some (iPq (rawInt sl') (i+1) a es.size ep)->Heap.SameBut I s.heap h'->Q (some x) { s with heap:=h' }):wpAny (model prog w) A (pyNext (.ref I)) Q E s:=by
  have hT:s.TypeIs (.ref I) "set_iterator":=⟨_,hit,rfl⟩
  unfold pyNext
  refine wpAny_bind (wpAny_attempt (wpAny_callSpecial?_slot hT sNext (wpAny_call_entry sNext hT kHq ?_ (lEq _))))
  refine (show wpAny (model prog w) A.in1 (fieldsOf (.ref I) >>= _) _ _ s from wpAny_bind (wpAny_fieldsOf hit rfl ?_))
  refine (show wpAny (model prog w) A.in1 (setEntries a >>= _) _ _ s from wpAny_bind (wpAny_setEntries_of X.at_ rfl X.fits ?_))
  rw [if_neg (by simp)]
  refine (show wpAny (model prog w) A.in1 (setNext a ((sl:Int)).toNat ((i:Int)).toNat ((ep:Int)).toNat >>= _) _ _ s from wpAny_bind ?_)
  rw [Int.toNat_natCast,Int.toNat_natCast,Int.toNat_natCast]
  refine hN _ _ _ ?_
  refine (show wpAny (model prog w) A.in1 (setField (.ref I) 0 (rawInt sl') >>= _) _ _ s from wpAny_bind (wpAny_setField hit rfl (by simp) ?_))
  have e1:=Heap.get?_update_self (Obj.mapFields (·.setIfInBounds 0 (rawInt sl'))) hit rfl
  refine wpAny_bind (wpAny_setField e1 rfl (by simp [Obj.mapFields]) (wpAny_pure ⟨x,rfl,wpAny_pure (hQ _ ?_ ((Heap.SameBut.update ..).trans (Heap.SameBut.update ..)))⟩))
  exact Heap.get?_update_self (Obj.mapFields (·.setIfInBounds 1 (rawInt ((i:Int)+1)))) e1 rfl
theorem yPq {sl i:Nat} {Q:Option Value->Shared->Prop} (hh:A.handled=none) (hit:s.heap.get? I=some (iPq (rawInt sl) i a es.size ep)) (X:SW w s.heap a es ep t)
    (hN:∀ (A:Around) (E:Value->Shared->Prop) (Q:Option (Value × Nat)->Shared->Prop),Q none s->wpAny (model prog w) A (setNext a sl i ep) Q E s)
    (hQ:∀ h',Heap.ExtBut I s.heap h'->Q none { s with heap:=h' }):wpAny (model prog w) A (pyNext (.ref I)) Q E s:=by
  have hT:s.TypeIs (.ref I) "set_iterator":=⟨_,hit,rfl⟩
  unfold pyNext
  refine wpAny_bind (wpAny_attempt (wpAny_callSpecial?_slot hT sNext (wpAny_call_entry sNext hT kHq ?_ (lEq _))))
  refine (show wpAny (model prog w) A.in1 (fieldsOf (.ref I) >>= _) _ _ s from wpAny_bind (wpAny_fieldsOf hit rfl ?_))
  refine (show wpAny (model prog w) A.in1 (setEntries a >>= _) _ _ s from wpAny_bind (wpAny_setEntries_of X.at_ rfl X.fits ?_))
  rw [if_neg (by simp)]
  refine (show wpAny (model prog w) A.in1 (setNext a ((sl:Int)).toNat ((i:Int)).toNat ((ep:Int)).toNat >>= _) _ _ s from wpAny_bind ?_)
  rw [Int.toNat_natCast,Int.toNat_natCast,Int.toNat_natCast]
  refine hN _ _ _ ?_
  refine (show wpAny (model prog w) A.in1 (setField (.ref I) 2 .none >>= _) _ _ s from wpAny_bind (wpAny_setField hit rfl (by simp) ?_))
  refine (show wpAny (model prog w) A.in1 (Builtin.SmallTypes.stopIteration) _ _ _ from KRv.stops (A:=A.in1) hh λ h' e kk hs=>?_)
  refine wpAny_bind (wpAny_isInstance (T:="StopIteration") (b:=true) hs isSubtype_stop (wpAny_pure (hQ _ λ b o hb e=>kk b o ?_)))
  exact (Heap.SameBut.update ..).extBut b o hb e
theorem aH8q (hh:A.handled=none) (hne:a≠I) (sl:Nat->Nat) (xs:Array Value) (hx:xs.size=es.size)
    (hN:∀ (s:Shared),SW w s.heap a es ep t->∀ (A:Around) (E:Value->Shared->Prop) (Q:Option (Value × Nat)->Shared->Prop) (i:Nat),i<=es.size->Q ((xs[i]?).map λ x=>(x,sl (i+1))) s->wpAny (model prog w) A (setNext a (sl i) i ep) Q E s) (X:SW w s.heap a es ep t) :
    Walks prog w A I [I,a] [I] es.size (λ i v=>xs[i]?=some v) (λ i h=>h.get? I=some (iPq (rawInt (sl i)) i a es.size ep)/\h.get? a=some (setAt es ep t)) where
  sub:=λ b hb=>by rw [List.mem_singleton.mp hb];exact List.mem_cons_self
  frame:=λ _ _ _ st hk=>⟨hk I (by simp) _ st.1,hk a (by simp) _ st.2⟩
  item:=λ i s' Q E hi st hQ=>by
    have lt:i < xs.size:=by omega
    have X':SW w s'.heap a es ep t:=⟨st.2,X.fits,X.few,X.led,X.up⟩
    refine v2q (x:=xs[i]) (sl':=sl (i+1)) hne st.1 X' (λ A E Q q=>hN s' X' A E Q i (by omega) (by rw [Array.getElem?_eq_getElem lt];exact q)) λ h' e1 sb=>?_
    exact hQ _ h' s'.toks (Array.getElem?_eq_getElem lt) ⟨e1,by rw [sb.2 a hne];exact st.2⟩ λ b o hb e=>by rw [sb.2 b (λ z=>hb (List.mem_singleton.mpr z))];exact e
  done:=λ s' Q E st hQ=>by
    have X':SW w s'.heap a es ep t:=⟨st.2,X.fits,X.few,X.led,X.up⟩
    exact yPq hh st.1 X' (λ A E Q q=>hN s' X' A E Q es.size (Nat.le_refl _) (by rw [Array.getElem?_eq_none (by omega)];exact q)) λ h' he=>hQ h' s'.toks λ b o hb e=>he b o (λ z=>hb (List.mem_singleton.mpr z)) e
  self:=λ i s' Q E st h=>oMq st.1 h
end
end KSs
namespace KSs
open PySem PyProof.Rows
section
variable {prog:Program} {w:World} {A:Around} {E:Value->Shared->Prop} {s:Shared} {a I T:Addr} {es:Array (Int × Value)} {ep:Nat} {t:SetTable}
abbrev dJq (ps:List Nat):Obj:={ cls:=.type "tuple", dict:=none,data:=.seq (ps.map λ(p:Nat)=>rawInt (p:Int)).toArray 0,slots:=#[] }
theorem sUq {i p:Nat} {ps:List Nat} {k:Int} {x:Value} {Q:Option Value->Shared->Prop} (hit:s.heap.get? I=some (iPq (.ref T) i a es.size ep)) (hT0:s.heap.get? T=some (dJq ps)) (X:SW w s.heap a es ep t) (hp:ps[i]?=some p) (hx:es[p]?=some (k,x))
    (hQ:∀ h',h'.get? I=some (iPq (.ref T) (i+1) a es.size ep)->Heap.SameBut I s.heap h'->Q (some x) { s with heap:=h' }):wpAny (model prog w) A (pyNext (.ref I)) Q E s:=by
  have hT:s.TypeIs (.ref I) "set_iterator":=⟨_,hit,rfl⟩
  unfold pyNext
  refine wpAny_bind (wpAny_attempt (wpAny_callSpecial?_slot hT sNext (wpAny_call_entry sNext hT kHq ?_ (lEq _))))
  refine (show wpAny (model prog w) A.in1 (fieldsOf (.ref I) >>= _) _ _ s from wpAny_bind (wpAny_fieldsOf hit rfl ?_))
  refine (show wpAny (model prog w) A.in1 (setEntries a >>= _) _ _ s from wpAny_bind (wpAny_setEntries_of X.at_ rfl X.fits ?_))
  rw [if_neg (by simp)]
  refine (show wpAny (model prog w) A.in1 (seqItems? (.ref T) >>= _) _ _ s from wpAny_bind ?_)
  unfold seqItems?
  refine (show wpAny (model prog w) A.in1 (load T >>= _) _ _ s from wpAny_bind (wpAny_load hT0 (wpAny_pure ?_)))
  have e0:((ps.map λ(p:Nat)=>rawInt (p:Int)).toArray)[((i:Int)).toNat]?=some (rawInt p):=by
    rw [Int.toNat_natCast,List.getElem?_toArray,List.getElem?_map,hp];rfl
  dsimp only
  rw [e0]
  refine (show wpAny (model prog w) A.in1 (setNextDrawn a ((p:Int)).toNat ((ep:Int)).toNat >>= _) _ _ s from wpAny_bind ?_)
  rw [Int.toNat_natCast,Int.toNat_natCast]
  unfold setNextDrawn
  refine wpAny_bind (wpAny_setState_of X.at_ rfl X.fits ?_)
  dsimp only
  rw [if_neg (by simp),hx]
  refine wpAny_pure ?_
  refine wpAny_bind (wpAny_setField hit rfl (by simp) (wpAny_pure ⟨x,rfl,wpAny_pure (hQ _ ?_ (Heap.SameBut.update ..))⟩))
  exact Heap.get?_update_self (Obj.mapFields (·.setIfInBounds 1 (rawInt ((i:Int)+1)))) hit rfl
theorem u5q {i:Nat} {ps:List Nat} {Q:Option Value->Shared->Prop} (hh:A.handled=none) (hit:s.heap.get? I=some (iPq (.ref T) i a es.size ep)) (hT0:s.heap.get? T=some (dJq ps)) (X:SW w s.heap a es ep t) (hp:ps[i]?=none)
    (hQ:∀ h',Heap.ExtBut I s.heap h'->Q none { s with heap:=h' }):wpAny (model prog w) A (pyNext (.ref I)) Q E s:=by
  have hT:s.TypeIs (.ref I) "set_iterator":=⟨_,hit,rfl⟩
  unfold pyNext
  refine wpAny_bind (wpAny_attempt (wpAny_callSpecial?_slot hT sNext (wpAny_call_entry sNext hT kHq ?_ (lEq _))))
  refine (show wpAny (model prog w) A.in1 (fieldsOf (.ref I) >>= _) _ _ s from wpAny_bind (wpAny_fieldsOf hit rfl ?_))
  refine (show wpAny (model prog w) A.in1 (setEntries a >>= _) _ _ s from wpAny_bind (wpAny_setEntries_of X.at_ rfl X.fits ?_))
  rw [if_neg (by simp)]
  refine (show wpAny (model prog w) A.in1 (seqItems? (.ref T) >>= _) _ _ s from wpAny_bind ?_)
  unfold seqItems?
  refine (show wpAny (model prog w) A.in1 (load T >>= _) _ _ s from wpAny_bind (wpAny_load hT0 (wpAny_pure ?_)))
  have e0:((ps.map λ(p:Nat)=>rawInt (p:Int)).toArray)[((i:Int)).toNat]?=none:=by
    rw [Int.toNat_natCast,List.getElem?_toArray,List.getElem?_map,hp];rfl
  dsimp only
  rw [e0]
  refine wpAny_bind (wpAny_setField hit rfl (by simp) ?_)
  have e1:=Heap.get?_update_self (Obj.mapFields (·.setIfInBounds 0 (rawInt 0))) hit rfl
  refine wpAny_bind (wpAny_setField e1 rfl (by simp [Obj.mapFields]) ?_)
  refine (show wpAny (model prog w) A.in1 (Builtin.SmallTypes.stopIteration) _ _ _ from KRv.stops (A:=A.in1) hh λ h' e kk hs=>?_)
  refine wpAny_bind (wpAny_isInstance (T:="StopIteration") (b:=true) hs isSubtype_stop (wpAny_pure (hQ _ λ b o hb e=>kk b o ?_)))
  exact ((Heap.SameBut.update ..).trans (Heap.SameBut.update ..)).extBut b o hb e
theorem aL6q (hh:A.handled=none) (hne:a≠I) (hnT:T≠I) (ps:List Nat) (hps:ps.length=es.size) (hb:∀ p∈ps,p < es.size) (X:SW w s.heap a es ep t) :
    Walks prog w A I [I,a,T] [I] es.size (λ i v=>((ps.map λ p=>(es.getD p (0,.none)).2).toArray)[i]?=some v) (λ i h=>h.get? I=some (iPq (.ref T) i a es.size ep)/\h.get? a=some (setAt es ep t)/\h.get? T=some (dJq ps)) where
  sub:=λ b hb=>by rw [List.mem_singleton.mp hb];exact List.mem_cons_self
  frame:=λ _ _ _ st hk=>⟨hk I (by simp) _ st.1,hk a (by simp) _ st.2.1,hk T (by simp) _ st.2.2⟩
  item:=λ i s' Q E hi st hQ=>by
    have lt:i < ps.length:=by omega
    have X':SW w s'.heap a es ep t:=⟨st.2.1,X.fits,X.few,X.led,X.up⟩
    have hp:=hb ps[i] (List.getElem_mem lt)
    refine sUq (p:=ps[i]) (k:=(es.getD ps[i] (0,.none)).1) (x:=(es.getD ps[i] (0,.none)).2) st.1 st.2.2 X' (List.getElem?_eq_getElem lt) (by rw [Array.getElem?_eq_getElem hp];simp [Array.getD,hp]) λ h' e1 sb=>?_
    exact hQ _ h' s'.toks (by simp [lt]) ⟨e1,by rw [sb.2 a hne];exact st.2.1,by rw [sb.2 T hnT];exact st.2.2⟩ λ b o hb e=>by rw [sb.2 b (λ z=>hb (List.mem_singleton.mpr z))];exact e
  done:=λ s' Q E st hQ=>by
    have X':SW w s'.heap a es ep t:=⟨st.2.1,X.fits,X.few,X.led,X.up⟩
    exact u5q hh st.1 st.2.2 X' (List.getElem?_eq_none (by omega)) λ h' he=>hQ h' s'.toks λ b o hb e=>he b o (λ z=>hb (List.mem_singleton.mpr z)) e
  self:=λ i s' Q E st h=>oMq st.1 h
theorem tyS (X:SW w s.heap a es ep t):s.TypeIs (.ref a) "set":=⟨_,X.at_,rfl⟩
theorem aF7q {Q:Value->Shared->Prop} (X:SW w s.heap a es ep t)
    (h1:(!byT w&&(!t.plain&&decide (es.size > 1)))=false->Q (.ref s.heap.objs.size) { s with heap:=s.heap.push (iPq (rawInt 0) 0 a es.size ep) })
    (h2:(!byT w&&(!t.plain&&decide (es.size > 1)))=true->∀ ps d,ps.Perm (List.range es.size)->Q (.ref (s.heap.push (dJq ps)).objs.size) { s with heap:=(s.heap.push (dJq ps)).push (iPq (.ref s.heap.objs.size) 0 a es.size ep),drawn:=d }) :
    wpAny (model prog w) A (pyIter (.ref a)) Q E s:=by
  have hl:=sizeLine_eq
  have hf:=X.few
  refine wpAny_pyIter_slot (tyS X) p4q (wpAny_call_entry p4q (tyS X) u7q ?_ (uWq _))
  refine (show wpAny (model prog w) A.in1 (Builtin.Frozenset.sizeOf a >>= _) _ _ s from wpAny_bind ?_)
  unfold Builtin.Frozenset.sizeOf
  refine wpAny_bind (wpAny_setEntries_of X.at_ rfl X.fits (wpAny_pure ?_))
  refine wpAny_bind ?_
  unfold setDrawn
  refine wpAny_bind (wpAny_setState_of X.at_ rfl X.fits (wpAny_bind (qOq _ (wpAny_pure ?_))))
  cases c:(!byT w&&(!t.plain&&decide (es.size > 1))) with
  | false=>
    refine (show wpAny (model prog w) A.in1 (if (!byT w&&(!t.plain&&decide (es.size > 1)))=true then _ else _) _ _ s from ?_)
    rw [c,if_neg (by simp)]
    refine wpAny_bind (wpAny_pure (wpAny_bind (wpAny_setEpoch_of X.at_ rfl X.fits ?_)))
    unfold newFields
    refine wpAny_bind (wpAny_newObj_type ?_ (by size_fits))
    exact wpAny_pure ⟨_,rfl,"set_iterator", _,⟨_,Heap.get?_push_size _ rfl,rfl⟩,sNext.lookup,h1 c⟩
  | true=>
    refine (show wpAny (model prog w) A.in1 (if (!byT w&&(!t.plain&&decide (es.size > 1)))=true then _ else _) _ _ s from ?_)
    rw [c,if_pos rfl]
    refine wpAny_bind (draw _ _ _ _ List.length_range λ ps d hp=>?_)
    have hpl:=hp.length_eq
    rw [List.length_range] at hpl
    refine wpAny_bind (wpAny_newTuple ?_ (by rw [List.length_map];omega))
    have X':(s.heap.push (dJq ps)).get? a=some (setAt es ep t):=Heap.get?_push_of_some _ X.at_
    refine wpAny_bind (wpAny_setEpoch_of X' rfl X.fits ?_)
    unfold newFields
    refine wpAny_bind (wpAny_newObj_type ?_ (by size_fits))
    exact wpAny_pure ⟨_,rfl,"set_iterator", _,⟨_,Heap.get?_push_size _ rfl,rfl⟩,sNext.lookup,h2 c ps d hp⟩
end
end KSs
namespace KSs
open PySem PyProof.Rows
section
variable {prog:Program} {w:World} {A:Around} {E:Value->Shared->Prop} {s:Shared} {a:Addr} {es:Array (Int × Value)} {ep:Nat} {t:SetTable}
theorem aA4q (X:SW w s.heap a es ep t) {Q:Bool->Shared->Prop} (h:Q false s):wpAny (model prog w) A (Builtin.List.listLengthHint (.ref a)) Q E s:=by
  unfold Builtin.List.listLengthHint
  refine wpAny_bind (wpAny_specialOf (tyS X) sLen.lookup ?_)
  (generalize hid:("set.__len__" : String)=id0;(fail_if_success (clear hid id0));wp_delta;rw [show splitId id0=some ("set", "__len__") from by subst hid;decide +kernel];subst hid)
  exact wpAny_bind (wpAny_isInstance (b:=true) (tyS X) (by rw [isSubtype_type];kernel_rfl) (wpAny_bind (wpAny_typeOf (tyS X) (wpAny_pure h))))
theorem lPq {xs acc:Array Value} {n:Nat} (hn:xs.size=n) (h:ItemsOf (λ i v=>xs[i]?=some v) acc n):acc=xs:=by
  obtain ⟨h1,h2⟩:=h
  apply Array.ext_getElem?
  intro i
  by_cases c:i < acc.size
  . rw [Array.getElem?_eq_getElem c,h2 i _ (Array.getElem?_eq_getElem c)]
  . rw [Array.getElem?_eq_none (by omega),Array.getElem?_eq_none (by omega)]
theorem xOq {S I:Addr} {fp:List Addr} {n c:Nat} {P:Nat->Value->Prop} {St:Nat->Heap->Prop} {res:Value} {R:Result->Shared->Prop} (W:Walks prog w A.in1 I fp [I] n P St) (hn:n<=sizeLine) (hSf:S ∉ fp) (st:St 0 s.heap) (hS:s.heap.get? S=some (KRv.listAt #[] c))
    (h:∀ h' tk acc c',ItemsOf P acc n->h'.get? S=some (KRv.listAt acc c')->(∀ b o,b≠S->b≠I->s.heap.get? b=some o->h'.get? b=some o)->R (.ok (.ret res)) { s with heap:=h',toks:=tk }):codeAny (model prog w) A (.builtin "list.extend.loop" ⟨[.ref S,.ref I,res],[]⟩) R s:=
  codeAny_extend_loopS W.toS hn S hSf res n 0 s #[] c rfl (Nat.zero_le _) st hS (ItemsOf.nil P) λ s' acc c' hm hS' hacc=>by
    rw [KRv.moved_eq hm]
    exact h s'.heap s'.toks acc c' hacc hS' λ b o h1 h2 e=>hm.heap b o (by simp [h1,h2]) e
theorem s6q (es:Array (Int × Value)):∀ (ps:List Nat),ps.Perm (List.range es.size)->(ps.map λ p=>(es.getD p (0,.none)).2).Perm (es.toList.map (·.2)):=λ ps hp=>by
  refine (hp.map _).trans ?_
  have e:(List.range es.size).map (λ p=>(es.getD p (0,.none)).2)=es.toList.map (·.2):=by
    apply List.ext_getElem?
    intro i
    rw [List.getElem?_map,List.getElem?_map]
    by_cases c:i < es.size
    . rw [List.getElem?_range c,Array.getElem?_toList,Array.getElem?_eq_getElem c];simp [Array.getD,c]
    . rw [List.getElem?_eq_none (by simpa using c),List.getElem?_eq_none (by simpa using c)];rfl
  rw [e]
theorem y9q {M:Model} {S:Addr} {c:Nat} {Q:Unit->Shared->Prop} (hS:s.heap.get? S=some (KRv.listAt #[] c)) (h:∀ g c',g.get? S=some (KRv.listAt #[] c')->(∀ b o,b≠S->s.heap.get? b=some o->g.get? b=some o)->Q () { s with heap:=g }):wpAny M A (Builtin.List.listTouch (.ref S)) Q E s:=by
  refine (show wpAny M A (updateSeq S (·.push .none) >>= λ _=>updateSeq S (·.pop)) _ _ _ from wpAny_bind (wpAny_updateSeq hS rfl ?_))
  have e2:=Heap.get?_update_self (Obj.mapSeq (·.push Value.none)) hS rfl
  refine wpAny_updateSeq (hz:=by seq_fits) e2 rfl (h _ _ (Heap.get?_update_self (Obj.mapSeq (·.pop)) e2 rfl) λ b o hb e=>?_)
  exact (Heap.get?_update_other _ _ (Ne.symm hb)).trans ((Heap.get?_update_other _ _ (Ne.symm hb)).trans e)
theorem aI1q {S:Addr} {c:Nat} {res:Value} {R:Result->Shared->Prop} (hh:A.handled=none) (X:SW w s.heap a es ep t) (hS:s.heap.get? S=some (KRv.listAt #[] c)) (hSa:S≠a)
    (h:∀ h' tk d acc c',acc.toList.Perm (es.toList.map (·.2))->h'.get? S=some (KRv.listAt acc c')->(∀ b o,b≠S->s.heap.get? b=some o->h'.get? b=some o)->R (.ok (.ret res)) { s with heap:=h',toks:=tk,drawn:=d }) :
    wpAny (model prog w) A.in1 (Builtin.List.listExtendWith (.ref S) (.ref a) res)
      (λ fin s'=>match fin with | .done f=>R (.ok f) s' | .again c'=>c'.quiet=true/\codeAny (model prog w) A c' R s') (λ e s'=>R (.error e) s') s:=by
  have hl:=sizeLine_eq
  have hf:=X.few
  have alt:=Heap.lt_size X.at_
  have slt:=Heap.lt_size hS
  unfold Builtin.List.listExtendWith
  refine wpAny_bind (wpAny_typeOf (tyS X) ?_)
  have h1:Builtin.List.listSameRef (.ref S) (.ref a)=false:=by simp [Builtin.List.listSameRef,hSa]
  rw [h1,show (Value.type "set"==Value.type "list")=false by decide,show (Value.type "set"==Value.type "tuple")=false by decide,Bool.or_false,Bool.or_false,if_neg Bool.false_ne_true]
  refine wpAny_bind (aF7q X (λ c=>?_) λ c ps d hp=>?_)
  . have e1:(s.heap.push (iPq (rawInt 0) 0 a es.size ep)).get? a=some (setAt es ep t):=Heap.get?_push_of_some _ X.at_
    have X1:SW w (s.heap.push (iPq (rawInt 0) 0 a es.size ep)) a es ep t:=⟨e1,X.fits,X.few,X.led,X.up⟩
    refine wpAny_bind (wpAny_holding (aA4q (s:={ s with heap:=s.heap.push (iPq (rawInt 0) 0 a es.size ep) }) X1 ?_))
    rw [if_pos (by simp;decide)]
    refine wpAny_bind (wpAny_rule (wpAny_bind (y9q (s:={ s with heap:=s.heap.push (iPq (rawInt 0) 0 a es.size ep) }) (Heap.get?_push_of_some _ hS) λ g c2 eS kg=>?_)))
    have nIS:s.heap.objs.size≠S:=Nat.ne_of_gt slt
    have e2:=kg a _ (Ne.symm hSa) e1
    have X2:SW w g a es ep t:=⟨e2,X.fits,X.few,X.led,X.up⟩
    have go:∀ (sl:Nat->Nat) (xs:Array Value),sl 0=0->xs.size=es.size->xs.toList.Perm (es.toList.map (·.2))->(∀ (s:Shared),SW w s.heap a es ep t->∀ (A:Around) (E:Value->Shared->Prop) (Q:Option (Value × Nat)->Shared->Prop) (i:Nat),i<=es.size->Q ((xs[i]?).map λ x=>(x,sl (i+1))) s->wpAny (model prog w) A (setNext a (sl i) i ep) Q E s) →
        codeAny (model prog w) A (.builtin "list.extend.loop" ⟨[.ref S,.ref s.heap.objs.size,res],[]⟩) R { s with heap:=g }:=λ sl xs h0 hx hp hN=>by
      refine xOq (s:={ s with heap:=g }) (aH8q (s:={ s with heap:=g }) (show A.in1.handled=none from hh) (Nat.ne_of_lt alt) sl xs hx hN X2) (by omega) ?_ ⟨by rw [h0];exact kg _ _ nIS (Heap.get?_push_size _ rfl),e2⟩ eS λ h' tk acc c' hI hS' kk=>h h' tk s.drawn acc c' (by rw [lPq hx hI];exact hp) hS' λ b o hb e=>kk b o hb (Nat.ne_of_lt (Heap.lt_size e)) (kg b o hb (Heap.get?_push_of_some _ e))
      simp only [List.mem_cons,List.not_mem_nil,or_false,not_or]
      exact ⟨Nat.ne_of_lt slt,hSa⟩
    refine wpAny_pure ⟨plainId_quiet F.plain_extend_loop _,?_⟩
    cases hb:byT w with
    | true=>
      have pm:=jEq (w.params.setOrder a ep) es
      refine go (λ _=>0) ((pickOrder (w.params.setOrder a ep) es).map (·.2)) rfl (by rw [Array.size_map,<- Array.length_toList,pm.length_eq,Array.length_toList]) (by rw [Array.toList_map];exact pm.map _) λ s' X' A' E' Q' i _ q=>aO2q hb X' ?_
      rw [Array.getElem?_map,Option.map_map] at q
      exact q
    | false=>
      rw [hb] at c
      refine go (cJq t) (es.map (·.2)) rfl (by rw [Array.size_map]) (by rw [Array.toList_map]) λ s' X' A' E' Q' i hi q=>aL8q hb (by simpa using c) X' hi ?_
      rw [Array.getElem?_map,Option.map_map] at q
      exact q
  . have hpl:=hp.length_eq
    rw [List.length_range] at hpl
    have sz:(s.heap.push (dJq ps)).objs.size=s.heap.objs.size+1:=Heap.size_push ..
    have e1:((s.heap.push (dJq ps)).push (iPq (.ref s.heap.objs.size) 0 a es.size ep)).get? a=some (setAt es ep t):=Heap.get?_push_of_some _ (Heap.get?_push_of_some _ X.at_)
    have X1:SW w ((s.heap.push (dJq ps)).push (iPq (.ref s.heap.objs.size) 0 a es.size ep)) a es ep t:=⟨e1,X.fits,X.few,X.led,X.up⟩
    refine wpAny_bind (wpAny_holding (aA4q (s:={ s with heap:=(s.heap.push (dJq ps)).push (iPq (.ref s.heap.objs.size) 0 a es.size ep),drawn:=d }) X1 ?_))
    rw [if_pos (by simp;decide)]
    refine wpAny_bind (wpAny_rule (wpAny_bind (y9q (s:={ s with heap:=(s.heap.push (dJq ps)).push (iPq (.ref s.heap.objs.size) 0 a es.size ep),drawn:=d }) (Heap.get?_push_of_some _ (Heap.get?_push_of_some _ hS)) λ g c2 eS kg=>?_)))
    refine wpAny_pure ⟨plainId_quiet F.plain_extend_loop _,?_⟩
    have lt1:a < (s.heap.push (dJq ps)).objs.size:=by rw [sz];exact Nat.lt_succ_of_lt alt
    have lt2:S < (s.heap.push (dJq ps)).objs.size:=by rw [sz];exact Nat.lt_succ_of_lt slt
    have lt3:s.heap.objs.size < (s.heap.push (dJq ps)).objs.size:=by rw [sz];exact Nat.lt_succ_self _
    have e2:=kg a _ (Ne.symm hSa) e1
    have X2:SW w g a es ep t:=⟨e2,X.fits,X.few,X.led,X.up⟩
    refine xOq (s:={ s with heap:=g,drawn:=d }) (aL6q (T:=s.heap.objs.size) (s:={ s with heap:=g,drawn:=d }) (show A.in1.handled=none from hh) (Nat.ne_of_lt lt1) (Nat.ne_of_lt lt3) ps hpl (λ p hp'=>List.mem_range.mp (hp.mem_iff.mp hp')) X2) (by omega) ?_ ⟨kg _ _ (Nat.ne_of_gt lt2) (Heap.get?_push_size _ rfl),e2,kg _ _ (Nat.ne_of_gt slt) (Heap.get?_push_of_some _ (Heap.get?_push_size _ rfl))⟩ eS λ h' tk acc c' hI hS' kk=>h h' tk d acc c' ?_ hS' λ b o hb e=>kk b o hb ?_ (kg b o hb (Heap.get?_push_of_some _ (Heap.get?_push_of_some _ e)))
    . simp only [List.mem_cons,List.not_mem_nil,or_false,not_or]
      exact ⟨Nat.ne_of_lt lt2,hSa,Nat.ne_of_lt slt⟩
    . rw [lPq (by rw [List.size_toArray,List.length_map];exact hpl) hI,List.toList_toArray]
      exact s6q es ps hp
    . exact Nat.ne_of_lt (Nat.lt_trans (Heap.lt_size e) lt3)
theorem rHq {Q:List Value->Shared->Prop} (hh:A.handled=none) (X:SW w s.heap a es ep t)
    (h:∀ h' tk d (vs:List Value),vs.Perm (es.toList.map (·.2))->(∀ b o,s.heap.get? b=some o->h'.get? b=some o)->Q vs { s with heap:=h',toks:=tk,drawn:=d }):wpAny (model prog w) A (collect (.ref a)) Q E s:=by
  unfold collect
  refine wpAny_bind (wpAny_runValue (codeAny_builtin F.entry_proto_collect ?_))
  rw [Around.under_plainId F.plain_proto_collect _]
  refine (show wpAny (model prog w) A.in1 (newList [] >>= λ l=>again (.builtin "list.__iadd__" ⟨[l,.ref a],[]⟩)) _ _ s from wpAny_bind (wpAny_newObj_type (wpAny_pure ⟨plainId_quiet F.plain_list_iadd _,codeAny_builtin F.entry_list_iadd ?_⟩)))
  rw [Around.under_plainId F.plain_list_iadd _]
  have X1:SW w (s.heap.push (KRv.listAt #[] 0)) a es ep t:=⟨Heap.get?_push_of_some _ X.at_,X.fits,X.few,X.led,X.up⟩
  have fin:∀ s',(∃ h' tk d acc c',s'={ s with heap:=h',toks:=tk,drawn:=d }/\acc.toList.Perm (es.toList.map (·.2))/\h'.get? s.heap.objs.size=some (KRv.listAt acc c')/\∀ b o,s.heap.get? b=some o->h'.get? b=some o) →
      wpAny (model prog w) A (do
        match (← load s.heap.objs.size).data with
        | .seq xs _=>pure xs.toList
        | _=>unsupported "internal:collect") Q E s':=by
    rintro s' ⟨h',tk,d,acc,c',rfl,hp,e,k⟩
    exact wpAny_bind (wpAny_load e (wpAny_pure (h h' tk d acc.toList hp k)))
  refine (show wpAny (model prog w) A.in1 (Builtin.List.listExtendWith (.ref s.heap.objs.size) (.ref a) (.ref s.heap.objs.size)) _ _ _ from ?_)
  refine wpAny_mono (aI1q (s:={ s with heap:=s.heap.push (KRv.listAt #[] 0) }) (R:=λ r s'=>r=.ok (.ret (.ref s.heap.objs.size))/\∃ h' tk d acc c',s'={ s with heap:=h',toks:=tk,drawn:=d }/\acc.toList.Perm (es.toList.map (·.2))/\h'.get? s.heap.objs.size=some (KRv.listAt acc c')/\∀ b o,s.heap.get? b=some o->h'.get? b=some o) hh X1 (Heap.get?_push_size _ rfl) (Nat.ne_of_gt (Heap.lt_size X.at_))
    (λ h' tk d acc c' hp e k=>⟨rfl,h',tk,d,acc,c',rfl,hp,e,λ b o eb=>k b o (Nat.ne_of_lt (Heap.lt_size eb)) (Heap.get?_push_of_some _ eb)⟩)) (λ fn s' h=>?_) (λ e s' h=>absurd h.1 (by simp))
  cases fn with
  | done f=>
    obtain ⟨e,h⟩:=h
    cases e
    exact fin s' h
  | again c'=>exact ⟨h.1,codeAny_mono h.2 λ r s'' hr=>by obtain ⟨rfl,hr⟩:=hr;exact fin s'' hr⟩
end
end KSs
namespace KSs
open PySem PyProof.Rows
section
variable {prog:Program} {w:World} {A:Around} {E:Value->Shared->Prop} {s:Shared} {a:Addr} {es:Array (Int × Value)} {ep:Nat} {t:SetTable}
theorem p3q:∀ {vs:List Value},(∀ v∈vs,∃ u,v=.int (bPq v) u)->IntsAre vs (vs.map bPq)
  | [],_=>IntsAre.nil
  | v::vs,h=>by
    obtain ⟨u,e⟩:=h v (List.mem_cons_self ..)
    rw [List.map_cons,e]
    exact IntsAre.cons _ _ (p3q λ x hx=>h x (List.mem_cons_of_mem _ hx))
theorem sortedS {Q:Value->Shared->Prop} (hh:A.handled=none) (X:SW w s.heap a es ep t) (hall:AllI es.toList) (h64:es.size < 64)
    (h:∀ (h1 h':Heap) (tk:Nat) (d:Drawn) (out:Array Value) (c:Nat) (ns':List Int),IntsAre out.toList ns'->ns'.Perm (keys es)->ns'.Pairwise (·<=·)->(∀ b o,s.heap.get? b=some o->h1.get? b=some o)->(∀ b o,h1.get? b=some o->h'.get? b=some o)->h'.get? h1.objs.size=some (KRv.listAt out c)->Q (.ref h1.objs.size) { s with heap:=h',toks:=tk,drawn:=d }) :
    wpAny (model prog w) A (call (.builtin "sorted") [.ref a]) Q E s:=by
  refine Calls.call_function_entry kind_sorted plain_sorted entry_sorted (args_sorted1 _) ?_
  unfold Builtin.«sorted»
  refine wpAny_bind (m:=checkCount "sorted" 1 1 _) (wpAny_pure (wpAny_bind (rHq (show A.in1.handled=none from hh) X λ h' tk d vs hp k=>?_)))
  have hl:=sizeLine_eq
  have hlen:vs.length=es.size:=by have z:=hp.length_eq;simpa using z
  have hi:IntsAre vs (vs.map bPq):=p3q λ v hv=>by
    obtain ⟨e,he,rfl⟩:=List.mem_map.mp (hp.mem_iff.mp hv)
    exact (hall e he).1
  have hks:(vs.map bPq).Perm (keys es):=by
    have z:=hp.map bPq
    rwa [List.map_map] at z
  have hO:(h'.push (KRv.listAt vs.toArray 0)).get? h'.objs.size=some (KRv.listAt vs.toArray 0):=Heap.get?_push_size _ rfl
  refine wpAny_bind (wpAny_newObj_type ?_ (by show vs.toArray.size<=sizeLine;rw [List.size_toArray];omega))
  refine wpAny_bind (wpAny_holding (wpAny_call_entry slot_list_sort ⟨_,hO,rfl⟩ entry_list_sort (list_sort_tree hO hi (by omega) λ out ns' a1 a2 a3=>⟨_,rfl,?_⟩) (args_list_sort _)))
  obtain ⟨c,hc⟩:=sortedHeap_at (out:=out) hO
  refine wpAny_pure ⟨_,rfl,h h' _ _ _ out c ns' a1 (a2.trans hks) a3 k (λ b o z=>?_) hc⟩
  rw [sortedHeap_old (Nat.ne_of_lt (Heap.lt_size z)) (by rw [Heap.size_push];exact Nat.lt_succ_of_lt (Heap.lt_size z))]
  exact Heap.get?_push_of_some _ z
end
end KSs
namespace L2
open PySem PySem.Spec PyProof.Rows
section
variable {X:Cx} {e:Expr} {te:TE} {p p2 pos pos2:Pos}
theorem Inv.drew {pins:List (Addr × Obj)} {σ:St} {H:Hp} {s:Shared} {d:Drawn} (I:Inv X pins σ H s):Inv X pins σ H { s with drawn:=d }:=⟨I.ok,I.os,I.bare,I.base,I.loc,I.cell,I.free,I.freeC,I.pin,I.hok,I.len⟩
theorem gDq:∀ {ns:List Int} {us:List Value},Vals (ns.map V.int) us->IntsAre us ns
  | [],_,h=>by cases h;exact IntsAre.nil
  | n::ns,_,h=>by
    cases h with
    | cons r rr=>
      obtain ⟨t,rfl⟩:=r
      exact IntsAre.cons _ _ (gDq rr)
def Srt (ns ms:List Int):Prop:=ms.Pairwise (· < ·)/\∀ j,j∈ms ↔ j∈ns
theorem aA1q {ns ms ks:List Int} (hnd:ks.Nodup) (hm:∀ j,j∈ks ↔ j∈ns) (hp:ms.Perm ks) (hs:ms.Pairwise (·<=·)):Srt ns ms:=by
  have nd:ms.Nodup:=hp.nodup_iff.mpr hnd
  refine ⟨?_,λ j=>by rw [hp.mem_iff,hm]⟩
  have z:ms.Pairwise λ a b=>a<=b/\a≠b:=List.pairwise_and_iff.mpr ⟨hs,nd⟩
  exact z.imp λ h=>by omega
def tSS (K:PySem.W.Frag) (te:TE):TE:=λ σ H Q=>te σ H λ x H1=>∃ (l:Addr) (ns:List Int),x=.ref l/\SqL K H1 l (ns.map V.int)/\ns.length < 64/\∀ ms,Srt ns ms->∀ l',H1 l'=none->Q (.ref l') (upd H1 l' (.lst (ms.map V.int)))
theorem h5q {pins:List (Addr × Obj)} {σ:St} {H:Hp} {s:Shared} {a:Addr} {es:Array (Int × Value)} {ep:Nat} {t:SetTable} {Q:VK} {ns:List Int} (hc:X.calm=true) (I:Inv X pins σ H s) (W:KSs.SW X.w s.heap a es ep t) (hall:KSs.AllI es.toList) (hnd:(KSs.keys es).Nodup) (h64:es.size < 64) (hm:∀ j,j∈KSs.keys es ↔ j∈ns)
    (q:∀ ms,Srt ns ms->∀ l',H l'=none->Q (.ref l') (upd H l' (.lst (ms.map V.int)))):wpAny (model X.prog X.w) X.A (call (.builtin "sorted") [.ref a]) (EP X pins σ Q) X.xe s:=by
  have hl:=sizeLine_eq
  refine KSs.sortedS (I.ok.hd hc) W hall h64 λ h1 h' tk d out c ms a1 a2 a3 k1 k2 e=>?_
  have I1:Inv X pins σ H { s with heap:=h1 }:=I.kept (t':=s.toks) k1
  have len:ms.length<=sizeLine:=by
    have z:=a2.length_eq
    have z2:(KSs.keys es).length=es.size:=by simp [KSs.keys]
    omega
  have I2:Inv X pins σ (upd H h1.objs.size (.lst (ms.map V.int))) { s with heap:=h',toks:=tk }:=
    I1.laid (t':=tk) k2 (Nat.le_refl _) (show ObjOk X.prog X.w _ h' _ (.lst (ms.map V.int)) from ⟨by rw [List.length_map];exact len,out.toList,c,eXq a1,by simpa using e⟩)
  exact ⟨.ref h1.objs.size,_,I2.drew (d:=d),rfl,q ms (aA1q hnd hm a2 a3) _ (I1.hok.fresh (Nat.le_refl _))⟩
theorem zOq {pins:List (Addr × Obj)} {s:Shared} {σ:St} {H:Hp} {R:Addr->List Int->Hp->Prop} (hc:X.calm=true) (hg:Gl X "set") (hm:X.mg "set" = none) (he:PE X e te) (hs:aLq e=true) (I:Inv X pins σ H s)
    (h:te σ H λ x H1=>∃ (l:Addr) (ns:List Int),x=.ref l/\SqL X.K H1 l (ns.map V.int)/\ns.length < 64/\R l ns H1) :
    wpAny (model X.prog X.w) X.A (eval (.Call (.Name "set" p2) [e] [] pos2) X.env) (λ v s'=>∃ (l S:Addr) (ns:List Int) (H1:Hp) (es:Array (Int × Value)) (ep:Nat) (t:SetTable),v=.ref S/\Inv X pins σ H1 s'/\KSs.SX X.w s'.heap S es ep t/\H1 S=none/\es.size<=ns.length/\ns.length < 64/\(∀ j,j∈KSs.keys es ↔ j∈ns)/\R l ns H1) X.xe s:=by
  refine wpAny_Call_Name_kw (c0q I hg hm PyProof.Rows.boot_set ?_)
  refine PyProof.Rows.callWith_type1 ?_ (a9q hs) rfl
  rw [a9q hs]
  show wpAny _ _ (spliced ((false,eval e X.env)::backTo pos2 (starEach [] X.env))) _ _ s
  refine Calls.spliced_cons (thn (he pins s σ H _ I h) λ u s1 ⟨x,H1,I1,r1,l,ns,ex,hq,hl,q⟩=>Calls.spliced_nil ?_)
  subst ex
  cases r1
  obtain ⟨its,rv,pl,hz⟩:=I1.list hq
  have hlen:=rv.length
  rw [List.length_map] at hlen
  refine KSs.ofList (items:=its.toArray) (ns:=ns) (I1.ok.hd hc) pl.isList (by simpa using gDq rv) (by rw [List.size_toArray];omega) λ h' tk es ep t SX z m k=>?_
  exact ⟨l,s1.heap.objs.size,ns,H1,es,ep,t,rfl,I1.kept (t':=tk) k,SX,I1.hok.fresh (Nat.le_refl _),by have y:its.toArray.size=its.length:=List.size_toArray;omega,hl,m,q⟩
theorem k3q (hc:X.calm=true) (hgs:Gl X "sorted") (hms:X.mg "sorted" = none) (hg:Gl X "set") (hm:X.mg "set" = none) (he:PE X e te) (hs:aLq e=true):PE X (.Call (.Name "sorted" p) [.Call (.Name "set" p2) [e] [] pos2] [] pos) (tSS X.K te):=by
  intro pins s σ H Q I h
  refine wpAny_Call_Name_kw (c0q I hgs hms PyProof.Rows.boot_sorted ?_)
  refine PyProof.Rows.callWith_builtin1 ?_ (a9q rfl) rfl
  rw [a9q rfl]
  show wpAny _ _ (spliced ((false,eval (.Call (.Name "set" p2) [e] [] pos2) X.env)::backTo pos (starEach [] X.env))) _ _ s
  refine Calls.spliced_cons (thn (zOq (R:=λ _ ns H1=>∀ ms,Srt ns ms->∀ l',H1 l'=none->Q (.ref l') (upd H1 l' (.lst (ms.map V.int)))) hc hg hm he hs I h) λ v s1 h1=>Calls.spliced_nil ?_)
  obtain ⟨l,S,ns,H1,es,ep,t,rfl,I1,SX,_,z,hl,m,q⟩:=h1
  exact h5q hc I1 SX.sw SX.all SX.nd (by omega) m q
end
end L2
namespace L3
open PySem PyProof L2
section
variable {X:Cx} {e:Expr} {te:DTE} {p p2 pos pos2:Pos}
abbrev dSS (te:DTE):DTE:=λ ρ G Q=>te ρ G λ x G1=>match x with
  | .ref l=>onL G1 l λ ds=>∃ ns,eCq ds=some ns/\ns.length < 64/\∀ ms,Srt ns ms->∀ l',G1 l'=none->Q (.ref l') (up G1 l' (.lst (ms.map D.int)))
  | _=>False
theorem jFq (hgs:Gl X "sorted") (hms:X.mg "sorted" = none) (hg:Gl X "set") (hm:X.mg "set" = none) (he:AE X e te) (hc:X.calm=true:=by rfl) (hs:aLq e=true:=by rfl):AE X (.Call (.Name "sorted" p) [.Call (.Name "set" p2) [e] [] pos2] [] pos) (dSS te):=by
  obtain ⟨ce,je,re⟩:=he.run
  refine ⟨_,⟨k3q hc hgs hms hg hm je.run hs⟩,λ ρ G DQ σ H Q B q F=>re ρ G _ σ H _ B q λ x G1 v H1 g1 ax q1=>?_⟩
  cases x with
  | ref l=>
    cases ax
    obtain ⟨ds,vs,⟨ns,e1,hl,k⟩,s,rl⟩:=bDq g1.vw q1
    rw [fWq e1] at rl
    rw [rl.ints] at s
    exact ⟨l,ns,rfl,s,hl,λ ms hs l' hl'=>F (.ref l') _ _ _ (g1.trans (Go.newL g1.vw hl' (AbsL.of_ints ms))) rfl (k ms hs l' (g1.vw.none hl'))⟩
  | _=>exact (show False from q1).elim
end
end L3
namespace L2
open PySem PySem.Spec PyProof.Rows
section
variable {X:Cx}
end
end L2
namespace L3
open PySem PyProof L2
section
variable {X:Cx}
end
end L3
namespace KSs
open PySem PyProof.Rows
section
variable {prog:Program} {w:World} {A:Around} {E:Value->Shared->Prop} {s:Shared} {a:Addr} {es:Array (Int × Value)} {ep:Nat} {t:SetTable}
structure SR (w:World) (h:Heap) (a:Addr) (es:Array (Int × Value)) (ep:Nat) (t:SetTable):Prop extends SW w h a es ep t where
  all:AllI es.toList
theorem SX.sr {h:Heap} (X:SX w h a es ep t):SR w h a es ep t:=⟨X.sw,X.all⟩
theorem SX.mono {h h':Heap} (X:SX w h a es ep t) (e:h'.get? a=some (setAt es ep t)):SX w h' a es ep t:=⟨e,X.all,X.nd,X.fits,X.few,X.cl⟩
theorem z5q {k:Int} {u:Tok} {Q:Option Nat->Shared->Prop} (X:SR w s.heap a es ep t) (h:Q (es.toList.findIdx? λ e=>(intKind prog w).is k e.2) s):wpAny (model prog w) A (setFind a (.int k u) (hashInt k)) Q E s:=by
  have els:=X.all.elems (prog:=prog) (w:=w)
  have sb:es.size < scanBound:=by have:=X.few;unfold scanBound;omega
  unfold setFind setFindIn
  refine wpAny_bind (wpAny_setState_of X.at_ rfl X.fits ?_)
  dsimp only
  rw [byScan_of (knd:=intKind prog w) (x:=.int k u) rfl sb els,if_pos rfl]
  refine wpAny_bind (wpAny_rule (wpAny_bind (wpAny_setScan_of (knd:=intKind prog w) (k:=k) (intKind_is _ _ _ _) X.at_ rfl X.fits els ?_)))
  cases hi:List.findIdx? (λ e=>(intKind prog w).is k e.2) es.toList with
  | some j=>rw [hi] at h;dsimp only;rw [Nat.zero_add];exact wpAny_pure h
  | none=>rw [hi] at h;exact wpAny_pure h
theorem oEq (hall:AllI es.toList) (k:Int):(es.toList.findIdx? λ e=>(intKind prog w).is k e.2).isSome=decide (k∈keys es):=by
  rw [Bool.eq_iff_iff,decide_eq_true_eq]
  have z:(es.toList.findIdx? λ e=>(intKind prog w).is k e.2).isSome=true ↔ ∃ e∈es.toList,(intKind prog w).is k e.2=true:=by
    rw [List.findIdx?_isSome,List.any_eq_true]
  rw [z,hall.met]
theorem aB7q {Q:Array (Int × Value)->Shared->Prop} (X:SW w s.heap a es ep t) (h:∀ (xs:Array (Int × Value)) (d:Drawn),xs.toList.Perm es.toList->Q xs { s with drawn:=d }):wpAny (model prog w) A (setWalk a) Q E s:=by
  unfold setWalk
  refine wpAny_bind (wpAny_setState_of X.at_ rfl X.fits (wpAny_bind (qOq _ ?_)))
  cases hb:byT w with
  | true=>rw [if_pos rfl];exact wpAny_bind (wpAny_askSetting (wpAny_pure (h _ s.drawn (jEq _ es))))
  | false=>
    rw [if_neg (by simp)]
    refine (show wpAny (model prog w) A (if (!t.plain&&decide (es.size > 1))=true then _ else _) _ _ s from ?_)
    split
    . exact wpAny_bind (draw _ _ _ _ (by simp) λ ys d hp=>wpAny_pure (h ys.toArray d (by simpa using hp)))
    . refine (show wpAny (model prog w) A ((if (!t.led&&decide (es.size > 1))=true then unsupported "set:maker-not-led" else pure ()) >>= λ _=>_) _ _ s from ?_)
      rw [X.led hb,if_neg (by simp)]
      exact wpAny_bind (wpAny_pure (wpAny_pure (h es s.drawn (.refl _))))
theorem zVq:∀ (as:List Addr) (s:Shared) (Q:Bool->Shared->Prop),(∀ b∈as,∃ es ep t,SR w s.heap b es ep t)->Q true s->wpAny (model prog w) A (setsQuiet as) Q E s:=by
  intro as s Q hs q
  unfold setsQuiet
  refine wpAny_bind (wpAny_forIn_list _ (λ rest r s'=>r=(none,PUnit.unit)/\s'=s/\∀ b∈rest,∃ es ep t,SR w s.heap b es ep t) _ ?_ ?_ _ _ ⟨rfl,rfl,hs⟩)
  . rintro b rest r s' ⟨rfl,rfl,hr⟩
    obtain ⟨es,ep,t,X⟩:=hr b (List.mem_cons_self ..)
    refine wpAny_bind (wpAny_setEntries_of X.at_ rfl X.fits ?_)
    refine wpAny_bind (wpAny_mono (MeetsSeq2.wpAny_forIn_array _ (λ rs r s2=>r=(none,PUnit.unit)/\s2=s'/\∀ e∈rs,∃ u,e.2=.int (bPq e.2) u) (λ r s2=>r=(none,PUnit.unit)/\s2=s') ?zt (λ r s2 h=>⟨h.1,h.2.1⟩) es _ ⟨rfl,rfl,λ e he=>(X.all e he).1⟩) ?zp λ _ _ h=>h)
    case zt=>
      rintro e rs r s2 ⟨rfl,rfl,h2⟩
      obtain ⟨e1,e2⟩:=e
      obtain ⟨u,hu⟩:=h2 (e1,e2) (List.mem_cons_self ..)
      dsimp only at hu ⊢
      rw [hu]
      exact wpAny_pure ⟨rfl,rfl,λ e he=>h2 e (List.mem_cons_of_mem _ he)⟩
    case zp=>
      rintro r s2 ⟨rfl,rfl⟩
      exact wpAny_pure ⟨rfl,rfl,λ b hb=>hr b (List.mem_cons_of_mem _ hb)⟩
  . rintro r s' ⟨rfl,rfl,_⟩
    exact wpAny_pure q
theorem aI3q {f:Addr} {os:List Addr} {ef:Array (Int × Value)} {pf:Nat} {tf:SetTable} {Q:Array (Int × Value)->Shared->Prop} (X:SR w s.heap a es ep t) (hos:∀ b∈os,∃ es ep t,SR w s.heap b es ep t) (Y:SX w s.heap f ef pf tf)
    (h:∀ (xs:Array (Int × Value)) (h':Heap) (d:Drawn) (pf':Nat) (tf':SetTable),xs.toList.Perm es.toList->Heap.SameBut f s.heap h'->SX w h' f ef pf' tf'->Q xs { s with heap:=h',drawn:=d }):wpAny (model prog w) A (setWalkUnseen a os (some f)) Q E s:=by
  unfold setWalkUnseen
  refine wpAny_bind (wpAny_setState_of X.at_ rfl X.fits (wpAny_bind (qOq _ ?_)))
  have byWalk:wpAny (model prog w) A (setWalk a) Q E s:=aB7q X.toSW λ xs d hp=>h xs s.heap d pf tf hp (Heap.SameBut.refl f _) Y
  split
  . exact byWalk
  . next c=>
    have hb:byT w=false:=by
      cases e:byT w with
      | false=>rfl
      | true=>rw [e] at c;exact absurd rfl c
    refine wpAny_bind (zVq _ s _ (λ b hb=>?_) ?_)
    . rcases List.mem_cons.mp hb with rfl | hb
      . exact ⟨es,ep,t,X⟩
      . exact hos b hb
    rw [if_neg (by simp)]
    refine wpAny_bind (wpAny_rule ?_)
    refine wpAny_bind (wpAny_setState_of Y.at_ rfl Y.fits ?_)
    dsimp only
    split
    . refine wpAny_bind (wpAny_storeSet_of Y.at_ rfl (wpAny_pure ?_) (eTq Y.few))
      refine h es _ s.drawn (pf+1) _ (.refl _) (Heap.SameBut.update s.heap f _) ⟨e5q Y.at_ _ _,Y.all,Y.nd,Y.fits,Y.few,Y.cl.up,λ z=>?_,Y.cl.nod⟩
      show (tf.led&&t.led)=true
      rw [Y.cl.led z,X.led z];rfl
    . exact wpAny_pure (h es s.heap s.drawn pf tf (.refl _) (Heap.SameBut.refl f _) Y)
theorem x3q (X:SW w s.heap a es ep t) {Q:Value->Shared->Prop} (h:Q (.type "set") s):wpAny (model prog w) A (Builtin.Frozenset.baseOf a) Q E s:=by
  unfold Builtin.Frozenset.baseOf
  refine wpAny_bind (wpAny_isInstance (tyS X) sub_set_self (wpAny_pure ?_))
  rw [if_pos rfl];exact h
theorem o3q {Q:Value->Shared->Prop} (h:Q (.ref s.heap.objs.size) { s with heap:=s.heap.push (hAq w) }):wpAny (model prog w) A (newSet (.type "set")) Q E s:=by
  unfold newSet
  refine wpAny_bind (qOq _ ?_)
  unfold newObj
  exact wpAny_bind (wpAny_alloc (wpAny_pure h))
theorem anyS (X:SW w s.heap a es ep t) {Q:Bool->Shared->Prop} (h:Q true s):wpAny (model prog w) A (Builtin.Frozenset.isAnySet (.ref a)) Q E s:=by
  unfold Builtin.Frozenset.isAnySet
  refine (show wpAny (model prog w) A (isInstance (.ref a) (.type "set") >>= λ(b:Bool)=>_) _ _ s from wpAny_bind (wpAny_isInstance (tyS X) sub_set_self ?_))
  exact wpAny_pure h
theorem vAq {id:String} (X:SW w s.heap a es ep t) {Q:Unit->Shared->Prop} (h:Q () s):wpAny (model prog w) A (Builtin.Frozenset.unchanged id a ep) Q E s:=by
  unfold Builtin.Frozenset.unchanged
  refine wpAny_bind (wpAny_setEpoch_of X.at_ rfl X.fits ?_)
  rw [if_neg (by simp)]
  exact wpAny_pure h
theorem rTq (X:SW w s.heap a es ep t) {Q:Nat->Shared->Prop} (h:Q es.size s):wpAny (model prog w) A (Builtin.Frozenset.sizeOf a) Q E s:=by
  unfold Builtin.Frozenset.sizeOf
  exact wpAny_bind (wpAny_setEntries_of X.at_ rfl X.fits (wpAny_pure h))
end
end KSs
namespace KSs
open PySem PyProof.Rows
def nx (S i:Nat):Nat:=(i * 5+1) % S
def orb (S:Nat):Nat->Nat->List Nat
  | 0,_=>[]
  | n+1,i=>i::orb S n (nx S i)
def itn (S:Nat):Nat->Nat->Nat
  | 0,i=>i
  | n+1,i=>itn S n (nx S i)
theorem oUq (S:Nat):∀ (n i b:Nat),b < n->(orb S n i)[b]?=some (itn S b i)
  | 0,_,_,h=>by omega
  | n+1,i,0,_=>rfl
  | n+1,i,b+1,h=>by rw [orb,List.getElem?_cons_succ,oUq S n _ b (by omega)];rfl
theorem l9q (S:Nat):∀ n i,(orb S n i).length=n
  | 0,_=>rfl
  | n+1,i=>by rw [orb,List.length_cons,l9q S n]
theorem hWq (S:Nat):∀ (a b i:Nat),itn S (a+b) i=itn S b (itn S a i)
  | 0,b,i=>by rw [Nat.zero_add];rfl
  | a+1,b,i=>by rw [show a+1+b=(a+b)+1 by omega,itn,hWq S a b];rfl
def i7q (S:Nat):Bool:=((List.range S).all λ f=>(orb S S 0).contains f)&&itn S S 0==0
theorem mPq {S:Nat} (h:i7q S=true) {i f:Nat} (hi:i < S) (hf:f < S):∃ m,m < S/\itn S m i=f:=by
  unfold i7q at h
  rw [Bool.and_eq_true,List.all_eq_true,beq_iff_eq] at h
  have at_:∀ x,x < S->∃ b,b < S/\itn S b 0=x:=λ x hx=>by
    have z:=h.1 x (List.mem_range.mpr hx)
    have z2:x∈orb S S 0:=by simpa using z
    obtain ⟨b,hb,e⟩:=List.getElem_of_mem z2
    rw [l9q] at hb
    refine ⟨b,hb,?_⟩
    have e2:=oUq S S 0 b hb
    rw [List.getElem?_eq_getElem (by rw [l9q];exact hb),e] at e2
    exact (Option.some.inj e2).symm
  obtain ⟨a,ha,rfl⟩:=at_ i hi
  obtain ⟨b,hb,rfl⟩:=at_ f hf
  rcases Nat.lt_or_ge b a with c | c
  . refine ⟨S - a+b,by omega,?_⟩
    rw [<- hWq,show a+(S - a+b)=S+b by omega,hWq,h.2]
  . exact ⟨b - a,by omega,by rw [<- hWq,show a+(b - a)=b by omega]⟩
theorem y4q:i7q 32=true:=by decide +kernel
theorem aD6q:i7q 64=true:=by decide +kernel
theorem uKq:i7q 128=true:=by decide +kernel
theorem qYq {mask:Nat} {ow:Array (Option Nat)} {i p fuel:Nat} (h:ow.getD i (some 0)=none):∃ j,SetTable.layClean.free mask ow (fuel+1) i p=some j:=by
  unfold SetTable.layClean.free
  have z:((List.range (SetTable.runEnd mask i+1 - i)).find? λ k=>(ow.getD (i+k) (some 0)).isNone).isSome=true:=by
    rw [List.find?_isSome]
    refine ⟨0,List.mem_range.mpr ?_,by rw [Nat.add_zero,h];rfl⟩
    unfold SetTable.runEnd;split<;>omega
  cases e:(List.range (SetTable.runEnd mask i+1 - i)).find? λ k=>(ow.getD (i+k) (some 0)).isNone with
  | none=>rw [e] at z;cases z
  | some k=>exact ⟨i+k,rfl⟩
theorem gTq {mask:Nat} {ow:Array (Option Nat)} {i p fuel:Nat} (h:∃ j,SetTable.layClean.free mask ow fuel (SetTable.leap mask i p).1 (SetTable.leap mask i p).2=some j):∃ j,SetTable.layClean.free mask ow (fuel+1) i p=some j:=by
  rw [SetTable.layClean.free]
  cases e:(List.range (SetTable.runEnd mask i+1 - i)).find? λ k=>(ow.getD (i+k) (some 0)).isNone with
  | none=>exact h
  | some k=>exact ⟨i+k,rfl⟩
theorem lJq {mask:Nat} {ow:Array (Option Nat)}:∀ (m i fuel:Nat),m < fuel->ow.getD (itn (mask+1) m i) (some 0)=none->∃ j,SetTable.layClean.free mask ow fuel i 0=some j
  | 0,i,fuel+1,_,h=>qYq h
  | m+1,i,fuel+1,hm,h=>by
    refine gTq ?_
    have e:SetTable.leap mask i 0=(nx (mask+1) i,0):=by unfold SetTable.leap nx;simp
    rw [e]
    exact lJq m _ fuel (by omega) h
theorem mAq {mask:Nat} {ow:Array (Option Nat)} (hS:i7q (mask+1)=true) {f:Nat} (hf:f<=mask) (hfr:ow.getD f (some 0)=none):∀ (n i p fuel:Nat),p < 32 ^ n->i<=mask->n+mask+1<=fuel->∃ j,SetTable.layClean.free mask ow fuel i p=some j
  | 0,i,p,fuel,hp,hi,hfu=>by
    have:p=0:=by simp at hp;exact hp
    subst this
    obtain ⟨m,hm,e⟩:=mPq hS (i:=i) (f:=f) (by omega) (by omega)
    exact lJq m i fuel (by omega) (by rw [e];exact hfr)
  | n+1,i,p,fuel,hp,hi,hfu=>by
    obtain ⟨k,rfl⟩:∃ k,fuel=k+1:=⟨fuel - 1,by omega⟩
    refine gTq (mAq hS hf hfr n _ _ k ?_ ?_ (by omega))
    . show p / 32 < 32 ^ n
      rw [Nat.div_lt_iff_lt_mul (by decide)]
      rw [Nat.pow_succ] at hp;exact hp
    . show (i * 5+1+p / 32) % (mask+1)<=mask
      have:=Nat.mod_lt (i * 5+1+p / 32) (show 0 < mask+1 by omega)
      omega
theorem q6q {mask:Nat} {ow:Array (Option Nat)}:∀ (fuel i p j:Nat),SetTable.layClean.free mask ow fuel i p=some j->ow.getD j (some 0)=none
  | 0,_,_,_,h=>by cases h
  | fuel+1,i,p,j,h=>by
    rw [SetTable.layClean.free] at h
    cases e:(List.range (SetTable.runEnd mask i+1 - i)).find? λ k=>(ow.getD (i+k) (some 0)).isNone with
    | none=>rw [e] at h;exact q6q fuel _ _ j h
    | some k=>
      rw [e] at h
      cases h
      have z:=List.find?_some e
      cases q:ow.getD (i+k) (some 0) with
      | none=>rfl
      | some y=>rw [q] at z;cases z
def nXq (ow:Array (Option Nat)):List Nat:=ow.toList.filterMap id
theorem qVq {ow:Array (Option Nat)} {j k:Nat} (h:ow.getD j (some 0)=none):(nXq (ow.setIfInBounds j (some k))).Perm (k::nXq ow)/\j < ow.size:=by
  have lt:j < ow.size:=by
    rcases Nat.lt_or_ge j ow.size with z | z
    . exact z
    . simp [Array.getD,Nat.not_lt.mpr z] at h
  have hj:ow[j]=none:=by simpa [Array.getD,lt] using h
  refine ⟨?_,lt⟩
  unfold nXq
  have e0:ow.toList=ow.toList.take j++ow.toList[j]'(by simpa using lt)::ow.toList.drop (j+1):=by
    rw [<- List.drop_eq_getElem_cons (by simpa using lt),List.take_append_drop]
  have e1:(ow.setIfInBounds j (some k)).toList=ow.toList.take j++some k::ow.toList.drop (j+1):=by
    rw [Array.toList_setIfInBounds,List.set_eq_take_append_cons_drop,if_pos (by simpa using lt)]
  have hj2:ow.toList[j]'(by simpa using lt)=none:=by simpa using hj
  rw [hj2] at e0
  rw [e1]
  conv=>rhs;rw [e0]
  simp only [List.filterMap_append,List.filterMap_cons,id]
  exact List.perm_middle
theorem rGq (ow:Array (Option Nat)) (h:∀ f,f < ow.size->ow.getD f (some 0)≠none):(nXq ow).length=ow.size:=by
  unfold nXq
  rw [<- Array.length_toList]
  have:∀ l:List (Option Nat),(∀ x∈l,x≠none)->(l.filterMap id).length=l.length:=λ l=>by
    induction l with
    | nil=>intro _;rfl
    | cons x l ih=>
      intro hx
      cases x with
      | none=>exact absurd rfl (hx none (List.mem_cons_self ..))
      | some y=>simp only [List.filterMap_cons,id,List.length_cons];rw [ih λ z hz=>hx z (List.mem_cons_of_mem _ hz)]
  refine this _ λ x hx=>?_
  obtain ⟨i,hi,e⟩:=List.getElem_of_mem hx
  have hi2:i < ow.size:=by simpa using hi
  have z:=h i hi2
  rw [<- e]
  simpa [Array.getD,hi2] using z
theorem n8q {mask:Nat} (hS:i7q (mask+1)=true):∀ (hs:List Int) (ow:Array (Option Nat)) (k:Nat),ow.size=mask+1->(nXq ow).Perm (List.range k)->k+hs.length<=mask →
    ∃ ow',(hs.foldl (λ acc h=>do let (owner,k) ← acc;let j ← SetTable.layClean.free mask owner (SetTable.turns mask) (SetTable.bits h % (mask+1)) (SetTable.bits h);pure (owner.setIfInBounds j (some k),k+1)) (some (ow,k)))=some (ow',k+hs.length)/\ow'.size=mask+1/\(nXq ow').Perm (List.range (k+hs.length))
  | [],ow,k,h1,h2,_=>⟨ow,rfl,h1,h2⟩
  | h::hs,ow,k,h1,h2,h3=>by
    have ex:∃ f,f<=mask/\ow.getD f (some 0)=none:=by
      apply Classical.byContradiction
      intro c
      have z:=rGq ow λ f hf q=>c ⟨f,by omega,q⟩
      rw [h2.length_eq,List.length_range] at z
      simp only [List.length_cons] at h3
      omega
    obtain ⟨f,hf,hfr⟩:=ex
    have hb:SetTable.bits h < 32 ^ 13:=by
      unfold SetTable.bits
      have z:(h % (2 ^ 64:Int)).toNat < 2 ^ 64:=by
        have:=Int.emod_lt_of_pos h (show (0:Int) < 2 ^ 64 by decide)
        have:=Int.emod_nonneg h (show (2 ^ 64:Int)≠0 by decide)
        omega
      exact Nat.lt_of_lt_of_le z (by decide)
    obtain ⟨j,hj⟩:=mAq hS hf hfr 13 (SetTable.bits h % (mask+1)) (SetTable.bits h) (SetTable.turns mask) hb (by have:=Nat.mod_lt (SetTable.bits h) (show 0 < mask+1 by omega);omega) (by unfold SetTable.turns;omega)
    obtain ⟨lp,_⟩:=qVq (k:=k) (q6q _ _ _ _ hj)
    have step:((do let (owner,k) ← some (ow,k);let j ← SetTable.layClean.free mask owner (SetTable.turns mask) (SetTable.bits h % (mask+1)) (SetTable.bits h);pure (owner.setIfInBounds j (some k),k+1)):Option (Array (Option Nat) × Nat))=some (ow.setIfInBounds j (some k),k+1):=by
      show (SetTable.layClean.free mask ow (SetTable.turns mask) (SetTable.bits h % (mask+1)) (SetTable.bits h) >>= λ j=>pure (ow.setIfInBounds j (some k),k+1))=_
      rw [hj];rfl
    rw [List.foldl_cons,step]
    obtain ⟨ow',e1,e2,e3⟩:=n8q hS hs (ow.setIfInBounds j (some k)) (k+1) (by rw [Array.size_setIfInBounds];exact h1) (by rw [List.range_succ];exact lp.trans ((h2.cons k).trans (List.perm_append_singleton k (List.range k)).symm)) (by simp only [List.length_cons] at h3;omega)
    exact ⟨ow',by rw [e1,List.length_cons];congr 2;omega,e2,by rw [List.length_cons,show k+(hs.length+1)=k+1+hs.length by omega];exact e3⟩
end KSs
namespace KSs
open PySem PyProof.Rows
theorem m8q {mask:Nat} {ow:Array (Option Nat)} (h:ow.size=mask+1):(((List.range (mask+1)).filterMap λ j=>(ow.getD j none).map (j,·)).map (·.2))=nXq ow:=by
  rw [List.map_filterMap]
  have e:(λ j=>Option.map (λ(x:Nat × Nat)=>x.2) ((ow.getD j none).map (j,·)))=λ j=>ow.getD j none:=by
    funext j;cases ow.getD j none<;>rfl
  rw [e]
  unfold nXq
  rw [<- h]
  have e2:ow.toList=(List.range ow.size).map λ j=>ow.getD j none:=by
    apply List.ext_getElem?
    intro i
    rw [List.getElem?_map]
    by_cases c:i < ow.size
    . rw [List.getElem?_range c,Array.getElem?_toList,Array.getElem?_eq_getElem c];simp [Array.getD,c]
    . rw [List.getElem?_eq_none (by simpa using c),List.getElem?_eq_none (by simpa using c)];rfl
  rw [e2,List.filterMap_map]
  rfl
theorem oKq {mask finger moves:Nat} {led plain:Bool} (hS:i7q (mask+1)=true) (hs:Array Int) (hn:hs.size<=mask):∃ t' order,SetTable.laid mask finger moves led plain hs=some (t',order)/\order.toList.Perm (List.range hs.size)/\t'.place.size=hs.size/\t'.mask=mask/\t'.dummies=#[]/\t'.led=led/\Up t'.place:=by
  have l0:(nXq (Array.replicate (mask+1) none)).Perm (List.range 0):=by simp [nXq]
  obtain ⟨ow,e1,e2,e3⟩:=n8q hS hs.toList (Array.replicate (mask+1) none) 0 (by simp) l0 (by simpa using hn)
  have ec:SetTable.layClean mask hs=some ow:=by
    unfold SetTable.layClean
    rw [<- Array.foldl_toList,e1];rfl
  unfold SetTable.laid
  rw [ec]
  simp only [Option.pure_def,Option.bind_eq_bind,Option.bind_some]
  rw [Nat.zero_add,Array.length_toList] at e3
  refine ⟨_,_,rfl,?_,?_,rfl,rfl,rfl,?_⟩
  . rw [List.toList_toArray,m8q e2];exact e3
  . show (List.toArray _).size=_
    have z:=congrArg List.length (m8q e2)
    rw [List.length_map] at z
    rw [List.size_toArray,List.length_map,z,e3.length_eq,List.length_range]
  . show ((List.map _ _).toArray.toList).Pairwise _
    rw [List.toList_toArray]
    exact (List.pairwise_lt_range (n:=mask+1)).sublist (eRq (λ j=>ow.getD j none) _)
theorem sWq:∀ n,n < 64->8<=n->(SetTable.sizeAbove (n * 2)=32\/SetTable.sizeAbove (n * 2)=64\/SetTable.sizeAbove (n * 2)=128)/\n < SetTable.sizeAbove (n * 2):=by decide +kernel
theorem p5q {n:Nat} (h1:n < 64) (h2:8<=n):i7q (SetTable.sizeAbove (n * 2) - 1+1)=true/\31<=SetTable.sizeAbove (n * 2) - 1/\n<=SetTable.sizeAbove (n * 2) - 1/\SetTable.sizeAbove (n * 2)<=128:=by
  obtain ⟨h | h | h,z⟩:=sWq n h1 h2<;>rw [h] at z ⊢
  . exact ⟨y4q,by omega,by omega,by omega⟩
  . exact ⟨aD6q,by omega,by omega,by omega⟩
  . exact ⟨uKq,by omega,by omega,by omega⟩
theorem mZq {es:Array (Int × Value)} {order:Array Nat} (h:order.toList.Perm (List.range es.size)):(order.filterMap (es[·]?)).toList.Perm es.toList:=by
  rw [Array.toList_filterMap]
  refine (h.filterMap _).trans ?_
  rw [filterMap_getElem?_range]
section
variable {prog:Program} {w:World} {A:Around} {E:Value->Shared->Prop} {s:Shared} {a:Addr} {es:Array (Int × Value)} {ep:Nat} {t:SetTable}
theorem aM8q {Q:Value->Shared->Prop} (X:SX w s.heap a es ep t) (h8:8<=es.size) (h64:es.size < 64)
    (h:∀ h' er pr tr,SX w h' s.heap.objs.size er pr tr->er.toList.Perm es.toList->4<=tr.mask->(∀ b o,s.heap.get? b=some o->h'.get? b=some o)->Q (.ref s.heap.objs.size) { s with heap:=h' }):wpAny (model prog w) A (Builtin.Frozenset.copyOf a) Q E s:=by
  have hl:=sizeLine_eq
  obtain ⟨f1,f2,f3,f4⟩:=p5q h64 h8
  have alt:=Heap.lt_size X.at_
  unfold Builtin.Frozenset.copyOf
  refine wpAny_bind (x3q X.sw (wpAny_bind (o3q ?_)))
  have eR:(s.heap.push (hAq w)).get? s.heap.objs.size=some (hAq w):=Heap.get?_push_size _ rfl
  have eA:(s.heap.push (hAq w)).get? a=some (setAt es ep t):=Heap.get?_push_of_some _ X.at_
  refine (show wpAny (model prog w) A (setMerge s.heap.objs.size a >>= _) _ _ _ from wpAny_bind ?_)
  unfold setMerge
  rw [if_neg (by simpa using Nat.ne_of_gt alt)]
  refine wpAny_bind (wpAny_setState_of eA rfl X.fits ?_)
  have hne:es.isEmpty=false:=by rw [Array.isEmpty_eq_false_iff];intro z;rw [z] at h8;simp at h8
  dsimp only
  rw [hne,if_neg (by simp)]
  refine wpAny_bind ?_
  unfold setRoomFor
  refine wpAny_bind (wpAny_setState_of eR rfl rfl ?_)
  have er:(SetTable.fresh 0 0 (!byT w)).roomFor es.size=some (es.size * 2):=by
    unfold SetTable.roomFor SetTable.fill SetTable.fresh
    rw [if_pos (by simp;omega)];simp
  rw [er]
  dsimp only
  unfold setRelay
  refine wpAny_bind (wpAny_setState_of eR rfl rfl ?_)
  dsimp only
  rw [if_neg (by omega)]
  obtain ⟨t0,o0,l1,l2,l3,l4,l5,l6,l7⟩:=oKq (finger:=0) (moves:=SetTable.movedTo (.fresh 0 0 (!byT w)) (SetTable.sizeAbove (es.size * 2) - 1)) (led:=!byT w) (plain:=true) f1 #[] (Nat.zero_le _)
  have ho0:o0=#[]:=by
    have:o0.toList=[]:=by simpa using l2
    exact Array.toList_eq_nil_iff.mp this
  have rl:SetTable.relaid (.fresh 0 0 (!byT w)) ((#[]:Array (Int × Value)).map (·.1)) (es.size * 2)=some (t0,#[]):=by
    rw [<- ho0,show ((#[]:Array (Int × Value)).map (·.1))=#[] by simp];exact l1
  rw [rl]
  refine (show wpAny (model prog w) A (pure ((#[]:Array (Int × Value)),t0) >>= λ x=>storeSet s.heap.objs.size x.1 x.2) _ _ _ from wpAny_bind (wpAny_pure (wpAny_storeSet_of eR rfl ?_ (by simp))))
  have e1:=e5q eR #[] t0
  have t0f:t0.fits 0=true:=by unfold SetTable.fits SetTable.fill;rw [l3,l5,l4];simp
  have k1:∀ b o,s.heap.get? b=some o->((s.heap.push (hAq w)).update s.heap.objs.size (Obj.putSet #[] t0)).get? b=some o:=λ b o e=>(Heap.get?_update_other _ _ (Nat.ne_of_gt (Heap.lt_size e))).trans (Heap.get?_push_of_some _ e)
  refine wpAny_bind (wpAny_setState_of e1 rfl t0f ?_)
  dsimp only
  have fill0:t0.fill=0:=by unfold SetTable.fill;rw [l3,l5];simp
  have fin:∀ er tr,AllI er.toList->er.toList.Perm es.toList->tr.fits er.size=true->Cl (byT w) tr->4<=tr.mask->wpAny (model prog w) A (storeSet s.heap.objs.size er tr) (λ _ s'=>wpAny (model prog w) A (pure (Value.ref s.heap.objs.size)) Q E s') E { s with heap:=(s.heap.push (hAq w)).update s.heap.objs.size (Obj.putSet #[] t0) }:=λ er tr h1 h2 h3 h4 h5=>by
    have sz:er.size=es.size:=by rw [<- Array.length_toList,h2.length_eq,Array.length_toList]
    refine wpAny_storeSet_of e1 rfl (wpAny_pure (h _ er _ tr ⟨e5q e1 er tr,h1,(h2.map λ e=>bPq e.2).nodup_iff.mpr X.nd,h3,by omega,h4⟩ h2 h5 λ b o e=>(Heap.get?_update_other _ _ (Nat.ne_of_gt (Heap.lt_size e))).trans (k1 b o e))) (by omega)
  have led1:byT w=false->(t0.led&&t.led)=true:=λ z=>by rw [l6,X.cl.led z,z];rfl
  unfold SetTable.road
  rw [fill0,if_neg (by simp)]
  by_cases c:(t0.mask==t.mask&&t.dummies.isEmpty)=true
  . rw [if_pos c]
    rw [Bool.and_eq_true,beq_iff_eq] at c
    exact fin es _ X.all (.refl _) X.fits ⟨X.cl.up,led1,X.cl.nod⟩ (by show 4<=t.mask;rw [<- c.1,l4];omega)
  . rw [if_neg c]
    dsimp only
    rw [l4]
    obtain ⟨t1,o1,m1,m2,m3,m4,m5,m6,m7⟩:=oKq (finger:=t0.finger) (moves:=t0.moves) (led:=t0.led&&t.led) (plain:=t0.plain&&t.plain) f1 (es.map (·.1)) (by rw [Array.size_map];exact f3)
    rw [Array.size_map] at m2 m3
    have pm:=mZq m2
    have sz:(o1.filterMap (es[·]?)).size=es.size:=by rw [<- Array.length_toList,pm.length_eq,Array.length_toList]
    rw [m1]
    refine wpAny_bind (show wpAny (model prog w) A (if ((o1.filterMap (es[·]?)).size !=es.size)=true then _ else pure (o1.filterMap (es[·]?),t1)) _ _ _ from ?_)
    rw [if_neg (by simp [sz])]
    refine wpAny_pure (fin _ t1 (X.all.perm pm) pm ?_ ⟨m7,λ z=>by rw [m6];exact led1 z,m5⟩ (by rw [m4];omega))
    unfold SetTable.fits SetTable.fill
    rw [m3,m5,m4,sz]
    simp
    omega
end
end KSs
namespace KSs
open PySem PyProof.Rows
theorem bGq {α:Type} (xs:Array α) (i:Nat):(SetTable.eraseAt xs i).toList=xs.toList.take i++xs.toList.drop (i+1):=by
  unfold SetTable.eraseAt
  rw [Array.toList_append,Array.toList_extract,Array.toList_extract]
  simp [List.extract_eq_take_drop]
  exact List.take_of_length_le (by simp)
theorem sTq {xs:Array Nat} (h:Up xs) (i:Nat):Up (SetTable.eraseAt xs i):=by
  unfold Up
  rw [bGq]
  have z:(xs.toList.take i++xs.toList.drop (i+1)).Sublist xs.toList:=by
    conv=>rhs;rw [<- List.take_append_drop i xs.toList]
    refine List.Sublist.append (.refl _) ?_
    rw [show i+1=i+1 from rfl,<- List.drop_drop]
    exact List.drop_sublist _ _
  exact h.sublist z
theorem hIq {α:Type} {xs:Array α} {i:Nat} (h:i < xs.size):(SetTable.eraseAt xs i).size+1=xs.size:=by
  rw [<- Array.length_toList,bGq,List.length_append,List.length_take,List.length_drop,Array.length_toList];omega
section
variable {prog:Program} {w:World} {A:Around} {E:Value->Shared->Prop} {s:Shared} {a o:Addr} {es eo:Array (Int × Value)} {ep po:Nat} {t to:SetTable}
theorem mVq {i:Nat} {z:Int} (hall:AllI es.toList) (hnd:(keys es).Nodup) (hi:es.toList.findIdx? (λ e=>(intKind prog w).is z e.2)=some i):i < es.size/\∀ j,j∈keys (SetTable.eraseAt es i) ↔ j∈keys es/\j≠z:=by
  obtain ⟨lt,q,_⟩:=List.findIdx?_eq_some_iff_getElem.mp hi
  have lt2:i < es.size:=by simpa using lt
  have hz:bPq (es.toList[i]).2=z:=by
    obtain ⟨⟨u,e⟩,_⟩:=hall _ (List.getElem_mem lt)
    rw [e] at q
    exact (intKind prog w).inj _ _ _ (intKind_is prog w _ u) q
  refine ⟨lt2,λ j=>?_⟩
  have e0:es.toList=es.toList.take i++es.toList[i]::es.toList.drop (i+1):=by rw [<- List.drop_eq_getElem_cons lt,List.take_append_drop]
  have k0:keys es=(es.toList.take i).map (λ e=>bPq e.2)++z::(es.toList.drop (i+1)).map λ e=>bPq e.2:=by
    conv=>lhs;unfold keys;rw [e0,List.map_append,List.map_cons,hz]
  have k1:keys (SetTable.eraseAt es i)=(es.toList.take i).map (λ e=>bPq e.2)++(es.toList.drop (i+1)).map λ e=>bPq e.2:=by unfold keys;rw [bGq,List.map_append]
  rw [k0] at hnd
  rw [k0,k1]
  have nd:=List.perm_middle.nodup_iff.mp hnd
  rw [List.nodup_cons] at nd
  simp only [List.mem_append,List.mem_cons] at nd ⊢
  constructor
  . intro h
    exact ⟨h.elim .inl λ z=>.inr (.inr z),by rintro rfl;exact nd.1 h⟩
  . rintro ⟨h | h | h,n⟩
    . exact .inl h
    . exact absurd h n
    . exact .inr h
theorem aI4q {z:Int} {u:Tok} {Q:Bool->Shared->Prop} (X:SX w s.heap a es ep t)
    (h:∀ b h' er pr tr,Heap.SameBut a s.heap h'->SR w h' a er pr tr->(keys er).Nodup->er.size<=es.size->(∀ j,j∈keys er ↔ j∈keys es/\j≠z)->tr.mask=t.mask->tr.dummies.size<=1->Q b { s with heap:=h' }):wpAny (model prog w) A (setDiscardHashed a (.int z u) (hashInt z)) Q E s:=by
  unfold setDiscardHashed
  refine wpAny_bind (z5q X.sr ?_)
  cases hi:List.findIdx? (λ e=>(intKind prog w).is z e.2) es.toList with
  | none=>
    refine wpAny_pure (h false s.heap es ep t (Heap.SameBut.refl a _) X.sr X.nd (Nat.le_refl _) (λ j=>⟨λ hj=>⟨hj,?_⟩,λ hj=>hj.1⟩) rfl (by rw [X.cl.nod];simp))
    rintro rfl
    obtain ⟨e,he,q⟩:=(X.all.met (prog:=prog) (w:=w)).mpr hj
    have:=List.findIdx?_eq_none_iff.mp hi e he
    rw [q] at this;cases this
  | some i=>
    obtain ⟨lt,hk⟩:=mVq X.all X.nd hi
    dsimp only
    refine wpAny_bind (wpAny_setState_of X.at_ rfl X.fits ?_)
    dsimp only
    have ez:=hIq lt
    have few:=X.few
    refine wpAny_bind (wpAny_storeSet_of X.at_ rfl (wpAny_bind (wpAny_point (wpAny_pure ?_))) (eTq (by omega)))
    have pz:=hFq X.sw
    have ltp:i < t.place.size:=by omega
    have hf:=X.fits
    unfold SetTable.fits SetTable.fill at hf
    rw [Bool.and_eq_true,beq_iff_eq,decide_eq_true_eq,X.cl.nod] at hf
    have sub:(es.toList.take i++es.toList.drop (i+1)).Sublist es.toList:=by
      conv=>rhs;rw [<- List.take_append_drop i es.toList]
      refine List.Sublist.append (.refl _) ?_
      rw [<- List.drop_drop]
      exact List.drop_sublist _ _
    have dr:t.drop i={ t with place:=SetTable.eraseAt t.place i,dummies:=SetTable.insertAt t.dummies (SetTable.below t.dummies t.place[i]) t.place[i] }:=by
      unfold SetTable.drop;rw [Array.getElem?_eq_getElem ltp]
    have pz2:=hIq ltp
    have ds:(SetTable.insertAt t.dummies (SetTable.below t.dummies t.place[i]) t.place[i]).size=1:=by rw [X.cl.nod];simp [SetTable.insertAt]
    refine h true _ (SetTable.eraseAt es i) (ep+1) (t.drop i) (Heap.SameBut.update s.heap a _) ⟨⟨e5q X.at_ _ _,?_,by omega,λ z=>?_,?_⟩,λ e he=>X.all e ?_⟩ ?_ (by omega) hk (by rw [dr]) (by rw [dr];show Array.size _<=1;rw [ds];exact Nat.le_refl _)
    . rw [dr]
      unfold SetTable.fits SetTable.fill
      show (_==_&&decide (_+_<=t.mask))=true
      rw [Bool.and_eq_true,beq_iff_eq,decide_eq_true_eq]
      dsimp only
      rw [ds]
      simp at hf
      omega
    . rw [dr];exact X.cl.led z
    . rw [dr];exact sTq X.cl.up i
    . rw [bGq] at he;exact sub.subset he
    . unfold keys;rw [bGq];exact X.nd.sublist (sub.map _)
theorem aN5q {id:String} {z:Int} {u:Tok} {Q:Value->Shared->Prop} (hne:o≠a) (X:SX w s.heap a es ep t) (Y:SX w s.heap o eo po to) (hY:eo.toList=[(hashInt z,.int z u)]) (h64:es.size < 64)
    (h:∀ r h' d er pr tr,SR w h' r er pr tr->(keys er).Nodup->er.size<=es.size->(∀ j,j∈keys er ↔ j∈keys es/\j≠z)->(∀ b o,s.heap.get? b=some o->h'.get? b=some o)->Q (.ref r) { s with heap:=h',drawn:=d }) :
    wpAny (model prog w) A (Builtin.Frozenset.difference id a (.ref o)) Q E s:=by
  have eo1:eo.size=1:=by rw [<- Array.length_toList,hY];rfl
  have one:∀ {xs:Array (Int × Value)},xs.toList.Perm eo.toList->xs.toList=[(hashInt z,.int z u)]:=λ hp=>by rw [hY] at hp;exact List.perm_singleton.mp hp
  have kz:keys eo=[z]:=by unfold keys;rw [hY];rfl
  unfold Builtin.Frozenset.difference
  refine wpAny_bind (anyS Y.sw ?_)
  dsimp only
  rw [if_neg (by simp)]
  refine (show wpAny (model prog w) A (pure o >>= _) _ _ s from wpAny_bind (wpAny_pure ?_))
  rw [if_neg (by simp),if_pos rfl]
  refine wpAny_bind (rTq Y.sw (wpAny_bind (rTq X.sw ?_)))
  rw [eo1]
  by_cases c:es.size / 4 > 1
  . rw [if_pos c]
    refine wpAny_bind (wpAny_rule ?_)
    refine wpAny_bind (aM8q X (by omega) h64 λ h1 er pr tr X1 hp hm k1=>?_)
    have Y1:=Y.mono (k1 o _ Y.at_)
    have nro:s.heap.objs.size≠o:=Nat.ne_of_gt (Heap.lt_size Y.at_)
    have sz1:er.size=es.size:=by rw [<- Array.length_toList,hp.length_eq,Array.length_toList]
    have km:∀ j,j∈keys er ↔ j∈keys es:=λ j=>(hp.map λ e=>bPq e.2).mem_iff
    refine (show wpAny (model prog w) A (holding [.ref s.heap.objs.size] (Builtin.Frozenset.differenceUpdate id s.heap.objs.size (.ref o)) >>= _) _ _ _ from wpAny_bind (wpAny_holding ?_))
    unfold Builtin.Frozenset.differenceUpdate
    rw [if_neg (by simpa using Ne.symm nro)]
    refine wpAny_bind (anyS (s:={ s with heap:=h1 }) Y1.sw ?_)
    rw [if_pos rfl]
    refine (show wpAny (model prog w) A (pure o >>= _) _ _ _ from wpAny_bind (wpAny_pure ?_))
    refine wpAny_bind (rTq (s:={ s with heap:=h1 }) Y1.sw (wpAny_bind (rTq (s:={ s with heap:=h1 }) X1.sw ?_)))
    rw [if_neg (by omega)]
    refine wpAny_bind (wpAny_setEpoch_of Y1.at_ rfl Y1.fits ?_)
    refine wpAny_bind (wpAny_holding ?_)
    refine wpAny_bind (show wpAny (model prog w) A (setWalkUnseen o [s.heap.objs.size] none) _ _ _ from ?_)
    unfold setWalkUnseen
    refine wpAny_bind (wpAny_setState_of Y1.at_ rfl Y1.fits (wpAny_bind (qOq _ ?_)))
    rw [if_pos (by rw [eo1];simp)]
    refine aB7q (s:={ s with heap:=h1 }) Y1.sw λ xs d hx=>?_
    have hx1:=one hx
    refine wpAny_bind (MeetsSeq2.wpAny_forIn_array _ (λ rest _ s'=>(rest=[(hashInt z,.int z u)]/\s'={ s with heap:=h1,drawn:=d })\/(rest=[]/\∃ h2 er2 pr2 tr2,s'={ s with heap:=h2,drawn:=d }/\Heap.SameBut s.heap.objs.size h1 h2/\SR w h2 s.heap.objs.size er2 pr2 tr2/\(keys er2).Nodup/\er2.size<=er.size/\(∀ j,j∈keys er2 ↔ j∈keys er/\j≠z)/\tr2.mask=tr.mask/\tr2.dummies.size<=1)) _ ?_ ?_ xs _ (.inl ⟨hx1,rfl⟩))
    . rintro e rest b s' (⟨he,rfl⟩ | ⟨he,_⟩)
      . cases he
        refine wpAny_bind (wpAny_holding (aI4q (s:={ s with heap:=h1,drawn:=d }) X1 λ b h2 er2 pr2 tr2 sb R2 nd2 sz2 km2 mk2 dm2=>?_))
        have Y2:SW w h2 o eo po to:=⟨by rw [sb.2 o (Ne.symm nro)];exact Y1.at_,Y1.fits,Y1.few,Y1.cl.led,Y1.cl.up⟩
        refine wpAny_bind (vAq (s:={ s with heap:=h2,drawn:=d }) Y2 (wpAny_pure (.inr ⟨rfl,h2,er2,pr2,tr2,rfl,sb,R2,nd2,sz2,km2,mk2,dm2⟩)))
      . cases he
    . rintro b s' (⟨he,_⟩ | ⟨_,h2,er2,pr2,tr2,rfl,sb,R2,nd2,sz2,km2,mk2,dm2⟩)
      . cases he
      . refine wpAny_pure ?_
        unfold setTidy
        refine wpAny_bind (wpAny_setState_of R2.at_ rfl R2.fits ?_)
        dsimp only
        have nt:tr2.tooManyDummies=false:=by unfold SetTable.tooManyDummies;rw [mk2];simp;omega
        rw [nt,if_neg (by simp)]
        refine wpAny_pure (wpAny_pure (h s.heap.objs.size h2 d er2 pr2 tr2 R2 nd2 (by omega) (λ j=>by rw [km2,km]) λ b o' e=>?_))
        rw [sb.2 b (Nat.ne_of_lt (Heap.lt_size e))];exact k1 b o' e
  . rw [if_neg c]
    refine wpAny_bind (x3q X.sw (wpAny_bind (o3q ?_)))
    have eR:(s.heap.push (hAq w)).get? s.heap.objs.size=some (hAq w):=Heap.get?_push_size _ rfl
    have k0:∀ b o',s.heap.get? b=some o'->(s.heap.push (hAq w)).get? b=some o':=λ b o' e=>Heap.get?_push_of_some _ e
    have X1:=X.mono (k0 a _ X.at_)
    have Y1:=Y.mono (k0 o _ Y.at_)
    have R1:=SX.fresh eR
    have nra:s.heap.objs.size≠a:=Nat.ne_of_gt (Heap.lt_size X.at_)
    have nro:s.heap.objs.size≠o:=Nat.ne_of_gt (Heap.lt_size Y.at_)
    refine (show wpAny (model prog w) A (pure s.heap.objs.size >>= _) _ _ _ from wpAny_bind (wpAny_pure ?_))
    refine wpAny_bind (wpAny_setEpoch_of X1.at_ rfl X1.fits ?_)
    refine wpAny_bind (wpAny_holding ?_)
    rw [if_pos rfl]
    refine wpAny_bind (aI3q (s:={ s with heap:=s.heap.push (hAq w) }) X1.sr (λ b hb=>?_) R1 λ xs h2 d pf tf hx sb R2=>?_)
    . rcases List.mem_cons.mp hb with rfl | hb
      . exact ⟨_,_,_,Y1.sr⟩
      . rw [List.mem_singleton.mp hb];exact ⟨_,_,_,R1.sr⟩
    have k2:∀ b o',s.heap.get? b=some o'->h2.get? b=some o':=λ b o' e=>by rw [sb.2 b (Nat.ne_of_lt (Heap.lt_size e))];exact k0 b o' e
    have few:=X.few
    refine wpAny_bind (MeetsSeq2.wpAny_forIn_array _ (λ rest _ s'=>∃ done h3 er pr tr,xs.toList=done++rest/\s'={ s with heap:=h3,drawn:=d }/\(∀ b o',s.heap.get? b=some o'->h3.get? b=some o')/\SX w h3 s.heap.objs.size er pr tr/\er.size<=done.length/\∀ j,j∈keys er ↔ j∈done.map (λ e=>bPq e.2)/\j≠z) _ ?_ ?_ xs _ ⟨[],h2,_,_,_,rfl,rfl,k2,R2,Nat.le_refl _,by simp [keys]⟩)
    . rintro e rest b s' ⟨done,h3,er,pr,tr,hd,rfl,k3,R3,z3,m3⟩
      have hme:e∈es.toList:=hx.mem_iff.mp (by rw [hd];simp)
      obtain ⟨⟨v,hv⟩,hh⟩:=X.all e hme
      obtain ⟨e1,e2⟩:=e
      dsimp only at hv hh ⊢
      generalize hkk:bPq e2=k at hv hh
      subst hv hh
      have Y3:=Y.mono (k3 o _ Y.at_)
      have X3:=X.mono (k3 a _ X.at_)
      have dl:done.length < es.size:=by
        have:=congrArg List.length hd
        rw [hx.length_eq,Array.length_toList] at this
        simp at this;omega
      refine wpAny_bind (wpAny_holding ?_)
      rw [if_pos rfl]
      refine wpAny_bind (z5q (s:={ s with heap:=h3,drawn:=d }) Y3.sr (wpAny_bind (wpAny_pure ?_)))
      rw [oEq Y.all,kz]
      by_cases cz:k=z
      . subst cz
        rw [if_neg (by simp)]
        refine wpAny_pure (wpAny_bind (vAq (s:={ s with heap:=h3,drawn:=d }) X3.sw (wpAny_pure ⟨done++[(hashInt k,.int k v)],h3,er,pr,tr,by rw [hd];simp,rfl,k3,R3,by simp;omega,λ j=>?_⟩)))
        rw [m3,List.map_append,List.mem_append]
        simp only [List.map_cons,List.map_nil,List.mem_singleton,bPq]
        constructor
        . rintro ⟨x,y⟩;exact ⟨.inl x,y⟩
        . rintro ⟨x | x,y⟩
          . exact ⟨x,y⟩
          . exact absurd x y
      . rw [if_pos (by simp [cz])]
        refine wpAny_bind (add (s:={ s with heap:=h3,drawn:=d }) R3 (by omega) λ bb h4 er4 pr4 tr4 sb4 R4 m4 z4=>wpAny_pure ?_)
        have k4:∀ b o',s.heap.get? b=some o'->h4.get? b=some o':=λ b o' e=>by rw [sb4.2 b (Nat.ne_of_lt (Heap.lt_size e))];exact k3 b o' e
        have X4:=X.mono (k4 a _ X.at_)
        refine wpAny_bind (vAq (s:={ s with heap:=h4,drawn:=d }) X4.sw (wpAny_pure ⟨done++[(hashInt k,.int k v)],h4,er4,pr4,tr4,by rw [hd];simp,rfl,k4,R4,by simp;omega,λ j=>?_⟩))
        rw [m4,m3,List.map_append,List.mem_append]
        simp only [List.map_cons,List.map_nil,List.mem_singleton,bPq]
        constructor
        . rintro (⟨x,y⟩ | x)
          . exact ⟨.inl x,y⟩
          . exact ⟨.inr x,by rw [x];exact cz⟩
        . rintro ⟨x | x,y⟩
          . exact .inl ⟨x,y⟩
          . exact .inr x
    . rintro b s' ⟨done,h3,er,pr,tr,hd,rfl,k3,R3,z3,m3⟩
      rw [List.append_nil] at hd
      refine wpAny_pure (wpAny_pure (h s.heap.objs.size h3 d er pr tr R3.sr R3.nd ?_ (λ j=>?_) k3))
      . have:=congrArg List.length hd
        rw [hx.length_eq,Array.length_toList] at this
        omega
      . rw [m3,<- hd,(hx.map λ e=>bPq e.2).mem_iff]
end
end KSs
namespace KSs
open PySem PyProof.Rows
theorem eSub:entryFor table "set.__sub__" = some Builtin.«frozenset.__sub__»:=entryFor_alias (id':="frozenset.__sub__") (by kernel_rfl) (by first | rfl | decide +kernel | (unfold String.splitOn;simp +decide [String.splitOnAux])) (by decide +kernel) (by kernel_rfl)
section
variable {prog:Program} {w:World} {A:Around} {E:Value->Shared->Prop} {s:Shared} {a o:Addr} {es eo:Array (Int × Value)} {ep po:Nat} {t to:SetTable}
theorem subS {z:Int} {u:Tok} {Q:Value->Shared->Prop} (hne:o≠a) (X:SX w s.heap a es ep t) (Y:SX w s.heap o eo po to) (hY:eo.toList=[(hashInt z,.int z u)]) (h64:es.size < 64)
    (h:∀ r h' d er pr tr,SR w h' r er pr tr->(keys er).Nodup->er.size<=es.size->(∀ j,j∈keys er ↔ j∈keys es/\j≠z)->(∀ b o,s.heap.get? b=some o->h'.get? b=some o)->Q (.ref r) { s with heap:=h',drawn:=d }) :
    wpAny (model prog w) A (binaryOp .Sub (.ref a) (.ref o)) Q E s:=by
  refine wpAny_binaryOp_same (T:="set") (id:="set.__sub__") (tyS X.sw) (tyS Y.sw) F.fills_set_sub F.slot_set_sub ?_
  refine wpAny_call_entry F.slot_set_sub (tyS X.sw) eSub ?_ (F.args_set_sub_2 _ _)
  refine (show wpAny (model prog w) A.in1 ((Builtin.Frozenset.isAnySet (.ref a) <&&> Builtin.Frozenset.isAnySet (.ref o)) >>= λ(b:Bool)=>_) _ _ s from wpAny_bind ?_)
  unfold andM
  refine wpAny_bind (anyS X.sw (anyS Y.sw ?_))
  refine (show wpAny (model prog w) A.in1 (Builtin.Frozenset.difference _ a (.ref o) >>= _) _ _ s from wpAny_bind (aN5q hne X Y hY h64 λ r h' d er pr tr R nd sz km k=>?_))
  exact wpAny_pure ⟨_,rfl,by simp,h r h' d er pr tr R nd sz km k⟩
theorem one_of (hall:AllI eo.toList) (hs:eo.size<=1) {z:Int} (hz:∀ j,j∈keys eo ↔ j∈[z]):∃ u,eo.toList=[(hashInt z,.int z u)]:=by
  have hm:=(hz z).mpr (List.mem_singleton.mpr rfl)
  obtain ⟨e,he,hk⟩:=List.mem_map.mp hm
  have hl:eo.toList.length<=1:=by rw [Array.length_toList];exact hs
  match hL:eo.toList,hl,he with
  | [x],_,he=>
    obtain rfl:e=x:=List.mem_singleton.mp he
    obtain ⟨⟨u,e1⟩,e2⟩:=hall e (by rw [hL];exact he)
    rw [hk] at e1 e2
    exact ⟨u,by obtain ⟨p,q⟩:=e;simp only at e1 e2;rw [e1,e2]⟩
  | _::_::_,h,_=>simp at h
end
end KSs
namespace L2
open PySem PySem.Spec PyProof.Rows
section
variable {X:Cx} {e e2:Expr} {te te2:TE} {p p2 p3 pos pos2 pos3 bpos:Pos}
theorem pSq {pins:List (Addr × Obj)} {s:Shared} {σ:St} {H:Hp} {R:Addr->List Int->Hp->Prop} (hc:X.calm=true) (hg:Gl X "set") (hm:X.mg "set" = none) (he:PE X e te) (hs:aLq e=true) (I:Inv X pins σ H s)
    (h:te σ H λ x H1=>∃ (l:Addr) (ns:List Int),x=.ref l/\SqL X.K H1 l (ns.map V.int)/\ns.length < 64/\R l ns H1) :
    wpAny (model X.prog X.w) X.A (eval (.Call (.Name "set" p2) [e] [] pos2) X.env) (λ v s'=>∃ (l S:Addr) (ns:List Int) (H1:Hp) (es:Array (Int × Value)) (ep:Nat) (t:SetTable),v=.ref S/\Inv X pins σ H1 s'/\KSs.SX X.w s'.heap S es ep t/\iHq X pins H1 S/\es.size<=ns.length/\ns.length < 64/\(∀ j,j∈KSs.keys es ↔ j∈ns)/\R l ns H1) X.xe s:=by
  refine wpAny_Call_Name_kw (c0q I hg hm PyProof.Rows.boot_set ?_)
  refine PyProof.Rows.callWith_type1 ?_ (a9q hs) rfl
  rw [a9q hs]
  show wpAny _ _ (spliced ((false,eval e X.env)::backTo pos2 (starEach [] X.env))) _ _ s
  refine Calls.spliced_cons (thn (he pins s σ H _ I h) λ u s1 ⟨x,H1,I1,r1,l,ns,ex,hq,hl,q⟩=>Calls.spliced_nil ?_)
  subst ex
  cases r1
  obtain ⟨its,rv,pl,hz⟩:=I1.list hq
  have hlen:=rv.length
  rw [List.length_map] at hlen
  refine KSs.ofList (items:=its.toArray) (ns:=ns) (I1.ok.hd hc) pl.isList (by simpa using gDq rv) (by rw [List.size_toArray];omega) λ h' tk es ep t SX z m k=>?_
  exact ⟨l,s1.heap.objs.size,ns,H1,es,ep,t,rfl,I1.kept (t':=tk) k,SX,I1.fpOk (Nat.le_refl _) (I1.hok.fresh (Nat.le_refl _)),by have y:its.toArray.size=its.length:=List.size_toArray;omega,hl,m,q⟩
def tSD (K:PySem.W.Frag) (te te2:TE):TE:=λ σ H Q=>te σ H λ x H1=>∃ (l:Addr) (ns:List Int),x=.ref l/\SqL K H1 l (ns.map V.int)/\ns.length < 64/\te2 σ H1 λ y H2=>∃ (l2:Addr) (ns2:List Int),y=.ref l2/\SqL K H2 l2 (ns2.map V.int)/\ns2.length < 64/\∃ z,ns2=[z] ∧
  ∀ ms,Srt (ns.filter λ j=>decide (j≠z)) ms->∀ l',H2 l'=none->Q (.ref l') (upd H2 l' (.lst (ms.map V.int)))
theorem hTq (hc:X.calm=true) (hgs:Gl X "sorted") (hms:X.mg "sorted" = none) (hg:Gl X "set") (hm:X.mg "set" = none) (he:PE X e te) (hs:aLq e=true) (he2:PE X e2 te2) (hs2:aLq e2=true) :
    PE X (.Call (.Name "sorted" p) [.BinOp (.Call (.Name "set" p2) [e] [] pos2) .Sub (.Call (.Name "set" p3) [e2] [] pos3) bpos] [] pos) (tSD X.K te te2):=by
  intro pins s σ H Q I h
  refine wpAny_Call_Name_kw (c0q I hgs hms PyProof.Rows.boot_sorted ?_)
  refine PyProof.Rows.callWith_builtin1 ?_ (a9q rfl) rfl
  rw [a9q rfl]
  show wpAny _ _ (spliced ((false,eval (.BinOp (.Call (.Name "set" p2) [e] [] pos2) .Sub (.Call (.Name "set" p3) [e2] [] pos3) bpos) X.env)::backTo pos (starEach [] X.env))) _ _ s
  refine Calls.spliced_cons (wpAny_BinOp (thn (pSq (R:=λ _ ns H1=>te2 σ H1 λ y H2=>∃ (l2:Addr) (ns2:List Int),y=.ref l2/\SqL X.K H2 l2 (ns2.map V.int)/\ns2.length < 64/\∃ z,ns2=[z]/\∀ ms,Srt (ns.filter λ j=>decide (j≠z)) ms->∀ l',H2 l'=none->Q (.ref l') (upd H2 l' (.lst (ms.map V.int)))) hc hg hm he hs I h) λ v s1 h1=>?_))
  obtain ⟨l,S,ns,H1,es,ep,t,rfl,I1,SX1,fp1,z1,hl,m1,q⟩:=h1
  have hob:∀ b∈[S],∃ o,s1.heap.get? b=some o/\∀ v,o.data≠.cell v:=λ b hb=>by
    rw [List.mem_singleton.mp hb];exact ⟨_,SX1.at_,λ _=>nofun⟩
  have I1p:=I1.pinned (fp:=[S]) (λ b hb=>by rw [List.mem_singleton.mp hb];exact fp1) hob
  refine thn (pSq (R:=λ _ ns2 H2=>∃ z,ns2=[z]/\∀ ms,Srt (ns.filter λ j=>decide (j≠z)) ms->∀ l',H2 l'=none->Q (.ref l') (upd H2 l' (.lst (ms.map V.int)))) hc hg hm he2 hs2 I1p q) λ v2 s2 h2=>?_
  obtain ⟨l2,S2,ns2,H2,es2,ep2,t2,rfl,I2,SX2,fp2,z2,hl2,m2,z,rfl,q2⟩:=h2
  have pin:(S,KSs.setAt es ep t)∈pins++jTq [S] s1.heap:=List.mem_append_right _ (List.mem_filterMap.mpr ⟨S,List.mem_singleton.mpr rfl,by rw [SX1.at_];rfl⟩)
  have eS:=(I2.pin _ (List.mem_append_right _ pin)).1
  have nS:S2≠S:=λ y=>fp2.2.2.2.2.2 _ (List.mem_append_right _ pin) y.symm
  have X2:=SX1.mono eS
  obtain ⟨u,hY⟩:=KSs.one_of SX2.all (by simpa using z2) m2
  refine KSs.subS nS X2 SX2 hY (by omega) λ r h' d er pr tr R nd sz km k=>Calls.spliced_nil ?_
  have I3:Inv X pins σ H2 { s2 with heap:=h',drawn:=d }:=((I2.unpinned).kept (t':=s2.toks) k).drew
  refine h5q hc I3 R.toSW R.all nd (by omega) (λ j=>?_) q2
  rw [km,m1,List.mem_filter,decide_eq_true_eq]
end
end L2
namespace L3
open PySem PyProof L2
section
variable {X:Cx} {e e2:Expr} {te te2:DTE} {p p2 p3 pos pos2 pos3 bpos:Pos}
abbrev dSD (te te2:DTE):DTE:=λ ρ G Q=>te ρ G λ x G1=>match x with
  | .ref l=>onL G1 l λ ds=>∃ ns,eCq ds=some ns/\ns.length < 64/\te2 ρ G1 λ y G2=>match y with
    | .ref l2=>onL G2 l2 λ ds2=>∃ z,ds2=[.int z]/\∀ ms,Srt (ns.filter λ j=>decide (j≠z)) ms->∀ l',G2 l'=none->Q (.ref l') (up G2 l' (.lst (ms.map D.int)))
    | _=>False
  | _=>False
theorem i1q (hgs:Gl X "sorted") (hms:X.mg "sorted" = none) (hg:Gl X "set") (hm:X.mg "set" = none) (he:AE X e te) (he2:AE X e2 te2) (hc:X.calm=true:=by rfl) (hs:aLq e=true:=by rfl) (hs2:aLq e2=true:=by rfl) :
    AE X (.Call (.Name "sorted" p) [.BinOp (.Call (.Name "set" p2) [e] [] pos2) .Sub (.Call (.Name "set" p3) [e2] [] pos3) bpos] [] pos) (dSD te te2):=by
  obtain ⟨ce,je,re⟩:=he.run
  obtain ⟨ce2,je2,re2⟩:=he2.run
  refine ⟨_,⟨hTq hc hgs hms hg hm je.run hs je2.run hs2⟩,λ ρ G DQ σ H Q B q F=>re ρ G _ σ H _ B q λ x G1 v H1 g1 ax q1=>?_⟩
  cases x with
  | ref l=>
    cases ax
    obtain ⟨ds,vs,⟨ns,e1,hl,k⟩,s,rl⟩:=bDq g1.vw q1
    rw [fWq e1] at rl
    rw [rl.ints] at s
    refine ⟨l,ns,rfl,s,hl,re2 ρ G1 _ σ H1 _ (B.go g1) k λ y G2 u H2 g2 ay q2=>?_⟩
    cases y with
    | ref l2=>
      cases ay
      obtain ⟨ds2,vs2,⟨z,rfl,k2⟩,s2,rl2⟩:=bDq g2.vw q2
      obtain ⟨v2,r2,rfl,a2,rl2⟩:=rl2
      cases rl2
      cases a2
      exact ⟨l2,[z],rfl,s2,by simp,z,rfl,λ ms hs l' hl'=>F (.ref l') _ _ _ ((g1.trans g2).trans (Go.newL g2.vw hl' (AbsL.of_ints ms))) rfl (k2 ms hs l' (g2.vw.none hl'))⟩
    | _=>exact (show False from q2).elim
  | _=>exact (show False from q1).elim
end
end L3
namespace L3
open PySem PyProof L2
section
variable {K:PySem.W.Frag} {H:Hp} {G:DV}
def kD:Key->D
  | .inl i=>.int i
  | .inr x=>.str x
theorem oIq {k:Key} {v:V} (h:Abs K H (kD k) v):v=kV k:=by cases k<;>exact h
def eVq (kvs:List (Key × D)) (k:Key):Option D:=(kvs.find? λ kv=>decide (kv.1=k)).map (·.2)
def putKD (kvs:List (Key × D)) (k:Key) (v:D):List (Key × D):=
  if (kvs.any λ kv=>decide (kv.1=k))=true then kvs.map (λ kv=>if kv.1=k then (kv.1,v) else kv) else kvs++[(k,v)]
theorem AbsF.cons_inv {κ:Type} {x:κ} {y:D} {r:List (κ × D)} {gs:List (κ × V)} (h:AbsF K H ((x,y)::r) gs):∃ v s,gs=(x,v)::s/\Abs K H y v/\AbsF K H r s:=by
  obtain ⟨h1,h2⟩:=h
  cases gs with
  | nil=>cases h1
  | cons g s=>
    obtain ⟨g1,g2⟩:=g
    simp only [List.map_cons,List.cons.injEq] at h1
    obtain ⟨v,us,e1,a1,a2⟩:=h2
    simp only [List.map_cons,List.cons.injEq] at e1
    obtain ⟨rfl,h1⟩:=h1
    obtain ⟨rfl,rfl⟩:=e1
    exact ⟨g2,s,rfl,a1,h1,a2⟩
theorem AbsF.nil_inv {κ:Type} {gs:List (κ × V)} (h:AbsF K H ([]:List (κ × D)) gs):gs=[]:=by
  cases gs with
  | nil=>rfl
  | cons g s=>cases h.1
theorem AbsF.consI {κ:Type} {x:κ} {y:D} {v:V} {r:List (κ × D)} {s:List (κ × V)} (h:Abs K H y v) (hr:AbsF K H r s):AbsF K H ((x,y)::r) ((x,v)::s):=⟨by simp [hr.1],v,_,rfl,h,hr.2⟩
theorem AbsF.append {κ:Type}:∀ {fs es:List (κ × D)} {gs hs:List (κ × V)},AbsF K H fs gs->AbsF K H es hs->AbsF K H (fs++es) (gs++hs)
  | [],_,_,_,r,s=>by rw [r.nil_inv];exact s
  | (x,y)::r,_,_,_,h,s=>by
    obtain ⟨v,t,rfl,a,hr⟩:=h.cons_inv
    exact AbsF.consI a (hr.append s)
theorem AbsF.val {k:Key}:∀ {fs:List (Key × D)} {gs:List (Key × V)},AbsF K H fs gs->(∀ d,eVq fs k=some d->∃ v,kEq gs k=some v/\Abs K H d v)/\(eVq fs k=Option.none->kEq gs k=Option.none)
  | [],_,h=>by rw [h.nil_inv];exact ⟨λ d e=>(by cases e),λ _=>rfl⟩
  | (x,y)::r,_,h=>by
    obtain ⟨v,t,rfl,a,hr⟩:=h.cons_inv
    obtain ⟨i1,i2⟩:=AbsF.val (k:=k) hr
    by_cases c:x=k
    . have e1:eVq ((x,y)::r) k=some y:=by simp [eVq,List.find?_cons,c]
      have e2:kEq ((x,v)::t) k=some v:=eWq c
      rw [e1,e2]
      exact ⟨λ d e=>⟨v,rfl,by cases e;exact a⟩,λ e=>by cases e⟩
    . have e1:eVq ((x,y)::r) k=eVq r k:=by simp [eVq,List.find?_cons,c]
      have e2:kEq ((x,v)::t) k=kEq t k:=eSq c
      rw [e1,e2]
      exact ⟨i1,i2⟩
theorem AbsF.anyK {k:Key}:∀ {fs:List (Key × D)} {gs:List (Key × V)},AbsF K H fs gs->(fs.any λ kv=>decide (kv.1=k))=gs.any λ kv=>decide (kv.1=k)
  | [],_,h=>by rw [h.nil_inv];rfl
  | (x,y)::r,_,h=>by
    obtain ⟨v,t,rfl,a,hr⟩:=h.cons_inv
    rw [List.any_cons,List.any_cons,AbsF.anyK hr]
theorem AbsF.mapK {k:Key} {d:D} {u:V} (hd:Abs K H d u):∀ {fs:List (Key × D)} {gs:List (Key × V)},AbsF K H fs gs->AbsF K H (fs.map λ kv=>if kv.1=k then (kv.1,d) else kv) (gs.map λ kv=>if kv.1=k then (kv.1,u) else kv)
  | [],_,h=>by rw [h.nil_inv];exact ⟨rfl,rfl⟩
  | (x,y)::r,_,h=>by
    obtain ⟨v,t,rfl,a,hr⟩:=h.cons_inv
    rw [List.map_cons,List.map_cons]
    by_cases c:x=k
    . simp only [c,if_true];exact AbsF.consI hd (AbsF.mapK hd hr)
    . simp only [if_neg c];exact AbsF.consI a (AbsF.mapK hd hr)
theorem AbsF.putKD {k:Key} {d:D} {u:V} (hd:Abs K H d u) {fs:List (Key × D)} {gs:List (Key × V)} (h:AbsF K H fs gs):AbsF K H (L3.putKD fs k d) (k7q gs k u):=by
  unfold L3.putKD k7q
  rw [h.anyK]
  split
  . exact AbsF.mapK hd h
  . exact h.append (AbsF.consI hd ⟨rfl,rfl⟩)
theorem lWq (kvs:List (Key × D)) (k j:Key) (y:D):eVq (putKD kvs k y) j=if j=k then some y else eVq kvs j:=by
  have key:∀ l:List (Key × D),eVq (l.map λ kv=>if kv.1=k then (kv.1,y) else kv) j=(eVq l j).map λ x=>if j=k then y else x:=λ l=>by
    induction l with
    | nil=>rfl
    | cons p r ih=>
      obtain ⟨p1,p2⟩:=p
      simp only [eVq,List.map_cons,List.find?_cons] at ih ⊢
      by_cases c:p1=k
      . subst c
        by_cases d:p1=j
        . subst d;simp
        . simp only [if_true,d,decide_false];exact ih
      . by_cases d:p1=j
        . subst d;simp [c]
        . simp only [if_neg c,d,decide_false];exact ih
  unfold putKD
  by_cases c:(kvs.any λ kv=>decide (kv.1=k))=true
  . rw [if_pos c,key]
    by_cases d:j=k
    . subst d
      have:(eVq kvs j).isSome=true:=by
        unfold eVq
        rw [Option.isSome_map,List.find?_isSome]
        obtain ⟨x,hx,e⟩:=List.any_eq_true.mp c
        exact ⟨x,hx,e⟩
      obtain ⟨z,e⟩:=Option.isSome_iff_exists.mp this
      rw [e];simp
    . simp [d]
  . rw [if_neg c]
    have no:∀ x∈kvs,x.1≠k:=λ x hx e=>c (List.any_eq_true.mpr ⟨x,hx,by simpa using e⟩)
    unfold eVq
    rw [List.find?_append]
    by_cases d:j=k
    . subst d
      have:kvs.find? (λ kv=>decide (kv.1=j))=none:=List.find?_eq_none.mpr λ x hx=>by simpa using no x hx
      rw [this];simp
    . rw [if_neg d]
      have e:([(k,y)]:List (Key × D)).find? (λ kv=>decide (kv.1=j))=none:=by simp [Ne.symm d]
      rw [e];simp
theorem j1q (kvs:List (Key × D)) (k:Key) (v:D):(putKD kvs k v).length<=kvs.length+1:=by
  unfold putKD;split<;>simp
@[irreducible] def onD (G:DV) (a:Addr) (k:List (Key × D)->Prop):Prop:=match G a with
  | some (.dK kvs)=>k kvs
  | _=>False
theorem nHq {a:Addr} {k:List (Key × D)->Prop} {kvs:List (Key × D)} (h:G a=some (.dK kvs)) (q:k kvs):onD G a k:=by unfold onD;rw [h];exact q
theorem oYq {a:Addr} {k:List (Key × D)->Prop} (v:Vw K G H) (h:onD G a k):∃ kvs gs,k kvs/\G a=some (.dK kvs)/\H a=some (.dK gs)/\AbsF K H kvs gs:=by
  unfold onD at h
  split at h
  . next kvs e=>obtain ⟨gs,z,r⟩:=v _ _ e;exact ⟨kvs,gs,h,e,z,r⟩
  . exact h.elim
theorem kSq {p:Addr} {gs:List (Key × V)} {o:HO} (h:H p=some (.dK gs)):Mono K H (upd H p o):=iSq (λ ys=>by rintro (e | ⟨o,e⟩)<;>rw [h] at e<;>cases e) λ _ _ e=>by rw [h] at e;cases e
theorem Go.newD (v:Vw K G H) {p:Addr} {kvs:List (Key × D)} {gs:List (Key × V)} (h:H p=none) (r:AbsF K H kvs gs):Go K G H (up G p (.dK kvs)) (upd H p (.dK gs)) where
  tup:=c1q h
  dom:=λ a u e=>⟨u,by rw [aFq (aSq e h)];exact e⟩
  same:=λ a u e _=>by rw [aFq (aSq e h)];exact e
  new:=λ a u e n=>by rw [aIq (aSq e h)];exact n
  vw:=λ a u e=>by
    by_cases c:a=p
    . subst c;rw [a5q] at e;cases e
      exact ⟨gs,aPq,r.1,r.2.mono (c1q h)⟩
    . rw [aIq c] at e
      exact (v a u e).mono (c1q h) (aFq c)
theorem Go.setD (v:Vw K G H) {p:Addr} {kvs0 kvs:List (Key × D)} {gs:List (Key × V)} (h:G p=some (.dK kvs0)) (r:AbsF K H kvs gs):Go K G H (up G p (.dK kvs)) (upd H p (.dK gs)):=by
  obtain ⟨us,hp,_⟩:=v p _ h
  exact {
    tup:=kSq hp
    dom:=λ a u e=>by
      by_cases c:a=p
      . subst c;exact ⟨_,aPq⟩
      . exact ⟨u,by rw [aFq c];exact e⟩
    same:=λ a u e n=>by
      have c:a≠p:=by rintro rfl;rw [h] at n;cases n
      rw [aFq c];exact e
    new:=λ a u e n=>by
      have c:a≠p:=by rintro rfl;rw [h] at n;cases n
      rw [aIq c];exact n
    vw:=λ a u e=>by
      by_cases c:a=p
      . subst c;rw [a5q] at e;cases e
        exact ⟨gs,aPq,r.1,r.2.mono (kSq hp)⟩
      . rw [aIq c] at e
        exact (v a u e).mono (kSq hp) (aFq c) }
def gCq:D->Option Key
  | .int i=>some (.inl i)
  | .str x=>some (.inr x)
  | _=>none
theorem fKq {d:D} {k:Key} (h:gCq d=some k):d=kD k:=by cases d<;>simp [gCq] at h<;>subst h<;>rfl
end
section
variable {X:Cx} {o i e value:Expr} {pos pos' tpos:Pos} {td ti tv:DTE}
abbrev aK4q (td ti:DTE):DTE:=λ ρ G Q=>td ρ G λ x G1=>ti ρ G1 λ y G2=>match x with
  | .ref a=>onD G2 a λ kvs=>∃ k d,gCq y=some k/\eVq kvs k=some d/\Q d G2
  | _=>False
theorem sJq (hu:X.A.units+200 < cLine) (ho:AE X o td) (hi:AE X i ti) (hs:NoSl i):AE X (.Subscript o i pos) (aK4q td ti):=by
  obtain ⟨co,jo,ro⟩:=ho.run
  obtain ⟨ci,ji,ri⟩:=hi.run
  refine ⟨_,⟨uOq (by omega) jo.run ji.run hs⟩,λ ρ G DQ σ H Q B q F=>ro ρ G _ σ H _ B q λ x G1 v H1 g1 ax q1=>ri ρ G1 _ σ H1 _ (B.go g1) q1 λ y G2 u H2 g2 ay q2=>?_⟩
  cases x with
  | ref a=>
    cases ax
    obtain ⟨kvs,gs,⟨k,d,ek,ed,q3⟩,e1,e2,r⟩:=oYq g2.vw q2
    obtain ⟨w,hw,aw⟩:=(r.val (k:=k)).1 d ed
    rw [fKq ek] at ay
    have:=oIq ay
    subst this
    exact ⟨a,w,rfl,by rw [<- hw];exact DGet.k e2,F d G2 w H2 (g1.trans g2) aw q3⟩
  | _=>exact (show False from q2).elim
abbrev xFq (td ti tv:DTE):DTS:=λ DD ρ G=>tv ρ G λ v G1=>td ρ G1 λ x G2=>ti ρ G2 λ y G3=>match x with
  | .ref a=>onD G3 a λ kvs=>∃ k,gCq y=some k/\kvs.length < sizeLine/\DD.nx ρ (up G3 a (.dK (putKD kvs k v)))
  | _=>False
theorem sEq (hu:X.A.units+200 < cLine) (ho:AE X o td) (hi:AE X i ti) (hv:AE X value tv) (hs:swapsWith value (some (.Subscript o i pos')) pos.line X.env=pure false:=by rfl):AS X (.Assign [.Subscript o i pos'] value pos) (xFq td ti tv):=by
  obtain ⟨co,jo,ro⟩:=ho.run
  obtain ⟨ci,ji,ri⟩:=hi.run
  obtain ⟨cv,jv,rv⟩:=hv.run
  refine ⟨_,⟨tSq (by omega) jo.run ji.run jv.run hs⟩,λ DD Dc ρ G σ H B q F=>rv ρ G _ σ H _ B q λ y0 G1 v0 H1 g1 av q1=>ro ρ G1 _ σ H1 _ (B.go g1) q1 λ x G2 v H2 g2 ax q2=>ri ρ G2 _ σ H2 _ ((B.go g1).go g2) q2 λ y G3 u H3 g3 ay q3=>?_⟩
  cases x with
  | ref a=>
    cases ax
    obtain ⟨kvs,gs,⟨k,ek,hl,q4⟩,e1,e2,r⟩:=oYq g3.vw q3
    rw [fKq ek] at ay
    have:=oIq ay
    subst this
    have len:gs.length=kvs.length:=by have:=congrArg List.length r.1;simpa using this.symm
    have g4:=Go.setD g3.vw e1 (r.putKD (k:=k) ((av.mono g2.tup).mono g3.tup))
    exact ⟨a,_,rfl,DPut.k e2 (by omega),F.nx _ _ _ _ (((g1.trans g2).trans g3).trans g4) ((((B.go g1).go g2).go g3).go g4) q4⟩
  | _=>exact (show False from q3).elim
abbrev aD1q (tk tv:DTE):DTE:=λ ρ G Q=>∀ p,G p=none->tk ρ (up G p (.dK [])) λ x G1=>tv ρ G1 λ y G2=>G2 p=some (.dK [])/\∃ k,gCq x=some k/\Q (.ref p) (up G2 p (.dK [(k,y)]))
theorem qZq {tk:DTE} (hk:AE X i tk) (hv:AE X e tv):AE X (.Dict [some i] [e] pos) (aD1q tk tv):=by
  obtain ⟨ck,jk,rk⟩:=hk.run
  obtain ⟨cv,jv,rv⟩:=hv.run
  refine ⟨_,⟨vLq (rYq jk.run jv.run u2q) rfl rfl (by simp) (by simp)⟩,λ ρ G DQ σ H Q B q F p hp=>?_⟩
  have g0:=Go.newD (kvs:=[]) (gs:=[]) B.vw hp ⟨rfl,rfl⟩
  refine rk ρ _ _ σ _ _ (B.go g0) (q p (B.vw.none hp)) λ x G1 v H1 g1 ax q1=>rv ρ G1 _ σ H1 _ ((B.go g0).go g1) q1 λ y G2 u H2 g2 ay q2=>?_
  obtain ⟨e0,k,ek,q3⟩:=q2
  obtain ⟨gs,z,r⟩:=g2.vw p _ e0
  rw [r.nil_inv] at z
  rw [fKq ek] at ax
  have:=oIq ax
  subst this
  have g3:=Go.setD (kvs:=[(k,y)]) (gs:=[(k,u)]) g2.vw e0 (AbsF.consI ay ⟨rfl,rfl⟩)
  exact ⟨z,[(k,u)],rfl,by simp,F (.ref p) _ _ _ (((g0.trans g1).trans g2).trans g3) rfl q3⟩
end
end L3
namespace L2
open PySem PySem.Spec PyProof.Rows
section
variable {X:Cx} {a:Expr} {ta:TE} {pos:Pos}
def aN6q (K:PySem.W.Frag) (ta:TE):TE:=λ σ H Q=>ta σ H λ x H1=>∃ k,TruV K x H1 k/\Q (.bl (!k)) H1
theorem tTq (ha:PE X a ta):PE X (.UnaryOp .Not a pos) (aN6q X.K ta):=by
  intro pins s σ H Q I h
  refine UnaryOp_ (thn (ha pins s σ H _ I h) λ v s1 ⟨x,H1,I1,r1,k,hk,q1⟩=>not_of ?_)
  exact thn (tKq pins s1 σ H1 x v (λ c H2=>Q (.bl (!c)) H2) I1 r1 ⟨k,hk,q1⟩) λ c s2 ⟨H2,I2,q2⟩=>⟨.bl (!c),H2,I2,rfl,q2⟩
end
end L2
namespace L3
open PySem PyProof L2
section
variable {X:Cx} {a:Expr} {ta:DTE} {pos:Pos}
abbrev aL4q (ta:DTE):DTE:=λ ρ G Q=>ta ρ G λ x G1=>truD x G1 λ c=>Q (.bl (!c)) G1
theorem wGq (ha:AE X a ta):AE X (.UnaryOp .Not a pos) (aL4q ta):=by
  obtain ⟨ca,ja,ra⟩:=ha.run
  refine ⟨_,⟨tTq ja.run⟩,λ ρ G DQ σ H Q B q F=>ra ρ G _ σ H _ B q λ x G1 v H1 g1 ax q1=>?_⟩
  cases x with
  | non=>cases ax;exact ⟨_,rfl,F (.bl _) _ _ _ g1 rfl q1⟩
  | bl b=>cases ax;exact ⟨_,rfl,F (.bl _) _ _ _ g1 rfl q1⟩
  | int i=>cases ax;exact ⟨_,rfl,F (.bl _) _ _ _ g1 rfl q1⟩
  | str y=>cases ax;exact ⟨_,⟨q1.1,rfl⟩,F (.bl _) _ _ _ g1 rfl q1.2⟩
  | ref l=>
    cases ax
    obtain ⟨ds,vs,k,s,r⟩:=bDq g1.vw q1
    exact ⟨_,.inl ⟨vs,s,rfl⟩,by rw [r.isEmpty];exact F (.bl _) _ _ _ g1 rfl k⟩
  | tup ds=>
    obtain ⟨l,vs,rfl,s,r⟩:=ax
    exact ⟨_,.inr (.inl ⟨vs,s,rfl⟩),by rw [r.isEmpty];exact F (.bl _) _ _ _ g1 rfl q1⟩
  | ty n=>exact (show False from q1).elim
  | frl ds=>exact (show False from q1).elim
end
end L3
namespace L2
open PySem PySem.Spec PyProof.Rows
section
variable {X:Cx}
end
end L2
namespace L3
open PySem PySem.Spec L2
section
variable {X:Cx} {a b c e f o i tg iter value:Expr} {x:Str} {ad C:Addr} {tab:Str->Option D} {ta tv te tf to ti:DTE} {pos pos' tpos p apos cpos:Pos}
theorem w1q {st:Stmt}:AS X st (λ _ _ _=>False):=⟨λ _ _ _=>False,⟨λ _ _ _ _ _ _ h=>h.elim⟩,λ DD Dc ρ G σ H B q F=>q.elim⟩
end
end L3
namespace L2
open PySem PySem.Spec PyProof.Rows
section
variable {X:Cx}
def aE9q (K:PySem.W.Frag):R2:=λ x y H Q=>∃ (a:Addr) (xs:List V) (n:Int),x=.ref a/\y=.int n/\SqL K H a xs/\0<=n/\n<=1000/\xs.length<=1000/\∀ p,H p=none->Q (.ref p) (upd H p (.lst (List.replicate n.toNat xs).flatten))
theorem uBq {α:Type} (xs:List α) (n:Nat) (h1:n<=1000) (h2:xs.length<=1000):(List.replicate n xs).flatten.length<=1000000:=by
  have e:(List.replicate n xs).flatten.length=n * xs.length:=by
    induction n with
    | zero=>simp
    | succ n ih=>rw [List.replicate_succ,List.flatten_cons,List.length_append,ih (by omega),Nat.succ_mul];omega
  rw [e]
  have:=Nat.mul_le_mul h1 h2;omega
theorem tVq:OpR X (binaryOp .Mult) (aE9q X.K):=by
  intro pins s σ H x y v u Q I rx ry h
  obtain ⟨a,xs,n,rfl,rfl,ha,h0,hn,hx,q⟩:=h
  cases rx
  obtain ⟨t,rfl⟩:=ry
  obtain ⟨its,r,p,hz⟩:=I.list ha
  have hlen:=r.length
  have hn':n.toNat<=1000:=by omega
  obtain ⟨⟨cls,d,data,sl⟩,ho,hcl,k,hd⟩:=id p.isList
  simp only at hcl hd
  subst hcl hd
  have hsz':its.toArray.size * n.toNat<=1000000:=by
    rw [List.size_toArray,<- hlen]
    have:=Nat.mul_le_mul hx hn';omega
  refine wpAny_binaryOp_repeat_ref (T:="list") (U:="int") (by decide) ⟨_,ho,rfl⟩ (λ s'=>typeIs_int s' n t) noFill_list_mul F.fills_int_mul F.slot_int_rmul repeat_list F.slot_int_index.lookup
    (call_meets F.slot_int_rmul (typeIs_int s n t) F.entry_int_rmul (F.args_int_rmul_2 _ _) (lm_int_rmul_list_any n t a its.toArray k d sl)
      ⟨ho,rfl,⟨_,ho,rfl⟩,call_meets F.slot_list_mul ⟨_,ho,rfl⟩ F.entry_list_mul (F.args_list_mul_2 _ _)
        (lm_list_mul_any a its.toArray k d sl n t (by simp [Builtin.List.listFitsIndex];omega) (by omega) (by unfold Builtin.List.listTooLong;rw [decide_eq_true_eq,sizeLine_eq];omega))
        ⟨ho,?_⟩⟩)
  rw [listMul_foldl_if]
  refine ⟨.ref s.heap.objs.size,_,I.laid (t':=s.toks) (o:=.lst (List.replicate n.toNat xs).flatten) (λ b ob q=>Heap.get?_push_of_some _ q) (Nat.le_refl _) ?_,rfl,q _ (I.hok.fresh (Nat.le_refl _))⟩
  exact ⟨by have:=uBq xs n.toNat hn' hx;rw [sizeLine_eq];omega,_,0,mEq r n.toNat,Heap.get?_push_size _ rfl⟩
end
end L2
namespace L3
open PySem PySem.Spec L2
theorem AbsL.rep {K:PySem.W.Frag} {H:Hp} {ds:List D} {vs:List V} (h:AbsL K H ds vs):∀ n,AbsL K H (List.replicate n ds).flatten (List.replicate n vs).flatten
  | 0=>rfl
  | n+1=>by rw [List.replicate_succ,List.replicate_succ,List.flatten_cons,List.flatten_cons];exact h.append (AbsL.rep h n)
section
variable {X:Cx}
def uLq:DR2:=λ x y G Q=>match x,y with
  | .ref l,.int n=>onL G l λ ds=>0<=n/\n<=1000/\ds.length<=1000/\∀ p,G p=none->Q (.ref p) (up G p (.lst (List.replicate n.toNat ds).flatten))
  | _,_=>False
theorem cCq:AOp X (binaryOp .Mult) uLq:=by
  refine ⟨_,⟨tVq⟩,λ x y vx vy G H DQ Q v ax ay r F=>?_⟩
  unfold uLq at r
  split at r
  . next l n=>
    cases ax;cases ay
    obtain ⟨ds,vs,⟨h0,h1,h2,k⟩,s,rl⟩:=bDq v r
    exact ⟨l,vs,n,rfl,rfl,s,h0,h1,by rw [rl.len];exact h2,λ p hp=>F (.ref p) _ _ _ (Go.newL v hp (rl.rep _)) rfl (k p (v.none hp))⟩
  . exact r.elim
end
end L3
namespace L2
open PySem PySem.Spec PyProof.Rows
end L2
namespace L3
open PySem L2
theorem noFT {p:Prop} (c:false=true):p:=nomatch c
theorem noTF {p:Prop} (c:true=false):p:=nomatch c
def Tm.isAns:Tm->Bool
  | .pair a b=>a.isAns&&b.isAns
  | .whole _=>true
  | .way _=>true
  | _=>false
def Tm.inUse:Tm->Option Nat
  | .plus a _=>if a.word=="whole" then some 1 else some 0
  | .give _ _=>some 0
  | .first _=>some 0
  | .second _=>some 0
  | .look _ _ _=>some 0
  | _=>none
def Tm.use:Tm->Option (List Int)
  | .give a b=>if (Tm.give a b).hasRule then some [] else a.use.map (0::·)
  | .first a=>if (Tm.first a).hasRule then some [] else a.use.map (0::·)
  | .second a=>if (Tm.second a).hasRule then some [] else a.use.map (0::·)
  | .look a b c=>if (Tm.look a b c).hasRule then some [] else a.use.map (0::·)
  | .plus a b=>if (Tm.plus a b).hasRule then some [] else if a.word=="whole" then b.use.map (1::·) else a.use.map (0::·)
  | _=>none
def Tm.fu:Tm->Option (List Int × Tm)
  | .pair a b=>match a.fu with
    | some z=>some (0::z.1,z.2)
    | none=>match b.fu with
      | some z=>some (1::z.1,z.2)
      | none=>none
  | .whole _=>none
  | .way _=>none
  | t=>some ([],t)
def Tm.nx (t:Tm):Option (List Int):=match t.fu with
  | none=>none
  | some z=>z.2.use.map (z.1++·)
theorem Tm.fu_ans (t:Tm):t.fu=none ↔ t.isAns=true:=by
  induction t with
  | pair a b ih1 ih2=>
    simp only [Tm.fu,Tm.isAns,Bool.and_eq_true,<- ih1,<- ih2]
    cases a.fu<;>cases b.fu<;>simp
  | _=>simp [Tm.fu,Tm.isAns]
theorem Tm.use_rule {t:Tm} (h:t.hasRule=true):t.use=some []:=by
  cases t with
  | give a b=>simp only [Tm.use];rw [if_pos h]
  | first a=>simp only [Tm.use];rw [if_pos h]
  | second a=>simp only [Tm.use];rw [if_pos h]
  | plus a b=>simp only [Tm.use];rw [if_pos h]
  | look a b c=>simp only [Tm.use];rw [if_pos h]
  | _=>simp [Tm.hasRule] at h
theorem Tm.use_none {t:Tm} (h:t.inUse=none):t.use=none:=by
  cases t with
  | plus a b=>simp only [Tm.inUse] at h;split at h<;>cases h
  | _=>first | rfl | simp [Tm.inUse] at h
theorem Tm.use_some {t:Tm} {k:Nat} (hr:t.hasRule=false) (h:t.inUse=some k):∃ u,t.inn[k]?=some u/\t.use=u.use.map ((k:Int)::·):=by
  have nr:¬ t.hasRule=true:=by rw [hr];simp
  cases t with
  | plus a b=>
    simp only [Tm.inUse] at h;simp only [Tm.use];rw [if_neg nr]
    split at h
    . next c=>cases h;exact ⟨b,rfl,by rw [if_pos c];rfl⟩
    . next c=>cases h;exact ⟨a,rfl,by rw [if_neg c];rfl⟩
  | give a b=>simp only [Tm.inUse] at h;cases h;exact ⟨a,rfl,by simp only [Tm.use];rw [if_neg nr];rfl⟩
  | first a=>simp only [Tm.inUse] at h;cases h;exact ⟨a,rfl,by simp only [Tm.use];rw [if_neg nr];rfl⟩
  | second a=>simp only [Tm.inUse] at h;cases h;exact ⟨a,rfl,by simp only [Tm.use];rw [if_neg nr];rfl⟩
  | look a b c=>simp only [Tm.inUse] at h;cases h;exact ⟨a,rfl,by simp only [Tm.use];rw [if_neg nr];rfl⟩
  | _=>simp [Tm.inUse] at h
theorem Tm.use_at:∀ {n:Nat} {t:Tm} {ns:List Int},t.sz<=n->t.use=some ns->(∃ u,t.at ns=some u/\u.hasRule=true)/\ns.length<=t.dp
  | 0,t,_,hn,_=>by have:=t.sz_pos;omega
  | n+1,t,ns,hn,h=>by
    cases hr:t.hasRule with
    | true=>rw [Tm.use_rule hr] at h;cases h;exact ⟨⟨t,rfl,hr⟩,Nat.zero_le _⟩
    | false=>
      cases hu:t.inUse with
      | none=>rw [Tm.use_none hu] at h;cases h
      | some k=>
        obtain ⟨u,h1,h2⟩:=Tm.use_some hr hu
        rw [h2] at h
        cases e:u.use with
        | none=>rw [e] at h;cases h
        | some ms=>
          rw [e] at h;cases h
          have hm:=List.mem_of_getElem? h1
          have:=Tm.sz_mem hm
          have:=Tm.dp_inn hm
          obtain ⟨⟨v,h3,h4⟩,h5⟩:=Tm.use_at (n:=n) (by omega) e
          exact ⟨⟨v,by rw [Tm.at_go (u:=u) (by omega) (by simpa using h1)];exact h3,h4⟩,by rw [List.length_cons];omega⟩
theorem Tm.at_append:∀ {ps:List Int} {t u:Tm} {ns:List Int},t.at ps=some u->t.at (ps++ns)=u.at ns
  | [],t,u,ns,h=>by cases h;rfl
  | p::ps,t,u,ns,h=>by
    obtain ⟨p0,x,hx,h'⟩:=Tm.at_cons h
    rw [List.cons_append,Tm.at_go p0 hx]
    exact Tm.at_append h'
theorem Tm.fu_at:∀ {t:Tm} {z:List Int × Tm},t.fu=some z->t.at z.1=some z.2/\z.1.length+z.2.dp<=t.dp:=by
  intro t
  induction t with
  | pair a b ih1 ih2=>
    intro z h
    simp only [Tm.fu] at h
    cases ea:a.fu with
    | some y=>
      rw [ea] at h;cases h
      obtain ⟨h1,h2⟩:=ih1 ea
      exact ⟨by rw [Tm.at_go (u:=a) (by decide) rfl];exact h1,by simp only [List.length_cons,Tm.dp];omega⟩
    | none=>
      rw [ea] at h
      cases eb:b.fu with
      | some y=>
        rw [eb] at h;cases h
        obtain ⟨h1,h2⟩:=ih2 eb
        exact ⟨by rw [Tm.at_go (u:=b) (by decide) rfl];exact h1,by simp only [List.length_cons,Tm.dp];omega⟩
      | none=>rw [eb] at h;cases h
  | whole _=>intro z h;cases h
  | way _ _=>intro z h;cases h
  | _=>intro z h;cases h;exact ⟨rfl,by simp⟩
theorem Tm.fu_sz:∀ {t:Tm} {z:List Int × Tm},t.fu=some z->z.2.sz<=t.sz:=by
  intro t
  induction t with
  | pair a b ih1 ih2=>
    intro z h
    simp only [Tm.fu] at h
    cases ea:a.fu with
    | some y=>
      rw [ea] at h;cases h
      have:=ih1 ea
      simp only [Tm.sz];omega
    | none=>
      rw [ea] at h
      cases eb:b.fu with
      | some y=>
        rw [eb] at h;cases h
        have:=ih2 eb
        simp only [Tm.sz];omega
      | none=>rw [eb] at h;cases h
  | whole _=>intro z h;cases h
  | way _ _=>intro z h;cases h
  | _=>intro z h;cases h;exact Nat.le_refl _
theorem Tm.nx_at {t:Tm} {ns:List Int} (h:t.nx=some ns):(∃ u,t.at ns=some u/\u.hasRule=true)/\ns.length<=t.dp:=by
  unfold Tm.nx at h
  split at h
  . cases h
  . next z e=>
    obtain ⟨h1,h2⟩:=Tm.fu_at e
    cases e2:z.2.use with
    | none=>rw [e2] at h;cases h
    | some ms=>
      rw [e2] at h;cases h
      obtain ⟨⟨u,h3,h4⟩,h5⟩:=Tm.use_at (Nat.le_refl _) e2
      exact ⟨⟨u,by rw [Tm.at_append h1];exact h3,h4⟩,by simp only [List.length_append];omega⟩
def fuS:List (Tm × List Int)->Option (List Int × Tm)
  | []=>none
  | (t,r)::rest=>match t.fu with
    | some z=>some (r.reverse++z.1,z.2)
    | none=>fuS rest
theorem rCq (a b:Tm) (r:List Int) (rest:List (Tm × List Int)):fuS ((Tm.pair a b,r)::rest)=fuS ((a,0::r)::(b,1::r)::rest):=by
  simp only [fuS,Tm.fu]
  cases a.fu with
  | some z=>simp
  | none=>cases b.fu<;>simp
def trD:List Int->D
  | []=>.non
  | k::r=>.tup [trD r,.int k]
def tJq (z:Tm × List Int):D:=.tup [z.1.enc,trD z.2]
def szS (zs:List (Tm × List Int)):Nat:=(zs.map λ z=>z.1.sz).sum
theorem cEq (zs:List (Tm × List Int)) (z:Tm × List Int):szS (zs++[z])=szS zs+z.1.sz:=by simp [szS]
theorem nKq:∀ zs:List (Tm × List Int),zs.length<=szS zs
  | []=>Nat.zero_le _
  | z::zs=>by
    have:=nKq zs
    have:=z.1.sz_pos
    simp only [szS,List.map_cons,List.sum_cons,List.length_cons] at *
    omega
def oplD:Option (List Int)->D
  | none=>.non
  | some ns=>plD ns
def eUq:DSp:=λ ds G Q=>∃ r:List Int,ds=[trD r]/\r.length<=100000/\Q (plD r.reverse) G
def kFq:DSp:=λ ds G Q=>∃ (t:Tm) (ns:List Int) (u:Tm),ds=[t.enc,plD ns]/\t.at ns=some u/\Q (.bl u.hasRule) G
def wNq:DSp:=λ ds G Q=>∃ t:Tm,ds=[t.enc]/\Q (match t.inUse with | none=>.non | some k=>.int k) G
def vTq:DSp:=λ ds G Q=>∃ t:Tm,ds=[t.enc]/\t.sz<=10000/\Q (oplD t.use) G
def spFu:DSp:=λ ds G Q=>∃ t:Tm,ds=[t.enc]/\t.sz<=10000/\Q (match t.fu with | none=>.non | some z=>.tup [z.2.enc,plD z.1]) G
def Tm.wbl:Tm->Nat->Nat
  | .way _,w=>w+1
  | _,w=>w
def Tm.mapN (φ:Nat->Nat->Tm):Nat->Tm->Tm
  | w,.name n=>φ n w
  | _,.whole k=>.whole k
  | w,.way t=>.way (t.mapN φ (w+1))
  | w,.give t u=>.give (t.mapN φ w) (u.mapN φ w)
  | w,.pair t u=>.pair (t.mapN φ w) (u.mapN φ w)
  | w,.first t=>.first (t.mapN φ w)
  | w,.second t=>.second (t.mapN φ w)
  | w,.plus t u=>.plus (t.mapN φ w) (u.mapN φ w)
  | w,.look t u v=>.look (t.mapN φ w) (u.mapN φ w) (v.mapN φ w)
def Tm.nmsR:Nat->Tm->List (Nat × Nat)
  | w,.name n=>[(n,w)]
  | _,.whole _=>[]
  | w,.way t=>t.nmsR (w+1)
  | w,.give t u=>u.nmsR w++t.nmsR w
  | w,.pair t u=>u.nmsR w++t.nmsR w
  | w,.first t=>t.nmsR w
  | w,.second t=>t.nmsR w
  | w,.plus t u=>u.nmsR w++t.nmsR w
  | w,.look t u v=>v.nmsR w++(u.nmsR w++t.nmsR w)
def Tm.leaf:Tm->Bool
  | .name _=>true
  | .whole _=>true
  | _=>false
theorem Tm.nmsR_inn {t:Tm} (h:t.leaf=false) (w:Nat):t.nmsR w=t.inn.reverse.flatMap (λ u=>u.nmsR (t.wbl w)):=by
  cases t<;>simp [Tm.nmsR,Tm.inn,Tm.wbl,Tm.leaf] at h ⊢
theorem Tm.nmsR_mem {t u:Tm} (h:t.leaf=false) (hu:u∈t.inn) {w:Nat} {z:Nat × Nat} (hz:z∈u.nmsR (t.wbl w)):z∈t.nmsR w:=by
  rw [Tm.nmsR_inn h]
  exact List.mem_flatMap.mpr ⟨u,List.mem_reverse.mpr hu,hz⟩
theorem Tm.nmsR_len (t:Tm):∀ w,(t.nmsR w).length<=t.sz:=by
  induction t<;>intro w<;>simp only [Tm.nmsR,Tm.sz,List.length_append,List.length_cons,List.length_nil]<;>first | omega | skip
  case way t ih=>have:=ih (w+1);omega
  case give t u i1 i2=>have:=i1 w;have:=i2 w;omega
  case pair t u i1 i2=>have:=i1 w;have:=i2 w;omega
  case first t ih=>have:=ih w;omega
  case second t ih=>have:=ih w;omega
  case plus t u i1 i2=>have:=i1 w;have:=i2 w;omega
  case look t u v i1 i2 i3=>have:=i1 w;have:=i2 w;have:=i3 w;omega
def Tm.rebuild:Tm->List Tm->Tm
  | .way _,[a]=>.way a
  | .give _ _,[a,b]=>.give a b
  | .pair _ _,[a,b]=>.pair a b
  | .first _,[a]=>.first a
  | .second _,[a]=>.second a
  | .plus _ _,[a,b]=>.plus a b
  | .look _ _ _,[a,b,c]=>.look a b c
  | t,_=>t
theorem Tm.mapN_eq {φ:Nat->Nat->Tm} {t:Tm} (h:t.leaf=false) (w:Nat):t.mapN φ w=t.rebuild (t.inn.map λ u=>u.mapN φ (t.wbl w)):=by
  cases t<;>first | rfl | cases h
theorem Tm.enc_rebuild {t:Tm} {cs:List Tm} (h:t.leaf=false) (hl:cs.length=t.inn.length):(t.rebuild cs).enc=.tup (.str t.word::cs.map Tm.enc):=by
  cases t<;>simp only [Tm.leaf,reduceCtorEq] at h<;>simp only [Tm.inn,List.length_cons,List.length_nil] at hl
  all_goals (rcases cs with _ | ⟨a,_ | ⟨b,_ | ⟨c,_ | ⟨d,r⟩⟩⟩⟩<;>simp at hl<;>rfl)
abbrev Ent:=Tm × Nat × Bool
def rSq (z:Ent):D:=.tup [z.1.enc,.int z.2.1,.bl z.2.2]
def eff (φ:Nat->Nat->Tm) (z:Ent) (m:List Tm):Option (List Tm):=match z.1 with
  | .name n=>some (φ n z.2.1::m)
  | .whole k=>some (.whole k::m)
  | t=>if z.2.2 then (if t.inn.length<=m.length then some (t.rebuild (m.take t.inn.length)::m.drop t.inn.length) else none) else some (t.mapN φ z.2.1::m)
def nMq (φ:Nat->Nat->Tm):List Ent->List Tm->Option (List Tm)
  | [],m=>some m
  | z::zs,m=>match eff φ z m with
    | some m'=>nMq φ zs m'
    | none=>none
theorem g2q {φ:Nat->Nat->Tm} (t:Tm) (w:Nat) (m:List Tm):eff φ (t,w,false) m=some (t.mapN φ w::m):=by cases t<;>rfl
theorem lZq {φ:Nat->Nat->Tm} {t:Tm} (h:t.leaf=false) (w:Nat) (m:List Tm):eff φ (t,w,true) m=if t.inn.length<=m.length then some (t.rebuild (m.take t.inn.length)::m.drop t.inn.length) else none:=by
  cases t<;>first | rfl | cases h
theorem lRq {φ:Nat->Nat->Tm} {w:Nat} {zs:List Ent}:∀ (xs:List Tm) (m:List Tm),nMq φ (xs.map (λ u=>(u,w,false))++zs) m=nMq φ zs ((xs.map λ u=>u.mapN φ w).reverse++m)
  | [],m=>rfl
  | x::xs,m=>by
    rw [List.map_cons,List.cons_append,nMq,g2q]
    simp only []
    rw [lRq xs]
    simp
theorem oCq {φ:Nat->Nat->Tm} {t:Tm} (h:t.leaf=false) (w:Nat) (zs:List Ent) (m:List Tm):nMq φ ((t.inn.map λ u=>((u,t.wbl w,false):Ent)).reverse++(t,w,true)::zs) m=nMq φ ((t,w,false)::zs) m:=by
  rw [<- List.map_reverse,lRq,nMq,nMq,g2q,lZq h]
  rw [List.map_reverse,List.reverse_reverse,if_pos (by simp)]
  simp only [List.length_map,List.take_left',List.drop_left',Tm.mapN_eq h]
def wtE (z:Ent):Nat:=if z.2.2 then 1 else 2 * z.1.sz
def wtS (zs:List Ent):Nat:=(zs.map wtE).sum
theorem eQq (z:Ent) (zs:List Ent):wtS (z::zs)=wtE z+wtS zs:=by simp [wtS]
theorem pBq (w:Nat) (zs:List Ent):∀ xs:List Tm,wtS (xs.map (λ u=>((u,w,false):Ent))++zs)=2 * (xs.map Tm.sz).sum+wtS zs
  | []=>by simp
  | x::xs=>by rw [List.map_cons,List.cons_append,eQq,pBq w zs xs,List.map_cons,List.sum_cons];simp only [wtE];simp;omega
theorem n5q:∀ zs:List Ent,zs.length<=wtS zs
  | []=>Nat.zero_le _
  | z::zs=>by
    have:=n5q zs
    have:=z.1.sz_pos
    have h:1<=wtE z:=by unfold wtE;split<;>omega
    rw [eQq,List.length_cons];omega
theorem Tm.sz_sum {t:Tm} (h:t.leaf=false):(t.inn.map Tm.sz).sum+1=t.sz:=by
  cases t<;>simp [Tm.inn,Tm.sz,Tm.leaf] at h ⊢<;>omega
def iAq:DSp:=λ ds G Q=>∃ (t:Tm) (w:Nat),ds=[t.enc,.int w]/\Q (.int (t.wbl w:Nat)) G
def prD (z:Nat × Nat):D:=.tup [.int z.1,.int z.2]
def dOq:DSp:=λ ds G Q=>∃ t:Tm,ds=[t.enc]/\t.sz<=10000/\∀ l,G l=none->Q (.ref l) (up G l (.lst ((t.nmsR 0).map prD)))
def clD (φ:Nat->Nat->Tm) (C:Nat->Nat->Prop) (L:List (Addr × DO)):DSp:=λ ds G Q=>∃ n w:Nat,ds=[.int n,.int w]/\C n w/\(∀ q∈L,G q.1=some q.2)/\Q (φ n w).enc G
def m7q (P:Program) (w:World) (K:PySem.W.Frag) (mg:Str->Option Value) (base:Heap) (k:Nat):DSp:=λ ds G Q=>∃ (t:Tm) (f:Addr) (name qual:Str) (st:Stmt) (fr:List Str) (vals:List D) (ps:List Str) (φ:Nat->Nat->Tm) (C:Nat->Nat->Prop) (L:List (Addr × DO)),
  ds=[t.enc,.ref f]/\G f=some (.clo name qual st fr vals)/\CloD P w K mg base k name qual st fr vals ps (clD φ C L)/\(∀ q∈L,G q.1=some q.2)/\t.sz<=10000/\(∀ z∈t.nmsR 0,C z.1 z.2)/\Q (t.mapN φ 0).enc G
def bTq:Stmt->Pos
  | .FunctionDef _ _ _ _ _ _ _ _ _ p=>p
  | _=>⟨0,0,0,0⟩
def bIq (m l:Nat):Nat->Nat->Tm:=λ n w=>.name (if n ≥ w+l then n+m else n)
def pHq (T:Addr) (pos:Pos):DSp:=λ ds G Q=>∃ (t:Tm) (m l:Nat),ds=[t.enc,.int m,.int l]/\G T=some (.tab pos "lifted.<locals>.moved")/\t.sz<=10000/\Q (t.mapN (bIq m l) 0).enc G
def e2D (z:Tm × Nat):D:=.tup [z.1.enc,.int z.2]
def sz2 (zs:List (Tm × Nat)):Nat:=(zs.map λ z=>z.1.sz).sum
theorem hZq (z:Tm × Nat) (zs:List (Tm × Nat)):sz2 (z::zs)=z.1.sz+sz2 zs:=by simp [sz2]
theorem fPq (w:Nat) (zs:List (Tm × Nat)):∀ xs:List Tm,sz2 (xs.map (λ u=>(u,w))++zs)=(xs.map Tm.sz).sum+sz2 zs
  | []=>by simp
  | x::xs=>by rw [List.map_cons,List.cons_append,hZq,fPq w zs xs,List.map_cons,List.sum_cons];simp only [];omega
theorem pNq:∀ zs:List (Tm × Nat),zs.length<=sz2 zs
  | []=>Nat.zero_le _
  | z::zs=>by
    have:=pNq zs
    have:=z.1.sz_pos
    rw [hZq,List.length_cons];omega
theorem Tm.sz_inns (t:Tm):(t.inn.map Tm.sz).sum+1<=t.sz:=by cases t<;>simp [Tm.inn,Tm.sz]<;>omega
theorem wPq {t:Tm} {G:DV} {Q:DK} (q:Q (.str t.word) G):ixD t.enc (.int 0) G Q:=by cases t<;>exact cOq rfl q
theorem mCq {t:Tm} (h:(t.word=="name")=true):∃ k,t=.name k:=by
  cases t<;>first | exact ⟨_,rfl⟩ | (simp [Tm.word,j9q,i3q] at h)
theorem p8q {t:Tm} (h:(t.word=="whole")=true):∃ k,t=.whole k:=by
  cases t<;>first | exact ⟨_,rfl⟩ | (simp [Tm.word,j9q,i3q] at h)
theorem yWq {t:Tm} (h1:(t.word=="name")=false) (h2:(t.word=="whole")=false):t.leaf=false:=by
  cases t<;>first | rfl | (simp [Tm.word] at h1;done) | (simp [Tm.word] at h2;done)
theorem aB8q {t:Tm} (h:(t.word=="name")=false) (w:Nat):t.nmsR w=t.inn.reverse.flatMap (λ u=>u.nmsR (t.wbl w)):=by
  cases t<;>first | (simp [Tm.word] at h;done) | simp [Tm.nmsR,Tm.inn,Tm.wbl]
def z7q (zs:List (Nat × Nat)):List Int:=zs.filterMap λ z=>if z.2<=z.1 then some ((z.1:Int) - z.2) else none
def Tm.opn (t:Tm):List Int:=z7q (t.nmsR 0)
theorem Tm.opn_len (t:Tm):t.opn.length<=(t.nmsR 0).length:=List.length_filterMap_le _ _
def o9q:DSp:=λ ds G Q=>∃ t:Tm,ds=[t.enc]/\t.sz<=10000/\(t.nmsR 0).length < 64/\∀ ms,Srt t.opn ms->∀ l,G l=none->Q (.ref l) (up G l (.lst (ms.map D.int)))
theorem f2q (l:Nat) (t:Tm):∀ w,t.mapN (bIq 0 l) w=t:=by
  induction t<;>intro w<;>simp_all [Tm.mapN,bIq]
theorem nPq:∀ {xs ys:List Int},xs.Nodup->(∀ j∈xs,j∈ys)->xs.length<=ys.length
  | [],_,_,_=>Nat.zero_le _
  | x::xs,ys,h,hs=>by
    rw [List.nodup_cons] at h
    have hx:=hs x (List.mem_cons_self ..)
    have ih:=nPq (ys:=ys.erase x) h.2 λ j hj=>(List.mem_erase_of_ne (by rintro rfl;exact h.1 hj)).mpr (hs j (List.mem_cons_of_mem _ hj))
    rw [List.length_erase_of_mem hx] at ih
    have:0 < ys.length:=List.length_pos_of_mem hx
    rw [List.length_cons];omega
theorem kp {G:DV} {l b:Addr} {o u:DO} (h:G l=none) (e:G b=some u):up G l o b=some u:=Sub.new (Sub.refl _) h b u e
theorem Fx.kp {a b:Addr} {G G':DV} {u:DO} (h:Fx a G G') (n:b≠a) (e:G b=some u):G' b=some u:=by rw [h.other n];exact e
theorem fTq (m:Nat) (t:Tm):∀ w,(∀ z∈t.nmsR w,z.1 < z.2)->t.mapN (bIq m 0) w=t:=by
  induction t with
  | name n=>intro w h;have:=h (n,w) (List.mem_cons_self ..);simp only [Tm.mapN,bIq];rw [if_neg (by omega)]
  | whole k=>intro w _;rfl
  | way t ih=>intro w h;simp only [Tm.mapN];rw [ih (w+1) h]
  | first t ih=>intro w h;simp only [Tm.mapN];rw [ih w h]
  | second t ih=>intro w h;simp only [Tm.mapN];rw [ih w h]
  | give t u i1 i2=>intro w h;simp only [Tm.mapN];rw [i1 w λ z hz=>h z (List.mem_append_right _ hz),i2 w λ z hz=>h z (List.mem_append_left _ hz)]
  | pair t u i1 i2=>intro w h;simp only [Tm.mapN];rw [i1 w λ z hz=>h z (List.mem_append_right _ hz),i2 w λ z hz=>h z (List.mem_append_left _ hz)]
  | plus t u i1 i2=>intro w h;simp only [Tm.mapN];rw [i1 w λ z hz=>h z (List.mem_append_right _ hz),i2 w λ z hz=>h z (List.mem_append_left _ hz)]
  | look t u v i1 i2 i3=>intro w h;simp only [Tm.mapN];rw [i1 w λ z hz=>h z (List.mem_append_right _ (List.mem_append_right _ hz)),i2 w λ z hz=>h z (List.mem_append_right _ (List.mem_append_left _ hz)),i3 w λ z hz=>h z (List.mem_append_left _ hz)]
theorem pCq {t:Tm} (h:t.opn=[]):∀ z∈t.nmsR 0,z.1 < z.2:=λ z hz=>by
  rcases Nat.lt_or_ge z.1 z.2 with c | c
  . exact c
  . have:((z.1:Int) - z.2)∈t.opn:=List.mem_filterMap.mpr ⟨z,hz,by rw [if_pos c]⟩
    rw [h] at this;cases this
def eJq (u:Tm):Nat->Nat->Tm:=λ n w=>if n=w then u.mapN (bIq w 0) 0 else .name (if w < n then n - 1 else n)
def t1q (t:Tm):List Nat:=((t.nmsR 0).filter λ z=>decide (z.1=z.2)).map (·.2)
theorem rJq {t:Tm} {n:Nat} (h:(n,n)∈t.nmsR 0):n∈t1q t:=List.mem_map.mpr ⟨(n,n),List.mem_filter.mpr ⟨h,by simp⟩,rfl⟩
theorem s7q (t:Tm):(t1q t).length<=(t.nmsR 0).length:=by unfold t1q;rw [List.length_map];exact List.length_filter_le _ _
def Cop (kvs:List (Key × D)) (u:Tm) (ws:List Nat):Prop:=∀ w∈ws,eVq kvs (.inl w)=some (u.mapN (bIq w 0) 0).enc
def hMq (T:Addr) (pos:Pos):DSp:=λ ds G Q=>∃ (u:Tm) (l:Addr) (ws:List Nat),ds=[u.enc,.ref l]/\G l=some (.lst (ws.map λ(w:Nat)=>D.int (w:Int)))/\ws.length < 64/\u.sz<=10000/\(u.nmsR 0).length < 64/\G T=some (.tab pos "lifted.<locals>.moved")/\∀ d kvs,G d=none->Cop kvs u ws->Q (.ref d) (up G d (.dK kvs))
def vNq (T:Addr) (pos:Pos) (T2:Addr) (pos2:Pos):DSp:=λ ds G Q=>∃ t u:Tm,ds=[t.enc,u.enc]/\t.sz<=10000/\u.sz<=10000/\(t.nmsR 0).length < 64/\(u.nmsR 0).length < 64/\G T=some (.tab pos "lifted.<locals>.moved")/\G T2=some (.tab pos2 "put_in.<locals>.taken")/\Q (t.mapN (eJq u) 0).enc G
def Tm.comes:Tm->Tm
  | .give (.way b) a=>b.mapN (eJq a) 0
  | .first (.pair a _)=>a
  | .second (.pair _ b)=>b
  | .plus (.whole i) (.whole j)=>.whole (i+j)
  | .look (.whole i) a b=>if i=0 then a else b
  | t=>t
def k5q:Tm->Prop
  | .give (.way b) a=>b.sz<=10000/\a.sz<=10000/\(b.nmsR 0).length < 64/\(a.nmsR 0).length < 64
  | _=>True
def Tm.rpl (o:Tm):List Int->Tm->Tm
  | [],_=>o
  | k::ks,t=>t.rebuild (t.inn.set k.toNat (Tm.rpl o ks (t.inn.getD k.toNat (.name 0))))
def Tm.behind (t:Tm) (ns:List Int):Tm:=match t.at ns with
  | some u=>Tm.rpl u.comes ns t
  | none=>t
def Tm.over (t:Tm):Bool:=decide (3000 < t.sz)||decide (100 < t.dp)
def Tm.nuo (t:Tm):Option (List Int × List Int):=match t.fu with
  | none=>none
  | some z=>z.2.use.map λ ns=>(z.1,ns)
def nuD:Option (List Int × List Int)->D
  | none=>.non
  | some z=>.tup [plD z.1,plD z.2]
def vWq:DSp:=λ ds G Q=>∃ t:Tm,ds=[t.enc]/\t.sz<=10000/\Q (nuD t.nuo) G
theorem aD7q {t:Tm} {z:List Int × List Int} (h:t.nuo=some z):(∃ u,t.at (z.1++z.2)=some u/\u.hasRule=true)/\(z.1++z.2).length<=t.dp:=by
  refine Tm.nx_at ?_
  unfold Tm.nuo at h
  unfold Tm.nx
  cases e:t.fu with
  | none=>rw [e] at h;cases h
  | some y=>
    rw [e] at h
    simp only [] at h ⊢
    cases e2:y.2.use with
    | none=>rw [e2] at h;cases h
    | some ns=>rw [e2] at h;cases h;rfl
def fin (t:Tm):Str:=if t.isAns then "answer" else "stuck"
def bSq:Nat->Tm->Str × Tm × List (List Int)
  | 0,t=>match t.nuo with
    | none=>(fin t,t,[])
    | some _=>("more", t,[])
  | k+1,t=>match t.nuo with
    | none=>(fin t,t,[])
    | some z=>if (t.behind (z.1++z.2)).over=true then ("great", t,[]) else ((bSq k (t.behind (z.1++z.2))).1,(bSq k (t.behind (z.1++z.2))).2.1,z.1::(bSq k (t.behind (z.1++z.2))).2.2)
def GoodR:Nat->Tm->Prop
  | 0,t=>t.sz<=3000
  | k+1,t=>t.sz<=3000/\∀ z u,t.nuo=some z->t.at (z.1++z.2)=some u->k5q u/\((t.behind (z.1++z.2)).over=false->GoodR k (t.behind (z.1++z.2)))
theorem GoodR.sz {k:Nat} {t:Tm} (h:GoodR k t):t.sz<=3000:=by cases k with
  | zero=>exact h
  | succ k=>exact h.1
section
variable (T:Addr) (pos:Pos) (T2:Addr) (pos2:Pos)
def Tabs2 (G:DV):Prop:=G T=some (.tab pos "lifted.<locals>.moved")/\G T2=some (.tab pos2 "put_in.<locals>.taken")
theorem Tabs2.new {T pos T2 pos2} {G:DV} {p:Addr} {o:DO} (h:Tabs2 T pos T2 pos2 G) (n:G p=none):Tabs2 T pos T2 pos2 (up G p o):=
  ⟨by rw [aIq (by rintro rfl;rw [h.1] at n;cases n)];exact h.1,by rw [aIq (by rintro rfl;rw [h.2] at n;cases n)];exact h.2⟩
def lFq:DSp:=λ ds G Q=>∃ t:Tm,ds=[t.enc]/\t.hasRule=true/\k5q t/\Tabs2 T pos T2 pos2 G/\Q t.comes.enc G
def fDq:DSp:=λ ds G Q=>∃ (t:Tm) (k:Nat) (o:Tm),ds=[t.enc,.int k,o.enc]/\t.leaf=false/\k < t.inn.length/\Q (t.rebuild (t.inn.set k o)).enc G
def oZq:DSp:=λ ds G Q=>∃ (t:Tm) (ns:List Int) (u o:Tm),ds=[t.enc,plD ns,o.enc]/\t.at ns=some u/\ns.length<=10000/\Q (Tm.rpl o ns t).enc G
def uPq:DSp:=λ ds G Q=>∃ (t:Tm) (ns:List Int) (u:Tm),ds=[t.enc,plD ns]/\t.at ns=some u/\u.hasRule=true/\k5q u/\ns.length<=10000/\Tabs2 T pos T2 pos2 G/\Q (t.behind ns).enc G
def oGq (P:Program) (w:World) (K:PySem.W.Frag) (mg:Str->Option Value) (base:Heap) (k:Nat):DSp:=λ ds G Q=>∃ (t:Tm) (f:Addr),ds=[t.enc,.ref f,.int 3000,.int 100]/\FnV P w K mg base k f (aKq K (dIq Tm.enc Tm.inn))/\Q (.bl t.over) G
def kPq:DSp:=λ ds G Q=>∃ t:Tm,ds=[t.enc]/\Q (.bl t.over) G
def iTq (P:Program) (w:World) (K:PySem.W.Frag) (mg:Str->Option Value) (base:Heap) (k:Nat):DSp:=λ ds G Q=>∃ (α:Type) (enc:α->D) (inn:α->List α) (all:α->List α) (f:Addr) (x:α),ds=[enc x,.ref f]/\(∀ y,all y=y::(inn y).flatMap all) ∧
  FnV P w K mg base k f (aKq K (dIq enc inn))/\(all x).length<=10000/\∀ l,G l=none->Q (.ref l) (up G l (.lst ((all x).map enc)))
def Tm.pinn:Tm->List Tm
  | .pair a b=>[a,b]
  | _=>[]
def Tm.pall:Tm->List Tm
  | .pair a b=>.pair a b::(a.pall++b.pall)
  | t=>[t]
theorem Tm.pall_eq (t:Tm):t.pall=t::t.pinn.flatMap Tm.pall:=by cases t<;>simp [Tm.pall,Tm.pinn]
theorem Tm.pall_len (t:Tm):t.pall.length<=t.sz:=by
  induction t<;>simp only [Tm.pall,Tm.sz,List.length_cons,List.length_append,List.length_nil]<;>omega
def Tm.an3 (u:Tm):Bool:=u.word=="whole"||u.word=="way"||u.word=="pair"
theorem Tm.pall_ans (t:Tm):t.pall.all Tm.an3=t.isAns:=by
  induction t with
  | pair a b h1 h2=>simp only [Tm.pall,List.all_cons,List.all_append,h1,h2,Tm.isAns];rfl
  | _=>rfl
def v7q:DSp:=λ ds G Q=>∃ t:Tm,ds=[t.enc]/\t.sz<=10000/\∀ l,G l=none->Q (.ref l) (up G l (.lst (t.pall.map Tm.enc)))
def wMq:DSp:=λ ds G Q=>∃ t:Tm,ds=[t.enc]/\t.sz<=10000/\Q (.bl t.isAns) G
def qIq:DSp:=λ ds G Q=>∃ (t:Tm) (k:Nat),ds=[t.enc,.int k]/\GoodR k t/\k<=1000/\Tabs2 T pos T2 pos2 G/\∀ l,G l=none->Q (.tup [.str (bSq k t).1,(bSq k t).2.1.enc,.ref l]) (up G l (.lst ((bSq k t).2.2.map plD)))
def vSq:DSp:=λ ds G Q=>∃ (t:Tm) (k:Nat),ds=[t.enc,.int k]/\GoodR k t/\k<=1000/\Tabs2 T pos T2 pos2 G/\Q (.tup [.str (bSq k t).1,(bSq k t).2.1.enc,.int (bSq k t).2.2.length]) G
end
theorem aF2q {u:Tm} {d:Nat} (h:d<=100):100 < d+u.dp ↔ ∃ x∈u.inn,100 < d+1+x.dp:=by
  cases u<;>simp [Tm.dp,Tm.inn]<;>omega
def sXq (ps:List (Tm × Nat)):Nat:=(ps.map λ z=>z.1.sz).sum
def pZq (ps:List (Tm × Nat)):Prop:=∃ z∈ps,100 < z.2+z.1.dp
theorem qMq (z:Tm × Nat) (ps:List (Tm × Nat)):sXq (z::ps)=z.1.sz+sXq ps:=by simp [sXq]
theorem aJ2q (u:Tm):(u.inn.map Tm.sz).sum+1=u.sz:=by cases u<;>simp [Tm.inn,Tm.sz]<;>omega
theorem q5q {u:Tm} {d:Nat} {ps:List (Tm × Nat)}:sXq ((u.inn.map λ x=>(x,d+1)).reverse++ps)+1=u.sz+sXq ps:=by
  have h:(u.inn.map λ x=>x.sz).sum+1=u.sz:=aJ2q u
  simp only [sXq,List.map_append,List.sum_append,List.map_reverse,List.sum_reverse,List.map_map,Function.comp_def]
  omega
theorem mYq {u:Tm} {d:Nat} {ps:List (Tm × Nat)} (h:d<=100):pZq ((u.inn.map λ x=>(x,d+1)).reverse++ps) ↔ pZq ((u,d)::ps):=by
  unfold pZq
  have e:=aF2q (u:=u) h
  constructor
  . rintro ⟨z,hz,hd⟩
    rcases List.mem_append.mp hz with hz | hz
    . obtain ⟨x,hx,rfl⟩:=List.mem_map.mp (List.mem_reverse.mp hz)
      exact ⟨(u,d),List.mem_cons_self ..,e.mpr ⟨x,hx,hd⟩⟩
    . exact ⟨z,List.mem_cons_of_mem _ hz,hd⟩
  . rintro ⟨z,hz,hd⟩
    rcases List.mem_cons.mp hz with rfl | hz
    . obtain ⟨x,hx,h2⟩:=e.mp hd
      exact ⟨(x,d+1),List.mem_append_left _ (List.mem_reverse.mpr (List.mem_map.mpr ⟨x,hx,rfl⟩)),h2⟩
    . exact ⟨z,List.mem_append_right _ hz,hd⟩
def Tm.along (t:Tm) (ns:List Int) (i:Nat):Tm:=(t.at (ns.take i)).getD (.name 0)
theorem Tm.along_step {t u:Tm} {ns:List Int} {i:Nat} {k:Int} (h:t.at ns=some u) (hk:ns[i]?=some k):0<=k/\(t.along ns i).inn[k.toNat]?=some (t.along ns (i+1)):=by
  obtain ⟨v,x,h1,h2,h3,h4⟩:=Tm.at_take h hk
  unfold Tm.along
  rw [h1,h4]
  exact ⟨h2,h3⟩
theorem p0q (z:Str):inL (.str z) [.str "whole", .str "way", .str "pair"]=(z=="whole"||z=="way"||z=="pair"):=by
  have e:∀ a b:Str,(a==b)=(b==a):=λ a b=>by rw [Bool.eq_iff_iff,beq_iff_eq,beq_iff_eq];exact eq_comm
  simp only [inL,List.any_cons,List.any_nil,eqF,Bool.or_false]
  rw [e "whole" z,e "way" z,e "pair" z,Bool.or_assoc]
theorem lLq {α:Type} {inn all:α->List α} (hall:∀ y,all y=y::(inn y).flatMap all):∀ ps:List α,ps.length<=(ps.flatMap all).length
  | []=>Nat.le_refl _
  | y::ps=>by
    have:=lLq hall ps
    rw [List.flatMap_cons,hall y,List.length_append,List.length_cons,List.length_cons]
    omega
theorem t5q {α:Type} {xs:List α} {k:Nat} (h:k<=xs.length):cut xs none (some (k:Int))=xs.take k:=by
  unfold cut
  rw [show HT.sIx xs.length 0 none=0 from rfl,show HT.sIx xs.length xs.length (some (k:Int))=k by unfold HT.sIx;simp only [];rw [if_neg (by omega)];omega,List.drop_zero,Nat.sub_zero]
theorem mBq {α:Type} {xs:List α} {k:Nat} (h:k+1<=xs.length):cut xs (some ((k:Int)+1)) none=xs.drop (k+1):=by
  unfold cut
  rw [show HT.sIx xs.length xs.length none=xs.length from rfl,show HT.sIx xs.length 0 (some ((k:Int)+1))=k+1 by unfold HT.sIx;simp only [];rw [if_neg (by omega)];omega]
  rw [List.take_of_length_le (by rw [List.length_drop];omega)]
theorem rFq {t x:Tm} {k:Nat} (h:t.inn[k]?=some x):t.leaf=false:=by
  cases t<;>first | rfl | (simp [Tm.inn] at h)
def cYq (k:Int) (ts:List Tm):List Tm:=let a:=(k % ((ts.length:Int) - 1)).toNat
  ts.take a++.pair (ts.getD a (.name 0)) (ts.getD (a+1) (.name 0))::ts.drop (a+2)
def aZq:List Int->List Tm->Tm
  | [],ts=>ts.headD (.name 0)
  | k::ks,ts=>aZq ks (cYq k ts)
theorem cSq {k:Int} {ts:List Tm} (h:2<=ts.length):(k % ((ts.length:Int) - 1)).toNat+1 < ts.length/\(((k % ((ts.length:Int) - 1)).toNat:Nat):Int)=k % ((ts.length:Int) - 1):=by
  have h1:=Int.emod_nonneg k (show ((ts.length:Int) - 1)≠0 by omega)
  have h2:=Int.emod_lt_of_pos k (show 0 < ((ts.length:Int) - 1) by omega)
  omega
theorem cMq {k:Int} {ts:List Tm} (h:2<=ts.length):(cYq k ts).length+1=ts.length:=by
  have:=cSq (k:=k) h
  unfold cYq
  simp only [List.length_append,List.length_take,List.length_cons,List.length_drop];omega
theorem xDq {α:Type} (ts:List α) (d:α) {a:Nat} (h:a+1 < ts.length):ts=ts.take a++(ts.getD a d::ts.getD (a+1) d::ts.drop (a+2)):=by
  have e1:ts.getD a d=ts[a]:=by rw [List.getD_eq_getElem?_getD,List.getElem?_eq_getElem (by omega)];rfl
  have e2:ts.getD (a+1) d=ts[a+1]:=by rw [List.getD_eq_getElem?_getD,List.getElem?_eq_getElem (by omega)];rfl
  rw [e1,e2,<- List.drop_eq_getElem_cons (by omega),<- List.drop_eq_getElem_cons (by omega),List.take_append_drop]
theorem pLq {k:Int} {ts:List Tm} (h:2<=ts.length) (f:Tm->Nat) (hf:∀ a b,f (.pair a b)=f a+f b+1):((cYq k ts).map f).sum=(ts.map f).sum+1:=by
  have ha:=(cSq (k:=k) h).1
  have e:=xDq ts (.name 0) ha
  conv=>rhs;rw [e]
  unfold cYq
  simp only [List.map_append,List.map_cons,List.sum_append,List.sum_cons,hf]
  omega
theorem fVq:∀ (js:List Int) (ts:List Tm),ts.length=js.length+1->∀ (f:Tm->Nat),(∀ a b,f (.pair a b)=f a+f b+1)->f (aZq js ts)=(ts.map f).sum+js.length
  | [],[t],_,f,_=>by simp [aZq]
  | k::ks,ts,h,f,hf=>by
    have h2:2<=ts.length:=by rw [h,List.length_cons];omega
    have hl:=cMq (k:=k) h2
    rw [aZq,fVq ks _ (by rw [List.length_cons] at h;omega) f hf,pLq h2 f hf,List.length_cons];omega
theorem pWq {k:Int} {ts:List Tm} (h:2<=ts.length) (P:Tm->Prop) (hP:∀ a b,P a->P b->P (.pair a b)) (ht:∀ t∈ts,P t):∀ t∈cYq k ts,P t:=by
  have ha:=(cSq (k:=k) h).1
  have gm:∀ j,j < ts.length->P (ts.getD j (.name 0)):=λ j hj=>by
    rw [List.getD_eq_getElem?_getD,List.getElem?_eq_getElem hj];exact ht _ (List.getElem_mem hj)
  intro t hm
  unfold cYq at hm
  rcases List.mem_append.mp hm with hm | hm
  . exact ht t (List.mem_of_mem_take hm)
  . rcases List.mem_cons.mp hm with rfl | hm
    . exact hP _ _ (gm _ (by omega)) (gm _ ha)
    . exact ht t (List.mem_of_mem_drop hm)
theorem fCq:∀ (js:List Int) (ts:List Tm),ts.length=js.length+1->∀ (P:Tm->Prop),(∀ a b,P a->P b->P (.pair a b))->(∀ t∈ts,P t)->P (aZq js ts)
  | [],[t],_,P,_,ht=>ht t (List.mem_cons_self ..)
  | k::ks,ts,h,P,hP,ht=>by
    have h2:2<=ts.length:=by rw [h,List.length_cons];omega
    have hl:=cMq (k:=k) h2
    exact fCq ks _ (by rw [List.length_cons] at h;omega) P hP (pWq h2 P hP ht)
theorem pYq {k:Int} {ts:List Tm} (h:2<=ts.length) (f:Tm->Tm) (hf:∀ a b,f (.pair a b)=.pair (f a) (f b)):(cYq k ts).map f=cYq k (ts.map f):=by
  have ha:=(cSq (k:=k) h).1
  have ge:∀ j,j < ts.length->f (ts.getD j (.name 0))=(ts.map f).getD j (.name 0):=λ j hj=>by
    rw [List.getD_eq_getElem?_getD,List.getD_eq_getElem?_getD,List.getElem?_map,List.getElem?_eq_getElem hj];rfl
  unfold cYq
  simp only [List.length_map,List.map_append,List.map_cons,List.map_take,List.map_drop,hf]
  rw [ge _ (by omega),ge _ ha]
theorem j2q:∀ (js:List Int) (ts:List Tm),ts.length=js.length+1->∀ (f:Tm->Tm),(∀ a b,f (.pair a b)=.pair (f a) (f b))->f (aZq js ts)=aZq js (ts.map f)
  | [],[t],_,f,_=>by simp [aZq]
  | k::ks,ts,h,f,hf=>by
    have h2:2<=ts.length:=by rw [h,List.length_cons];omega
    have hl:=cMq (k:=k) h2
    rw [aZq,aZq,j2q ks _ (by rw [List.length_cons] at h;omega) f hf,pYq h2 f hf]
theorem iNq:∀ (js:List Int) (ts:List Tm) (d:Nat),ts.length=js.length+1->(∀ t∈ts,t.dp<=d)->(aZq js ts).dp<=d+js.length
  | [],[t],d,_,ht=>by simpa [aZq] using ht t (List.mem_cons_self ..)
  | k::ks,ts,d,h,ht=>by
    have h2:2<=ts.length:=by rw [h,List.length_cons];omega
    have hl:=cMq (k:=k) h2
    have ha:=(cSq (k:=k) h2).1
    have gm:∀ j,j < ts.length->(ts.getD j (.name 0)).dp<=d:=λ j hj=>by
      rw [List.getD_eq_getElem?_getD,List.getElem?_eq_getElem hj];exact ht _ (List.getElem_mem hj)
    have:=iNq ks (cYq k ts) (d+1) (by rw [List.length_cons] at h;omega) (λ t hm=>by
      unfold cYq at hm
      rcases List.mem_append.mp hm with hm | hm
      . have:=ht t (List.mem_of_mem_take hm);omega
      . rcases List.mem_cons.mp hm with rfl | hm
        . have h3:=gm _ (show (k % ((ts.length:Int) - 1)).toNat < ts.length by omega)
          have h4:=gm _ ha
          simp only [Tm.dp];omega
        . have:=ht t (List.mem_of_mem_drop hm);omega)
    rw [aZq,List.length_cons];omega
def Tm.flat:Tm->Bool
  | .whole _=>true
  | .pair a b=>a.flat&&b.flat
  | _=>false
theorem f7q {φ:Nat->Nat->Tm}:∀ {t:Tm},t.flat=true->∀ w,t.mapN φ w=t:=by
  intro t
  induction t with
  | whole k=>intro _ w;rfl
  | pair a b h1 h2=>intro h w;simp only [Tm.flat,Bool.and_eq_true] at h;simp only [Tm.mapN,h1 h.1 w,h2 h.2 w]
  | _=>intro h;cases h
theorem i8q:∀ {t:Tm},t.flat=true->∀ w,t.nmsR w=[]:=by
  intro t
  induction t with
  | whole k=>intro _ w;rfl
  | pair a b h1 h2=>intro h w;simp only [Tm.flat,Bool.and_eq_true] at h;simp only [Tm.nmsR,h1 h.1 w,h2 h.2 w];rfl
  | _=>intro h;cases h
theorem rDq:∀ {t:Tm},t.flat=true->t.isAns=true:=by
  intro t
  induction t with
  | whole k=>intro _;rfl
  | pair a b h1 h2=>intro h;simp only [Tm.flat,Bool.and_eq_true] at h;simp only [Tm.isAns,h1 h.1,h2 h.2];rfl
  | _=>intro h;cases h
def e7q:Nat->Tm->Tm
  | 0,t=>t
  | n+1,t=>.way (e7q n t)
theorem e4q (φ:Nat->Nat->Tm) (t:Tm):∀ n w,(e7q n t).mapN φ w=e7q n (t.mapN φ (w+n))
  | 0,_=>rfl
  | n+1,w=>by rw [e7q,Tm.mapN,e4q φ t n (w+1),show w+1+n=w+(n+1) by omega];rfl
theorem iKq (t:Tm):∀ n,(e7q n t).sz=t.sz+n
  | 0=>rfl
  | n+1=>by simp only [e7q,Tm.sz,iKq t n];omega
theorem i6q (t:Tm):∀ n,(e7q n t).dp=t.dp+n
  | 0=>rfl
  | n+1=>by simp only [e7q,Tm.dp,i6q t n];omega
theorem pJq {t:Tm} (h:t.isAns=true):∀ n,(e7q n t).isAns=true
  | 0=>h
  | _+1=>rfl
theorem eNq (b a:Tm):(Tm.give (.way b) a).nuo=some ([],[]):=by
  unfold Tm.nuo
  rw [show (Tm.give (.way b) a).fu=some ([],.give (.way b) a) from rfl]
  simp only [Tm.use_rule (show (Tm.give (.way b) a).hasRule=true from rfl),Option.map_some]
theorem fQq {k:Nat} {b a t:Tm} (ht:b.mapN (eJq a) 0=t) (hs:(Tm.give (.way b) a).sz<=3000) (hp:k5q (.give (.way b) a)) (hn:t.over=false->GoodR k t):GoodR (k+1) (.give (.way b) a):=by
  refine ⟨hs,λ z u hz hu=>?_⟩
  rw [eNq] at hz
  cases hz
  cases (show some (Tm.give (.way b) a)=some u from hu)
  exact ⟨hp,by rw [show (Tm.give (.way b) a).behind ([]++[])=t from ht];exact hn⟩
theorem eZq (b a:Tm):bSq 0 (.give (.way b) a)=(("more" : Str),.give (.way b) a,[]):=by rw [bSq,eNq]
theorem q4q {k:Nat} {b a t:Tm} (ht:b.mapN (eJq a) 0=t) (h:t.over=true):bSq (k+1) (.give (.way b) a)=(("great" : Str),.give (.way b) a,[]):=by
  rw [bSq,eNq];simp only []
  rw [show (Tm.give (.way b) a).behind ([]++[])=t from ht,if_pos h]
theorem cAq {k:Nat} {b a t:Tm} (ht:b.mapN (eJq a) 0=t) (h:t.over=false):bSq (k+1) (.give (.way b) a)=((bSq k t).1,(bSq k t).2.1,[]::(bSq k t).2.2):=by
  rw [bSq,eNq];simp only []
  rw [show (Tm.give (.way b) a).behind ([]++[])=t from ht,if_neg (by rw [h];decide)]
theorem v0q {k:Nat} {t:Tm} (h:t.isAns=true):bSq k t=(("answer" : Str),t,[]):=by
  have e:t.nuo=none:=by unfold Tm.nuo;rw [(Tm.fu_ans t).mpr h]
  have f:fin t = "answer":=if_pos h
  cases k<;>rw [bSq,e]<;>simp only [f]
theorem qQq {k:Nat} {t:Tm} (h:t.isAns=true) (hs:t.sz<=3000):GoodR k t:=by
  have e:t.nuo=none:=by unfold Tm.nuo;rw [(Tm.fu_ans t).mpr h]
  cases k with
  | zero=>exact hs
  | succ k=>exact ⟨hs,λ z u hz=>by rw [e] at hz;cases hz⟩
structure Wd where
  m0:Nat
  m1:Nat
  m2:Nat
  r:Nat
  J0:List Int
  J1:List Int
  J2:List Int
  gv:Tm
structure WdOk (x:Wd):Prop where
  mm:(x.m0=10/\x.m1=6/\x.m2=5)\/(x.m0=10/\x.m1=5/\x.m2=6)\/(x.m0=6/\x.m1=10/\x.m2=5)\/(x.m0=6/\x.m1=5/\x.m2=10)\/(x.m0=5/\x.m1=6/\x.m2=10)\/(x.m0=5/\x.m1=10/\x.m2=6)
  hr:x.r<=5
  j0:x.J0.length+1=x.m0
  j1:x.J1.length+1=x.m1
  j2:x.J2.length+1=x.m2
  gf:x.gv.flat=true
  gs:x.gv.sz=9
  gd:x.gv.dp<=4
namespace Wd
variable (x:Wd)
def last:Tm:=e7q x.r (aZq x.J2 (List.replicate x.m2 (.name x.r)))
def second:Tm:=.give (.way x.last) (aZq x.J1 (List.replicate x.m1 (.name 0)))
def first:Tm:=.give (.way x.second) (aZq x.J0 (List.replicate x.m0 (.name 0)))
def one:Tm:=aZq x.J0 (List.replicate x.m0 x.gv)
def two:Tm:=aZq x.J1 (List.replicate x.m1 x.one)
def three:Tm:=e7q x.r (aZq x.J2 (List.replicate x.m2 x.two))
def p0:Tm:=.give (.way x.first) x.gv
def p1:Tm:=.give (.way x.second) x.one
def p2:Tm:=.give (.way x.last) x.two
end Wd
theorem nYq {u:Tm} {n w:Nat} (h:n < w):eJq u n w=.name n:=by
  unfold eJq;rw [if_neg (by omega),if_neg (by omega)]
theorem dGq {js:List Int} {m n:Nat} (h:js.length+1=m) (φ:Nat->Nat->Tm) (w:Nat):(aZq js (List.replicate m (.name n))).mapN φ w=aZq js (List.replicate m (φ n w)):=by
  rw [j2q js _ (by rw [List.length_replicate];exact h.symm) (λ t=>t.mapN φ w) (λ _ _=>rfl),List.map_replicate];rfl
theorem fIq {js:List Int} {m:Nat} {t:Tm} (h:js.length+1=m) (ht:t.flat=true):(aZq js (List.replicate m t)).flat=true:=
  fCq js _ (by rw [List.length_replicate];exact h.symm) (λ t=>t.flat=true) (λ a b h1 h2=>by simp only [Tm.flat,h1,h2];rfl) λ u hu=>by rw [List.eq_of_mem_replicate hu];exact ht
theorem l8q (m n:Nat):(List.replicate m n).sum=m * n:=by
  induction m with
  | zero=>simp
  | succ m ih=>rw [List.replicate_succ,List.sum_cons,ih,Nat.succ_mul];omega
theorem e9q {js:List Int} {m:Nat} {t:Tm} (h:js.length+1=m):(aZq js (List.replicate m t)).sz=m * t.sz+js.length:=by
  rw [fVq js _ (by rw [List.length_replicate];exact h.symm) Tm.sz (λ a b=>by simp only [Tm.sz];omega),List.map_replicate,l8q]
theorem dXq {js:List Int} {m:Nat} {t:Tm} (h:js.length+1=m):(aZq js (List.replicate m t)).dp<=t.dp+js.length:=
  iNq js _ _ (by rw [List.length_replicate];exact h.symm) λ u hu=>by rw [List.eq_of_mem_replicate hu];exact Nat.le_refl _
section
variable {x:Wd} (W:WdOk x)
include W
theorem g1q (u:Tm) {w:Nat} (hw:1<=w):x.last.mapN (eJq u) w=x.last:=by
  unfold Wd.last
  rw [e4q,dGq W.j2,nYq (by omega)]
theorem rQq:x.first.mapN (eJq x.gv) 0=x.p1:=by
  unfold Wd.first Wd.p1
  simp only [Tm.mapN]
  rw [dGq W.j0,show eJq x.gv 0 0=x.gv.mapN (bIq 0 0) 0 from rfl,f7q W.gf]
  congr 2
  unfold Wd.second
  simp only [Tm.mapN]
  rw [dGq W.j1,nYq (by omega),g1q W _ (by omega)]
theorem q8q:x.one.flat=true:=fIq W.j0 W.gf
theorem qLq:x.two.flat=true:=fIq W.j1 (q8q W)
theorem v4q:x.second.mapN (eJq x.one) 0=x.p2:=by
  unfold Wd.second Wd.p2
  simp only [Tm.mapN]
  rw [dGq W.j1,show eJq x.one 0 0=x.one.mapN (bIq 0 0) 0 from rfl,f7q (q8q W),g1q W _ (by omega)]
  rfl
theorem vIq:x.last.mapN (eJq x.two) 0=x.three:=by
  unfold Wd.last Wd.three
  rw [e4q,dGq W.j2,Nat.zero_add,show eJq x.two x.r x.r=x.two.mapN (bIq x.r 0) 0 from if_pos rfl,f7q (qLq W)]
theorem nDq:x.one.sz+1=10 * x.m0/\x.two.sz+1=10 * x.m0 * x.m1/\x.three.sz=2999+x.r/\x.last.sz<=30/\x.second.sz<=45/\x.first.sz<=60:=by
  have h0:=W.j0
  have h1:=W.j1
  have h2:=W.j2
  have e0:x.one.sz=x.m0 * 9+x.J0.length:=by unfold Wd.one;rw [e9q h0,W.gs]
  have e1:x.two.sz=x.m1 * x.one.sz+x.J1.length:=by unfold Wd.two;rw [e9q h1]
  have e2:x.three.sz=x.m2 * x.two.sz+x.J2.length+x.r:=by unfold Wd.three;rw [iKq,e9q h2]
  have e3:x.last.sz=x.m2 * 1+x.J2.length+x.r:=by unfold Wd.last;rw [iKq,e9q h2];rfl
  have e4:x.second.sz=1+(1+x.last.sz)+(x.m1 * 1+x.J1.length):=by unfold Wd.second;simp only [Tm.sz];rw [e9q h1];simp only [Tm.sz]
  have e5:x.first.sz=1+(1+x.second.sz)+(x.m0 * 1+x.J0.length):=by unfold Wd.first;simp only [Tm.sz];rw [e9q h0];simp only [Tm.sz]
  have hr:=W.hr
  rcases W.mm with ⟨a,b,c⟩ | ⟨a,b,c⟩ | ⟨a,b,c⟩ | ⟨a,b,c⟩ | ⟨a,b,c⟩ | ⟨a,b,c⟩<;>(rw [a] at h0 e0 e5;rw [b] at h1 e1 e4;rw [c] at h2 e2 e3;rw [a,b];omega)
theorem qRq:x.one.dp<=13/\x.two.dp<=22/\x.three.dp<=40:=by
  have h0:=W.j0
  have h1:=W.j1
  have h2:=W.j2
  have d0:x.one.dp<=x.gv.dp+x.J0.length:=dXq h0
  have d1:x.two.dp<=x.one.dp+x.J1.length:=dXq h1
  have d2:(aZq x.J2 (List.replicate x.m2 x.two)).dp<=x.two.dp+x.J2.length:=dXq h2
  have d3:x.three.dp=(aZq x.J2 (List.replicate x.m2 x.two)).dp+x.r:=i6q _ _
  have hr:=W.hr
  have hg:=W.gd
  rcases W.mm with ⟨a,b,c⟩ | ⟨a,b,c⟩ | ⟨a,b,c⟩ | ⟨a,b,c⟩ | ⟨a,b,c⟩ | ⟨a,b,c⟩<;>omega
theorem hSq:x.p0.sz<=3000/\x.p1.sz<=3000/\x.p2.sz<=3000/\x.p1.over=false/\x.p2.over=false:=by
  obtain ⟨s1,s2,s3,s4,s5,s6⟩:=nDq W
  obtain ⟨d1,d2,d3⟩:=qRq W
  have b4:=x.last.dp_sz
  have b5:=x.second.dp_sz
  have gs:=W.gs
  have hm:x.one.sz<=100/\x.two.sz<=600:=by rcases W.mm with ⟨a,b,c⟩ | ⟨a,b,c⟩ | ⟨a,b,c⟩ | ⟨a,b,c⟩ | ⟨a,b,c⟩ | ⟨a,b,c⟩<;>(rw [a,b] at s2;rw [a] at s1;omega)
  have z0:x.p0.sz=1+(1+x.first.sz)+x.gv.sz:=rfl
  have z1:x.p1.sz=1+(1+x.second.sz)+x.one.sz:=rfl
  have z2:x.p2.sz=1+(1+x.last.sz)+x.two.sz:=rfl
  have y1:x.p1.dp=1+max (1+x.second.dp) x.one.dp:=rfl
  have y2:x.p2.dp=1+max (1+x.last.dp) x.two.dp:=rfl
  refine ⟨by omega,by omega,by omega,?_,?_⟩
  . unfold Tm.over;rw [decide_eq_false (by omega),decide_eq_false (by omega)];rfl
  . unfold Tm.over;rw [decide_eq_false (by omega),decide_eq_false (by omega)];rfl
theorem l6q:x.three.over=decide (2<=x.r):=by
  obtain ⟨s1,s2,s3,s4,s5,s6⟩:=nDq W
  obtain ⟨d1,d2,d3⟩:=qRq W
  unfold Tm.over
  rw [decide_eq_false (show ¬ 100 < x.three.dp by omega),Bool.or_false,s3]
  by_cases h:2<=x.r
  . rw [decide_eq_true h,decide_eq_true (by omega)]
  . rw [decide_eq_false h,decide_eq_false (by omega)]
theorem tLq:x.three.isAns=true:=pJq (rDq (fIq W.j2 (qLq W))) _
theorem v6q:k5q x.p0/\k5q x.p1/\k5q x.p2:=by
  obtain ⟨s1,s2,s3,s4,s5,s6⟩:=nDq W
  have hm:x.one.sz<=100/\x.two.sz<=600:=by rcases W.mm with ⟨a,b,c⟩ | ⟨a,b,c⟩ | ⟨a,b,c⟩ | ⟨a,b,c⟩ | ⟨a,b,c⟩ | ⟨a,b,c⟩<;>(rw [a,b] at s2;rw [a] at s1;omega)
  have n0:=x.first.nmsR_len 0
  have n1:=x.second.nmsR_len 0
  have n2:=x.last.nmsR_len 0
  have gs:=W.gs
  exact ⟨⟨by omega,by omega,by omega,by rw [i8q W.gf];decide⟩,⟨by omega,by omega,by omega,by rw [i8q (q8q W)];decide⟩,⟨by omega,by omega,by omega,by rw [i8q (qLq W)];decide⟩⟩
theorem fJq (k:Nat):GoodR k x.p0:=by
  obtain ⟨z0,z1,z2,o1,o2⟩:=hSq W
  obtain ⟨q0,q1,q2⟩:=v6q W
  obtain ⟨s1,s2,s3,s4,s5,s6⟩:=nDq W
  have g3:∀ k,x.three.over=false->GoodR k x.three:=λ k h=>by
    rw [l6q W] at h
    have:=of_decide_eq_false h
    exact qQq (tLq W) (by omega)
  have g2:∀ k,GoodR k x.p2:=λ k=>by cases k with
    | zero=>exact z2
    | succ k=>exact fQq (vIq W) z2 q2 (g3 k)
  have g1:∀ k,GoodR k x.p1:=λ k=>by cases k with
    | zero=>exact z1
    | succ k=>exact fQq (v4q W) z1 q1 λ _=>g2 k
  cases k with
  | zero=>exact z0
  | succ k=>exact fQq (rQq W) z0 q0 λ _=>g1 k
theorem lIq (k:Nat):bSq k x.p0=match k with
    | 0=>(("more" : Str),x.p0,[])
    | 1=>(("more" : Str),x.p1,[[]])
    | 2=>(("more" : Str),x.p2,[[],[]])
    | _=>if 2<=x.r then (("great" : Str),x.p2,[[],[]]) else (("answer" : Str),x.three,[[],[],[]]):=by
  obtain ⟨z0,z1,z2,o1,o2⟩:=hSq W
  match k with
  | 0=>exact eZq _ _
  | 1=>rw [show x.p0=.give (.way x.first) x.gv from rfl,cAq (rQq W) o1,show x.p1=.give (.way x.second) x.one from rfl,eZq];rfl
  | 2=>rw [show x.p0=.give (.way x.first) x.gv from rfl,cAq (rQq W) o1,show x.p1=.give (.way x.second) x.one from rfl,cAq (v4q W) o2,show x.p2=.give (.way x.last) x.two from rfl,eZq];rfl
  | k+3=>
    simp only []
    rw [show x.p0=.give (.way x.first) x.gv from rfl,cAq (rQq W) o1,show x.p1=.give (.way x.second) x.one from rfl,cAq (v4q W) o2,show x.p2=.give (.way x.last) x.two from rfl]
    by_cases h:2<=x.r
    . rw [q4q (vIq W) (by rw [l6q W];exact decide_eq_true h),if_pos h]
    . rw [cAq (vIq W) (by rw [l6q W];exact decide_eq_false h),if_neg h,v0q (tLq W)]
end
def j0q (l:Tm):Nat->Tm->Tm
  | 0,p=>.first p
  | 1,p=>.second p
  | 2,p=>.give p l
  | 3,p=>.plus p l
  | 4,p=>.look p l l
  | _,p=>.plus l p
def lay (l:Tm):List Nat->Tm->Tm
  | [],p=>p
  | f::fs,p=>lay l fs (j0q l f p)
def tIq:Tm->Bool
  | .give _ _=>true
  | .first _=>true
  | .second _=>true
  | .plus _ _=>true
  | .look _ _ _=>true
  | _=>false
def lix:Nat->Int
  | 0=>0 | 1=>0 | 2=>0 | 3=>0 | 4=>0 | _=>1
section
variable {v:Int} {p:Tm}
theorem jXq (l:Tm) (f:Nat) (p:Tm):tIq (j0q l f p)=true:=by
  rcases f with _ | _ | _ | _ | _ | f<;>rfl
theorem i5q (l:Tm):∀ (fs:List Nat) {p:Tm},tIq p=true->tIq (lay l fs p)=true
  | [],_,h=>h
  | f::fs,p,_=>i5q l fs (jXq l f p)
theorem qSq (hb:tIq p=true) (f:Nat):(j0q (.whole v) f p).use=p.use.map (lix f::·):=by
  have hw:(p.word=="whole")=false:=by cases p<;>first | rfl | cases hb
  rcases f with _ | _ | _ | _ | _ | f<;>simp only [j0q,lix,Tm.use]
  . rw [if_neg (by cases p<;>first | (simp [Tm.hasRule];done) | cases hb)]
  . rw [if_neg (by cases p<;>first | (simp [Tm.hasRule];done) | cases hb)]
  . rw [if_neg (by cases p<;>first | (simp [Tm.hasRule];done) | cases hb)]
  . rw [if_neg (by cases p<;>first | (simp [Tm.hasRule];done) | cases hb),if_neg (by rw [hw];decide)]
  . rw [if_neg (by cases p<;>first | (simp [Tm.hasRule];done) | cases hb)]
  . rw [if_neg (by cases p<;>first | (simp [Tm.hasRule];done) | cases hb),if_pos (by rfl)]
theorem vGq (l:Tm) (f:Nat) (ns:List Int):(j0q l f p).at (lix f::ns)=p.at ns:=by
  rcases f with _ | _ | _ | _ | _ | f<;>exact Tm.at_go (by simp [lix]) rfl
theorem sDq (l o:Tm) (f:Nat) (ns:List Int):Tm.rpl o (lix f::ns) (j0q l f p)=j0q l f (Tm.rpl o ns p):=by
  rcases f with _ | _ | _ | _ | _ | f<;>rfl
theorem uIq (f:Nat):(j0q (.whole v) f p).dp=p.dp+1:=by
  rcases f with _ | _ | _ | _ | _ | f<;>simp [j0q,Tm.dp]<;>omega
theorem vOq (f:Nat):(j0q (.whole v) f p).sz<=p.sz+3:=by
  rcases f with _ | _ | _ | _ | _ | f<;>simp [j0q,Tm.sz]<;>omega
theorem qJq (φ:Nat->Nat->Tm) (w f:Nat):(j0q (.whole v) f p).mapN φ w=j0q (.whole v) f (p.mapN φ w):=by
  rcases f with _ | _ | _ | _ | _ | f<;>rfl
theorem rIq (w f:Nat):(j0q (.whole v) f p).nmsR w=p.nmsR w:=by
  rcases f with _ | _ | _ | _ | _ | f<;>simp [j0q,Tm.nmsR]
end
section
variable {v:Int}
theorem lMq:∀ (fs:List Nat) (p:Tm),(lay (.whole v) fs p).dp=p.dp+fs.length
  | [],_=>rfl
  | f::fs,p=>by rw [lay,lMq fs,uIq,List.length_cons];omega
theorem m3q:∀ (fs:List Nat) (p:Tm),(lay (.whole v) fs p).sz<=p.sz+3 * fs.length
  | [],_=>Nat.le_refl _
  | f::fs,p=>by
    have h1:=m3q fs (j0q (.whole v) f p)
    have h2:=vOq (v:=v) (p:=p) f
    rw [lay,List.length_cons];omega
theorem m1q (φ:Nat->Nat->Tm) (w:Nat):∀ (fs:List Nat) (p:Tm),(lay (.whole v) fs p).mapN φ w=lay (.whole v) fs (p.mapN φ w)
  | [],_=>rfl
  | f::fs,p=>by rw [lay,m1q φ w fs,qJq];rfl
theorem pTq (w:Nat):∀ (fs:List Nat) (p:Tm),(lay (.whole v) fs p).nmsR w=p.nmsR w
  | [],_=>rfl
  | f::fs,p=>by rw [lay,pTq w fs,rIq]
theorem kLq (l:Tm):∀ (fs gs:List Nat) (p:Tm),lay l (fs++gs) p=lay l gs (lay l fs p)
  | [],_,_=>rfl
  | f::fs,gs,p=>by rw [List.cons_append,lay,kLq l fs gs];rfl
theorem pPq:∀ (fs:List Nat) {p:Tm},tIq p=true->∃ ms:List Int,(∀ ns,p.use=some ns->(lay (.whole v) fs p).use=some (ms++ns))/\(∀ ns,(lay (.whole v) fs p).at (ms++ns)=p.at ns)/\∀ o ns,Tm.rpl o (ms++ns) (lay (.whole v) fs p)=lay (.whole v) fs (Tm.rpl o ns p)
  | [],_,_=>⟨[],λ _ h=>h,λ _=>rfl,λ _ _=>rfl⟩
  | f::fs,p,hb=>by
    obtain ⟨ms,h1,h2,h3⟩:=pPq fs (jXq (.whole v) f p)
    refine ⟨ms++[lix f],λ ns h=>?_,λ ns=>?_,λ o ns=>?_⟩
    . rw [lay,h1 (lix f::ns) (by rw [qSq hb,h];rfl),List.append_assoc];rfl
    . rw [lay,List.append_assoc,List.singleton_append,h2,vGq]
    . rw [lay,List.append_assoc,List.singleton_append,h3,sDq];rfl
theorem rNq {p:Tm} {ns:List Int} (hb:tIq p=true) (h:p.use=some ns):p.nuo=some ([],ns):=by
  unfold Tm.nuo
  have e:p.fu=some ([],p):=by cases p<;>first | rfl | cases hb
  rw [e];simp only [h,Option.map_some]
end
def lpB (v:Int) (fs:List Nat):Tm:=lay (.whole v) fs (.give (.name 0) (.name 0))
def kBq (v:Int) (fs:List Nat):Tm:=.way (lpB v fs)
def lpC (v:Int) (fs:List Nat):Tm:=.give (kBq v fs) (kBq v fs)
def lpP (v:Int) (fs ar:List Nat) (j:Nat):Tm:=lay (.whole v) ar (lay (.whole v) (List.replicate j fs).flatten (lpC v fs))
section
variable {v:Int} {fs ar:List Nat}
theorem rWq:(lpB v fs).mapN (eJq (kBq v fs)) 0=lay (.whole v) fs (lpC v fs):=by
  unfold lpB
  rw [m1q]
  congr 1
  simp only [Tm.mapN]
  rw [show eJq (kBq v fs) 0 0=(kBq v fs).mapN (bIq 0 0) 0 from rfl,f2q]
  rfl
theorem g0q (j:Nat):∃ ns,(lpP v fs ar j).nuo=some ([],ns)/\(lpP v fs ar j).at ns=some (lpC v fs)/\(lpP v fs ar j).behind ns=lpP v fs ar (j+1):=by
  have hb:tIq (lay (.whole v) (List.replicate j fs).flatten (lpC v fs))=true:=i5q _ _ rfl
  have hb2:tIq (lpP v fs ar j)=true:=i5q _ _ hb
  obtain ⟨m1,a1,a2,a3⟩:=pPq (v:=v) (List.replicate j fs).flatten (p:=lpC v fs) rfl
  obtain ⟨m2,b1,b2,b3⟩:=pPq (v:=v) ar hb
  have hu:(lpC v fs).use=some []:=Tm.use_rule rfl
  refine ⟨m2++(m1++[]),rNq hb2 (b1 _ (a1 _ hu)),by unfold lpP;rw [b2,a2];rfl,?_⟩
  unfold Tm.behind
  rw [show (lpP v fs ar j).at (m2++(m1++[]))=some (lpC v fs) by unfold lpP;rw [b2,a2];rfl]
  simp only []
  unfold lpP
  rw [b3,a3,Tm.rpl,show (lpC v fs).comes=(lpB v fs).mapN (eJq (kBq v fs)) 0 from rfl,rWq,List.replicate_succ,List.flatten_cons,kLq]
theorem i0q (j:Nat):(List.replicate j fs).flatten.length=j * fs.length:=by
  rw [List.length_flatten,List.map_replicate,l8q]
theorem v3q (j:Nat):(lpP v fs ar j).dp=3+fs.length+j * fs.length+ar.length:=by
  unfold lpP
  rw [lMq,lMq,i0q]
  have:(lpC v fs).dp=1+max (1+(lpB v fs).dp) (1+(lpB v fs).dp):=rfl
  have h2:(lpB v fs).dp=1+fs.length:=by unfold lpB;rw [lMq];rfl
  omega
theorem sZq:(lpB v fs).sz<=3+3 * fs.length:=by
  unfold lpB
  exact m3q (v:=v) fs (.give (.name 0) (.name 0))
theorem pKq (j:Nat):(lpP v fs ar j).sz<=9+6 * fs.length+3 * (j * fs.length)+3 * ar.length:=by
  unfold lpP
  have h1:=m3q (v:=v) ar (lay (.whole v) (List.replicate j fs).flatten (lpC v fs))
  have h2:=m3q (v:=v) (List.replicate j fs).flatten (lpC v fs)
  rw [i0q] at h2
  have h3:(lpC v fs).sz=1+(1+(lpB v fs).sz)+(1+(lpB v fs).sz):=rfl
  have h4:=sZq (v:=v) (fs:=fs)
  omega
theorem xEq (h:fs.length<=6):k5q (lpC v fs):=by
  have h4:=sZq (v:=v) (fs:=fs)
  have e:∀ w,((lpB v fs).nmsR w).length=2:=λ w=>by unfold lpB;rw [pTq];rfl
  have e2:(kBq v fs).sz=1+(lpB v fs).sz:=rfl
  refine ⟨by omega,by omega,by rw [e];decide,?_⟩
  rw [show (kBq v fs).nmsR 0=(lpB v fs).nmsR 1 from rfl,e];decide
theorem lBq {j:Nat} (h6:fs.length<=6) (h5:ar.length<=5) (hj:j * fs.length<=110):(lpP v fs ar j).over=decide (100 < 3+fs.length+j * fs.length+ar.length):=by
  have:=pKq (v:=v) (fs:=fs) (ar:=ar) j
  unfold Tm.over
  rw [decide_eq_false (show ¬ 3000 < (lpP v fs ar j).sz by omega),v3q];rfl
theorem hYq {v:Int} {fs ar:List Nat} {L:Nat} (h6:fs.length<=6) (h5:ar.length<=5) (hL:∀ j,j<=L+1->j * fs.length<=110) (hO:∀ j,j=L+1->(lpP v fs ar j).over=true\/fs=[]):∀ (k j:Nat),j<=L->GoodR k (lpP v fs ar j)
  | 0,j,hj=>by
    have:=pKq (v:=v) (fs:=fs) (ar:=ar) j
    have:=hL j (by omega)
    show (lpP v fs ar j).sz<=3000
    omega
  | k+1,j,hj=>by
    have h1:=pKq (v:=v) (fs:=fs) (ar:=ar) j
    have h2:=hL j (by omega)
    refine ⟨by omega,λ z u hz hu=>?_⟩
    obtain ⟨ns,e1,e2,e3⟩:=g0q (v:=v) (fs:=fs) (ar:=ar) j
    rw [e1] at hz
    cases hz
    rw [List.nil_append] at hu ⊢
    rw [e2] at hu
    cases hu
    refine ⟨xEq h6,λ ho=>?_⟩
    rw [e3] at ho ⊢
    by_cases c:j+1<=L
    . exact hYq h6 h5 hL hO k (j+1) c
    . rcases hO (j+1) (by omega) with h | rfl
      . rw [h] at ho;cases ho
      . have e:lpP v [] ar (j+1)=lpP v [] ar j:=by unfold lpP;simp
        have ih:=hYq (v:=v) (fs:=[]) (ar:=ar) h6 h5 hL hO k j hj
        rw [e];exact ih
theorem t3q {L:Nat} (hno:∀ j,j<=L->(lpP v fs ar j).over=false) (hyes:(lpP v fs ar (L+1)).over=true):∀ (k j:Nat),j<=L->((bSq k (lpP v fs ar j)).1=if L < j+k then "great" else "more")/\(bSq k (lpP v fs ar j)).2.1=lpP v fs ar (min (j+k) L)/\(bSq k (lpP v fs ar j)).2.2.length=min (j+k) L - j
  | 0,j,hj=>by
    obtain ⟨ns,e1,e2,e3⟩:=g0q (v:=v) (fs:=fs) (ar:=ar) j
    rw [bSq,e1]
    simp only []
    rw [if_neg (by omega),Nat.add_zero,Nat.min_eq_left hj]
    exact ⟨rfl,rfl,by simp⟩
  | k+1,j,hj=>by
    obtain ⟨ns,e1,e2,e3⟩:=g0q (v:=v) (fs:=fs) (ar:=ar) j
    rw [bSq,e1]
    simp only [List.nil_append]
    rw [e3]
    by_cases c:j+1<=L
    . rw [if_neg (by rw [hno _ c];decide)]
      obtain ⟨h1,h2,h3⟩:=t3q hno hyes k (j+1) c
      rw [show j+(k+1)=j+1+k by omega]
      exact ⟨h1,h2,by rw [List.length_cons,h3];omega⟩
    . have e:j=L:=by omega
      subst e
      rw [if_pos hyes,if_pos (by omega),Nat.min_eq_right (by omega)]
      exact ⟨rfl,rfl,by simp⟩
theorem cVq (h5:ar.length<=5):∀ k:Nat,(bSq k (lpP v [] ar 0)).1 = "more"/\(bSq k (lpP v [] ar 0)).2.1=lpP v [] ar 0/\(bSq k (lpP v [] ar 0)).2.2.length=k
  | 0=>by
    obtain ⟨ns,e1,e2,e3⟩:=g0q (v:=v) (fs:=[]) (ar:=ar) 0
    rw [bSq,e1];exact ⟨rfl,rfl,rfl⟩
  | k+1=>by
    obtain ⟨ns,e1,e2,e3⟩:=g0q (v:=v) (fs:=[]) (ar:=ar) 0
    have e:lpP v [] ar (0+1)=lpP v [] ar 0:=by unfold lpP;simp
    have o:(lpP v [] ar 0).over=false:=by rw [lBq (by decide) h5 (by simp)];exact decide_eq_false (by simp;omega)
    rw [bSq,e1]
    simp only [List.nil_append]
    rw [e3,e,if_neg (by rw [o];decide)]
    obtain ⟨h1,h2,h3⟩:=cVq h5 k
    exact ⟨h1,h2,by rw [List.length_cons,h3]⟩
end
def iQq:DSp:=λ ds G Q=>∃ (l m:Addr) (ts:List Tm) (js:List Int),ds=[.ref l,.ref m]/\G l=some (.lst (ts.map Tm.enc))/\G m=some (.lst (js.map D.int))/\ts.length=js.length+1/\ts.length<=100/\Q (aZq js ts).enc G
def kWq:DSp:=λ ds G Q=>∃ (t:Tm) (n:Nat),ds=[t.enc,.int n]/\n<=1000/\Q (e7q n t).enc G
def Fy (a:Addr) (G G':DV):Prop:=Fd G' a/\∀ b o,b≠a->G b=some o->G' b=some o
theorem Fy.refl {a:Addr} {G:DV} (h:Fd G a):Fy a G G:=⟨h,λ _ _ _ e=>e⟩
theorem Fy.fx {a:Addr} {G G1 G2:DV} (h:Fy a G G1) (u:Fx a G1 G2):Fy a G G2:=⟨u.fd,λ b o n e=>by rw [u.other n];exact h.2 b o n e⟩
theorem Fy.new {a p:Addr} {G G1:DV} {o:DO} (h:Fy a G G1) (n:G1 p=none):Fy a G (up G1 p o):=⟨h.1.new n,λ b u nb e=>by
  have:=h.2 b u nb e
  rw [aIq (by rintro rfl;rw [n] at this;cases this)];exact this⟩
def o1q:DSp:=λ ds G Q=>∃ a,ds=[.ref a]/\Fd G a/\∀ (x:Wd) (l:Addr) G',WdOk x->Fy a G G'->l≠a->G' l=some (.lst [x.p0.enc,x.p1.enc,x.p2.enc,x.three.enc])->Q (.tup [.ref l,.int (2999+x.r)]) G'
def Due (t:Tm) (k:Nat) (w:Str) (u:Tm) (n:Nat):Prop:=GoodR k t/\k<=1000/\(bSq k t).1=w/\(bSq k t).2.1=u/\(bSq k t).2.2.length=n/\u.sz<=3000/\u.dp<=110
def i2q:DSp:=λ ds G Q=>∃ a,ds=[.ref a]/\Fd G a/\∀ (t:Tm) (k:Nat) (w:Str) (u:Tm) (n:Nat) G',Due t k w u n->(∀ b o,b≠a->G b=some o->G' b=some o)->Q (.tup [t.enc,.int k,.tup [.str w,u.enc,.int n]]) G'
def s3q:DSp:=λ ds G Q=>∃ (p:Tm) (m:Addr) (fs:List Nat) (v:Int),ds=[p.enc,.ref m,(Tm.whole v).enc]/\G m=some (.lst (fs.map λ(f:Nat)=>D.int f))/\(∀ f∈fs,f < 6)/\fs.length<=1000/\Q (lay (.whole v) fs p).enc G
theorem c7q {α:Type} (a:Addr) (en:α->D) (P:α->Prop) {J:DIt} {G1:DV} {g:DTG} {te:DTE} {nt:Nat} {cap:List Nat} {ρ:DSt} {Q:DK} (hz:J.items.length<=1000) (held:∀ G,J.held G) (hF:Fd G1 a)
    (turn:∀ d G (R:DK),Fd G a->(∀ x G',Fx a G G'->P x->R (en x) G')->g d (cWq nt cap ρ) G λ ρ3 G3=>te ρ3 G3 R)
    (q:∀ (xs:List α) G',xs.length=J.items.length->(∀ x∈xs,P x)->Fx a G1 G'->∀ p,G' p=none->Q (.ref p) (up G' p (.lst (xs.map en)))):lDq g te nt cap ρ Q J G1:=by
  refine iUq (λ i ds G'=>∃ xs:List α,ds=xs.map en/\xs.length=i/\(∀ x∈xs,P x)/\Fx a G1 G') (aYq (by omega)) ⟨[],rfl,rfl,by simp,.refl hF⟩ (λ _ _ _ _ _=>held _) ?_ ?_
  . rintro i d ds G' hd ⟨xs,rfl,hxl,hx,u⟩
    refine turn d G' _ u.fd λ x G2 u2 hp=>WkV.of ⟨xs++[x],by simp,by simp [hxl],λ y hy=>?_,u.trans u2⟩
    rcases List.mem_append.mp hy with hy | hy
    . exact hx y hy
    . simp at hy;subst hy;exact hp
  . rintro ds G' ⟨xs,rfl,hxl,hx,u⟩ p hp
    exact q xs G' hxl hx u p hp
theorem l3q {ds:List D} {i:Int} {G:DV} {Q:DK} (h0:0<=i) (h1:i < ds.length) (h:∀ d∈ds,Q d G):atS ds i G Q:=by
  obtain ⟨n,rfl⟩:∃ n:Nat,i=n:=⟨i.toNat,by omega⟩
  have hl:n < ds.length:=by omega
  exact pUq (dMq (d:=ds[n]) (c2q (List.getElem?_eq_getElem hl)) (h _ (List.getElem_mem hl)))
theorem nOq {R:DK} {G:DV} {k:Int} {m:Nat} (k0:0<=k) (k1:k < m) (h:∀ n:Nat,n < m->R (.int n) G):R (.int k) G:=by
  have:=h k.toNat (by omega)
  rwa [show ((k.toNat:Nat):Int)=k by omega] at this
theorem lSq {n a L:Nat} (h3:3<=n) (h6:n<=6) (h5:a<=5) (hL:(L:Int)=(97 - (n:Int) - (a:Int)) / (n:Int)):14<=L/\L<=31/\(∀ j,j<=L->3+n+j * n+a<=100)/\100 < 3+n+(L+1) * n+a/\∀ j,j<=L+1->j * n<=110:=by
  rcases (by omega:n=3\/n=4\/n=5\/n=6) with rfl | rfl | rfl | rfl<;>exact ⟨by omega,by omega,λ j hj=>by omega,by omega,λ j hj=>by omega⟩
theorem sKq {v:Int} {fs ar:List Nat} {L k:Nat} (h3:3<=fs.length) (h6:fs.length<=6) (h5:ar.length<=5) (hL:(L:Int)=(97 - (fs.length:Int) - (ar.length:Int)) / (fs.length:Int)) (hk:k<=1000):Due (lpP v fs ar 0) k ((if L < k then "great" else "more" : String)) (lpP v fs ar (min k L)) (min k L):=by
  obtain ⟨h14,h31,hlow,hhigh,h110⟩:=lSq h3 h6 h5 hL
  have hno:∀ j,j<=L->(lpP v fs ar j).over=false:=λ j hj=>by
    rw [lBq h6 h5 (h110 j (by omega))];exact decide_eq_false (by have:=hlow j hj;omega)
  have hyes:(lpP v fs ar (L+1)).over=true:=by
    rw [lBq h6 h5 (h110 _ (Nat.le_refl _))];exact decide_eq_true hhigh
  obtain ⟨r1,r2,r3⟩:=t3q hno hyes k 0 (by omega)
  rw [Nat.zero_add] at r1 r2 r3
  have hs:=pKq (v:=v) (fs:=fs) (ar:=ar) (min k L)
  have hd:=v3q (v:=v) (fs:=fs) (ar:=ar) (min k L)
  have h1:=hlow (min k L) (by omega)
  refine ⟨hYq h6 h5 h110 (λ j hj=>.inl (by rw [hj];exact hyes)) k 0 (by omega),hk,r1,r2,by rw [r3];omega,by omega,by omega⟩
theorem Sub.ext {G G1:DV} {p:Addr} {o:DO} (h:Sub G G1) (n:G1 p=Option.none):Sub G (up G1 p o):=λ b u e=>Sub.new (Sub.refl _) n b u (h b u e)
theorem Fy.sub {a:Addr} {G G1 G2:DV} (h:Fy a G G1) (k:Sub G1 G2):Fy a G G2:=⟨by obtain ⟨x,y,e⟩:=h.1;exact ⟨x,y,k _ _ e⟩,λ b o n e=>k _ _ (h.2 b o n e)⟩
theorem wQq {G:DV} {l:Addr} {t:Tm} {m:Nat} {Q:DK} (hl:G l=some (.lst [t.enc])) (hm:m<=100) (q:∀ p,G p=none->Q (.ref p) (up G p (.lst ((List.replicate m t).map Tm.enc)))):uLq (.ref l) (.int m) G Q:=by
  refine aHq hl ⟨by omega,by omega,by simp,λ p hp=>?_⟩
  have:=q p hp
  rw [List.map_replicate] at this
  rw [Int.toNat_natCast,List.flatten_replicate_singleton];exact this
theorem aD3q {x:Wd} (W:WdOk x):x.p0.dp<=50/\x.p1.dp<=50/\x.p2.dp<=50:=by
  obtain ⟨d1,d2,-⟩:=qRq W
  have h0:=W.j0
  have h1:=W.j1
  have h2:=W.j2
  have hm:x.m0<=10/\x.m1<=10/\x.m2<=10:=by have:=W.mm;omega
  have a0:(aZq x.J0 (List.replicate x.m0 (.name 0))).dp<=0+x.J0.length:=dXq (t:=.name 0) h0
  have a1:(aZq x.J1 (List.replicate x.m1 (.name 0))).dp<=0+x.J1.length:=dXq (t:=.name 0) h1
  have a2:(aZq x.J2 (List.replicate x.m2 (.name x.r))).dp<=0+x.J2.length:=dXq (t:=.name x.r) h2
  have a3:x.last.dp=(aZq x.J2 (List.replicate x.m2 (.name x.r))).dp+x.r:=i6q _ _
  have a4:x.second.dp=1+max (1+x.last.dp) (aZq x.J1 (List.replicate x.m1 (.name 0))).dp:=rfl
  have a5:x.first.dp=1+max (1+x.second.dp) (aZq x.J0 (List.replicate x.m0 (.name 0))).dp:=rfl
  have b0:x.p0.dp=1+max (1+x.first.dp) x.gv.dp:=rfl
  have b1:x.p1.dp=1+max (1+x.second.dp) x.one.dp:=rfl
  have b2:x.p2.dp=1+max (1+x.last.dp) x.two.dp:=rfl
  have hr:=W.hr
  have hg:=W.gd
  omega
theorem zMq {x:Wd} (W:WdOk x):Due x.p0 0 "more" x.p0 0/\Due x.p0 1 "more" x.p1 1/\Due x.p0 2 "more" x.p2 2/\∀ k,3<=k->k<=1000->(x.r<=1->Due x.p0 k "answer" x.three 3)/\(2<=x.r->Due x.p0 k "great" x.p2 2):=by
  obtain ⟨z0,z1,z2,-,-⟩:=hSq W
  obtain ⟨d0,d1,d2⟩:=aD3q W
  obtain ⟨-,-,d3⟩:=qRq W
  obtain ⟨-,-,s3,-,-,-⟩:=nDq W
  have r0:bSq 0 x.p0=(("more" : Str),x.p0,[]):=lIq W 0
  have r1:bSq 1 x.p0=(("more" : Str),x.p1,[[]]):=lIq W 1
  have r2:bSq 2 x.p0=(("more" : Str),x.p2,[[],[]]):=lIq W 2
  refine ⟨⟨fJq W 0,by omega,by rw [r0],by rw [r0],by rw [r0];rfl,z0,by omega⟩,⟨fJq W 1,by omega,by rw [r1],by rw [r1],by rw [r1];rfl,z1,by omega⟩,⟨fJq W 2,by omega,by rw [r2],by rw [r2],by rw [r2];rfl,z2,by omega⟩,λ k h3 hk=>?_⟩
  obtain ⟨n,rfl⟩:∃ n,k=n+3:=⟨k - 3,by omega⟩
  have r:bSq (n+3) x.p0=if 2<=x.r then (("great" : Str),x.p2,[[],[]]) else (("answer" : Str),x.three,[[],[],[]]):=lIq W (n+3)
  constructor
  . intro h
    rw [if_neg (by omega)] at r
    exact ⟨fJq W _,hk,by rw [r],by rw [r],by rw [r];rfl,by omega,by omega⟩
  . intro h
    rw [if_pos h] at r
    exact ⟨fJq W _,hk,by rw [r],by rw [r],by rw [r];rfl,z2,by omega⟩
end L3
namespace KB
open PySem L2
def top (i:Nat):Stmt:=PySem.Challenge.pw_kindbags_k20_what_grows_great.main.body.getD i (.Pass ⟨0,0,0,0⟩)
structure Blt (mg:Str->Option Value):Prop where
  len:mg "len" = none
  isinstance:mg "isinstance" = none
  range:mg "range" = none
  int:mg "int" = none
  bool:mg "bool" = none
  str:mg "str" = none
  tuple:mg "tuple" = none
  list:mg "list" = none
  zip:mg "zip" = none
  sorted:mg "sorted" = none
  set:mg "set" = none
  all:mg "all" = none
  reversed:mg "reversed" = none
  min:mg "min" = none
end KB
namespace KB
open PySem
abbrev eAq:List Str:=["thing", "inners_of"]
abbrev hHq:List Str:=["thing", "inners_of", "most", "deepest"]
abbrev eFq:List Str:=["trail"]
abbrev jRq:List Str:=["program"]
abbrev k6q:List Str:=["program"]
abbrev k4q:List Str:=["program"]
abbrev fZq:List Str:=["program"]
abbrev jGq:List Str:=["program"]
abbrev dDq:List Str:=["program"]
abbrev eEq:List Str:=["program", "ways"]
abbrev eHq:List Str:=["program", "many", "least"]
abbrev gGq:List Str:=["program", "other"]
abbrev eBq:List Str:=["program", "depths"]
abbrev gEq:List Str:=["program", "change"]
abbrev jCq:List Str:=["program", "place"]
abbrev h8q:List Str:=["program", "place", "other"]
abbrev dFq:List Str:=["program", "k", "other"]
abbrev f5q:List Str:=["program", "place"]
abbrev h6q:List Str:=["program"]
abbrev jYq:List Str:=["program", "place"]
abbrev fXq:List Str:=["program"]
abbrev lVq:List Str:=["program"]
abbrev lXq:List Str:=["program"]
abbrev jZq:List Str:=["program"]
abbrev jNq:List Str:=["program"]
abbrev j6q:List Str:=["program", "most"]
abbrev hGq:List Str:=["program", "most"]
abbrev f0q:List Str:=["program"]
abbrev h2q:List Str:=["_law_script", "_law_k"]
abbrev h1q:List Str:=["_law_feed_here", "_law_many"]
abbrev fOq:List Str:=["_law_feed_here"]
abbrev fHq:List Str:=["_law_found", "_law_due"]
abbrev eIq:List Str:=["_law_leaves", "_law_joins"]
abbrev f8q:List Str:=["_law_part", "_law_many"]
abbrev hBq:List Str:=["_law_feed_here"]
abbrev fNq:List Str:=["_law_feed_here"]
abbrev dNq:List Str:=["_law_part", "_law_forms", "_law_leaf"]
abbrev f3q:List Str:=["_law_feed_here"]
abbrev dQq:List Str:=["_law_feed_here"]
end KB
namespace KB
open PySem L2 L3
section
variable {P:Program} {w:World} {K:PySem.W.Frag} {mg:Str->Option Value} {base:Heap} {f:Addr} {fd:FuncData}
set_option maxHeartbeats 4000000
abbrev lAq:Stmt:=top 42
theorem sc_take:FnScope ["_law_feed_here", "_law_many", "_law_digit", "_law_one"] ["_law_feed_here", "_law_many"] (a6q lAq):=⟨rfl,rfl,rfl,by decide +kernel,rfl,by decide +kernel,by decide +kernel⟩
theorem vBq (F:Fun K "_law_take" "_law_take" lAq f fd):FnOk P w K mg base CX0 1 f fd ["_law_feed_here", "_law_many"] (aKq K d1q):=by
  refine okD (k:=0) F sc_take (λ ds G DQ h=>?_) (λ cdv A outer s H E hr ds G DQ h=>?_)
  . unfold d1q at h;split at h
    . rfl
    . exact h.elim
  unfold d1q at h;split at h
  case h_2=>exact h.elim
  next a m=>
  obtain ⟨⟨x,y,hF⟩,h0,h1,q⟩:=h
  refine ⟨_,(a4q (bAq (aMq dKq (aDq aix (a1q 0) a3q (λ _ _=>rfl)) a3q (aGq _)) (a4q (aAq (k:=2) sc_take.nd rfl (Or.inl rfl) (aQq cDq (aDq aix (a1q 0) a3q (λ _ _=>rfl)) (a1q 1)))
      (a4q (gWq (aQq iIq (aDq aix (a1q 0) a3q (λ _ _=>rfl)) (a1q 1)) (tOq (a1q 0) a3q))
      (a8q (aEq (a1q 2))))) b4q)
      (a4q (aAq (k:=3) sc_take.nd rfl (Or.inl rfl) (aQq cDq (aQq cKq (aDq aix (a1q 0) a3q (λ _ _=>rfl)) a3q) a3q))
      (a4q (gWq (aQq aWq (aQq cDq (aQq aWq (aQq cKq (a1q 3) a3q) a3q) a3q) a3q) (tOq (a1q 0) a3q))
      (a8q (aEq (aQq cDq (aQq iIq (aQq aWq (aQq cKq (a1q 3) a3q) (aDq aix (a1q 0) a3q (λ _ _=>rfl))) a3q) (a1q 1))))))),?_⟩
  refine aHq hF ⟨λ c=>?_,λ c=>?_⟩
  . refine aHq hF ⟨h0,aHq hF ⟨⟨h0,by omega⟩,aVq hF ⟨0,rfl,Dr.of (q _ _ .mk (Int.emod_nonneg _ (by omega)) (Int.emod_lt_of_pos _ h0))⟩⟩⟩
  . refine aHq hF ⟨.inr ⟨by decide,by decide⟩,by simp,.inr ⟨by decide,by decide⟩,by simp,aVq hF ⟨1,rfl,.inr ⟨by decide,by decide⟩,aHq a5q ⟨⟨by decide,by decide⟩,h0,Dr.of (q _ _ .mk (Int.emod_nonneg _ (by omega)) (Int.emod_lt_of_pos _ h0))⟩⟩⟩
abbrev kGq:Stmt:=top 41
theorem sc_feed:FnScope ["_law_script", "_law_k", "_law_cell", "_law_own"] ["_law_script", "_law_k"] (a6q kGq):=⟨rfl,rfl,rfl,by decide +kernel,rfl,by decide +kernel,by decide +kernel⟩
theorem vHq (B:Blt mg) (F:Fun K "_law_feed" "_law_feed" kGq f fd):FnOk P w K mg base CX0 1 f fd ["_law_script", "_law_k"] (aKq K iZq):=by
  refine okD (k:=0) F sc_feed (λ ds G DQ h=>?_) (λ cdv A outer s H E hr ds G DQ h=>?_)
  . unfold iZq at h;split at h
    . rfl
    . exact h.elim
  unfold iZq at h;split at h
  case h_2=>exact h.elim
  next ss k=>
  obtain ⟨ns,rfl,hl,h0,h1,q⟩:=h
  have fin:∀ x y:Int,∀ p,G p=none->Dr DQ (.ref p) (up G p (fed x y)):=λ x y p hp=>Dr.of (q p x y hp)
  have at_ok:∀ j:Int,0<=j->j < ns.length->∃ v,atI (ns.map D.int) j=some (.int v):=λ j j0 j1=>by
    refine ⟨ns[j.toNat],?_⟩
    have e:=c2q (xs:=ns.map D.int) (j:=j.toNat) (v:=D.int ns[j.toNat]) (by simp [show j.toNat < ns.length by omega])
    rwa [show ((j.toNat:Nat):Int)=j by omega] at e
  refine ⟨_,(a4q (aAq (k:=2) sc_feed.nd rfl (Or.inl rfl) (aQq aWq (aQq cKq a3q (a1q 1)) a3q))
      (a4q (bAq (aMq k2q (a1q 1) (aTq b2q rfl B.len PySem.boot_len (a0q (a1q 0) a2q)) (aGq _)) (a8q (aAq (k:=2) sc_feed.nd rfl (Or.inl rfl) (aDq aix (a1q 0) (a1q 1) (λ _ _=>rfl)))) (a8q (bAq (aMq dKq (aTq b2q rfl B.len PySem.boot_len (a0q (a1q 0) a2q)) a3q (aGq _)) (a8q (aAq (k:=2) sc_feed.nd rfl (Or.inl rfl) (aQq aWq (aQq cKq (aQq cDq (aDq aix (a1q 0) (aQq cDq (a1q 1) (aTq b2q rfl B.len PySem.boot_len (a0q (a1q 0) a2q))) (λ _ _=>rfl)) a3q) a3q) (aQq cKq a3q (a1q 1))))) b4q)))
      (a4q (aAq (k:=3) sc_feed.nd rfl (Or.inl rfl) a3q)
      (a4q (bAq (aMq jMq (a1q 2) (aQq vMq a3q a3q) (aGq _)) (a8q (aAq (k:=3) sc_feed.nd rfl (Or.inl rfl) (a1q 2))) b4q)
      (a8q (aEq (b7q (a0q (a1q 3) (a0q (aQq aWq (aQq cDq (aQq aWq (aQq cKq (aQq cDq (a1q 2) a3q) a3q) (aQq cKq a3q (a1q 1))) a3q) a3q) a2q))))))))),?_⟩
  refine ⟨.inl ⟨by decide,by decide⟩,⟨λ c=>?_,λ c=>?_⟩⟩
  . have c':k < ns.length:=by simpa using c
    obtain ⟨v,hv⟩:=at_ok k h0 c'
    refine (tDq hv ⟨⟨by decide,by decide,by decide⟩,λ c=>?_,λ c=>?_⟩)
    . exact ⟨by simp,.inr ⟨by decide,by decide⟩,.inl ⟨by decide,by decide⟩,by simp,λ p hp=>fin _ _ p hp⟩
    . exact ⟨by simp,.inr ⟨by decide,by decide⟩,.inl ⟨by decide,by decide⟩,by simp,λ p hp=>fin _ _ p hp⟩
  . refine ⟨λ c=>?_,λ c=>?_⟩
    . have c':0 < ns.length:=by
        have:(0:Int) < (ns.map D.int).length:=by simpa using c
        simpa using this
      obtain ⟨v,hv⟩:=at_ok (k % (ns.map D.int).length) (Int.emod_nonneg _ (show ((ns.map D.int).length:Int)≠0 by rw [List.length_map];omega)) (by have:=Int.emod_lt_of_pos k (show (0:Int) < (ns.map D.int).length by simpa using c');simpa using this)
      refine ⟨by simpa using c',?_⟩
      refine (tDq hv ⟨by simp,.inr ⟨by decide,by decide⟩,.inl ⟨by decide,by decide⟩,⟨by decide,by decide,by decide⟩,λ c=>?_,λ c=>?_⟩)
      . exact ⟨by simp,.inr ⟨by decide,by decide⟩,.inl ⟨by decide,by decide⟩,by simp,λ p hp=>fin _ _ p hp⟩
      . exact ⟨by simp,.inr ⟨by decide,by decide⟩,.inl ⟨by decide,by decide⟩,by simp,λ p hp=>fin _ _ p hp⟩
    . refine ⟨⟨by decide,by decide,by decide⟩,λ c=>?_,λ c=>?_⟩
      . exact ⟨by simp,.inr ⟨by decide,by decide⟩,.inl ⟨by decide,by decide⟩,by simp,λ p hp=>fin _ _ p hp⟩
      . exact ⟨by simp,.inr ⟨by decide,by decide⟩,.inl ⟨by decide,by decide⟩,by simp,λ p hp=>fin _ _ p hp⟩
abbrev iVq:Stmt:=top 43
theorem sc_whole:FnScope ["_law_feed_here", "_law_form"] ["_law_feed_here"] (a6q iVq):=⟨rfl,rfl,rfl,by decide +kernel,rfl,by decide +kernel,by decide +kernel⟩
theorem s9q (g_take:Got P w K mg base 1 "_law_take" ["_law_feed_here", "_law_many"] (aKq K d1q)) (F:Fun K "_law_whole" "_law_whole" iVq f fd):FnOk P w K mg base CX0 2 f fd ["_law_feed_here"] (aKq K d4q):=by
  refine okD (k:=1) F sc_whole (λ ds G DQ h=>?_) (λ cdv A outer s H E hr ds G DQ h=>?_)
  . unfold d4q at h;split at h
    . rfl
    . exact h.elim
  unfold d4q at h;split at h
  case h_2=>exact h.elim
  next a=>
  obtain ⟨hF,q⟩:=h
  refine ⟨_,(a4q (aAq (k:=1) sc_whole.nd rfl (Or.inl rfl) (a7q g_take hr (by omega) rfl (a0q (a1q 0) (a0q a3q a2q))))
      (a4q (bAq (aMq k2q (a1q 1) a3q (aGq _)) (a8q (aEq (aCq (a0q aBq (a0q (c9q (a0q a3q (a0q a3q (a0q (uEq kNq a3q) (a0q a3q a2q)))) (a1q 1) (λ _ _=>rfl)) a2q))))) b4q)
      (a4q (bAq (aMq k2q (a1q 1) a3q (aGq _)) (a8q (aEq (aCq (a0q aBq (a0q (aQq c3q (a7q g_take hr (by omega) rfl (a0q (a1q 0) (a0q a3q a2q))) a3q) a2q))))) b4q)
      (a8q (aEq (aCq (a0q aBq (a0q (aQq c3q (a7q g_take hr (by omega) rfl (a0q (a1q 0) (a0q a3q a2q))) a3q) a2q)))))))),?_⟩
  refine ⟨hF,by decide,by decide,λ d G1 u1 d0 d1=>⟨λ c=>?_,λ c=>⟨λ c2=>?_,λ c2=>?_⟩⟩⟩
  . exact at4 d0 (by simpa using c) (λ _=>Dr.of (q 0 _ u1 (by decide) (by decide))) (λ _=>Dr.of (q 1 _ u1 (by decide) (by decide))) (λ _=>Dr.of (q (-1) _ u1 (by decide) (by decide))) (λ _=>Dr.of (q 2 _ u1 (by decide) (by decide)))
  . exact ⟨u1.fd,by decide,by decide,λ e G2 u2 e0 e1=>Dr.of (q (e - 5) _ (u1.trans u2) (by omega) (by omega))⟩
  . exact ⟨u1.fd,by decide,by decide,λ e G2 u2 e0 e1=>Dr.of (q (e - 999999999) _ (u1.trans u2) (by omega) (by omega))⟩
abbrev hOq:Stmt:=top 9
theorem r2q:FnScope ["program"] ["program"] (a6q hOq):=⟨rfl,rfl,rfl,by decide +kernel,rfl,by decide +kernel,by decide +kernel⟩
theorem sPq (F:Fun K "inner" "inner" hOq f fd):FnOk P w K mg base CX0 1 f fd ["program"] (aKq K (dIq Tm.enc Tm.inn)):=by
  refine okD (k:=0) F r2q (λ ds G DQ h=>?_) (λ cdv A outer s H E hr ds G DQ h=>?_)
  . obtain ⟨t,rfl,_⟩:=h;rfl
  obtain ⟨t,rfl,q⟩:=h
  refine ⟨_,(a4q (bAq (AW.at (oWq (aMq (b0q (bCq hr)) (aDq aix (a1q 0) a3q (λ _ _=>rfl)) aBq (aGq _)) (kCq (aMq (b0q (bCq hr)) (aDq aix (a1q 0) a3q (λ _ _=>rfl)) aBq (aGq _))))) (a8q (aEq (aCq a2q))) b4q)
      (a8q (aEq (cUq asl (a1q 0) (dVq a3q) e8q)))),?_⟩
  cases t with
  | name k=>exact ⟨λ _=>⟨λ _=>Dr.of q,nofun⟩,λ c=>absurd c (by decide)⟩
  | whole k=>exact ⟨λ c=>absurd c (by decide),λ _=>⟨λ _=>Dr.of q,λ c=>absurd c (by decide)⟩⟩
  | _=>exact ⟨λ c=>absurd c (by decide),λ _=>⟨λ c=>absurd c (by decide),λ _=>Dr.of q⟩⟩
abbrev kQq:Stmt:=top 27
theorem sc_hasr:FnScope ["program", "word"] ["program"] (a6q kQq):=⟨rfl,rfl,rfl,by decide +kernel,rfl,by decide +kernel,by decide +kernel⟩
theorem uGq (F:Fun K "has_rule" "has_rule" kQq f fd):FnOk P w K mg base CX0 1 f fd ["program"] (aKq K (i9q Tm.hasRule)):=by
  refine okD (k:=0) F sc_hasr (λ ds G DQ h=>?_) (λ cdv A outer s H E hr ds G DQ h=>?_)
  . obtain ⟨t,rfl,_⟩:=h;rfl
  obtain ⟨t,rfl,q⟩:=h
  refine ⟨_,(a4q (aAq (k:=1) sc_hasr.nd rfl (Or.inl rfl) (aDq aix (a1q 0) a3q (λ _ _=>rfl)))
      (a4q (bAq (aMq (b0q (bCq hr)) (a1q 1) aBq (aGq _)) (a8q (aEq (cFq (b0q (bCq hr)) (aDq aix (aDq aix (a1q 0) a3q (λ _ _=>rfl)) a3q (λ _ _=>rfl)) aBq (aGq _)))) b4q)
      (a4q (bAq (AW.at (oWq (aMq (b0q (bCq hr)) (a1q 1) aBq (aGq _)) (kCq (aMq (b0q (bCq hr)) (a1q 1) aBq (aGq _))))) (a8q (aEq (cFq (b0q (bCq hr)) (aDq aix (aDq aix (a1q 0) a3q (λ _ _=>rfl)) a3q (λ _ _=>rfl)) aBq (aGq _)))) b4q)
      (a4q (bAq (aMq (b0q (bCq hr)) (a1q 1) aBq (aGq _)) (a8q (aEq (g4q (cFq (b0q (bCq hr)) (aDq aix (aDq aix (a1q 0) a3q (λ _ _=>rfl)) a3q (λ _ _=>rfl)) aBq (aGq _)) (h3q (cFq (b0q (bCq hr)) (aDq aix (aDq aix (a1q 0) a3q (λ _ _=>rfl)) a3q (λ _ _=>rfl)) aBq (aGq _)))))) b4q)
      (a8q (aEq (g4q (cFq (b0q (bCq hr)) (a1q 1) aBq (aGq _)) (h3q (cFq (b0q (bCq hr)) (aDq aix (aDq aix (a1q 0) a3q (λ _ _=>rfl)) a3q (λ _ _=>rfl)) aBq (aGq _)))))))))),?_⟩
  cases t with
  | give t u=>
    rw [j4q] at q
    simp only [Tm.enc];rw [t.enc_eq]
    exact ⟨λ _=>Dr.of q,λ c=>absurd c (by decide)⟩
  | first t=>
    rw [hKq] at q
    simp only [Tm.enc];rw [t.enc_eq]
    exact ⟨λ c=>absurd c (by decide),λ _=>⟨λ _=>⟨λ _=>Dr.of q,nofun⟩,λ c=>absurd c (by decide)⟩⟩
  | second t=>
    rw [gKq] at q
    simp only [Tm.enc];rw [t.enc_eq]
    exact ⟨λ c=>absurd c (by decide),λ _=>⟨λ c=>absurd c (by decide),λ _=>⟨λ _=>Dr.of q,λ c=>absurd c (by decide)⟩⟩⟩
  | plus t u=>
    rw [jBq] at q
    simp only [Tm.enc];rw [t.enc_eq,u.enc_eq]
    refine ⟨λ c=>absurd c (by decide),λ _=>⟨λ c=>absurd c (by decide),λ _=>⟨λ c=>absurd c (by decide),λ _=>⟨λ _=>⟨λ c=>?_,λ c=>?_⟩,λ c=>absurd c (by decide)⟩⟩⟩⟩
    . rw [show (t.word==Str.ofString "whole")=true from c] at q;exact Dr.of q
    . rw [show (t.word==Str.ofString "whole")=false from c] at q;exact Dr.of q
  | look t u v=>
    rw [kAq] at q
    simp only [Tm.enc];rw [t.enc_eq]
    exact ⟨λ c=>absurd c (by decide),λ _=>⟨λ c=>absurd c (by decide),λ _=>⟨λ c=>absurd c (by decide),λ _=>⟨λ c=>absurd c (by decide),λ _=>⟨λ _=>Dr.of q,λ c=>absurd c (by decide)⟩⟩⟩⟩⟩
  | _=>exact ⟨λ c=>absurd c (by decide),λ _=>⟨λ c=>absurd c (by decide),λ _=>⟨λ c=>absurd c (by decide),λ _=>⟨λ c=>absurd c (by decide),λ _=>⟨λ c=>absurd c (by decide),λ _=>Dr.of q⟩⟩⟩⟩⟩
abbrev g5q:Stmt:=top 16
theorem o2q:FnScope ["program", "ways"] ["program", "ways"] (a6q g5q):=⟨rfl,rfl,rfl,by decide +kernel,rfl,by decide +kernel,by decide +kernel⟩
theorem pQq (F:Fun K "ways_below" "ways_below" g5q f fd):FnOk P w K mg base CX0 1 f fd ["program", "ways"] (aKq K iAq):=by
  refine okD (k:=0) F o2q (λ ds G DQ h=>?_) (λ cdv A outer s H E hr ds G DQ h=>?_)
  . obtain ⟨_,_,rfl,_⟩:=h;rfl
  obtain ⟨t,w,rfl,q⟩:=h
  refine ⟨_,(a8q (aEq (bYq (aMq (b0q (bCq hr)) (aDq aix (a1q 0) a3q (λ _ _=>rfl)) aBq (aGq _)) (aQq aWq (a1q 1) a3q) (a1q 1)))),?_⟩
  cases t with
  | way a=>exact ⟨λ _=>Dr.of (by simpa [Tm.wbl] using q),λ c=>absurd c (by decide)⟩
  | _=>exact ⟨λ c=>absurd c (by decide),λ _=>Dr.of q⟩
abbrev dCq:Stmt:=top 17
theorem sc_lifted:FnScope ["program", "many", "least", "moved"] ["program", "many", "least"] (a6q dCq):=⟨rfl,rfl,rfl,by decide +kernel,rfl,by decide +kernel,by decide +kernel⟩
abbrev aJq:Stmt:=(b5q dCq).getD 0 (.Pass ⟨0,0,0,0⟩)
theorem gBq:CloScope ["number", "ways", "many", "least"] ["number", "ways"] ["many", "least"] (a6q aJq):=⟨rfl,rfl,rfl,by decide +kernel,rfl,rfl,by decide +kernel,by decide +kernel,by decide +kernel,by decide +kernel,by decide +kernel⟩
theorem f9q {m l:Nat}:CloD P w K mg base 1 "moved" "lifted.<locals>.moved" aJq ["many", "least"] [.int m,.int l] ["number", "ways"] (clD (bIq m l) (λ _ _=>True) []):=by
  refine zBq (k:=0) gBq (λ ds G DQ h=>?_) (λ _ _ _ _ _ us hl=>match us,hl with | [_,_],_=>rfl) (λ f cdv cl A outer s H hr ds G DQ h=>?_)
  . obtain ⟨_,_,rfl,_⟩:=h;rfl
  obtain ⟨n,w,rfl,_,_,q⟩:=h
  refine ⟨_,(a8q (aEq (aCq (a0q aBq (a0q (bYq (aMq jMq (a1q 0) (aQq aWq (a1q 1) (a1q 3)) (aGq _)) (aQq aWq (a1q 0) (a1q 2)) (a1q 0)) a2q))))),?_⟩
  refine ⟨λ c=>⟨Sub.refl _,?_⟩,λ c=>⟨Sub.refl _,?_⟩⟩
  . have c':(w:Int)+l<=n:=by simpa using c
    rw [bIq,if_pos (by omega),Tm.enc,Int.natCast_add] at q
    exact q
  . have c':¬ (w:Int)+l<=n:=by simpa using c
    rw [bIq,if_neg (by omega),Tm.enc] at q
    exact q
theorem o0q {c T_lifted:Addr} (hC:PySem.W.CodeHd base c T_lifted) (hB:f1q mg base) (g_withn:Got P w K mg base 3 "with_names" ["program", "change"] (aKq K (m7q P w K mg base 1))) (F:FunC K "lifted" "lifted" dCq f fd c):FnOk P w K mg base CX0 4 f fd ["program", "many", "least"] (aKq K (pHq T_lifted (bTq aJq))):=by
  refine okDc (k:=3) F sc_lifted (λ ds G DQ h=>?_) (λ A outer s H E hr ds G DQ h=>?_)
  . obtain ⟨_,_,_,rfl,_⟩:=h;rfl
  obtain ⟨t,m,l,rfl,hT,hz,q⟩:=h
  refine ⟨_,(a4q (t4q (i:=3) (T:=T_lifted) (fr:=["many", "least"]) sc_lifted.nd rfl (Or.inl rfl) rfl hC hB (by kernel_rfl) rfl rfl rfl)
      (a8q (aEq (mDq (name:="moved") (qual:="lifted.<locals>.moved") (st:=aJq) (fr:=["many", "least"]) (ix:=[1,2]) g_withn hr (by omega) rfl (by decide +kernel) (by kernel_rfl) (a0q (a1q 0) (a0q (a1q 3) a2q)))))),?_⟩
  refine ⟨hT,λ f hf=>⟨f,[.int m,.int l],a5q,rfl,λ i j h=>?_,t,f,_,_,_,_,_,_,bIq m l,λ _ _=>True,[],rfl,a5q,f9q,λ y hy=>absurd hy (List.not_mem_nil),hz,λ _ _=>trivial,rfl,G,Sub.new (Sub.refl _) hf,q⟩⟩
  rcases i with _ | _ | i
  . cases h;exact ⟨_,rfl,rfl⟩
  . cases h;exact ⟨_,rfl,rfl⟩
  . cases h
abbrev hNq:Stmt:=top 20
theorem sc_withn:FnScope ["program", "change", "made", "pending", "entry", "one", "inners", "below"] ["program", "change"] (a6q hNq):=⟨rfl,rfl,rfl,by decide +kernel,rfl,by decide +kernel,by decide +kernel⟩
theorem qTq {k0:Nat} (B:Blt mg) (g_inner:Got P w K mg base 1 "inner" ["program"] (aKq K (dIq Tm.enc Tm.inn))) (g_wbelow:Got P w K mg base 1 "ways_below" ["program", "ways"] (aKq K iAq)) (F:Fun K "with_names" "with_names" hNq f fd):FnOk P w K mg base CX0 (k0+2) f fd ["program", "change"] (aKq K (m7q P w K mg base k0)):=by
  refine okD (k:=k0+1) F sc_withn (λ ds G DQ h=>?_) (λ cdv A outer s H E hr ds G DQ h=>?_)
  . obtain ⟨_,_,_,_,_,_,_,_,_,_,_,rfl,_⟩:=h;rfl
  obtain ⟨t,fc,name,qual,st0,fr,vals,ps,φ,C,L,rfl,hf,C_change,hL,hz,hC,q⟩:=h
  refine ⟨_,(a4q (aAq (k:=2) sc_withn.nd rfl (Or.inr rfl) (b7q a2q))
      (a4q (aAq (k:=3) sc_withn.nd rfl (Or.inl rfl) (b7q (a0q (aCq (a0q (a1q 0) (a0q a3q (a0q mIq a2q)))) a2q)))
      (a4q (bZq PassesOwn.never (bBq (a1q 3)) (a4q (aAq (k:=4) sc_withn.nd rfl (Or.inl rfl) (fBq PySem.F.plainAttrs_list PySem.F.slot_list_pop PySem.F.type_list_pop d5q (a1q 3)))
      (a4q (aAq (k:=5) sc_withn.nd rfl (Or.inl rfl) (aDq aix (a1q 4) a3q (λ _ _=>rfl)))
      (a8q (bAq (aMq (b0q (bCq hr)) (aDq aix (a1q 5) a3q (λ _ _=>rfl)) aBq (aGq _)) (a8q (bFq (cXq PySem.F.plainAttrs_list PySem.F.slot_list_append PySem.F.type_list_append b1q (a1q 2) (a0q (aG7q 1 C_change hr (by omega) (a0q (aDq aix (a1q 5) a3q (λ _ _=>rfl)) (a0q (aDq aix (a1q 4) a3q (λ _ _=>rfl)) a2q))) a2q)))) (a8q (bAq (aMq (b0q (bCq hr)) (aDq aix (a1q 5) a3q (λ _ _=>rfl)) aBq (aGq _)) (a8q (bFq (cXq PySem.F.plainAttrs_list PySem.F.slot_list_append PySem.F.type_list_append b1q (a1q 2) (a0q (a1q 5) a2q)))) (a8q (bAq (bBq (aDq aix (a1q 4) a3q (λ _ _=>rfl))) (a4q (c6q (k:=6) rfl sc_withn.nd rfl (Or.inl rfl) (CompOk.of (N':=["part", "made"]) (nt:=1) (cap:=[2]) rfl (by kernel_rfl)) (aRq (k:=0) (by decide)) (cBq (a7q g_inner hr (by omega) rfl (a0q (a1q 5) a2q))) (λ _ _ _ _=>(aNq (k:=0) (show List.Nodup (["part", "made"]:List Str) by decide +kernel) rfl (Or.inl rfl)))  (λ _ _ _ _=>(fBq PySem.F.plainAttrs_list PySem.F.slot_list_pop PySem.F.type_list_pop d5q (a1q 1))))
      (a8q (bFq (cXq PySem.F.plainAttrs_list PySem.F.slot_list_append PySem.F.type_list_append b1q (a1q 2) (a0q (aQq aWq (aCq (a0q (aDq aix (a1q 5) a3q (λ _ _=>rfl)) a2q)) (g9q fUq rfl B.tuple PyProof.Rows.boot_tuple (a0q (a1q 6) a2q))) a2q))))) (a4q (bFq (cXq PySem.F.plainAttrs_list PySem.F.slot_list_append PySem.F.type_list_append b1q (a1q 3) (a0q (aCq (a0q (a1q 5) (a0q (aDq aix (a1q 4) a3q (λ _ _=>rfl)) (a0q mIq a2q)))) a2q)))
      (a4q (aAq (k:=7) sc_withn.nd rfl (Or.inr rfl) (a7q g_wbelow hr (by omega) rfl (a0q (a1q 5) (a0q (aDq aix (a1q 4) a3q (λ _ _=>rfl)) a2q))))
      (a8q (bFq (cXq PySem.F.plainAttrs_list PySem.F.slot_list_extend PySem.F.type_list_extend cQq (a1q 3) (a0q (cHq rfl (CompOk.of (N':=["part", "below"]) (nt:=1) (cap:=[7]) rfl (by kernel_rfl)) (aRq (k:=0) (by decide)) (cBq (a7q g_inner hr (by omega) rfl (a0q (a1q 5) a2q))) (λ _ _ _ _=>(aNq (k:=0) (show List.Nodup (["part", "below"]:List Str) by decide +kernel) rfl (Or.inl rfl))) (λ _ _ _ _=>(aCq (a0q (a1q 0) (a0q (a1q 1) (a0q mIq a2q)))))) a2q)))))))))))))))
      (a8q (aEq (fBq PySem.F.plainAttrs_list PySem.F.slot_list_pop PySem.F.type_list_pop d5q (a1q 2))))))),?_⟩
  intro a ha b hb
  obtain ⟨-,hb0,hne⟩:=bKq (o:=.lst []) hb
  have nfa:fc≠a:=by rintro rfl;rw [hf] at ha;cases ha
  have nfb:fc≠b:=by rintro rfl;rw [hf] at hb0;cases hb0
  refine ⟨λ μ ρ G'=>∃ (st:List Ent) (m:List Tm) (o4 o5 o6 o7:Option D),ρ=[some t.enc,some (.ref fc),some (.ref a),some (.ref b),o4,o5,o6,o7]/\G'=up (up G a (.lst (m.reverse.map Tm.enc))) b (.lst (st.reverse.map rSq))/\nMq φ st m=some [t.mapN φ 0]/\(∀ z∈st,(z.2.2=false\/z.1.leaf=true)->∀ y∈z.1.nmsR z.2.1,C y.1 y.2)/\m.length+wtS st<=2 * t.sz/\μ=wtS st,
    ⟨_,[(t,0,false)],[],_,_,_,_,rfl,rfl,by simp [nMq,g2q],by intro z hz _;simp at hz;subst hz;exact hC,by simp [wtS,wtE],rfl⟩,?_⟩
  rintro μ ρ G' ⟨st,m,o4,o5,o6,o7,rfl,rfl,heff,hnm,hsz,rfl⟩
  refine aHq a5q ⟨λ c=>?_,λ c=>?_⟩
  . obtain ⟨u,w,fl,qs,rfl⟩:∃ u w fl qs,st=(u,w,fl)::qs:=by
      cases st with
      | nil=>simp at c
      | cons z qs=>exact ⟨z.1,z.2.1,z.2.2,qs,rfl⟩
    rw [eQq] at hsz ⊢
    have hql:=n5q qs
    have hnq:∀ z∈qs,(z.2.2=false\/z.1.leaf=true)->∀ y∈z.1.nmsR z.2.1,C y.1 y.2:=λ z hz=>hnm z (List.mem_cons_of_mem _ hz)
    have hnu:=hnm (u,w,fl) (List.mem_cons_self ..)
    refine ⟨aHq a5q trivial,aVq a5q ⟨qs.reverse.map rSq,rSq (u,w,fl),by simp,?_⟩⟩
    rw [cGq]
    have ha1:∀ (o:DO) (ds:List D),up (up G a (.lst ds)) b o a=some (.lst ds):=λ o ds=>by rw [aIq (Ne.symm hne)];exact a5q
    have hf1:∀ (o p:DO),up (up G a o) b p fc=some (.clo name qual st0 fr vals):=λ o p=>by rw [aIq nfb,aIq nfa];exact hf
    have hL1:∀ (o p:DO),∀ q∈L,up (up G a o) b p q.1=some q.2:=λ o p q hq=>by
      rw [aIq (by rintro e;rw [<- e,hL q hq] at hb0;cases hb0),aIq (by rintro e;rw [<- e,hL q hq] at ha;cases ha)];exact hL q hq
    have hw1:1<=wtE (u,w,fl):=by have:=u.sz_pos;show 1<=(if fl=true then 1 else 2 * u.sz);split<;>omega
    refine (show ixD u.enc (.int 0) _ _ from wPq ⟨λ c=>?_,λ c=>?_⟩)
    . obtain ⟨k,rfl⟩:=mCq c
      have hfl:m.length+1<=2 * t.sz:=by omega
      refine ⟨aHq (ha1 _ _) trivial,fc,rfl,hf1 _ _,hf1 _ _,k,w,rfl,?_,hL1 _ _,aVq (ha1 _ _) ⟨aYq (by simp only [List.length_map,List.length_reverse];omega),?_⟩⟩
      . exact hnu (.inr rfl) (k,w) (List.mem_cons_self ..)
      rw [up3 hne]
      exact Wk.of ⟨wtS qs,by omega,qs,φ k w::m,_,_,_,_,rfl,by simp,heff,hnq,by simp only [List.length_cons];omega,rfl⟩
    refine (show ixD u.enc (.int 0) _ _ from wPq ⟨λ c2=>?_,λ c2=>?_⟩)
    . obtain ⟨k,rfl⟩:=p8q c2
      refine ⟨aHq (ha1 _ _) trivial,aVq (ha1 _ _) ⟨aYq (by simp only [List.length_map,List.length_reverse];omega),?_⟩⟩
      rw [up3 hne]
      exact Wk.of ⟨wtS qs,by omega,qs,.whole k::m,_,_,_,_,rfl,by simp,heff,hnq,by simp only [List.length_cons];omega,rfl⟩
    have hlf:=yWq c c2
    have hil:=Tm.inn_len u
    cases fl with
    | true=>
      refine ⟨λ _=>?_,nofun⟩
      rw [nMq,lZq (t:=u) hlf] at heff
      have hk:(Tm.inn u).length<=m.length:=by
        rcases Nat.lt_or_ge m.length (Tm.inn u).length with z | z
        . rw [if_neg (by omega)] at heff;cases heff
        . exact z
      rw [if_pos hk] at heff
      simp only [] at heff
      generalize hkk:(Tm.inn u).length=kk at hk heff hil
      refine ⟨u,rfl,iUq (λ i ds G'=>ds=(m.take i).map Tm.enc/\i<=kk/\G'=up (up G a (.lst ((m.drop i).reverse.map Tm.enc))) b (.lst (qs.reverse.map rSq))) ?_ ⟨rfl,Nat.zero_le _,by rw [List.drop_zero]⟩ (λ _ _ _ _ _=>trivial) ?_ ?_⟩
      . show ((Tm.inn u).map Tm.enc).length < sizeLine
        rw [List.length_map,hkk];exact aYq (by omega)
      . rintro i d ds G' hd ⟨rfl,hi,rfl⟩
        have hi':i < kk:=by
          have z:=(List.getElem?_eq_some_iff.mp hd).1
          have z':i < ((Tm.inn u).map Tm.enc).length:=z
          rw [List.length_map,hkk] at z';exact z'
        have hx:m.drop i=m[i]::m.drop (i+1):=List.drop_eq_getElem_cons (by omega)
        refine ⟨aHq (ha1 _ _) trivial,aVq (ha1 _ _) ⟨(m.drop (i+1)).reverse.map Tm.enc,(m[i]'(by omega)).enc,by rw [hx,List.reverse_cons,List.map_append];rfl,?_⟩⟩
        rw [up3 hne]
        refine WkV.of ⟨?_,by omega,rfl⟩
        rw [List.take_add_one,List.getElem?_eq_getElem (by omega),Option.toList_some,List.map_append];rfl
      . rintro ds G' ⟨rfl,_,rfl⟩ p hp
        have eL:List.length (List.map Tm.enc (Tm.inn u))=kk:=by rw [List.length_map];exact hkk
        rw [show (⟨List.map Tm.enc (Tm.inn u),_⟩:DIt).items.length=kk from eL] at hp ⊢
        have npa:a≠p:=by rintro rfl;rw [ha1] at hp;cases hp
        refine ⟨aHq (by rw [aIq npa];exact ha1 _ _) trivial,(show ixD u.enc (.int 0) _ _ from wPq (aHq a5q ⟨small (by simp only [List.length_map,List.length_take,List.length_cons,List.length_nil];omega),aVq (by rw [aIq npa];exact ha1 _ _) ⟨aYq (by simp only [List.length_map,List.length_reverse,List.length_drop];omega),?_⟩⟩))⟩
        refine ⟨_,up (up G a (.lst ((m.drop kk).reverse.map Tm.enc++[.tup (.str (Tm.word u)::(m.take kk).map Tm.enc)]))) b (.lst (qs.reverse.map rSq)),.refl _,?_,wtS qs,by omega,qs,Tm.rebuild u (m.take kk)::m.drop kk,_,_,_,_,rfl,?_,heff,hnq,?_,rfl⟩
        . rw [<- up3 (x:=.lst ((m.drop kk).reverse.map Tm.enc)) hne]
          exact Sub.put (Sub.new (Sub.refl _) hp)
        . congr 2
          rw [List.reverse_cons,List.map_append,List.map_cons,List.map_nil,Tm.enc_rebuild (t:=u) hlf (by rw [List.length_take,hkk];omega)]
        . simp only [List.length_cons,List.length_drop];omega
    | false=>
      refine ⟨nofun,λ _=>?_⟩
      have hss:=Tm.sz_sum (t:=u) hlf
      simp only [wtE,Bool.false_eq_true,if_false] at hsz
      refine ⟨aHq a5q trivial,aVq a5q ⟨aYq (by simp only [List.length_map,List.length_reverse];omega),?_⟩⟩
      rw [cGq]
      refine ⟨u,w,rfl,aHq a5q trivial,u,rfl,?_⟩
      refine cTq (Tm.inn u) Tm.enc (λ x=>rSq (x,Tm.wbl u w,false)) rfl (aYq (by omega)) trivial (λ x _ R hR=>hR) (λ p hp=>?_)
      have np:b≠p:=by rintro rfl;rw [a5q] at hp;cases hp
      refine aVq (by rw [aIq np];exact a5q) (aVq a5q ⟨small (by simp only [List.length_map,List.length_reverse,List.length_append,List.length_cons,List.length_nil];omega),?_⟩)
      have hwt:wtS ((Tm.inn u |>.map λ x=>((x,Tm.wbl u w,false):Ent)).reverse++(u,w,true)::qs)+1=2 * Tm.sz u+wtS qs:=by
        rw [<- List.map_reverse,pBq,List.map_reverse,List.sum_reverse,eQq]
        simp only [wtE,if_true];omega
      refine ⟨_,up (up G a (.lst (m.reverse.map Tm.enc))) b (.lst (qs.reverse.map rSq++[rSq (u,w,true)]++(Tm.inn u).map λ x=>rSq (x,Tm.wbl u w,false))),.refl _,Sub.put (Sub.trans (Sub.new (Sub.refl _) (by rw [aIq hne];exact hb0)) (Sub.new (Sub.refl _) hp)),_,?_,(Tm.inn u |>.map λ x=>((x,Tm.wbl u w,false):Ent)).reverse++(u,w,true)::qs,m,_,_,_,_,rfl,?_,?_,?_,?_,rfl⟩
      . simp only [wtE,Bool.false_eq_true,if_false];omega
      . congr 2
        simp [List.map_map,Function.comp_def]
      . rw [oCq (t:=u) hlf];exact heff
      . intro z hz hz2 y hy
        rcases List.mem_append.mp hz with hz | hz
        . obtain ⟨x,hx,rfl⟩:=List.mem_map.mp (List.mem_reverse.mp hz)
          exact hnu (.inl rfl) y (Tm.nmsR_mem (t:=u) hlf hx hy)
        . rcases List.mem_cons.mp hz with rfl | hz
          . rcases hz2 with z | z
            . cases z
            . exact absurd (hlf.symm.trans z) (by decide)
          . exact hnq z hz hz2 y hy
      . omega
  . have e:st=[]:=by
      cases st with
      | nil=>rfl
      | cons _ _=>simp at c
    subst e
    have e2:m=[t.mapN φ 0]:=Option.some.inj heff
    subst e2
    have ha1:∀ (o:DO) (ds:List D),up (up G a (.lst ds)) b o a=some (.lst ds):=λ o ds=>by rw [aIq (Ne.symm hne)];exact a5q
    refine ⟨aHq (ha1 _ _) trivial,aVq (ha1 _ _) ⟨[],(t.mapN φ 0).enc,rfl,?_⟩⟩
    rw [up3 hne]
    exact ⟨G,Sub.trans (Sub.new (Sub.refl _) ha) (Sub.new (Sub.refl _) (by rw [aIq hne];exact hb0)),q⟩
abbrev e6q:Stmt:=top 15
theorem sc_namesin:FnScope ["program", "found", "pending", "entry", "one", "below"] ["program"] (a6q e6q):=⟨rfl,rfl,rfl,by decide +kernel,rfl,by decide +kernel,by decide +kernel⟩
theorem mJq (B:Blt mg) (g_inner:Got P w K mg base 1 "inner" ["program"] (aKq K (dIq Tm.enc Tm.inn))) (g_wbelow:Got P w K mg base 1 "ways_below" ["program", "ways"] (aKq K iAq)) (F:Fun K "names_in" "names_in" e6q f fd):FnOk P w K mg base CX0 2 f fd ["program"] (aKq K dOq):=by
  refine okD (k:=1) F sc_namesin (λ ds G DQ h=>?_) (λ cdv A outer s H E hr ds G DQ h=>?_)
  . obtain ⟨_,rfl,_⟩:=h;rfl
  obtain ⟨t,rfl,hz,q⟩:=h
  refine ⟨_,(a4q (aAq (k:=1) sc_namesin.nd rfl (Or.inl rfl) (b7q a2q))
      (a4q (aAq (k:=2) sc_namesin.nd rfl (Or.inl rfl) (b7q (a0q (aCq (a0q (a1q 0) (a0q a3q a2q))) a2q)))
      (a4q (bZq PassesOwn.never (bBq (a1q 2)) (a4q (aAq (k:=3) sc_namesin.nd rfl (Or.inl rfl) (fBq PySem.F.plainAttrs_list PySem.F.slot_list_pop PySem.F.type_list_pop d5q (a1q 2)))
      (a4q (aAq (k:=4) sc_namesin.nd rfl (Or.inl rfl) (aDq aix (a1q 3) a3q (λ _ _=>rfl)))
      (a4q (bAq (aMq (b0q (bCq hr)) (aDq aix (a1q 4) a3q (λ _ _=>rfl)) aBq (aGq _)) (a8q (bFq (cXq PySem.F.plainAttrs_list PySem.F.slot_list_append PySem.F.type_list_append b1q (a1q 1) (a0q (aCq (a0q (aDq aix (a1q 4) a3q (λ _ _=>rfl)) (a0q (aDq aix (a1q 3) a3q (λ _ _=>rfl)) a2q))) a2q)))) b4q)
      (a4q (aAq (k:=5) sc_namesin.nd rfl (Or.inr rfl) (a7q g_wbelow hr (by omega) rfl (a0q (a1q 4) (a0q (aDq aix (a1q 3) a3q (λ _ _=>rfl)) a2q))))
      (a8q (bFq (cXq PySem.F.plainAttrs_list PySem.F.slot_list_extend PySem.F.type_list_extend cQq (a1q 2) (a0q (cHq rfl (CompOk.of (N':=["part", "below"]) (nt:=1) (cap:=[5]) rfl (by kernel_rfl)) (aRq (k:=0) (by decide)) (cBq (a7q g_inner hr (by omega) rfl (a0q (a1q 4) a2q))) (λ _ _ _ _=>(aNq (k:=0) (show List.Nodup (["part", "below"]:List Str) by decide +kernel) rfl (Or.inl rfl))) (λ _ _ _ _=>(aCq (a0q (a1q 0) (a0q (a1q 1) a2q))))) a2q)))))))))
      (a8q (aEq (a1q 1)))))),?_⟩
  intro a ha b hb
  obtain ⟨-,hb0,hne⟩:=bKq (o:=.lst []) hb
  refine ⟨λ m ρ G'=>∃ (ps:List (Tm × Nat)) (fs:List (Nat × Nat)) (o3 o4 o5:Option D),ρ=[some t.enc,some (.ref a),some (.ref b),o3,o4,o5]/\G'=up (up G a (.lst (fs.map prD))) b (.lst (ps.reverse.map e2D))/\fs++ps.flatMap (λ z=>z.1.nmsR z.2)=t.nmsR 0/\sz2 ps<=t.sz/\m=sz2 ps,⟨_,[(t,0)],[],_,_,_,rfl,rfl,by simp,by simp [sz2],rfl⟩,?_⟩
  rintro m ρ G' ⟨ps,fs,o3,o4,o5,rfl,rfl,hfs,hsz,rfl⟩
  have hlen:=t.nmsR_len 0
  have hfl:fs.length<=t.sz:=by rw [<- hfs,List.length_append] at hlen;omega
  refine aHq a5q ⟨λ c=>?_,λ c=>?_⟩
  . obtain ⟨u,w,qs,rfl⟩:∃ u w qs,ps=(u,w)::qs:=by
      cases ps with
      | nil=>simp at c
      | cons z qs=>exact ⟨z.1,z.2,qs,rfl⟩
    rw [hZq] at hsz ⊢
    rw [List.flatMap_cons] at hfs
    have hql:=pNq qs
    have hu:=u.sz_pos
    refine ⟨aHq a5q trivial,aVq a5q ⟨qs.reverse.map e2D,e2D (u,w),by simp,?_⟩⟩
    rw [cGq]
    have ha1:∀ o,up (up G a (.lst (fs.map prD))) b o a=some (.lst (fs.map prD)):=λ o=>by rw [aIq (Ne.symm hne)];exact a5q
    refine (show ixD u.enc (.int 0) _ _ from wPq ⟨λ c=>?_,λ c=>?_⟩)
    . obtain ⟨k,rfl⟩:=mCq c
      refine ⟨aHq (ha1 _) trivial,aVq (ha1 _) ⟨aYq (by rw [List.length_map];omega),?_⟩⟩
      rw [up3 hne]
      refine ⟨(.name k:Tm),w,rfl,aHq a5q trivial,(.name k:Tm),rfl,?_⟩
      refine cTq (Tm.inn (.name k:Tm)) Tm.enc (λ x=>e2D (x,Tm.wbl (.name k:Tm) w)) rfl (aYq (by have:=Tm.inn_len (.name k:Tm);omega)) trivial (λ x _ R hR=>hR) (λ p hp=>?_)
      have np:b≠p:=by rintro rfl;rw [a5q] at hp;cases hp
      refine aVq (by rw [aIq np];exact a5q) (aVq a5q ⟨small (by have:=Tm.inn_len (.name k:Tm);simp only [List.length_map,List.length_reverse];omega),?_⟩)
      refine ⟨_,up (up G a (.lst (fs.map prD++[.tup [.int k,.int w]]))) b (.lst (qs.reverse.map e2D++(Tm.inn (.name k:Tm)).map λ x=>e2D (x,Tm.wbl (.name k:Tm) w))),.refl _,Sub.put (Sub.trans (Sub.new (Sub.refl _) (by rw [aIq hne];exact hb0)) (Sub.new (Sub.refl _) hp)),sz2 (((Tm.inn (.name k:Tm)).map λ x=>(x,Tm.wbl (.name k:Tm) w)).reverse++qs),?_,((Tm.inn (.name k:Tm)).map λ x=>(x,Tm.wbl (.name k:Tm) w)).reverse++qs,fs++[(k,w)],_,_,_,rfl,?_,?_,?_,rfl⟩
      . have:=Tm.sz_inns (.name k:Tm)
        rw [<- List.map_reverse,fPq,List.map_reverse,List.sum_reverse];simp only [];omega
      . congr 2
        . simp [prD]
        . simp [List.map_map,Function.comp_def]
      . rw [<- hfs];simp [Tm.inn,Tm.nmsR]
      . have:=Tm.sz_inns (.name k:Tm)
        rw [<- List.map_reverse,fPq,List.map_reverse,List.sum_reverse];simp only [] at hsz;omega
    refine ⟨u,w,rfl,aHq a5q trivial,u,rfl,?_⟩
    refine cTq (Tm.inn u) Tm.enc (λ x=>e2D (x,Tm.wbl u w)) rfl (aYq (by have:=Tm.inn_len u;omega)) trivial (λ x _ R hR=>hR) (λ p hp=>?_)
    have np:b≠p:=by rintro rfl;rw [a5q] at hp;cases hp
    refine aVq (by rw [aIq np];exact a5q) (aVq a5q ⟨small (by have:=Tm.inn_len u;simp only [List.length_map,List.length_reverse];omega),?_⟩)
    refine ⟨_,up (up G a (.lst (fs.map prD))) b (.lst (qs.reverse.map e2D++(Tm.inn u).map λ x=>e2D (x,Tm.wbl u w))),.refl _,Sub.put (Sub.trans (Sub.new (Sub.refl _) (by rw [aIq hne];exact hb0)) (Sub.new (Sub.refl _) hp)),sz2 (((Tm.inn u).map λ x=>(x,Tm.wbl u w)).reverse++qs),?_,((Tm.inn u).map λ x=>(x,Tm.wbl u w)).reverse++qs,fs,_,_,_,rfl,?_,?_,?_,rfl⟩
    . have:=Tm.sz_inns u
      rw [<- List.map_reverse,fPq,List.map_reverse,List.sum_reverse];simp only [];omega
    . congr 2
      simp [List.map_map,Function.comp_def]
    . rw [<- hfs,List.flatMap_append,<- List.map_reverse,List.flatMap_map];congr 2;exact (aB8q c w).symm
    . have:=Tm.sz_inns u
      rw [<- List.map_reverse,fPq,List.map_reverse,List.sum_reverse];simp only [] at hsz;omega
  . have e:ps=[]:=by
      cases ps with
      | nil=>rfl
      | cons _ _=>simp at c
    subst e
    have e2:fs=t.nmsR 0:=by simpa using hfs
    subst e2
    exact ⟨up G a (.lst ((t.nmsR 0).map prD)),Sub.new (Sub.refl _) (by rw [aIq hne];exact hb0),q a ha⟩
abbrev iGq:Stmt:=top 44
theorem r6q:FnScope ["_law_found", "_law_due"] ["_law_found", "_law_due"] (a6q iGq):=⟨rfl,rfl,rfl,by decide +kernel,rfl,by decide +kernel,by decide +kernel⟩
theorem r5q:FnOk P w K mg base CX0 1 f fd ["_law_found", "_law_due"] (aKq K (gAq 0)):=okNo λ ds G DQ h=>by
  obtain ⟨_,_,_,h,_⟩:=h;omega
theorem rBq {n:Nat} (B:Blt mg) (g_alike:Got P w K mg base (n+1) "_law_alike" ["_law_found", "_law_due"] (aKq K (gAq n))) (F:Fun K "_law_alike" "_law_alike" iGq f fd):FnOk P w K mg base CX0 (n+2) f fd ["_law_found", "_law_due"] (aKq K (gAq (n+1))):=by
  refine okD (k:=n+1) F r6q (λ ds G DQ h=>?_) (λ cdv A outer s H E hr ds G DQ h=>?_)
  . obtain ⟨_,rfl,_⟩:=h;rfl
  obtain ⟨d,rfl,hp,hd,q⟩:=h
  refine ⟨_,(a4q (bAq (bBq (aTq c8q rfl B.isinstance PyProof.Rows.boot_isinstance (a0q (a1q 1) (a0q (dWq rfl B.tuple PyProof.Rows.boot_tuple) a2q)))) (a4q (bAq (AW.at (oWq (p9q (bBq (aTq c8q rfl B.isinstance PyProof.Rows.boot_isinstance (a0q (a1q 0) (a0q (dWq rfl B.tuple PyProof.Rows.boot_tuple) a2q))))) (kCq (aMq (p7q (bCq hr)) (aTq b2q rfl B.len PySem.boot_len (a0q (a1q 0) a2q)) (aTq b2q rfl B.len PySem.boot_len (a0q (a1q 1) a2q)) (aGq _))))) (a8q (aEq mIq)) b4q)
      (a8q (aEq (bJq (aTq (jJq rfl) rfl B.all PyProof.Rows.boot_all (a0q (cHq rfl (CompOk.of (N':=["_law_one", "_law_other"]) (nt:=2) (cap:=[]) rfl (by kernel_rfl)) (fSq (bMq bUq (f6q bUq cRq) (aRq (k:=0) (by decide)) (bMq bUq cRq (aRq (k:=1) (by decide)) e2q))) (xRq rfl B.zip (a0q (a1q 0) (a0q (a1q 1) a2q))) (λ _ _ _ _=>(fFq (n:=2) rfl (b3q (aNq (k:=0) (show List.Nodup (["_law_one", "_law_other"]:List Str) by decide +kernel) rfl (Or.inl rfl)) (b3q (aNq (k:=1) (show List.Nodup (["_law_one", "_law_other"]:List Str) by decide +kernel) rfl (Or.inl rfl)) d2q)))) (λ _ _ _ _=>(a7q g_alike hr (by omega) rfl (a0q (a1q 0) (a0q (a1q 1) a2q))))) a2q)))))) b4q)
      (a4q (bAq (bBq (aTq c8q rfl B.isinstance PyProof.Rows.boot_isinstance (a0q (a1q 1) (a0q (dWq rfl B.str PyProof.Rows.boot_str) a2q)))) (a8q (aEq (g4q (aTq c8q rfl B.isinstance PyProof.Rows.boot_isinstance (a0q (a1q 0) (a0q (dWq rfl B.str PyProof.Rows.boot_str) a2q))) (h3q (cFq (b0q (bCq hr)) (a1q 0) (a1q 1) (aGq _)))))) b4q)
      (a8q (aEq (g4q (aTq c8q rfl B.isinstance PyProof.Rows.boot_isinstance (a0q (a1q 0) (a0q (dWq rfl B.int PyProof.Rows.boot_int) a2q))) (g4q (yBq (aTq c8q rfl B.isinstance PyProof.Rows.boot_isinstance (a0q (a1q 0) (a0q (dWq rfl B.bool PyProof.Rows.boot_bool) a2q)))) (h3q (cFq (b0q (bCq hr)) (a1q 0) (a1q 1) (aGq _))))))))),?_⟩
  cases d with
  | int i=>exact ⟨false,rfl,nofun,λ _=>⟨false,rfl,nofun,λ _=>⟨true,rfl,λ _=>⟨false,rfl,λ _=>Dr.of (by simpa using q),nofun⟩,nofun⟩⟩⟩
  | str x=>exact ⟨false,rfl,nofun,λ _=>⟨true,rfl,λ _=>⟨true,rfl,λ _=>Dr.of (by simpa using q),nofun⟩,nofun⟩⟩
  | tup ds=>
    simp only [D.plain,Bool.and_eq_true,decide_eq_true_eq] at hp
    simp only [D.dp] at hd
    refine ⟨true,rfl,λ _=>⟨true,rfl,nofun,λ _=>⟨λ c=>absurd c (by simp),λ _=>⟨Nat.le_refl _,?_⟩⟩⟩,nofun⟩
    refine cTq ds (λ x=>.tup [x,x]) (λ _=>.bl true) ?_ ?_ ?_ ?_ ?_
    . exact lHq _ ds
    . exact aYq (by omega)
    . trivial
    . intro x hx R hR
      have h1:=m5q hx
      exact ⟨x,rfl,gUq hp.2 hx,by omega,hR⟩
    . intro p hp'
      refine aHq a5q ⟨ds.map λ _=>true,?_,G,Sub.new (Sub.refl _) hp',Dr.of ?_⟩
      . rw [show (ds.map λ _=>D.bl true)=(ds.map λ _=>true).map D.bl by simp];exact d8q _
      . rw [show (ds.map λ _=>true).all id=true by simp];exact q
  | _=>simp [D.plain] at hp
abbrev oLq:Stmt:=top 14
theorem zNq:FnScope ["program"] ["program"] (a6q oLq):=⟨rfl,rfl,rfl,by decide +kernel,rfl,by decide +kernel,by decide +kernel⟩
theorem yJq (B:Blt mg) (g_namesin:Got P w K mg base 2 "names_in" ["program"] (aKq K dOq)) (F:Fun K "open_names" "open_names" oLq f fd):FnOk P w K mg base CX0 3 f fd ["program"] (aKq K o9q):=by
  refine okD (k:=2) F zNq (λ ds G DQ h=>?_) (λ cdv A outer s H E hr ds G DQ h=>?_)
  . obtain ⟨_,rfl,_⟩:=h;rfl
  obtain ⟨t,rfl,hz,hn,q⟩:=h
  refine ⟨_,(a8q (aEq (jFq rfl B.sorted rfl B.set (jPq rfl (CompOk.of (N':=["number", "ways"]) (nt:=2) (cap:=[]) rfl (by kernel_rfl)) (fSq (bMq bUq (f6q bUq cRq) (aRq (k:=0) (by decide)) (bMq bUq cRq (aRq (k:=1) (by decide)) e2q))) (cBq (a7q g_namesin hr (by omega) rfl (a0q (a1q 0) a2q))) (λ _ _ _ _=>(fFq (n:=2) rfl (b3q (aNq (k:=0) (show List.Nodup (["number", "ways"]:List Str) by decide +kernel) rfl (Or.inl rfl)) (b3q (aNq (k:=1) (show List.Nodup (["number", "ways"]:List Str) by decide +kernel) rfl (Or.inl rfl)) d2q)))) (λ _ _ _ _=>(aMq jMq (a1q 0) (a1q 1) (aGq _))) (λ _ _ _ _=>(aQq c3q (a1q 0) (a1q 1))))))),?_⟩
  refine ⟨t,rfl,hz,λ l1 h1=>d3q a5q ?_⟩
  refine gXq (t.nmsR 0) prD (λ z=>if z.2<=z.1 then some (.int ((z.1:Int) - z.2)) else none) rfl (aYq (by have:=t.nmsR_len 0;omega)) a5q ?_ ?_
  . intro z hz' R S hR hS
    refine ⟨λ c=>?_,λ c=>?_⟩
    . have c':(z.2:Int)<=z.1:=by simpa using c
      exact hR _ (by rw [if_pos (by omega)])
    . have c':¬ (z.2:Int)<=z.1:=by simpa using c
      exact hS (by rw [if_neg (by omega)])
  . intro p hp
    have e:((t.nmsR 0).filterMap λ z=>if z.2<=z.1 then some (D.int ((z.1:Int) - z.2)) else none)=t.opn.map D.int:=by
      unfold Tm.opn z7q
      rw [List.map_filterMap]
      congr 1
      funext z
      split<;>rfl
    rw [e]
    have hol:=t.opn_len
    refine aHq a5q ⟨t.opn,dYq _,by omega,λ ms hs l' hl'=>?_⟩
    obtain ⟨_,n1,_⟩:=bKq (o:=.lst []) hl'
    obtain ⟨_,n2,_⟩:=bKq (o:=.lst []) n1
    exact ⟨up G l' (.lst (ms.map D.int)),Sub.put (Sub.trans (Sub.new (Sub.refl _) h1) (Sub.new (Sub.refl _) hp)),q ms hs l' n2⟩
abbrev fYq:Stmt:=top 19
theorem sc_copies:FnScope ["program", "depths", "deeper", "closed", "copies", "ways"] ["program", "depths"] (a6q fYq):=⟨rfl,rfl,rfl,by decide +kernel,rfl,by decide +kernel,by decide +kernel⟩
theorem oDq {T:Addr} {tp:Pos} (B:Blt mg) (g_opn:Got P w K mg base 3 "open_names" ["program"] (aKq K o9q)) (g_lifted:Got P w K mg base 4 "lifted" ["program", "many", "least"] (aKq K (pHq T tp))) (F:Fun K "copies_for" "copies_for" fYq f fd):FnOk P w K mg base CX0 5 f fd ["program", "depths"] (aKq K (hMq T tp)):=by
  refine okD (k:=4) F sc_copies (λ ds G DQ h=>?_) (λ cdv A outer s H E hr ds G DQ h=>?_)
  . obtain ⟨_,_,_,rfl,_⟩:=h;rfl
  obtain ⟨u,l,ws,rfl,hl,hw,hz,hn,hT,q⟩:=h
  refine ⟨_,(a4q (aAq (k:=2) sc_copies.nd rfl (Or.inl rfl) (i1q rfl B.sorted rfl B.set (a1q 1) (b7q (a0q a3q a2q))))
      (a4q (aAq (k:=3) sc_copies.nd rfl (Or.inl rfl) (g4q (cFq dKq (aTq b2q rfl B.len PySem.boot_len (a0q (a1q 2) a2q)) a3q (aGq _)) (h3q (wGq (a7q g_opn hr (by omega) rfl (a0q (a1q 0) a2q))))))
      (a4q (aAq (k:=4) sc_copies.nd rfl (Or.inl rfl) (qZq a3q (a1q 0)))
      (a4q (fLq PassesOwn.never rfl (cBq (a1q 2)) (aNq (k:=5) sc_copies.nd rfl (Or.inl rfl)) (a8q (sEq (bCq hr) (a1q 4) (a1q 5) (bYq (bBq (a1q 3)) (a1q 0) (a7q g_lifted hr (by omega) rfl (a0q (a1q 0) (a0q (a1q 5) (a0q a3q a2q))))))))
      (a8q (aEq (a1q 4))))))),?_⟩
  refine aHq hl ⟨ws.map (λ(w:Nat)=>(w:Int)),by rw [<- dYq,List.map_map];rfl,by rw [List.length_map];exact hw,?_⟩
  refine λ p0 hp0=>aHq a5q ⟨0,rfl,λ ms hs l2 hl2=>?_⟩
  have S0:Sub G (up (up G p0 (.lst [.int 0])) l2 (.lst (ms.map D.int))):=Sub.trans (Sub.new (Sub.refl _) hp0) (Sub.new (Sub.refl _) hl2)
  have e20:up (up G p0 (.lst [.int 0])) l2 (.lst (ms.map D.int)) l2=some (.lst (ms.map D.int)):=a5q
  have hT0:=S0 _ _ hT
  generalize up (up G p0 (.lst [.int 0])) l2 (.lst (ms.map D.int))=V0 at *
  refine aHq e20 ⟨λ c=>?_,λ c=>?_⟩
  . refine ⟨u,rfl,hz,hn,λ ms' hs' l3 h3=>aHq a5q ?_⟩
    have hGV:=Sub.trans S0 (Sub.new (o:=.lst (ms'.map D.int)) (Sub.refl _) h3)
    have e2:=kp (o:=.lst (ms'.map D.int)) h3 e20
    have hTV:=kp (o:=.lst (ms'.map D.int)) h3 hT0
    have hb:(!(!(ms'.map D.int).isEmpty))=true->u.opn=[]:=λ c=>by
      have:ms'=[]:=by cases ms' with | nil=>rfl | cons _ _=>simp at c
      subst this
      cases ho:u.opn with
      | nil=>rfl
      | cons x xs=>have:=(hs'.2 x).mpr (by rw [ho];exact List.mem_cons_self ..);cases this
    generalize up V0 l3 (.lst (ms'.map D.int))=V at *
    intro d hd
    have hdl:l2≠d:=by rintro rfl;rw [e2] at hd;cases hd
    refine ⟨a5q,.inl 0,rfl,?_⟩
    rw [cGq]
    refine d3q (by rw [aIq hdl];exact e2) ⟨λ i ρ G'=>∃ (kvs:List (Key × D)) (o5:Option D),ρ=[some u.enc,some (.ref l),some (.ref l2),some (.bl (!(!(ms'.map D.int).isEmpty))),some (.ref d),o5]/\G'=up V d (.dK kvs)/\(∀ j∈(0:Int)::ms.take i,eVq kvs (.inl j)=some (u.mapN (bIq j.toNat 0) 0).enc)/\kvs.length<=i+1,⟨[(.inl 0,u.enc)],_,rfl,rfl,?_,Nat.le_refl _⟩,λ i ρ G' _ ⟨kvs,o5,_,h,_⟩=>(show G' l2=some (.lst (ms.map D.int)) by rw [h,aIq hdl];exact e2),?_,?_⟩
    . intro j hj
      rw [List.take_zero] at hj
      rw [List.mem_singleton.mp hj]
      show some u.enc=some (u.mapN (bIq 0 0) 0).enc
      rw [f2q]
    . rintro i x ρ G' hx ⟨kvs,o5,rfl,rfl,hk,hkl⟩
      have hx':(ms.map D.int)[i]?=some x:=hx
      rw [List.getElem?_map] at hx'
      cases ej:ms[i]? with
      | none=>rw [ej] at hx';cases hx'
      | some j=>
        rw [ej] at hx';cases hx'
        have hjm:=List.mem_of_getElem? ej
        have hjw:=(hs.2 j).mp hjm
        rw [List.mem_filter,List.mem_map] at hjw
        obtain ⟨⟨w,hw1,rfl⟩,hw0⟩:=hjw
        have il:i < ms.length:=(List.getElem?_eq_some_iff.mp ej).1
        have lm:ms.length<=64:=by
          have nd:ms.Nodup:=hs.1.imp λ h=>by omega
          have:=nPq nd λ j hj=>(hs.2 j).mp hj
          have:=List.length_filter_le (λ j:Int=>decide (j≠0)) (ws.map λ(w:Nat)=>(w:Int))
          rw [List.length_map] at this
          omega
        have nxt:∀ y,y=(u.mapN (bIq w 0) 0).enc->∀ j∈(0:Int)::ms.take (i+1),eVq (putKD kvs (.inl (w:Int)) y) (.inl j)=some (u.mapN (bIq j.toNat 0) 0).enc:=λ y hy j hj=>by
          rw [lWq]
          by_cases c:(Sum.inl j:Key)=.inl (w:Int)
          . rw [if_pos c]
            obtain rfl:j=(w:Int):=Sum.inl.inj c
            rw [hy,Int.toNat_natCast]
          . rw [if_neg c]
            refine hk j ?_
            rcases List.mem_cons.mp hj with h | h
            . exact List.mem_cons.mpr (.inl h)
            . rw [List.take_add_one,ej] at h
              rcases List.mem_append.mp h with h | h
              . exact List.mem_cons.mpr (.inr h)
              . have hj2:j=(w:Int):=by simpa using h
                exact absurd (by rw [hj2]) c
        have fin:∀ y,y=(u.mapN (bIq w 0) 0).enc->onD (up V d (.dK kvs)) d λ kvs'=>∃ k,gCq (.int (w:Int))=some k/\kvs'.length < sizeLine/\Wk (λ ρ G'=>∃ (kvs:List (Key × D)) (o5:Option D),ρ=[some u.enc,some (.ref l),some (.ref l2),some (.bl (!(!(ms'.map D.int).isEmpty))),some (.ref d),o5]/\G'=up V d (.dK kvs)/\(∀ j∈(0:Int)::ms.take (i+1),eVq kvs (.inl j)=some (u.mapN (bIq j.toNat 0) 0).enc)/\kvs.length<=i+1+1) [some u.enc,some (.ref l),some (.ref l2),some (.bl (!(!(ms'.map D.int).isEmpty))),some (.ref d),some (.int (w:Int))] (up (up V d (.dK kvs)) d (.dK (putKD kvs' k y))):=λ y hy=>by
          refine nHq a5q ⟨.inl (w:Int),rfl,aYq (by omega),Wk.of ⟨_,_,rfl,cGq,nxt y hy,?_⟩⟩
          have:=j1q kvs (.inl (w:Int)) y
          omega
        refine ⟨λ c=>fin _ ?_,λ c=>⟨u,w,0,rfl,by rw [aIq (by rintro rfl;rw [hTV] at hd;cases hd)];exact hTV,hz,fin _ rfl⟩⟩
        rw [fTq w u 0 (pCq (hb c))]
    . rintro ρ G' ⟨kvs,o5,rfl,rfl,hk,_⟩
      refine ⟨up G d (.dK kvs),Sub.put hGV,q d kvs (hGV.none hd) λ w hw1=>?_⟩
      have z:=hk (w:Int) ?_
      . rw [Int.toNat_natCast] at z;exact z
      . by_cases c:w=0
        . rw [c];exact List.mem_cons.mpr (.inl rfl)
        . refine List.mem_cons.mpr (.inr ?_)
          have e:ms.take (ms.map D.int).length=ms:=by rw [List.length_map];exact List.take_length ..
          show (w:Int)∈ms.take (ms.map D.int).length
          rw [e,hs.2,List.mem_filter]
          exact ⟨List.mem_map.mpr ⟨w,hw1,rfl⟩,by simpa using c⟩
  . have hGV:=S0
    have e2:=e20
    have hTV:=hT0
    have hb:false=true->u.opn=[]:=nofun
    generalize V0=V at *
    intro d hd
    have hdl:l2≠d:=by rintro rfl;rw [e2] at hd;cases hd
    refine ⟨a5q,.inl 0,rfl,?_⟩
    rw [cGq]
    refine d3q (by rw [aIq hdl];exact e2) ⟨λ i ρ G'=>∃ (kvs:List (Key × D)) (o5:Option D),ρ=[some u.enc,some (.ref l),some (.ref l2),some (.bl false),some (.ref d),o5]/\G'=up V d (.dK kvs)/\(∀ j∈(0:Int)::ms.take i,eVq kvs (.inl j)=some (u.mapN (bIq j.toNat 0) 0).enc)/\kvs.length<=i+1,⟨[(.inl 0,u.enc)],_,rfl,rfl,?_,Nat.le_refl _⟩,λ i ρ G' _ ⟨kvs,o5,_,h,_⟩=>(show G' l2=some (.lst (ms.map D.int)) by rw [h,aIq hdl];exact e2),?_,?_⟩
    . intro j hj
      rw [List.take_zero] at hj
      rw [List.mem_singleton.mp hj]
      show some u.enc=some (u.mapN (bIq 0 0) 0).enc
      rw [f2q]
    . rintro i x ρ G' hx ⟨kvs,o5,rfl,rfl,hk,hkl⟩
      have hx':(ms.map D.int)[i]?=some x:=hx
      rw [List.getElem?_map] at hx'
      cases ej:ms[i]? with
      | none=>rw [ej] at hx';cases hx'
      | some j=>
        rw [ej] at hx';cases hx'
        have hjm:=List.mem_of_getElem? ej
        have hjw:=(hs.2 j).mp hjm
        rw [List.mem_filter,List.mem_map] at hjw
        obtain ⟨⟨w,hw1,rfl⟩,hw0⟩:=hjw
        have il:i < ms.length:=(List.getElem?_eq_some_iff.mp ej).1
        have lm:ms.length<=64:=by
          have nd:ms.Nodup:=hs.1.imp λ h=>by omega
          have:=nPq nd λ j hj=>(hs.2 j).mp hj
          have:=List.length_filter_le (λ j:Int=>decide (j≠0)) (ws.map λ(w:Nat)=>(w:Int))
          rw [List.length_map] at this
          omega
        have nxt:∀ y,y=(u.mapN (bIq w 0) 0).enc->∀ j∈(0:Int)::ms.take (i+1),eVq (putKD kvs (.inl (w:Int)) y) (.inl j)=some (u.mapN (bIq j.toNat 0) 0).enc:=λ y hy j hj=>by
          rw [lWq]
          by_cases c:(Sum.inl j:Key)=.inl (w:Int)
          . rw [if_pos c]
            obtain rfl:j=(w:Int):=Sum.inl.inj c
            rw [hy,Int.toNat_natCast]
          . rw [if_neg c]
            refine hk j ?_
            rcases List.mem_cons.mp hj with h | h
            . exact List.mem_cons.mpr (.inl h)
            . rw [List.take_add_one,ej] at h
              rcases List.mem_append.mp h with h | h
              . exact List.mem_cons.mpr (.inr h)
              . have hj2:j=(w:Int):=by simpa using h
                exact absurd (by rw [hj2]) c
        have fin:∀ y,y=(u.mapN (bIq w 0) 0).enc->onD (up V d (.dK kvs)) d λ kvs'=>∃ k,gCq (.int (w:Int))=some k/\kvs'.length < sizeLine/\Wk (λ ρ G'=>∃ (kvs:List (Key × D)) (o5:Option D),ρ=[some u.enc,some (.ref l),some (.ref l2),some (.bl false),some (.ref d),o5]/\G'=up V d (.dK kvs)/\(∀ j∈(0:Int)::ms.take (i+1),eVq kvs (.inl j)=some (u.mapN (bIq j.toNat 0) 0).enc)/\kvs.length<=i+1+1) [some u.enc,some (.ref l),some (.ref l2),some (.bl false),some (.ref d),some (.int (w:Int))] (up (up V d (.dK kvs)) d (.dK (putKD kvs' k y))):=λ y hy=>by
          refine nHq a5q ⟨.inl (w:Int),rfl,aYq (by omega),Wk.of ⟨_,_,rfl,cGq,nxt y hy,?_⟩⟩
          have:=j1q kvs (.inl (w:Int)) y
          omega
        refine ⟨λ c=>fin _ ?_,λ c=>⟨u,w,0,rfl,by rw [aIq (by rintro rfl;rw [hTV] at hd;cases hd)];exact hTV,hz,fin _ rfl⟩⟩
        rw [fTq w u 0 (pCq (hb c))]
    . rintro ρ G' ⟨kvs,o5,rfl,rfl,hk,_⟩
      refine ⟨up G d (.dK kvs),Sub.put hGV,q d kvs (hGV.none hd) λ w hw1=>?_⟩
      have z:=hk (w:Int) ?_
      . rw [Int.toNat_natCast] at z;exact z
      . by_cases c:w=0
        . rw [c];exact List.mem_cons.mpr (.inl rfl)
        . refine List.mem_cons.mpr (.inr ?_)
          have e:ms.take (ms.map D.int).length=ms:=by rw [List.length_map];exact List.take_length ..
          show (w:Int)∈ms.take (ms.map D.int).length
          rw [e,hs.2,List.mem_filter]
          exact ⟨List.mem_map.mpr ⟨w,hw1,rfl⟩,by simpa using c⟩
abbrev eOq:Stmt:=top 18
theorem sc_putin:FnScope ["program", "other", "copies", "taken"] ["program", "other"] (a6q eOq):=⟨rfl,rfl,rfl,by decide +kernel,rfl,by decide +kernel,by decide +kernel⟩
abbrev aUq:Stmt:=(b5q eOq).getD 1 (.Pass ⟨0,0,0,0⟩)
theorem gQq:CloScope ["number", "ways", "copies"] ["number", "ways"] ["copies"] (a6q aUq):=⟨rfl,rfl,rfl,by decide +kernel,rfl,rfl,by decide +kernel,by decide +kernel,by decide +kernel,by decide +kernel,by decide +kernel⟩
theorem gPq {u:Tm} {d:Addr} {kvs:List (Key × D)} (C:Nat->Nat->Prop) (hC:∀ n w:Nat,C n w->n=w->eVq kvs (.inl w)=some (u.mapN (bIq w 0) 0).enc):CloD P w K mg base 1 "taken" "put_in.<locals>.taken" aUq ["copies"] [.ref d] ["number", "ways"] (clD (eJq u) C [(d,.dK kvs)]):=by
  refine zBq (k:=0) gQq (λ ds G DQ h=>?_) (λ _ _ _ _ _ us hl=>match us,hl with | [_,_],_=>rfl) (λ f cdv cl A outer s H hr ds G DQ h=>?_)
  . obtain ⟨_,_,rfl,_⟩:=h;rfl
  obtain ⟨n,w,rfl,hc,hL,q⟩:=h
  refine ⟨_,(a4q (bAq (aMq (b0q (bCq hr)) (a1q 0) (a1q 1) (aGq _)) (a8q (aEq (sJq (bCq hr) (a1q 2) (a1q 1) (λ _ _=>rfl)))) b4q)
      (a8q (aEq (aCq (a0q aBq (a0q (bYq (aMq dKq (a1q 0) (a1q 1) (aGq _)) (aQq c3q (a1q 0) a3q) (a1q 0)) a2q)))))),?_⟩
  refine ⟨λ c=>?_,λ c=>⟨λ c2=>⟨Sub.refl _,?_⟩,λ c2=>⟨Sub.refl _,?_⟩⟩⟩
  . have c':(n:Int)=w:=by simpa using c
    obtain rfl:n=w:=by omega
    have hv:=hC n n hc rfl
    have e:eJq u n n=u.mapN (bIq n 0) 0:=by unfold eJq;rw [if_pos rfl]
    rw [e] at q
    exact nHq (vry_get.mpr ⟨hL _ (List.mem_cons_self ..),rfl⟩) ⟨.inl (n:Int),_,rfl,hv,Sub.refl _,q⟩
  . have c':¬ (n:Int)=w:=by simpa using c
    have c2':(w:Int) < n:=by simpa using c2
    have e:(eJq u n w).enc=.tup [.str "name", .int ((n:Int) - 1)]:=by
      unfold eJq;rw [if_neg (by omega),if_pos (by omega)]
      show D.tup [.str "name", .int ((n - 1:Nat):Int)]=_
      rw [show ((n - 1:Nat):Int)=(n:Int) - 1 by omega]
    rw [e] at q
    exact q
  . have c':¬ (n:Int)=w:=by simpa using c
    have c2':¬ (w:Int) < n:=by simpa using c2
    have e:(eJq u n w).enc=.tup [.str "name", .int (n:Int)]:=by
      unfold eJq;rw [if_neg (by omega),if_neg (by omega)];rfl
    rw [e] at q
    exact q
theorem r4q {c T T_putin:Addr} {tp:Pos} (hC:PySem.W.CodeHd base c T_putin) (hB:f1q mg base) (B:Blt mg) (g_namesin:Got P w K mg base 2 "names_in" ["program"] (aKq K dOq)) (g_copies:Got P w K mg base 5 "copies_for" ["program", "depths"] (aKq K (hMq T tp))) (g_withn:Got P w K mg base 3 "with_names" ["program", "change"] (aKq K (m7q P w K mg base 1))) (F:FunC K "put_in" "put_in" eOq f fd c):FnOk P w K mg base CX0 6 f fd ["program", "other"] (aKq K (vNq T tp T_putin (bTq aUq))):=by
  refine okDc (k:=5) F sc_putin (λ ds G DQ h=>?_) (λ A outer s H E hr ds G DQ h=>?_)
  . obtain ⟨_,_,rfl,_⟩:=h;rfl
  obtain ⟨t,u,rfl,hz,hzu,hn,hnu,hT,hT2,q⟩:=h
  refine ⟨_,(a4q (aAq (k:=2) sc_putin.nd rfl (Or.inr rfl) (a7q g_copies hr (by omega) rfl (a0q (a1q 1) (a0q (jPq rfl (CompOk.of (N':=["number", "ways"]) (nt:=2) (cap:=[]) rfl (by kernel_rfl)) (fSq (bMq bUq (f6q bUq cRq) (aRq (k:=0) (by decide)) (bMq bUq cRq (aRq (k:=1) (by decide)) e2q))) (cBq (a7q g_namesin hr (by omega) rfl (a0q (a1q 0) a2q))) (λ _ _ _ _=>(fFq (n:=2) rfl (b3q (aNq (k:=0) (show List.Nodup (["number", "ways"]:List Str) by decide +kernel) rfl (Or.inl rfl)) (b3q (aNq (k:=1) (show List.Nodup (["number", "ways"]:List Str) by decide +kernel) rfl (Or.inl rfl)) d2q)))) (λ _ _ _ _=>(aMq (b0q (bCq hr)) (a1q 0) (a1q 1) (aGq _))) (λ _ _ _ _=>(a1q 1))) a2q))))
      (a4q (t4q (i:=3) (T:=T_putin) (fr:=["copies"]) sc_putin.nd rfl (Or.inl rfl) rfl hC hB (by kernel_rfl) rfl rfl rfl)
      (a8q (aEq (mDq (name:="taken") (qual:="put_in.<locals>.taken") (st:=aUq) (fr:=["copies"]) (ix:=[2]) g_withn hr (by omega) rfl (by decide +kernel) (by kernel_rfl) (a0q (a1q 0) (a0q (a1q 3) a2q))))))),?_⟩
  refine ⟨t,rfl,hz,λ l1 h1=>d3q a5q ?_⟩
  refine gXq (t.nmsR 0) prD (λ z=>if z.1=z.2 then some (.int (z.2:Int)) else none) rfl (aYq (by have:=t.nmsR_len 0;omega)) a5q ?_ ?_
  . intro z hz' R S hR hS
    refine ⟨λ c=>?_,λ c=>?_⟩
    . have c':(z.1:Int)=z.2:=by simpa using c
      exact hR _ (by rw [if_pos (by omega)])
    . have c':¬ (z.1:Int)=z.2:=by simpa using c
      exact hS (by rw [if_neg (by omega)])
  intro l2 h2
  have e:((t.nmsR 0).filterMap λ z=>if z.1=z.2 then some (D.int (z.2:Int)) else none)=(t1q t).map λ(w:Nat)=>D.int (w:Int):=by
    unfold t1q
    rw [List.map_map]
    induction t.nmsR 0 with
    | nil=>rfl
    | cons z zs ih=>by_cases c:z.1=z.2<;>simp_all [List.filterMap_cons,List.filter_cons]
  rw [e]
  have hwl:=s7q t
  have S2:Sub G (up (up G l1 (.lst ((t.nmsR 0).map prD))) l2 (.lst ((t1q t).map λ(w:Nat)=>D.int (w:Int)))):=Sub.trans (Sub.new (Sub.refl _) h1) (Sub.new (Sub.refl _) h2)
  refine ⟨u,l2,t1q t,rfl,a5q,by omega,hzu,hnu,S2 _ _ hT,λ d kvs hd hcop=>?_⟩
  generalize up (up G l1 (.lst ((t.nmsR 0).map prD))) l2 (.lst ((t1q t).map λ(w:Nat)=>D.int (w:Int)))=V at *
  refine ⟨kp hd (S2 _ _ hT2),λ fc hf=>?_⟩
  obtain ⟨_,hfV,nfd⟩:=bKq (o:=.lst []) hf
  refine ⟨fc,[.ref d],a5q,rfl,λ i j h=>?_,t,fc,_,_,_,_,_,_,eJq u,λ n w=>(n,w)∈t.nmsR 0,[(d,.dK kvs)],rfl,a5q,gPq _ (λ n w hn e=>?_),λ y hy=>?_,hz,λ z hz=>hz,rfl,?_⟩
  . match i,j,h with
    | 0,_,rfl=>exact ⟨_,rfl,rfl⟩
  . subst e;exact hcop n (rJq hn)
  . rw [List.mem_singleton.mp hy,aIq (Ne.symm nfd),aIq (Ne.symm nfd)];exact a5q
  . exact ⟨G,Sub.trans S2 (Sub.trans (Sub.new (Sub.refl _) hd) (Sub.new (Sub.refl _) hf)),q⟩
abbrev gIq:Stmt:=top 3
theorem sc_pathof:FnScope ["trail", "numbers", "rest"] ["trail"] (a6q gIq):=⟨rfl,rfl,rfl,by decide +kernel,rfl,by decide +kernel,by decide +kernel⟩
theorem oAq (B:Blt mg) (F:Fun K "path_of" "path_of" gIq f fd):FnOk P w K mg base CX0 1 f fd ["trail"] (aKq K eUq):=by
  refine okD (k:=0) F sc_pathof (λ ds G DQ h=>?_) (λ cdv A outer s H E hr ds G DQ h=>?_)
  . obtain ⟨_,rfl,_⟩:=h;rfl
  obtain ⟨r,rfl,hl,q⟩:=h
  refine ⟨_,(a4q (aAq (k:=1) sc_pathof.nd rfl (Or.inl rfl) (b7q a2q))
      (a4q (aAq (k:=2) sc_pathof.nd rfl (Or.inl rfl) (a1q 0))
      (a4q (bZq PassesOwn.never (aMq fRq (a1q 2) c4q (aGq _)) (a4q (bFq (cXq PySem.F.plainAttrs_list PySem.F.slot_list_append PySem.F.type_list_append b1q (a1q 1) (a0q (aDq aix (a1q 2) a3q (λ _ _=>rfl)) a2q)))
      (a8q (aAq (k:=2) sc_pathof.nd rfl (Or.inl rfl) (aDq aix (a1q 2) a3q (λ _ _=>rfl))))))
      (a8q (aEq (eLq rfl B.tuple rfl B.reversed (a1q 1))))))),?_⟩
  intro l hl0
  refine ⟨λ m ρ G'=>∃ (us vs:List Int),ρ=[some (trD r),some (.ref l),some (trD vs)]/\G'=up G l (.lst (us.map D.int))/\us++vs=r/\m=vs.length,⟨_,[],r,rfl,rfl,rfl,rfl⟩,?_⟩
  rintro m ρ G' ⟨us,vs,rfl,rfl,rfl,rfl⟩
  cases vs with
  | nil=>
    refine ⟨λ c=>absurd c (by decide),λ _=>?_⟩
    refine aHq a5q ⟨_,Sub.new (Sub.refl _) hl0,?_⟩
    have z:=q
    rw [List.append_nil,plD,List.map_reverse] at z
    exact z
  | cons k vs=>
    refine ⟨λ _=>?_,λ c=>noTF c⟩
    refine ⟨aHq a5q trivial,aVq a5q ⟨aYq (by rw [List.length_map];simp only [List.length_append,List.length_cons] at hl;omega),?_⟩⟩
    rw [cGq]
    exact Wk.of ⟨vs.length,by simp,us++[k],vs,rfl,by rw [List.map_append];rfl,by simp,rfl⟩
abbrev pRq:Stmt:=top 22
theorem sc_atp:FnScope ["program", "place", "one", "k", "inners"] ["program", "place"] (a6q pRq):=⟨rfl,rfl,rfl,by decide +kernel,rfl,by decide +kernel,by decide +kernel⟩
theorem aA6q (B:Blt mg) (g_inner:Got P w K mg base 1 "inner" ["program"] (aKq K (dIq Tm.enc Tm.inn))) (F:Fun K "at_place" "at_place" pRq f fd):FnOk P w K mg base CX0 2 f fd ["program", "place"] (aKq K spAt):=by
  refine okD (k:=1) F sc_atp (λ ds G DQ h=>?_) (λ cdv A outer s H E hr ds G DQ h=>?_)
  . obtain ⟨_,_,_,rfl,_⟩:=h;rfl
  obtain ⟨t,ns,u,rfl,hu,q⟩:=h
  refine ⟨_,(a4q (aAq (k:=2) sc_atp.nd rfl (Or.inl rfl) (a1q 0))
      (a4q (fLq PassesOwn.never rfl (cBq (a1q 1)) (aNq (k:=3) sc_atp.nd rfl (Or.inl rfl)) (a4q (aAq (k:=4) sc_atp.nd rfl (Or.inl rfl) (a7q g_inner hr (by omega) rfl (a0q (a1q 2) a2q)))
      (a4q (bAq (AW.at (oWq (aMq k2q (a1q 3) a3q (aGq _)) (kCq (aMq jMq (a1q 3) (aTq b2q rfl B.len PySem.boot_len (a0q (a1q 4) a2q)) (aGq _))))) (a8q (aEq c4q)) b4q)
      (a8q (aAq (k:=2) sc_atp.nd rfl (Or.inl rfl) (aDq aix (a1q 4) (a1q 3) (λ _ _=>rfl)))))))
      (a8q (aEq (a1q 2))))),?_⟩
  refine ⟨λ i ρ G'=>∃ v o p,ρ=[some (Tm.enc t),some (plD ns),some (Tm.enc v),o,p]/\G'=G/\t.at (ns.take i)=some v,⟨t,_,_,rfl,rfl,rfl⟩,λ _ _ _ _ _=>trivial,?_,?_⟩
  . rintro i d ρ G' hd ⟨v,o,p,rfl,rfl,hv⟩
    have hd':(ns.map D.int)[i]?=some d:=hd
    rw [List.getElem?_map] at hd'
    cases e:ns[i]? with
    | none=>rw [e] at hd';cases hd'
    | some k=>
      rw [e] at hd';cases hd'
      obtain ⟨v',x,h1,h2,h3,h4⟩:=Tm.at_take hu e
      rw [hv] at h1;cases h1
      have hk:k.toNat < v.inn.length:=(List.getElem?_eq_some_iff.mp h3).1
      refine ⟨v,rfl,⟨λ c=>absurd (show k < 0 by simpa using c) (by omega),λ _=>⟨λ c=>?_,λ _=>?_⟩⟩⟩
      . have c':(v.inn.map Tm.enc).length<=k:=by simpa using c
        rw [List.length_map] at c';omega
      . refine cOq (d:=x.enc) ?_ (Wk.of ⟨x,_,_,rfl,rfl,h4⟩)
        have z:=c2q (xs:=v.inn.map Tm.enc) (j:=k.toNat) (v:=x.enc) (by rw [List.getElem?_map,h3];rfl)
        rwa [show ((k.toNat:Nat):Int)=k by omega] at z
  . rintro ρ G' ⟨v,o,p,rfl,rfl,hv⟩
    have e:(ns.map D.int).length=ns.length:=List.length_map ..
    have hv':t.at (ns.take (ns.map D.int).length)=some v:=hv
    rw [e,List.take_length,hu] at hv'
    cases hv'
    exact Dr.of q
abbrev iOq:Stmt:=top 26
theorem sc_cango:FnScope ["program", "place", "one"] ["program", "place"] (a6q iOq):=⟨rfl,rfl,rfl,by decide +kernel,rfl,by decide +kernel,by decide +kernel⟩
theorem sRq (g_atp:Got P w K mg base 2 "at_place" ["program", "place"] (aKq K spAt)) (g_hasr:Got P w K mg base 1 "has_rule" ["program"] (aKq K (i9q Tm.hasRule))) (F:Fun K "can_go" "can_go" iOq f fd):FnOk P w K mg base CX0 3 f fd ["program", "place"] (aKq K kFq):=by
  refine okD (k:=2) F sc_cango (λ ds G DQ h=>?_) (λ cdv A outer s H E hr ds G DQ h=>?_)
  . obtain ⟨_,_,_,rfl,_⟩:=h;rfl
  obtain ⟨t,ns,u,rfl,hu,q⟩:=h
  refine ⟨_,(a4q (aAq (k:=2) sc_cango.nd rfl (Or.inl rfl) (a7q g_atp hr (by omega) rfl (a0q (a1q 0) (a0q (a1q 1) a2q))))
      (a8q (aEq (g4q (cFq fRq (a1q 2) c4q (aGq _)) (h3q (a7q g_hasr hr (by omega) rfl (a0q (a1q 2) a2q))))))),?_⟩
  refine ⟨t,ns,u,rfl,hu,?_⟩
  rw [u.enc_eq]
  refine ⟨λ _=>⟨u,?_,Dr.of q⟩,nofun⟩
  rw [u.enc_eq]
abbrev qHq:Stmt:=top 36
theorem x6q:FnScope ["program"] ["program"] (a6q qHq):=⟨rfl,rfl,rfl,by decide +kernel,rfl,by decide +kernel,by decide +kernel⟩
theorem yDq (F:Fun K "inner_in_use" "inner_in_use" qHq f fd):FnOk P w K mg base CX0 1 f fd ["program"] (aKq K wNq):=by
  refine okD (k:=0) F x6q (λ ds G DQ h=>?_) (λ cdv A outer s H E hr ds G DQ h=>?_)
  . obtain ⟨t,rfl,_⟩:=h;rfl
  obtain ⟨t,rfl,q⟩:=h
  refine ⟨_,(a4q (bAq (aMq tGq (aDq aix (a1q 0) a3q (λ _ _=>rfl)) (aCq (a0q aBq (a0q aBq (a0q aBq (a0q aBq a2q))))) (by with_unfolding_all rfl)) (a8q (aEq c4q)) b4q)
      (a4q (bAq (AW.at (qKq (aMq (b0q (bCq hr)) (aDq aix (a1q 0) a3q (λ _ _=>rfl)) aBq (aGq _)) (lGq (aMq (b0q (bCq hr)) (aDq aix (aDq aix (a1q 0) a3q (λ _ _=>rfl)) a3q (λ _ _=>rfl)) aBq (aGq _))))) (a8q (aEq a3q)) b4q)
      (a8q (aEq a3q)))),?_⟩
  cases t with
  | plus a b=>
    simp only [Tm.inUse] at q
    simp only [Tm.enc];rw [a.enc_eq]
    refine ⟨rfl,rfl,λ c=>absurd c (by decide),λ _=>⟨λ _=>⟨λ c=>?_,λ c=>?_⟩,λ c=>absurd c (by decide)⟩⟩
    . rw [show (a.word==Str.ofString "whole")=true from c] at q;exact Dr.of q
    . rw [show (a.word==Str.ofString "whole")=false from c] at q;exact Dr.of q
  | name _=>exact ⟨rfl,rfl,λ _=>Dr.of q,λ c=>absurd c (by decide)⟩
  | whole _=>exact ⟨rfl,rfl,λ _=>Dr.of q,λ c=>absurd c (by decide)⟩
  | way _=>exact ⟨rfl,rfl,λ _=>Dr.of q,λ c=>absurd c (by decide)⟩
  | pair _ _=>exact ⟨rfl,rfl,λ _=>Dr.of q,λ c=>absurd c (by decide)⟩
  | _=>exact ⟨rfl,rfl,λ c=>absurd c (by decide),λ _=>⟨λ c=>absurd c (by decide),λ _=>⟨nofun,λ _=>Dr.of q⟩⟩⟩
abbrev qBq:Stmt:=top 35
theorem sc_piu:FnScope ["program", "place", "one", "k"] ["program"] (a6q qBq):=⟨rfl,rfl,rfl,by decide +kernel,rfl,by decide +kernel,by decide +kernel⟩
theorem aD4q (B:Blt mg) (g_hasr:Got P w K mg base 1 "has_rule" ["program"] (aKq K (i9q Tm.hasRule))) (g_iiu:Got P w K mg base 1 "inner_in_use" ["program"] (aKq K wNq)) (g_inner:Got P w K mg base 1 "inner" ["program"] (aKq K (dIq Tm.enc Tm.inn))) (F:Fun K "place_in_use" "place_in_use" qBq f fd):FnOk P w K mg base CX0 2 f fd ["program"] (aKq K vTq):=by
  refine okD (k:=1) F sc_piu (λ ds G DQ h=>?_) (λ cdv A outer s H E hr ds G DQ h=>?_)
  . obtain ⟨t,rfl,_⟩:=h;rfl
  obtain ⟨t,rfl,hz,q⟩:=h
  refine ⟨_,(a4q (aAq (k:=1) sc_piu.nd rfl (Or.inl rfl) (b7q a2q))
      (a4q (aAq (k:=2) sc_piu.nd rfl (Or.inl rfl) (a1q 0))
      (a4q (bZq PassesOwn.never (p9q (bBq (a7q g_hasr hr (by omega) rfl (a0q (a1q 2) a2q)))) (a4q (aAq (k:=3) sc_piu.nd rfl (Or.inl rfl) (a7q g_iiu hr (by omega) rfl (a0q (a1q 2) a2q)))
      (a4q (bAq (aMq pOq (a1q 3) c4q (aGq _)) (a8q (aEq c4q)) b4q)
      (a4q (bFq (cXq PySem.F.plainAttrs_list PySem.F.slot_list_append PySem.F.type_list_append b1q (a1q 1) (a0q (a1q 3) a2q)))
      (a8q (aAq (k:=2) sc_piu.nd rfl (Or.inl rfl) (aDq aix (a7q g_inner hr (by omega) rfl (a0q (a1q 2) a2q)) (a1q 3) (λ _ _=>rfl))))))))
      (a8q (aEq (g9q fUq rfl B.tuple PyProof.Rows.boot_tuple (a0q (a1q 1) a2q))))))),?_⟩
  intro l hl
  refine ⟨λ m ρ G'=>∃ (ns:List Int) (u:Tm) (o:Option D),ρ=[some (Tm.enc t),some (.ref l),some (Tm.enc u),o]/\G'=up G l (.lst (ns.map D.int))/\t.use=u.use.map (ns++·)/\ns.length+u.sz<=t.sz/\m=u.sz,⟨_,[],t,_,rfl,rfl,by simp,by simp,rfl⟩,?_⟩
  rintro m ρ G' ⟨ns,u,o,rfl,rfl,hu,hn,rfl⟩
  refine ⟨u,rfl,λ c=>?_,λ c=>?_⟩
  . have c':u.hasRule=false:=by simpa using c
    refine ⟨u,rfl,?_⟩
    cases hi:u.inUse with
    | none=>
      rw [Tm.use_none hi] at hu
      rw [hu] at q
      exact ⟨λ _=>⟨_,Sub.new (Sub.refl _) hl,q⟩,λ c=>absurd c (by decide)⟩
    | some k=>
      obtain ⟨v,h1,h2⟩:=Tm.use_some c' hi
      have hk:k < u.inn.length:=(List.getElem?_eq_some_iff.mp h1).1
      have hs:=Tm.sz_mem (List.mem_of_getElem? h1)
      refine ⟨λ c=>noFT c,λ _=>?_⟩
      refine ⟨aHq a5q trivial,aVq a5q ⟨aYq (by rw [List.length_map];omega),?_⟩⟩
      rw [cGq]
      refine ⟨u,rfl,cOq (d:=v.enc) (c2q (by rw [List.getElem?_map,h1];rfl)) (Wk.of ⟨v.sz,by omega,ns++[(k:Int)],v,_,rfl,by rw [List.map_append];rfl,?_,by simp;omega,rfl⟩)⟩
      rw [hu,h2]
      cases v.use<;>simp
  . have c':u.hasRule=true:=by simpa using c
    rw [Tm.use_rule c'] at hu
    rw [hu] at q
    refine aHq a5q ⟨_,Sub.new (Sub.refl _) hl,?_⟩
    simpa [oplD,plD] using q
abbrev uMq:Stmt:=top 34
theorem sc_fu:FnScope ["program", "pending", "entry", "one"] ["program"] (a6q uMq):=⟨rfl,rfl,rfl,by decide +kernel,rfl,by decide +kernel,by decide +kernel⟩
theorem aN2q (g_pathof:Got P w K mg base 1 "path_of" ["trail"] (aKq K eUq)) (F:Fun K "first_unanswered" "first_unanswered" uMq f fd):FnOk P w K mg base CX0 2 f fd ["program"] (aKq K spFu):=by
  refine okD (k:=1) F sc_fu (λ ds G DQ h=>?_) (λ cdv A outer s H E hr ds G DQ h=>?_)
  . obtain ⟨t,rfl,_⟩:=h;rfl
  obtain ⟨t,rfl,hz,q⟩:=h
  refine ⟨_,(a4q (aAq (k:=1) sc_fu.nd rfl (Or.inl rfl) (b7q (a0q (aCq (a0q (a1q 0) (a0q c4q a2q))) a2q)))
      (a4q (bZq PassesOwn.never (bBq (a1q 1)) (a4q (aAq (k:=2) sc_fu.nd rfl (Or.inl rfl) (fBq PySem.F.plainAttrs_list PySem.F.slot_list_pop PySem.F.type_list_pop d5q (a1q 1)))
      (a4q (aAq (k:=3) sc_fu.nd rfl (Or.inl rfl) (aDq aix (a1q 2) a3q (λ _ _=>rfl)))
      (a8q (bAq (aMq (b0q (bCq hr)) (aDq aix (a1q 3) a3q (λ _ _=>rfl)) aBq (aGq _)) (a4q (bFq (cXq PySem.F.plainAttrs_list PySem.F.slot_list_append PySem.F.type_list_append b1q (a1q 1) (a0q (aCq (a0q (aDq aix (a1q 3) a3q (λ _ _=>rfl)) (a0q (aCq (a0q (aDq aix (a1q 2) a3q (λ _ _=>rfl)) (a0q a3q a2q))) a2q))) a2q)))
      (a8q (bFq (cXq PySem.F.plainAttrs_list PySem.F.slot_list_append PySem.F.type_list_append b1q (a1q 1) (a0q (aCq (a0q (aDq aix (a1q 3) a3q (λ _ _=>rfl)) (a0q (aCq (a0q (aDq aix (a1q 2) a3q (λ _ _=>rfl)) (a0q a3q a2q))) a2q))) a2q))))) (a8q (bAq (AW.at (qKq (aMq (p7q (bCq hr)) (aDq aix (a1q 3) a3q (λ _ _=>rfl)) aBq (aGq _)) (lGq (aMq (p7q (bCq hr)) (aDq aix (a1q 3) a3q (λ _ _=>rfl)) aBq (aGq _))))) (a8q (aEq (aCq (a0q (a1q 3) (a0q (a7q g_pathof hr (by omega) rfl (a0q (aDq aix (a1q 2) a3q (λ _ _=>rfl)) a2q)) a2q))))) b4q)))))))
      (a8q (aEq c4q)))),?_⟩
  intro l hl
  refine ⟨λ m ρ G'=>∃ (ps:List (Tm × List Int)) (o1 o2:Option D),ρ=[some (Tm.enc t),some (.ref l),o1,o2]/\G'=up G l (.lst (ps.map tJq))/\t.fu=fuS ps.reverse/\szS ps<=t.sz/\(∀ z∈ps,z.2.length<=t.sz - szS ps)/\m=szS ps,⟨_,[(t,[])],_,_,rfl,rfl,?_,by simp [szS],by simp [szS],rfl⟩,?_⟩
  . simp only [List.reverse_singleton,fuS,List.reverse_nil,List.nil_append]
    cases t.fu<;>rfl
  rintro m ρ G' ⟨ps,o1,o2,rfl,rfl,hf,hs,hd,rfl⟩
  refine aHq a5q ⟨λ c=>?_,λ c=>?_⟩
  . obtain ⟨qs,z,rfl⟩:∃ qs z,ps=qs++[z]:=by
      rcases List.eq_nil_or_concat ps with rfl | ⟨qs,z,rfl⟩
      . simp at c
      . exact ⟨qs,z,List.concat_eq_append ..⟩
    obtain ⟨u,r⟩:=z
    rw [cEq] at hs hd ⊢
    rw [List.reverse_append,List.reverse_singleton,List.singleton_append] at hf
    have hr:r.length<=t.sz - (szS qs+u.sz):=hd (u,r) (by simp)
    have hq:∀ z∈qs,z.2.length<=t.sz - (szS qs+u.sz):=λ z hz=>hd z (by simp [hz])
    have hu:=u.sz_pos
    have hlen:=nKq qs
    refine ⟨aHq a5q trivial,aVq a5q ⟨qs.map tJq,tJq (u,r),by simp,?_⟩⟩
    rw [cGq]
    have leaf:u.fu=none->Wk (λ ρ G'=>∃ m' < szS qs+u.sz,∃ (ps:List (Tm × List Int)) (o1 o2:Option D),ρ=[some (Tm.enc t),some (.ref l),o1,o2]/\G'=up G l (.lst (ps.map tJq))/\t.fu=fuS ps.reverse/\szS ps<=t.sz/\(∀ z∈ps,z.2.length<=t.sz - szS ps)/\m'=szS ps) [some (Tm.enc t),some (.ref l),some (tJq (u,r)),some u.enc] (up G l (.lst (qs.map tJq))):=λ e=>
      Wk.of ⟨szS qs,by omega,qs,_,_,rfl,rfl,by rw [hf];simp only [fuS,e],by omega,λ z hz=>by have:=hq z hz;omega,rfl⟩
    have out:u.fu=some ([],u)->eUq [trD r] (up G l (.lst (qs.map tJq))) (λ d G'=>Dr DQ (.tup [u.enc,d]) G'):=λ e=>by
      have e2:t.fu=some (r.reverse,u):=by rw [hf];simp only [fuS,e,List.append_nil]
      rw [e2] at q
      exact ⟨r,rfl,by omega,_,Sub.new (Sub.refl _) hl,q⟩
    cases u with
    | pair a b=>
      refine ⟨λ _=>?_,λ c=>absurd c (by decide)⟩
      simp only [Tm.sz] at hs hr hq
      refine ⟨aHq a5q trivial,aVq a5q ⟨aYq (by rw [List.length_map];omega),?_⟩⟩
      rw [cGq]
      refine ⟨aHq a5q trivial,aVq a5q ⟨aYq (by simp;omega),?_⟩⟩
      rw [cGq]
      refine Wk.of ⟨szS (qs++[(b,1::r)]++[(a,0::r)]),by rw [cEq,cEq];simp only [Tm.sz];omega,qs++[(b,1::r)]++[(a,0::r)],_,_,rfl,by simp [tJq,trD],?_,by rw [cEq,cEq];simp only [];omega,?_,rfl⟩
      . rw [hf,rCq];simp
      . intro z hz
        rw [cEq,cEq]
        simp only [List.append_assoc,List.cons_append,List.nil_append,List.mem_append,List.mem_cons,List.not_mem_nil,or_false] at hz
        rcases hz with hz | rfl | rfl
        . have:=hq z hz;simp only [];omega
        . simp only [List.length_cons];omega
        . simp only [List.length_cons];omega
    | whole k=>exact ⟨λ c=>absurd c (by decide),λ _=>⟨λ c=>absurd c (by decide),λ _=>⟨nofun,λ _=>leaf rfl⟩⟩⟩
    | way a=>exact ⟨λ c=>absurd c (by decide),λ _=>⟨λ _=>⟨λ c=>absurd c (by decide),λ _=>leaf rfl⟩,λ c=>absurd c (by decide)⟩⟩
    | _=>exact ⟨λ c=>absurd c (by decide),λ _=>⟨λ _=>⟨λ _=>out rfl,λ c=>absurd c (by decide)⟩,λ c=>absurd c (by decide)⟩⟩
  . have e:ps=[]:=by
      cases ps with
      | nil=>rfl
      | cons _ _=>simp at c
    subst e
    rw [show t.fu=none from hf] at q
    exact ⟨_,Sub.new (Sub.refl _) hl,q⟩
abbrev e0q:Stmt:=top 24
theorem sc_withinn:FnScope ["program", "k", "other", "inners"] ["program", "k", "other"] (a6q e0q):=⟨rfl,rfl,rfl,by decide +kernel,rfl,by decide +kernel,by decide +kernel⟩
theorem mWq (g_inner:Got P w K mg base 1 "inner" ["program"] (aKq K (dIq Tm.enc Tm.inn))) (F:Fun K "with_inner" "with_inner" e0q f fd):FnOk P w K mg base CX0 2 f fd ["program", "k", "other"] (aKq K fDq):=by
  refine okD (k:=1) F sc_withinn (λ ds G DQ h=>?_) (λ cdv A outer s H E hr ds G DQ h=>?_)
  . obtain ⟨_,_,_,rfl,_⟩:=h;rfl
  obtain ⟨t,k,o,rfl,hlf,hk,q⟩:=h
  refine ⟨_,(a4q (aAq (k:=3) sc_withinn.nd rfl (Or.inl rfl) (a7q g_inner hr (by omega) rfl (a0q (a1q 0) a2q)))
      (a8q (aEq (aQq aWq (aQq aWq (aQq aWq (aCq (a0q (aDq aix (a1q 0) a3q (λ _ _=>rfl)) a2q)) (cUq asl (a1q 3) e8q (dVq (a1q 1)))) (aCq (a0q (a1q 2) a2q))) (cUq asl (a1q 3) (dVq (aQq aWq (a1q 1) a3q)) e8q))))),?_⟩
  have hil:=t.inn_len
  have hm:(t.inn.map Tm.enc).length=t.inn.length:=List.length_map ..
  refine ⟨t,rfl,(show ixD t.enc (.int 0) _ _ from wPq ?_)⟩
  have e1:((t.inn.map Tm.enc).take k).length<=3:=by rw [List.length_take,hm];omega
  have e2:((t.inn.map Tm.enc).drop (k+1)).length<=3:=by rw [List.length_drop,hm];omega
  have c1:cut (t.inn.map Tm.enc) none (some (k:Int))=(t.inn.map Tm.enc).take k:=t5q (by omega)
  have c2:cut (t.inn.map Tm.enc) (some ((k:Int)+1)) none=(t.inn.map Tm.enc).drop (k+1):=mBq (by omega)
  refine ⟨small ?_,small ?_,small ?_,Dr.of ?_⟩
  . rw [c1];simp only [List.length_cons,List.length_nil];omega
  . rw [c1];simp only [List.length_append,List.length_cons,List.length_nil];omega
  . rw [c1,c2];simp only [List.length_append,List.length_cons,List.length_nil];omega
  . rw [c1,c2]
    rw [Tm.enc_rebuild hlf (List.length_set ..)] at q
    have z:(t.inn.set k o).map Tm.enc=(t.inn.map Tm.enc).take k++o.enc::(t.inn.map Tm.enc).drop (k+1):=by
      rw [List.map_set,List.set_eq_take_append_cons_drop,if_pos (by omega)]
    rw [z] at q
    simpa using q
abbrev l5q:Stmt:=top 23
theorem sc_repl:FnScope ["program", "place", "other", "around", "one", "k", "made", "depth"] ["program", "place", "other"] (a6q l5q):=⟨rfl,rfl,rfl,by decide +kernel,rfl,by decide +kernel,by decide +kernel⟩
theorem wHq (B:Blt mg) (g_inner:Got P w K mg base 1 "inner" ["program"] (aKq K (dIq Tm.enc Tm.inn))) (g_withinn:Got P w K mg base 2 "with_inner" ["program", "k", "other"] (aKq K fDq)) (F:Fun K "replaced" "replaced" l5q f fd):FnOk P w K mg base CX0 3 f fd ["program", "place", "other"] (aKq K oZq):=by
  refine okD (k:=2) F sc_repl (λ ds G DQ h=>?_) (λ cdv A outer s H E hr ds G DQ h=>?_)
  . obtain ⟨_,_,_,_,rfl,_⟩:=h;rfl
  obtain ⟨t,ns,u,o,rfl,hu,hl,q⟩:=h
  refine ⟨_,(a4q (aAq (k:=3) sc_repl.nd rfl (Or.inl rfl) (b7q a2q))
      (a4q (aAq (k:=4) sc_repl.nd rfl (Or.inl rfl) (a1q 0))
      (a4q (fLq PassesOwn.never rfl (cBq (a1q 1)) (aNq (k:=5) sc_repl.nd rfl (Or.inl rfl)) (a4q (bFq (cXq PySem.F.plainAttrs_list PySem.F.slot_list_append PySem.F.type_list_append b1q (a1q 3) (a0q (a1q 4) a2q)))
      (a8q (aAq (k:=4) sc_repl.nd rfl (Or.inl rfl) (aDq aix (a7q g_inner hr (by omega) rfl (a0q (a1q 4) a2q)) (a1q 5) (λ _ _=>rfl))))))
      (a4q (aAq (k:=6) sc_repl.nd rfl (Or.inl rfl) (a1q 2))
      (a4q (fLq PassesOwn.never rfl (nIq rfl B.range (a0q (aQq c3q (aTq b2q rfl B.len PySem.boot_len (a0q (a1q 1) a2q)) a3q) (a0q (uEq kNq a3q) (a0q (uEq kNq a3q) a2q)))) (aNq (k:=7) sc_repl.nd rfl (Or.inl rfl)) (a8q (aAq (k:=6) sc_repl.nd rfl (Or.inl rfl) (a7q g_withinn hr (by omega) rfl (a0q (aDq aix (a1q 3) (a1q 7) (λ _ _=>rfl)) (a0q (aDq aix (a1q 1) (a1q 7) (λ _ _=>rfl)) (a0q (a1q 6) a2q)))))))
      (a8q (aEq (a1q 6)))))))),?_⟩
  intro a ha
  refine ⟨λ i ρ G'=>∃ o5:Option D,ρ=[some t.enc,some (plD ns),some o.enc,some (.ref a),some (t.along ns i).enc,o5,none,none]/\up G a (.lst ((List.range i).map λ j=>(t.along ns j).enc))=G',⟨_,rfl,rfl⟩,λ _ _ _ _ _=>trivial,?_,?_⟩
  . rintro i d ρ G' hd ⟨o5,rfl,rfl⟩
    have hd':(ns.map D.int)[i]?=some d:=hd
    rw [List.getElem?_map] at hd'
    cases e:ns[i]? with
    | none=>rw [e] at hd';cases hd'
    | some k=>
      rw [e] at hd';cases hd'
      obtain ⟨k0,hin⟩:=Tm.along_step hu e
      have hi:=(List.getElem?_eq_some_iff.mp e).1
      refine ⟨aHq a5q trivial,aVq a5q ⟨aYq (by rw [List.length_map,List.length_range];omega),?_⟩⟩
      rw [cGq]
      refine ⟨t.along ns i,rfl,cOq (d:=(t.along ns (i+1)).enc) ?_ (Wk.of ⟨_,rfl,?_⟩)⟩
      . have z:=c2q (xs:=(t.along ns i).inn.map Tm.enc) (j:=k.toNat) (v:=(t.along ns (i+1)).enc) (by rw [List.getElem?_map,hin];rfl)
        rwa [show ((k.toNat:Nat):Int)=k by omega] at z
      . rw [List.range_succ,List.map_append];rfl
  . rintro ρ G' ⟨o5,hρ,rfl⟩
    have eL:(⟨ns.map D.int,λ _=>True⟩:DIt).items.length=ns.length:=List.length_map ..
    rw [eL] at hρ ⊢
    subst hρ
    refine ⟨rfl,rfl,small62_iff.mpr (by rw [List.length_map];omega),?_⟩
    rw [List.length_map]
    refine ⟨λ j ρ G'=>∃ o7:Option D,ρ=[some t.enc,some (plD ns),some o.enc,some (.ref a),some (t.along ns ns.length).enc,o5,some (Tm.rpl o (ns.drop (ns.length - j)) (t.along ns (ns.length - j))).enc,o7]/\up G a (.lst ((List.range ns.length).map λ j=>(t.along ns j).enc))=G',⟨none,?_,rfl⟩,λ _ _ _ _ _=>trivial,?_,?_⟩
    . rw [Nat.sub_zero,List.drop_length];rfl
    . rintro j d ρ G' hd ⟨o7,rfl,rfl⟩
      obtain ⟨hj,rfl⟩:=k0q hd
      have hj':j < ns.length:=by omega
      rw [show ((ns.length:Nat):Int) - 1 - (j:Int)=((ns.length - 1 - j:Nat):Int) by omega]
      generalize hdd:ns.length - 1 - j=dd
      have hlt:dd < ns.length:=by omega
      rw [show ns.length - j=dd+1 by omega]
      have hk:ns[dd]?=some ns[dd]:=List.getElem?_eq_getElem hlt
      obtain ⟨k0,hin⟩:=Tm.along_step hu hk
      refine bRq a5q (d:=(t.along ns dd).enc) (c2q (by rw [List.getElem?_map,List.getElem?_range hlt];rfl)) (cOq (d:=.int ns[dd]) (c2q (by rw [List.getElem?_map,hk];rfl)) ?_)
      refine ⟨t.along ns dd,ns[dd].toNat,_,by rw [Int.toNat_of_nonneg k0],rFq hin,(List.getElem?_eq_some_iff.mp hin).1,Wk.of ⟨some (.int (dd:Nat)),?_,rfl⟩⟩
      have e:Tm.rpl o (ns.drop dd) (t.along ns dd)=(t.along ns dd).rebuild ((t.along ns dd).inn.set ns[dd].toNat (Tm.rpl o (ns.drop (dd+1)) (t.along ns (dd+1)))):=by
        rw [List.drop_eq_getElem_cons hlt,Tm.rpl,List.getD_eq_getElem?_getD,hin];rfl
      rw [show ns.length - (j+1)=dd by omega,e];rfl
    . rintro ρ G' ⟨o7,rfl,rfl⟩
      rw [j8q,show ns.length - (((ns.length:Nat):Int) - 1+1).toNat=0 by omega,List.drop_zero]
      exact ⟨G,Sub.new (Sub.refl _) ha,q⟩
abbrev i4q:Stmt:=top 29
theorem sc_comes:FnScope ["program", "word", "held"] ["program"] (a6q i4q):=⟨rfl,rfl,rfl,by decide +kernel,rfl,by decide +kernel,by decide +kernel⟩
theorem rOq {T T2:Addr} {pos pos2:Pos} (g_putin:Got P w K mg base 6 "put_in" ["program", "other"] (aKq K (vNq T pos T2 pos2))) (F:Fun K "comes_of" "comes_of" i4q f fd):FnOk P w K mg base CX0 7 f fd ["program"] (aKq K (lFq T pos T2 pos2)):=by
  refine okD (k:=6) F sc_comes (λ ds G DQ h=>?_) (λ cdv A outer s H E hr ds G DQ h=>?_)
  . obtain ⟨_,rfl,_⟩:=h;rfl
  obtain ⟨t,rfl,hr',hp,hT,q⟩:=h
  refine ⟨_,(a4q (aAq (k:=1) sc_comes.nd rfl (Or.inl rfl) (aDq aix (a1q 0) a3q (λ _ _=>rfl)))
      (a4q (aAq (k:=2) sc_comes.nd rfl (Or.inl rfl) (aDq aix (a1q 0) a3q (λ _ _=>rfl)))
      (a4q (bAq (aMq (b0q (bCq hr)) (a1q 1) aBq (aGq _)) (a8q (aEq (a7q g_putin hr (by omega) rfl (a0q (aDq aix (a1q 2) a3q (λ _ _=>rfl)) (a0q (aDq aix (a1q 0) a3q (λ _ _=>rfl)) a2q))))) b4q)
      (a4q (bAq (aMq (b0q (bCq hr)) (a1q 1) aBq (aGq _)) (a8q (aEq (aDq aix (a1q 2) a3q (λ _ _=>rfl)))) b4q)
      (a4q (bAq (aMq (b0q (bCq hr)) (a1q 1) aBq (aGq _)) (a8q (aEq (aDq aix (a1q 2) a3q (λ _ _=>rfl)))) b4q)
      (a4q (bAq (aMq (b0q (bCq hr)) (a1q 1) aBq (aGq _)) (a8q (aEq (aCq (a0q aBq (a0q (aQq aWq (aDq aix (a1q 2) a3q (λ _ _=>rfl)) (aDq aix (aDq aix (a1q 0) a3q (λ _ _=>rfl)) a3q (λ _ _=>rfl))) a2q))))) b4q)
      (a8q (aEq (bYq (aMq (b0q (bCq hr)) (aDq aix (a1q 2) a3q (λ _ _=>rfl)) a3q (aGq _)) (aDq aix (a1q 0) a3q (λ _ _=>rfl)) (aDq aix (a1q 0) a3q (λ _ _=>rfl))))))))))),?_⟩
  cases t with
  | give b a=>
    cases b with
    | way b=>exact Br.yes rfl ⟨b,a,rfl,hp.1,hp.2.1,hp.2.2.1,hp.2.2.2,hT.1,hT.2,Dr.of q⟩
    | _=>cases hr'
  | first a=>
    cases a with
    | pair a b=>exact Br.no rfl (Br.yes rfl (Dr.of q))
    | _=>cases hr'
  | second a=>
    cases a with
    | pair a b=>exact Br.no rfl (Br.no rfl (Br.yes rfl (Dr.of q)))
    | _=>cases hr'
  | plus a b=>
    cases a with
    | whole i=>
      cases b with
      | whole j=>exact Br.no rfl (Br.no rfl (Br.no rfl (Br.yes rfl (Dr.of q))))
      | _=>cases hr'
    | _=>cases hr'
  | look a b c=>
    cases a with
    | whole i=>
      refine Br.no rfl (Br.no rfl (Br.no rfl (Br.no rfl ⟨λ c=>?_,λ c=>?_⟩)))
      . have e:i=0:=by simpa using c
        have q':=q
        rw [show (Tm.look (.whole i) b _).comes=b from if_pos e] at q'
        exact Dr.of q'
      . have e:¬ i=0:=by simpa using c
        have q':=q
        rw [show (Tm.look (.whole i) b _).comes=_ from if_neg e] at q'
        exact Dr.of q'
    | _=>cases hr'
  | _=>cases hr'
abbrev oFq:Stmt:=top 28
theorem aC2q:FnScope ["program", "place"] ["program", "place"] (a6q oFq):=⟨rfl,rfl,rfl,by decide +kernel,rfl,by decide +kernel,by decide +kernel⟩
theorem x1q {T T2:Addr} {pos pos2:Pos} (g_cango:Got P w K mg base 3 "can_go" ["program", "place"] (aKq K kFq)) (g_atp:Got P w K mg base 2 "at_place" ["program", "place"] (aKq K spAt)) (g_comes:Got P w K mg base 7 "comes_of" ["program"] (aKq K (lFq T pos T2 pos2))) (g_repl:Got P w K mg base 3 "replaced" ["program", "place", "other"] (aKq K oZq)) (F:Fun K "behind" "behind" oFq f fd):FnOk P w K mg base CX0 8 f fd ["program", "place"] (aKq K (uPq T pos T2 pos2)):=by
  refine okD (k:=7) F aC2q (λ ds G DQ h=>?_) (λ cdv A outer s H E hr ds G DQ h=>?_)
  . obtain ⟨_,_,_,rfl,_⟩:=h;rfl
  obtain ⟨t,ns,u,rfl,hu,hr',hp,hl,hT,q⟩:=h
  refine ⟨_,(a4q (bAq (p9q (bBq (a7q g_cango hr (by omega) rfl (a0q (a1q 0) (a0q (a1q 1) a2q))))) (a8q w1q) b4q)
      (a8q (aEq (a7q g_repl hr (by omega) rfl (a0q (a1q 0) (a0q (a1q 1) (a0q (a7q g_comes hr (by omega) rfl (a0q (a7q g_atp hr (by omega) rfl (a0q (a1q 0) (a0q (a1q 1) a2q))) a2q)) a2q))))))),?_⟩
  refine ⟨t,ns,u,rfl,hu,Br.no (by rw [hr'];rfl) ⟨t,ns,u,rfl,hu,u,rfl,hr',hp,hT,t,ns,u,u.comes,rfl,hu,hl,Dr.of ?_⟩⟩
  unfold Tm.behind at q
  rw [hu] at q
  exact q
abbrev kXq:Stmt:=top 2
theorem sc_over:FnScope ["thing", "inners_of", "most", "deepest", "many", "pending", "entry"] ["thing", "inners_of", "most", "deepest"] (a6q kXq):=⟨rfl,rfl,rfl,by decide +kernel,rfl,by decide +kernel,by decide +kernel⟩
theorem w8q {k0:Nat} (F:Fun K "is_over" "is_over" kXq f fd):FnOk P w K mg base CX0 (k0+1) f fd ["thing", "inners_of", "most", "deepest"] (aKq K (oGq P w K mg base k0)):=by
  refine okD (k:=k0) F sc_over (λ ds G DQ h=>?_) (λ cdv A outer s H E hr ds G DQ h=>?_)
  . obtain ⟨_,_,rfl,_⟩:=h;rfl
  obtain ⟨t,fi,rfl,G_inners_of,q⟩:=h
  refine ⟨_,(a4q (aAq (k:=4) sc_over.nd rfl (Or.inl rfl) a3q)
      (a4q (aAq (k:=5) sc_over.nd rfl (Or.inl rfl) (b7q (a0q (aCq (a0q (a1q 0) (a0q a3q a2q))) a2q)))
      (a4q (bZq PassesOwn.never (bBq (a1q 5)) (a4q (aAq (k:=6) sc_over.nd rfl (Or.inr rfl) (fBq PySem.F.plainAttrs_list PySem.F.slot_list_pop PySem.F.type_list_pop d5q (a1q 5)))
      (a4q (yXq (k:=4) sc_over.nd rfl (Or.inl rfl) a3q uRq)
      (a4q (bAq (AW.at (oWq (aMq dKq (a1q 4) (a1q 2) (aGq _)) (kCq (aMq dKq (aDq aix (a1q 6) a3q (λ _ _=>rfl)) (a1q 3) (aGq _))))) (a8q (aEq mIq)) b4q)
      (a8q (bFq (cXq PySem.F.plainAttrs_list PySem.F.slot_list_extend PySem.F.type_list_extend cQq (a1q 5) (a0q (cHq rfl (CompOk.of (N':=["one", "entry"]) (nt:=1) (cap:=[6]) rfl (by kernel_rfl)) (aRq (k:=0) (by decide)) (cBq (yZq 1 G_inners_of hr (by omega) (a0q (aDq aix (a1q 6) a3q (λ _ _=>rfl)) a2q))) (λ _ _ _ _=>(aNq (k:=0) (show List.Nodup (["one", "entry"]:List Str) by decide +kernel) rfl (Or.inl rfl))) (λ _ _ _ _=>(aCq (a0q (a1q 0) (a0q (aQq aWq (aDq aix (a1q 1) a3q (λ _ _=>rfl)) a3q) a2q))))) a2q))))))))
      (a8q (aEq mIq))))),?_⟩
  intro b hb
  refine ⟨λ μ ρ G'=>∃ (ps:List (Tm × Nat)) (m:Nat) (o6:Option D),ρ=[some t.enc,some (.ref fi),some (.int 3000),some (.int 100),some (.int m),some (.ref b),o6]/\up G b (.lst (ps.reverse.map e2D))=G'/\m+sXq ps=t.sz/\(pZq ps ↔ 100 < t.dp)/\m<=3000/\ps.length<=3 * m+1/\3001 - m=μ,⟨_,[(t,0)],0,_,rfl,rfl,by simp [sXq],by simp [pZq],by decide,by simp,rfl⟩,?_⟩
  rintro μ ρ G' ⟨ps,m,o6,rfl,rfl,hs,hd,hm,hpl,rfl⟩
  refine aHq a5q ⟨λ c=>?_,λ c=>?_⟩
  . obtain ⟨u,d,qs,rfl⟩:∃ u d qs,ps=(u,d)::qs:=by
      cases ps with
      | nil=>simp at c
      | cons z qs=>exact ⟨z.1,z.2,qs,rfl⟩
    have hu:=u.sz_pos
    rw [qMq] at hs
    simp only [] at hs
    rw [List.length_cons] at hpl
    refine ⟨aHq a5q trivial,aVq a5q ⟨qs.reverse.map e2D,e2D (u,d),by simp,?_⟩⟩
    rw [cGq]
    have hret:t.over=true->Dr DQ (.bl true) (up G b (.lst (qs.reverse.map e2D))):=λ e=>⟨G,Sub.new (Sub.refl _) hb,by rw [e] at q;exact q⟩
    refine ⟨λ c1=>⟨λ _=>hret ?_,λ c=>noTF c⟩,λ c1=>⟨λ c2=>hret ?_,λ c2=>?_⟩⟩
    . have:3000 < m+1:=by have z1:(3000:Int) < (m:Int)+1:=of_decide_eq_true c1;omega
      unfold Tm.over
      rw [decide_eq_true (show 3000 < t.sz by omega)];rfl
    . have h2:100 < d:=by have:=of_decide_eq_true c2;omega
      unfold Tm.over
      rw [decide_eq_true (hd.mp ⟨(u,d),List.mem_cons_self ..,by show 100 < d+u.dp;omega⟩),Bool.or_true]
    . have h1:m+1<=3000:=by have z1:¬ (3000:Int) < (m:Int)+1:=of_decide_eq_false c1;omega
      have h2:d<=100:=by have:=of_decide_eq_false c2;omega
      have hil:=u.inn_len
      refine ⟨aHq a5q trivial,rfl,u,rfl,?_⟩
      refine cTq u.inn Tm.enc (λ x=>e2D (x,d+1)) rfl (aYq (by omega)) trivial (λ x _ R hR=>hR) (λ p hp=>?_)
      have np:b≠p:=by rintro rfl;rw [a5q] at hp;cases hp
      refine aVq (by rw [aIq np];exact a5q) (aVq a5q ⟨small (by simp only [List.length_map,List.length_reverse];omega),?_⟩)
      have so:=q5q (u:=u) (d:=d) (ps:=qs)
      refine ⟨_,up G b (.lst (qs.reverse.map e2D++u.inn.map λ x=>e2D (x,d+1))),.refl _,Sub.put (Sub.trans (Sub.new (Sub.refl _) hb) (Sub.new (Sub.refl _) hp)),3001 - (m+1),by omega,(u.inn.map λ x=>(x,d+1)).reverse++qs,m+1,_,rfl,?_,by omega,by rw [mYq h2];exact hd,h1,?_,rfl⟩
      . simp [List.map_map,Function.comp_def]
      . simp only [List.length_append,List.length_reverse,List.length_map];omega
  . have e:ps=[]:=by
      cases ps with
      | nil=>rfl
      | cons _ _=>simp at c
    subst e
    have e1:t.over=false:=by
      unfold Tm.over
      rw [decide_eq_false (show ¬ 3000 < t.sz by simp [sXq] at hs;omega),decide_eq_false (show ¬ 100 < t.dp from λ h=>by obtain ⟨z,hz,_⟩:=hd.mpr h;cases hz)];rfl
    rw [e1] at q
    exact ⟨G,Sub.new (Sub.refl _) hb,q⟩
abbrev hXq:Stmt:=top 39
theorem sLq:FnScope ["program"] ["program"] (a6q hXq):=⟨rfl,rfl,rfl,by decide +kernel,rfl,by decide +kernel,by decide +kernel⟩
theorem s8q (g_inner:Got P w K mg base 1 "inner" ["program"] (aKq K (dIq Tm.enc Tm.inn))) (g_over:Got P w K mg base 2 "is_over" ["thing", "inners_of", "most", "deepest"] (aKq K (oGq P w K mg base 1))) {t1 t2:Tok} (m_MOST_PARTS:mg "MOST_PARTS" = some (.int 3000 t1)) (m_MOST_DEEP:mg "MOST_DEEP" = some (.int 100 t2)) (F:Fun K "is_great" "is_great" hXq f fd):FnOk P w K mg base CX0 3 f fd ["program"] (aKq K kPq):=by
  refine okD (k:=2) F sLq (λ ds G DQ h=>?_) (λ cdv A outer s H E hr ds G DQ h=>?_)
  . obtain ⟨_,rfl,_⟩:=h;rfl
  obtain ⟨t,rfl,q⟩:=h
  obtain ⟨fi,m_inner,Gi⟩:=g_inner.fnV
  exact ⟨_,(a8q (aEq (a7q g_over hr (by omega) rfl (a0q (a1q 0) (a0q (hJq (d:=.ref _) (v:=.ref _) rfl m_inner rfl (λ _=>rfl)) (a0q (hJq (d:=.int _) (v:=.int _) rfl m_MOST_PARTS ⟨_,rfl⟩ (λ _=>rfl)) (a0q (hJq (d:=.int _) (v:=.int _) rfl m_MOST_DEEP ⟨_,rfl⟩ (λ _=>rfl)) a2q))))))),t,fi,rfl,Gi,Dr.of q⟩
abbrev gHq:Stmt:=top 1
theorem sc_walked:FnScope ["thing", "inners_of", "found", "pending", "one"] ["thing", "inners_of"] (a6q gHq):=⟨rfl,rfl,rfl,by decide +kernel,rfl,by decide +kernel,by decide +kernel⟩
theorem nEq {k0:Nat} (B:Blt mg) (F:Fun K "walked" "walked" gHq f fd):FnOk P w K mg base CX0 (k0+1) f fd ["thing", "inners_of"] (aKq K (iTq P w K mg base k0)):=by
  refine okD (k:=k0) F sc_walked (λ ds G DQ h=>?_) (λ cdv A outer s H E hr ds G DQ h=>?_)
  . obtain ⟨_,_,_,_,_,_,rfl,_⟩:=h;rfl
  obtain ⟨α,enc,inn,all,fi,x,rfl,hall,G_inners_of,hsz,fin⟩:=h
  refine ⟨_,(a4q (aAq (k:=2) sc_walked.nd rfl (Or.inl rfl) (b7q a2q))
      (a4q (aAq (k:=3) sc_walked.nd rfl (Or.inl rfl) (b7q (a0q (a1q 0) a2q)))
      (a4q (bZq PassesOwn.never (bBq (a1q 3)) (a4q (aAq (k:=4) sc_walked.nd rfl (Or.inl rfl) (fBq PySem.F.plainAttrs_list PySem.F.slot_list_pop PySem.F.type_list_pop d5q (a1q 3)))
      (a4q (bFq (cXq PySem.F.plainAttrs_list PySem.F.slot_list_append PySem.F.type_list_append b1q (a1q 2) (a0q (a1q 4) a2q)))
      (a8q (bFq (cXq PySem.F.plainAttrs_list PySem.F.slot_list_extend PySem.F.type_list_extend cQq (a1q 3) (a0q (gRq rfl B.list rfl B.reversed (yZq 1 G_inners_of hr (by omega) (a0q (a1q 4) a2q))) a2q)))))))
      (a8q (aEq (a1q 2)))))),?_⟩
  intro a ha b hb
  obtain ⟨-,hb0,hne⟩:=bKq (o:=.lst []) hb
  refine ⟨λ μ ρ G'=>∃ (ps fs:List α) (o4:Option D),ρ=[some (enc x),some (.ref fi),some (.ref a),some (.ref b),o4]/\up (up G a (.lst (fs.map enc))) b (.lst (ps.reverse.map enc))=G'/\fs++ps.flatMap all=all x/\(ps.flatMap all).length=μ,⟨_,[x],[],_,rfl,rfl,by simp,rfl⟩,?_⟩
  rintro μ ρ G' ⟨ps,fs,o4,rfl,rfl,hfs,rfl⟩
  have hlen:fs.length+(ps.flatMap all).length=(all x).length:=by rw [<- hfs,List.length_append]
  refine aHq a5q ⟨λ c=>?_,λ c=>?_⟩
  . obtain ⟨y,qs,rfl⟩:∃ y qs,ps=y::qs:=by
      cases ps with
      | nil=>simp at c
      | cons z qs=>exact ⟨z,qs,rfl⟩
    rw [List.flatMap_cons,hall y,List.cons_append] at hfs
    have hl2:=lLq hall ((inn y)++qs)
    rw [List.flatMap_cons,hall y,List.cons_append,List.length_cons,<- List.flatMap_append] at hlen
    rw [List.length_append] at hl2
    rw [<- List.flatMap_append] at hfs
    refine ⟨aHq a5q trivial,aVq a5q ⟨qs.reverse.map enc,enc y,by simp,?_⟩⟩
    rw [cGq]
    have ha1:∀ o,up (up G a (.lst (fs.map enc))) b o a=some (.lst (fs.map enc)):=λ o=>by rw [aIq (Ne.symm hne)];exact a5q
    refine ⟨aHq (ha1 _) trivial,aVq (ha1 _) ⟨aYq (by rw [List.length_map];omega),?_⟩⟩
    rw [up3 hne]
    refine ⟨aHq a5q trivial,rfl,y,rfl,λ p hp=>?_⟩
    have np:b≠p:=by rintro rfl;rw [a5q] at hp;cases hp
    refine aVq (by rw [aIq np];exact a5q) (aVq a5q ⟨small (by simp only [List.length_map,List.length_reverse];omega),?_⟩)
    refine ⟨_,up (up G a (.lst (fs.map enc++[enc y]))) b (.lst (qs.reverse.map enc++((inn y).map enc).reverse)),.refl _,Sub.put (Sub.trans (Sub.new (Sub.refl _) (by rw [aIq hne];exact hb0)) (Sub.new (Sub.refl _) hp)),((inn y++qs).flatMap all).length,?_,inn y++qs,fs++[y],_,rfl,?_,?_,rfl⟩
    . rw [List.flatMap_cons,hall y,List.cons_append,List.length_cons,List.flatMap_append];omega
    . simp
    . rw [<- hfs,List.flatMap_append];simp
  . have e:ps=[]:=by
      cases ps with
      | nil=>rfl
      | cons _ _=>simp at c
    subst e
    have e2:fs=all x:=by simpa using hfs
    subst e2
    exact ⟨up G a (.lst ((all x).map enc)),Sub.new (Sub.refl _) (by rw [aIq hne];exact hb0),fin a ha⟩
abbrev oTq:Stmt:=top 6
theorem xLq:FnScope ["program"] ["program"] (a6q oTq):=⟨rfl,rfl,rfl,by decide +kernel,rfl,by decide +kernel,by decide +kernel⟩
theorem yGq (g_iop:Got P w K mg base 1 "inner_of_pair" ["program"] (aKq K (dIq Tm.enc Tm.pinn))) (g_walked:Got P w K mg base 2 "walked" ["thing", "inners_of"] (aKq K (iTq P w K mg base 1))) (F:Fun K "pairs_and_leaves" "pairs_and_leaves" oTq f fd):FnOk P w K mg base CX0 3 f fd ["program"] (aKq K v7q):=by
  refine okD (k:=2) F xLq (λ ds G DQ h=>?_) (λ cdv A outer s H E hr ds G DQ h=>?_)
  . obtain ⟨_,rfl,_⟩:=h;rfl
  obtain ⟨t,rfl,hz,q⟩:=h
  obtain ⟨fi,m_iop,Gi⟩:=g_iop.fnV
  have hl:=t.pall_len
  exact ⟨_,(a8q (aEq (a7q g_walked hr (by omega) rfl (a0q (a1q 0) (a0q (hJq (d:=.ref _) (v:=.ref _) rfl m_iop rfl (λ _=>rfl)) a2q))))),Tm,Tm.enc,Tm.pinn,Tm.pall,fi,t,rfl,Tm.pall_eq,Gi,by omega,λ l hl=>Dr.of (q l hl)⟩
abbrev qGq:Stmt:=top 5
theorem z1q:FnScope ["program"] ["program"] (a6q qGq):=⟨rfl,rfl,rfl,by decide +kernel,rfl,by decide +kernel,by decide +kernel⟩
theorem aC7q (B:Blt mg) (g_pal:Got P w K mg base 3 "pairs_and_leaves" ["program"] (aKq K v7q)) (F:Fun K "is_answer" "is_answer" qGq f fd):FnOk P w K mg base CX0 4 f fd ["program"] (aKq K wMq):=by
  refine okD (k:=3) F z1q (λ ds G DQ h=>?_) (λ cdv A outer s H E hr ds G DQ h=>?_)
  . obtain ⟨_,rfl,_⟩:=h;rfl
  obtain ⟨t,rfl,hz,q⟩:=h
  refine ⟨_,(a8q (aEq (bJq (aTq (jJq rfl) rfl B.all PyProof.Rows.boot_all (a0q (cHq rfl (CompOk.of (N':=["one"]) (nt:=1) (cap:=[]) rfl (by kernel_rfl)) (aRq (k:=0) (by decide)) (cBq (a7q g_pal hr (by omega) rfl (a0q (a1q 0) a2q))) (λ _ _ _ _=>(aNq (k:=0) (show List.Nodup (["one"]:List Str) by decide +kernel) rfl (Or.inl rfl))) (λ _ _ _ _=>(cFq tGq (aDq aix (a1q 0) a3q (λ _ _=>rfl)) (aCq (a0q aBq (a0q aBq (a0q aBq a2q)))) (by with_unfolding_all rfl)))) a2q))))),?_⟩
  have hl:=t.pall_len
  refine ⟨t,rfl,hz,λ l hl'=>d3q a5q ?_⟩
  refine cTq t.pall Tm.enc (λ u=>.bl u.an3) rfl (aYq (by omega)) a5q (λ u _ R hR=>?_) (λ p hp=>?_)
  . refine (show ixD u.enc (.int 0) _ _ from wPq ⟨rfl,rfl,?_⟩)
    rw [Bool.false_xor,p0q];exact hR
  . obtain ⟨-,g2,n2⟩:=bKq (o:=.lst []) hp
    refine aHq a5q ⟨t.pall.map Tm.an3,?_,G,Sub.new (Sub.new (Sub.refl _) hl') g2,Dr.of ?_⟩
    . rw [<- d8q (t.pall.map Tm.an3),List.map_map];rfl
    . rw [List.all_map,show t.pall.all (id ∘ Tm.an3)=t.isAns from t.pall_ans];exact q
abbrev kUq:Stmt:=top 38
theorem sc_runt:FnScope ["program", "most", "now", "stood_at", "use", "later", "word"] ["program", "most"] (a6q kUq):=⟨rfl,rfl,rfl,by decide +kernel,rfl,by decide +kernel,by decide +kernel⟩
theorem uNq {T T2:Addr} {pos pos2:Pos} (B:Blt mg) (g_nu:Got P w K mg base 3 "next_use" ["program"] (aKq K vWq)) (g_beh:Got P w K mg base 8 "behind" ["program", "place"] (aKq K (uPq T pos T2 pos2))) (g_great:Got P w K mg base 3 "is_great" ["program"] (aKq K kPq)) (g_isa:Got P w K mg base 4 "is_answer" ["program"] (aKq K wMq)) (F:Fun K "run_through" "run_through" kUq f fd):FnOk P w K mg base CX0 9 f fd ["program", "most"] (aKq K (qIq T pos T2 pos2)):=by
  refine okD (k:=8) F sc_runt (λ ds G DQ h=>?_) (λ cdv A outer s H E hr ds G DQ h=>?_)
  . obtain ⟨_,_,rfl,_⟩:=h;rfl
  obtain ⟨t,k,rfl,hG,hk,hT,q⟩:=h
  refine ⟨_,(a4q (aAq (k:=2) sc_runt.nd rfl (Or.inl rfl) (a1q 0))
      (a4q (aAq (k:=3) sc_runt.nd rfl (Or.inl rfl) (b7q a2q))
      (a4q (aAq (k:=4) sc_runt.nd rfl (Or.inl rfl) (a7q g_nu hr (by omega) rfl (a0q (a1q 2) a2q)))
      (a4q (bZq PassesOwn.never (aMq fRq (a1q 4) c4q (aGq _)) (a4q (bAq (aMq jMq (aTq b2q rfl B.len PySem.boot_len (a0q (a1q 3) a2q)) (a1q 1) (aGq _)) (a8q (aEq (aCq (a0q aBq (a0q (a1q 2) (a0q (a1q 3) a2q)))))) b4q)
      (a4q (aAq (k:=5) sc_runt.nd rfl (Or.inl rfl) (a7q g_beh hr (by omega) rfl (a0q (a1q 2) (a0q (aQq aWq (aDq aix (a1q 4) a3q (λ _ _=>rfl)) (aDq aix (a1q 4) a3q (λ _ _=>rfl))) a2q))))
      (a4q (bAq (bBq (a7q g_great hr (by omega) rfl (a0q (a1q 5) a2q))) (a8q (aEq (aCq (a0q aBq (a0q (a1q 2) (a0q (a1q 3) a2q)))))) b4q)
      (a4q (aAq (k:=2) sc_runt.nd rfl (Or.inl rfl) (a1q 5))
      (a4q (bFq (cXq PySem.F.plainAttrs_list PySem.F.slot_list_append PySem.F.type_list_append b1q (a1q 3) (a0q (aDq aix (a1q 4) a3q (λ _ _=>rfl)) a2q)))
      (a8q (aAq (k:=4) sc_runt.nd rfl (Or.inl rfl) (a7q g_nu hr (by omega) rfl (a0q (a1q 2) a2q))))))))))
      (a4q (aAq (k:=6) sc_runt.nd rfl (Or.inl rfl) (bYq (bBq (a7q g_isa hr (by omega) rfl (a0q (a1q 2) a2q))) aBq aBq))
      (a8q (aEq (aCq (a0q (a1q 6) (a0q (a1q 2) (a0q (a1q 3) a2q))))))))))),?_⟩
  intro a ha
  have hsz:=hG.sz
  refine ⟨t,rfl,by omega,?_⟩
  refine ⟨λ μ ρ G'=>∃ (u:Tm) (j:Nat) (done:List (List Int)) (o5:Option D),ρ=[some t.enc,some (.int k),some u.enc,some (.ref a),some (nuD u.nuo),o5,none]/\up G a (.lst (done.map plD))=G'/\GoodR j u/\done.length+j=k/\bSq k t=((bSq j u).1,(bSq j u).2.1,done++(bSq j u).2.2)/\j=μ,⟨_,t,k,[],_,rfl,rfl,hG,by simp,rfl,rfl⟩,?_⟩
  rintro μ ρ G' ⟨u,j,done,o5,rfl,rfl,hg,hdj,hr',rfl⟩
  have hus:=hg.sz
  have hTa:Tabs2 T pos T2 pos2 (up G a (.lst (done.map plD))):=hT.new ha
  have hq:=q a ha
  rw [hr'] at hq
  cases e:u.nuo with
  | none=>
    refine Br.no rfl ?_
    have hrj:bSq j u=(fin u,u,[]):=by cases j<;>(unfold bSq;rw [e])
    rw [hrj,List.append_nil] at hq
    refine ⟨u,rfl,by omega,⟨λ c=>?_,λ c=>?_⟩⟩
    . rw [show fin u = "answer" from if_pos c] at hq;exact Dr.of hq
    . rw [show fin u = "stuck" from if_neg (by rw [c];decide)] at hq;exact Dr.of hq
  | some z=>
    refine Br.yes rfl ?_
    obtain ⟨⟨v,hv,hvr⟩,hln⟩:=aD7q e
    have hdp:=u.dp_sz
    refine aHq a5q ⟨λ c=>?_,λ c=>?_⟩
    . have hj:j=0:=by have z1:(k:Int)<=((done.map plD).length:Int):=of_decide_eq_true c;rw [List.length_map] at z1;omega
      subst hj
      rw [show bSq 0 u=(("more" : Str),u,[]) by unfold bSq;rw [e],List.append_nil] at hq
      exact Dr.of hq
    . obtain ⟨j',rfl⟩:∃ j',j=j'+1:=⟨j - 1,by have z1:¬ (k:Int)<=((done.map plD).length:Int):=of_decide_eq_false c;rw [List.length_map] at z1;omega⟩
      obtain ⟨hpo,hgo⟩:=hg.2 z v e hv
      have hln2:z.1.length+z.2.length<=3000:=by rw [List.length_append] at hln;omega
      refine ⟨small (by rw [List.length_map,List.length_map];omega),u,z.1++z.2,v,?_,hv,hvr,hpo,by omega,hTa,?_⟩
      . rw [plD,List.map_append]
      refine ⟨u.behind (z.1++z.2),rfl,⟨λ c=>?_,λ c=>?_⟩⟩
      . rw [show bSq (j'+1) u=(("great" : Str),u,[]) by unfold bSq;rw [e];simp only [];rw [if_pos c],List.append_nil] at hq
        exact Dr.of hq
      . have hg2:=hgo c
        have hs2:=hg2.sz
        refine ⟨aHq a5q trivial,aVq a5q ⟨aYq (by rw [List.length_map];omega),?_⟩⟩
        rw [cGq]
        refine ⟨u.behind (z.1++z.2),rfl,by omega,?_⟩
        refine Wk.of ⟨j',by omega,u.behind (z.1++z.2),j',done++[z.1],_,rfl,by rw [List.map_append];rfl,hg2,by rw [List.length_append,List.length_singleton];omega,?_,rfl⟩
        rw [hr',show bSq (j'+1) u=((bSq j' (u.behind (z.1++z.2))).1,(bSq j' (u.behind (z.1++z.2))).2.1,z.1::(bSq j' (u.behind (z.1++z.2))).2.2) by rw [bSq,e];simp only [];rw [if_neg (by rw [c];decide)]]
        simp
abbrev q9q:Stmt:=top 37
theorem sc_run:FnScope ["program", "most", "gone"] ["program", "most"] (a6q q9q):=⟨rfl,rfl,rfl,by decide +kernel,rfl,by decide +kernel,by decide +kernel⟩
theorem yOq {T T2:Addr} {pos pos2:Pos} (B:Blt mg) (g_runt:Got P w K mg base 9 "run_through" ["program", "most"] (aKq K (qIq T pos T2 pos2))) (F:Fun K "run" "run" q9q f fd):FnOk P w K mg base CX0 10 f fd ["program", "most"] (aKq K (vSq T pos T2 pos2)):=by
  refine okD (k:=9) F sc_run (λ ds G DQ h=>?_) (λ cdv A outer s H E hr ds G DQ h=>?_)
  . obtain ⟨_,_,rfl,_⟩:=h;rfl
  obtain ⟨t,k,rfl,hG,hk,hT,q⟩:=h
  refine ⟨_,(a4q (aAq (k:=2) sc_run.nd rfl (Or.inl rfl) (a7q g_runt hr (by omega) rfl (a0q (a1q 0) (a0q (a1q 1) a2q))))
      (a8q (aEq (aCq (a0q (aDq aix (a1q 2) a3q (λ _ _=>rfl)) (a0q (aDq aix (a1q 2) a3q (λ _ _=>rfl)) (a0q (aTq b2q rfl B.len PySem.boot_len (a0q (aDq aix (a1q 2) a3q (λ _ _=>rfl)) a2q)) a2q))))))),?_⟩
  refine ⟨t,k,rfl,hG,hk,hT,λ l hl=>aHq a5q ⟨G,Sub.new (Sub.refl _) hl,?_⟩⟩
  rw [List.length_map];exact q
abbrev tXq:Stmt:=top 33
theorem sc_nu:FnScope ["program", "found", "rest"] ["program"] (a6q tXq):=⟨rfl,rfl,rfl,by decide +kernel,rfl,by decide +kernel,by decide +kernel⟩
theorem aH1q (g_fu:Got P w K mg base 2 "first_unanswered" ["program"] (aKq K spFu)) (g_piu:Got P w K mg base 2 "place_in_use" ["program"] (aKq K vTq)) (F:Fun K "next_use" "next_use" tXq f fd):FnOk P w K mg base CX0 3 f fd ["program"] (aKq K vWq):=by
  refine okD (k:=2) F sc_nu (λ ds G DQ h=>?_) (λ cdv A outer s H E hr ds G DQ h=>?_)
  . obtain ⟨t,rfl,_⟩:=h;rfl
  obtain ⟨t,rfl,hz,q⟩:=h
  refine ⟨_,(a4q (aAq (k:=1) sc_nu.nd rfl (Or.inl rfl) (a7q g_fu hr (by omega) rfl (a0q (a1q 0) a2q)))
      (a4q (bAq (aMq pOq (a1q 1) c4q (aGq _)) (a8q (aEq c4q)) b4q)
      (a4q (aAq (k:=2) sc_nu.nd rfl (Or.inl rfl) (a7q g_piu hr (by omega) rfl (a0q (aDq aix (a1q 1) a3q (λ _ _=>rfl)) a2q)))
      (a8q (aEq (bYq (aMq pOq (a1q 2) c4q (aGq _)) c4q (aCq (a0q (aDq aix (a1q 1) a3q (λ _ _=>rfl)) (a0q (a1q 2) a2q))))))))),?_⟩
  refine ⟨t,rfl,hz,?_⟩
  unfold Tm.nuo at q
  cases e:t.fu with
  | none=>rw [e] at q;exact ⟨λ _=>Dr.of q,λ c=>noTF c⟩
  | some z=>
    rw [e] at q
    simp only [] at q
    refine ⟨λ c=>noFT c,λ _=>⟨z.2,rfl,?_,?_⟩⟩
    . have:=Tm.fu_sz e;omega
    . cases e2:z.2.use with
      | none=>rw [e2] at q;exact ⟨λ _=>Dr.of q,λ c=>noTF c⟩
      | some ns=>rw [e2] at q;exact ⟨λ c=>noFT c,λ _=>Dr.of q⟩
abbrev nBq:Stmt:=top 7
theorem aD9q:FnScope ["program"] ["program"] (a6q nBq):=⟨rfl,rfl,rfl,by decide +kernel,rfl,by decide +kernel,by decide +kernel⟩
theorem y1q (F:Fun K "inner_of_pair" "inner_of_pair" nBq f fd):FnOk P w K mg base CX0 1 f fd ["program"] (aKq K (dIq Tm.enc Tm.pinn)):=by
  refine okD (k:=0) F aD9q (λ ds G DQ h=>?_) (λ cdv A outer s H E hr ds G DQ h=>?_)
  . obtain ⟨t,rfl,_⟩:=h;rfl
  obtain ⟨t,rfl,q⟩:=h
  refine ⟨_,(a8q (aEq (bYq (aMq (b0q (bCq hr)) (aDq aix (a1q 0) a3q (λ _ _=>rfl)) aBq (aGq _)) (cUq asl (a1q 0) (dVq a3q) e8q) (aCq a2q)))),?_⟩
  cases t with
  | pair a b=>exact ⟨λ _=>Dr.of q,λ c=>absurd c (by decide)⟩
  | _=>exact ⟨λ c=>absurd c (by decide),λ _=>Dr.of q⟩
abbrev f4q:Stmt:=top 45
theorem sc_joined:FnScope ["_law_leaves", "_law_joins", "_law_k", "_law_at"] ["_law_leaves", "_law_joins"] (a6q f4q):=⟨rfl,rfl,rfl,by decide +kernel,rfl,by decide +kernel,by decide +kernel⟩
theorem nSq (B:Blt mg)  (F:Fun K "_law_joined" "_law_joined" f4q f fd):FnOk P w K mg base CX0 1 f fd ["_law_leaves", "_law_joins"] (aKq K iQq):=by
  refine okD (k:=0) F sc_joined (λ ds G DQ h=>?_) (λ cdv A outer s H E hr ds G DQ h=>?_)
  . obtain ⟨_,_,_,_,rfl,_⟩:=h;rfl
  obtain ⟨l,m,ts,js,rfl,hl,hm,hlen,h100,q⟩:=h
  refine ⟨_,(a4q (fLq PassesOwn.never rfl (cBq (a1q 1)) (aNq (k:=2) sc_joined.nd rfl (Or.inl rfl)) (a4q (aAq (k:=3) sc_joined.nd rfl (Or.inl rfl) (aQq cDq (a1q 2) (aQq c3q (aTq b2q rfl B.len PySem.boot_len (a0q (a1q 0) a2q)) a3q)))
      (a8q (aAq (k:=0) sc_joined.nd rfl (Or.inl rfl) (aQq aWq (bJq (aQq aWq (cUq asl (a1q 0) e8q (dVq (a1q 3))) (b7q (a0q (aCq (a0q aBq (a0q (aDq aix (a1q 0) (a1q 3) (λ _ _=>rfl)) (a0q (aDq aix (a1q 0) (aQq aWq (a1q 3) a3q) (λ _ _=>rfl)) a2q)))) a2q)))) (cUq asl (a1q 0) (dVq (aQq aWq (a1q 3) a3q)) e8q))))))
      (a8q (aEq (aDq aix (a1q 0) a3q (λ _ _=>rfl))))),?_⟩
  refine d3q hm ?_
  refine ⟨λ i ρ G'=>∃ (l':Addr) (us:List Tm) (o2 o3:Option D),ρ=[some (.ref l'),some (.ref m),o2,o3]/\Sub G G'/\G' l'=some (.lst (us.map Tm.enc))/\us.length+i=ts.length/\aZq (js.drop i) us=aZq js ts,⟨l,ts,_,_,rfl,Sub.refl _,hl,rfl,rfl⟩,λ _ _ _ _ h=>by obtain ⟨_,_,_,_,_,hs,_⟩:=h;exact hs _ _ hm,?_,?_⟩
  . rintro i d ρ G' hd ⟨l',us,o2,o3,rfl,hs,hl',hus,hj⟩
    have hd':(js.map D.int)[i]?=some d:=hd
    rw [List.getElem?_map] at hd'
    cases hk:js[i]? with
    | none=>rw [hk] at hd';cases hd'
    | some k=>
      rw [hk] at hd';cases hd'
      have hi:=(List.getElem?_eq_some_iff.mp hk).1
      have hu2:2<=us.length:=by omega
      obtain ⟨ha1,ha2⟩:=cSq (k:=k) hu2
      have hml:(us.map Tm.enc).length=us.length:=List.length_map ..
      have hdr:js.drop i=k::js.drop (i+1):=by
        rw [List.drop_eq_getElem_cons hi];congr 1;rw [List.getElem?_eq_getElem hi] at hk;exact Option.some.inj hk
      refine aHq hl' ⟨by rw [hml];omega,?_⟩
      dsimp only
      rw [hml,<- ha2]
      have hjs:cYq k us=us.take (k % ((us.length:Int) - 1)).toNat++.pair (us.getD (k % ((us.length:Int) - 1)).toNat (.name 0)) (us.getD ((k % ((us.length:Int) - 1)).toNat+1) (.name 0))::us.drop ((k % ((us.length:Int) - 1)).toNat+2):=rfl
      generalize (k % ((us.length:Int) - 1)).toNat=a at ha1 hjs ⊢
      have ge:∀ j,j < us.length->(us.map Tm.enc)[j]?=some (us.getD j (.name 0)).enc:=λ j hj=>by
        rw [List.getElem?_map,List.getD_eq_getElem?_getD,List.getElem?_eq_getElem hj];rfl
      refine aHq hl' λ p1 hp1=>?_
      have n1:l'≠p1:=by rintro rfl;rw [hl'] at hp1;cases hp1
      have hl1:∀ o,up G' p1 o l'=some (.lst (us.map Tm.enc)):=λ o=>by rw [aIq n1];exact hl'
      refine bRq (hl1 _) (d:=(us.getD a (.name 0)).enc) (c2q (ge a (by omega))) (bRq (hl1 _) (d:=(us.getD (a+1) (.name 0)).enc) (c2q (j:=a+1) (ge (a+1) ha1)) λ p2 hp2=>?_)
      obtain ⟨-,g2,n21⟩:=bKq (o:=.lst []) hp2
      have c1:cut (us.map Tm.enc) none (some (a:Int))=(us.map Tm.enc).take a:=t5q (by omega)
      have c2:cut (us.map Tm.enc) (some ((a:Int)+2)) none=(us.map Tm.enc).drop (a+2):=by
        have z:=mBq (xs:=us.map Tm.enc) (k:=a+1) (by omega)
        rwa [show (((a+1:Nat):Int)+1)=(a:Int)+2 by omega] at z
      rw [c1] at hp2 ⊢
      refine aVq (by rw [aIq (Ne.symm n21)];exact a5q) (aVq a5q ⟨small (by simp only [List.length_take,List.length_cons,List.length_nil];omega),λ p3 hp3=>?_⟩)
      have g3:G' p3=none:=(bKq (o:=.lst []) (bKq (o:=.lst []) hp3).2.1).2.1
      have n3:l'≠p3:=by rintro rfl;rw [hl'] at g3;cases g3
      refine ⟨up G' p3 _,Sub.put (Sub.new (Sub.new (Sub.refl _) hp1) g2),aHq (by rw [aIq n3];exact hl') λ p4 hp4=>?_⟩
      obtain ⟨-,g4,n43⟩:=bKq (o:=.lst []) hp4
      rw [c2]
      refine aVq (by rw [aIq (Ne.symm n43)];exact a5q) (aVq a5q ⟨small (by simp only [List.length_append,List.length_take,List.length_drop,List.length_cons,List.length_nil];omega),λ p5 hp5=>?_⟩)
      have g5:G' p5=none:=(bKq (o:=.lst []) (bKq (o:=.lst []) hp5).2.1).2.1
      have hjl:=cMq (k:=k) hu2
      refine ⟨_,up G' p5 (.lst ((cYq k us).map Tm.enc)),.refl _,?_,p5,cYq k us,_,_,rfl,λ b o e=>Sub.new (Sub.refl _) g5 b o (hs b o e),a5q,by omega,?_⟩
      . have e:(cYq k us).map Tm.enc=(us.map Tm.enc).take a++[.tup [.str "pair", (us.getD a (.name 0)).enc,(us.getD (a+1) (.name 0)).enc]]++(us.map Tm.enc).drop (a+2):=by
          rw [hjs,List.map_append,List.map_cons,List.map_take,List.map_drop,List.append_assoc];rfl
        rw [e]
        exact Sub.put (Sub.new (Sub.new (Sub.refl _) g3) g4)
      . rw [hdr] at hj;exact hj
  . rintro ρ G' ⟨l',us,o2,o3,rfl,hs,hl',hus,hj⟩
    rw [show (⟨js.map D.int,λ G=>G m=some (.lst (js.map D.int))⟩:DIt).items.length=js.length from List.length_map ..] at hus hj
    rw [List.drop_length] at hj
    obtain ⟨u,rfl⟩:∃ u,us=[u]:=by
      rcases us with _ | ⟨u,_ | ⟨_,_⟩⟩
      . simp at hus;omega
      . exact ⟨u,rfl⟩
      . simp at hus;omega
    refine bRq hl' rfl ⟨G,hs,?_⟩
    rw [<- hj] at q;exact q
abbrev iMq:Stmt:=top 46
theorem sc_lways:FnScope ["_law_part", "_law_many", "_law_k"] ["_law_part", "_law_many"] (a6q iMq):=⟨rfl,rfl,rfl,by decide +kernel,rfl,by decide +kernel,by decide +kernel⟩
theorem sVq (B:Blt mg)  (F:Fun K "_law_ways" "_law_ways" iMq f fd):FnOk P w K mg base CX0 1 f fd ["_law_part", "_law_many"] (aKq K kWq):=by
  refine okD (k:=0) F sc_lways (λ ds G DQ h=>?_) (λ cdv A outer s H E hr ds G DQ h=>?_)
  . obtain ⟨_,_,rfl,_⟩:=h;rfl
  obtain ⟨t,n,rfl,hn,q⟩:=h
  refine ⟨_,(a4q (fLq PassesOwn.never rfl (bWq rfl B.range (a0q (a1q 1) a2q)) (aNq (k:=2) sc_lways.nd rfl (Or.inl rfl)) (a8q (aAq (k:=0) sc_lways.nd rfl (Or.inl rfl) (aCq (a0q aBq (a0q (a1q 0) a2q))))))
      (a8q (aEq (a1q 0)))),?_⟩
  refine d6q (by omega) ?_
  rw [Int.toNat_natCast]
  refine ⟨λ i ρ G'=>∃ o2:Option D,ρ=[some (e7q i t).enc,some (.int n),o2]/\G=G',⟨_,rfl,rfl⟩,λ _ _ _ _ _=>trivial,?_,?_⟩
  . rintro i d ρ G' hd ⟨o2,rfl,rfl⟩
    exact Wk.of ⟨_,rfl,rfl⟩
  . rintro ρ G' ⟨o2,rfl,rfl⟩
    rw [b8q];exact Dr.of q
abbrev kRq:Stmt:=top 47
theorem sc_wide:FnScope ["_law_feed_here", "_law_many", "_law_around", "_law_joins", "_law_given", "_law_name", "_law_last", "_law_second", "_law_first", "_law_one", "_law_two", "_law_three", "_law_own"] ["_law_feed_here"] (a6q kRq):=⟨rfl,rfl,rfl,by decide +kernel,rfl,by decide +kernel,by decide +kernel⟩
theorem tUq (B:Blt mg) (g_take:Got P w K mg base 1 "_law_take" ["_law_feed_here", "_law_many"] (aKq K d1q)) (g_whole:Got P w K mg base 2 "_law_whole" ["_law_feed_here"] (aKq K d4q)) (g_joined:Got P w K mg base 1 "_law_joined" ["_law_leaves", "_law_joins"] (aKq K iQq)) (g_lways:Got P w K mg base 1 "_law_ways" ["_law_part", "_law_many"] (aKq K kWq)) (F:Fun K "_law_wide" "_law_wide" kRq f fd):FnOk P w K mg base CX0 3 f fd ["_law_feed_here"] (aKq K o1q):=by
  refine okD (k:=2) F sc_wide (λ ds G DQ h=>?_) (λ cdv A outer s H E hr ds G DQ h=>?_)
  . obtain ⟨_,rfl,_⟩:=h;rfl
  obtain ⟨a,rfl,hF,q⟩:=h
  refine ⟨_,(a4q (aAq (k:=1) sc_wide.nd rfl (Or.inl rfl) (c9q (a0q (aCq (a0q a3q (a0q a3q (a0q a3q a2q)))) (a0q (aCq (a0q a3q (a0q a3q (a0q a3q a2q)))) (a0q (aCq (a0q a3q (a0q a3q (a0q a3q a2q)))) (a0q (aCq (a0q a3q (a0q a3q (a0q a3q a2q)))) (a0q (aCq (a0q a3q (a0q a3q (a0q a3q a2q)))) (a0q (aCq (a0q a3q (a0q a3q (a0q a3q a2q)))) a2q)))))) (a7q g_take hr (by omega) rfl (a0q (a1q 0) (a0q a3q a2q))) (λ _ _=>rfl)))
      (a4q (aAq (k:=2) sc_wide.nd rfl (Or.inl rfl) (a7q g_take hr (by omega) rfl (a0q (a1q 0) (a0q a3q a2q))))
      (a4q (c6q (k:=3) rfl sc_wide.nd rfl (Or.inl rfl) (CompOk.of (N':=["_law_k", "_law_feed_here"]) (nt:=1) (cap:=[0]) rfl (by kernel_rfl)) (aRq (k:=0) (by decide)) (cBq (a1q 1)) (λ _ _ _ _=>(aNq (k:=0) (show List.Nodup (["_law_k", "_law_feed_here"]:List Str) by decide +kernel) rfl (Or.inl rfl)))  (λ _ _ _ _=>(cHq rfl (CompOk.of (N':=["_law_j", "_law_feed_here"]) (nt:=1) (cap:=[1]) rfl (by kernel_rfl)) (aRq (k:=0) (by decide)) (bWq rfl B.range (a0q (aQq c3q (a1q 0) a3q) a2q)) (λ _ _ _ _=>(aNq (k:=0) (show List.Nodup (["_law_j", "_law_feed_here"]:List Str) by decide +kernel) rfl (Or.inl rfl))) (λ _ _ _ _=>(a7q g_take hr (by omega) rfl (a0q (a1q 1) (a0q a3q a2q)))))))
      (a4q (aAq (k:=4) sc_wide.nd rfl (Or.inl rfl) (a7q g_joined hr (by omega) rfl (a0q (cHq rfl (CompOk.of (N':=["_law_k", "_law_feed_here"]) (nt:=1) (cap:=[0]) rfl (by kernel_rfl)) (aRq (k:=0) (by decide)) (bWq rfl B.range (a0q a3q a2q)) (λ _ _ _ _=>(aNq (k:=0) (show List.Nodup (["_law_k", "_law_feed_here"]:List Str) by decide +kernel) rfl (Or.inl rfl))) (λ _ _ _ _=>(a7q g_whole hr (by omega) rfl (a0q (a1q 1) a2q)))) (a0q (cHq rfl (CompOk.of (N':=["_law_k", "_law_feed_here"]) (nt:=1) (cap:=[0]) rfl (by kernel_rfl)) (aRq (k:=0) (by decide)) (bWq rfl B.range (a0q a3q a2q)) (λ _ _ _ _=>(aNq (k:=0) (show List.Nodup (["_law_k", "_law_feed_here"]:List Str) by decide +kernel) rfl (Or.inl rfl))) (λ _ _ _ _=>(a7q g_take hr (by omega) rfl (a0q (a1q 1) (a0q a3q a2q))))) a2q))))
      (a4q (aAq (k:=5) sc_wide.nd rfl (Or.inl rfl) (aCq (a0q aBq (a0q a3q a2q))))
      (a4q (aAq (k:=6) sc_wide.nd rfl (Or.inl rfl) (a7q g_lways hr (by omega) rfl (a0q (a7q g_joined hr (by omega) rfl (a0q (bJq (aQq cCq (b7q (a0q (aCq (a0q aBq (a0q (a1q 2) a2q))) a2q)) (aDq aix (a1q 1) a3q (λ _ _=>rfl)))) (a0q (aDq aix (a1q 3) a3q (λ _ _=>rfl)) a2q))) (a0q (a1q 2) a2q))))
      (a4q (aAq (k:=7) sc_wide.nd rfl (Or.inl rfl) (aCq (a0q aBq (a0q (aCq (a0q aBq (a0q (a1q 6) a2q))) (a0q (a7q g_joined hr (by omega) rfl (a0q (bJq (aQq cCq (b7q (a0q (a1q 5) a2q)) (aDq aix (a1q 1) a3q (λ _ _=>rfl)))) (a0q (aDq aix (a1q 3) a3q (λ _ _=>rfl)) a2q))) a2q)))))
      (a4q (aAq (k:=8) sc_wide.nd rfl (Or.inl rfl) (aCq (a0q aBq (a0q (aCq (a0q aBq (a0q (a1q 7) a2q))) (a0q (a7q g_joined hr (by omega) rfl (a0q (bJq (aQq cCq (b7q (a0q (a1q 5) a2q)) (aDq aix (a1q 1) a3q (λ _ _=>rfl)))) (a0q (aDq aix (a1q 3) a3q (λ _ _=>rfl)) a2q))) a2q)))))
      (a4q (aAq (k:=9) sc_wide.nd rfl (Or.inl rfl) (a7q g_joined hr (by omega) rfl (a0q (bJq (aQq cCq (b7q (a0q (a1q 4) a2q)) (aDq aix (a1q 1) a3q (λ _ _=>rfl)))) (a0q (aDq aix (a1q 3) a3q (λ _ _=>rfl)) a2q))))
      (a4q (aAq (k:=10) sc_wide.nd rfl (Or.inl rfl) (a7q g_joined hr (by omega) rfl (a0q (bJq (aQq cCq (b7q (a0q (a1q 9) a2q)) (aDq aix (a1q 1) a3q (λ _ _=>rfl)))) (a0q (aDq aix (a1q 3) a3q (λ _ _=>rfl)) a2q))))
      (a4q (aAq (k:=11) sc_wide.nd rfl (Or.inl rfl) (a7q g_lways hr (by omega) rfl (a0q (a7q g_joined hr (by omega) rfl (a0q (bJq (aQq cCq (b7q (a0q (a1q 10) a2q)) (aDq aix (a1q 1) a3q (λ _ _=>rfl)))) (a0q (aDq aix (a1q 3) a3q (λ _ _=>rfl)) a2q))) (a0q (a1q 2) a2q))))
      (a4q (aAq (k:=12) sc_wide.nd rfl (Or.inl rfl) (b7q (a0q (aCq (a0q aBq (a0q (aCq (a0q aBq (a0q (a1q 8) a2q))) (a0q (a1q 4) a2q)))) (a0q (aCq (a0q aBq (a0q (aCq (a0q aBq (a0q (a1q 7) a2q))) (a0q (a1q 9) a2q)))) (a0q (aCq (a0q aBq (a0q (aCq (a0q aBq (a0q (a1q 6) a2q))) (a0q (a1q 10) a2q)))) a2q)))))
      (a8q (aEq (aCq (a0q (bJq (aQq aWq (a1q 12) (b7q (a0q (a1q 11) a2q)))) (a0q (aQq aWq a3q (a1q 2)) a2q))))))))))))))))),?_⟩
  refine ⟨hF,by decide,by decide,λ i G1 u1 i0 i1=>l3q i0 i1 λ d hd=>?_⟩
  obtain ⟨m0,m1,m2,rfl,mm⟩:∃ m0 m1 m2:Nat,d=.tup [.int m0,.int m1,.int m2]/\((m0=10/\m1=6/\m2=5)\/(m0=10/\m1=5/\m2=6)\/(m0=6/\m1=10/\m2=5)\/(m0=6/\m1=5/\m2=10)\/(m0=5/\m1=6/\m2=10)\/(m0=5/\m1=10/\m2=6)):=by
    simp only [List.mem_cons,List.not_mem_nil,or_false] at hd
    rcases hd with rfl | rfl | rfl | rfl | rfl | rfl
    . exact ⟨10,6,5,rfl,by decide⟩
    . exact ⟨10,5,6,rfl,by decide⟩
    . exact ⟨6,10,5,rfl,by decide⟩
    . exact ⟨6,5,10,rfl,by decide⟩
    . exact ⟨5,6,10,rfl,by decide⟩
    . exact ⟨5,10,6,rfl,by decide⟩
  have hmb:(5<=m0/\m0<=10)/\(5<=m1/\m1<=10)/\(5<=m2/\m2<=10):=by omega
  refine ⟨u1.fd,by decide,by decide,λ r' G2 u2 r0 r1=>?_⟩
  obtain ⟨r,rfl⟩:∃ r:Nat,r'=r:=⟨r'.toNat,by omega⟩
  refine iUq (λ i ds G'=>∃ L:List (Addr × List Int),ds=L.map (λ x=>D.ref x.1)/\L.length=i/\(∀ j x,L[j]?=some x->x.2.length+1=[m0,m1,m2].getD j 0)/\(∀ x∈L,x.1≠a/\G' x.1=some (.lst (x.2.map D.int)))/\Fy a G G') (aYq (show 3<=200000 by decide)) ⟨[],rfl,rfl,by simp,by simp,(Fy.refl hF).fx (u1.trans u2)⟩ (λ _ _ _ _ _=>trivial) ?_ ?_
  . rintro i d ds G' hd ⟨L,rfl,hLl,hLj,hLg,u⟩
    obtain ⟨m,rfl,hmi,hm5⟩:∃ m:Nat,d=.int m/\m=[m0,m1,m2].getD i 0/\5<=m/\m<=10:=by
      have hd':[D.int m0,D.int m1,D.int m2][i]?=some d:=hd
      rcases i with _ | _ | _ | i
      . cases hd';exact ⟨m0,rfl,rfl,hmb.1⟩
      . cases hd';exact ⟨m1,rfl,rfl,hmb.2.1⟩
      . cases hd';exact ⟨m2,rfl,rfl,hmb.2.2⟩
      . cases hd'
    refine d6q (by omega) ?_
    refine c7q a D.int (λ _=>True) ?_ (λ _=>trivial) u.1 (λ d G R hf h=>⟨hf,by decide,by decide,λ k G' u k0 k1=>h k G' u trivial⟩) λ js G3 hjl _ u3 p hp=>?_
    . show (bQq 0 (m - 1:Int).toNat).length<=1000
      rw [b8q];omega
    have hjl':js.length=(m - 1:Int).toNat:=by
      have e:js.length=(bQq 0 (m - 1:Int).toNat).length:=hjl
      rw [b8q] at e;exact e
    have fy3:=u.fx u3
    refine WkV.of ⟨L++[(p,js)],by simp,by simp [hLl],λ j x hx=>?_,λ x hx=>?_,fy3.new hp⟩
    . by_cases c:j < L.length
      . rw [List.getElem?_append_left c] at hx;exact hLj j x hx
      . have hj:j=L.length:=by
          have:=(List.getElem?_eq_some_iff.mp hx).1
          rw [List.length_append,List.length_singleton] at this;omega
        subst hj
        rw [List.getElem?_append_right (Nat.le_refl _),Nat.sub_self] at hx
        cases hx
        rw [hLl,<- hmi];show js.length+1=m;omega
    . rcases List.mem_append.mp hx with hx | hx
      . obtain ⟨h1,h2⟩:=hLg x hx
        have h3:=u3.kp h1 h2
        exact ⟨h1,by rw [aIq (by rintro rfl;rw [hp] at h3;cases h3)];exact h3⟩
      . simp at hx;subst hx
        exact ⟨fy3.1.ne hp,a5q⟩
  rintro ds G3 ⟨L,rfl,hLl,hLj,hLg,u3⟩ pj hpj
  obtain ⟨⟨q0,J0⟩,⟨q1,J1⟩,⟨q2,J2⟩,rfl⟩:∃ x y z:Addr × List Int,L=[x,y,z]:=by
    have h3:L.length=3:=hLl
    rcases L with _ | ⟨x,_ | ⟨y,_ | ⟨z,_ | ⟨_,_⟩⟩⟩⟩<;>first | exact ⟨x,y,z,rfl⟩ | (simp at h3)
  have l0:J0.length+1=m0:=hLj 0 _ rfl
  have l1:J1.length+1=m1:=hLj 1 _ rfl
  have l2:J2.length+1=m2:=hLj 2 _ rfl
  obtain ⟨na0,h0⟩:=hLg (q0,J0) (by simp)
  obtain ⟨na1,h1⟩:=hLg (q1,J1) (by simp)
  obtain ⟨na2,h2⟩:=hLg (q2,J2) (by simp)
  have naj:pj≠a:=u3.1.ne hpj
  have nx:∀ {b o},G3 b=some o->b≠pj:=λ h e=>by rw [e,hpj] at h;cases h
  refine d6q (by decide) ?_
  refine c7q a Tm.enc (λ t=>∃ v,t=.whole v) (show 5<=1000 by decide) (λ _=>trivial) (u3.1.new hpj) (λ d G R hf h=>⟨hf,λ v G' u _ _=>h (.whole v) G' u ⟨v,rfl⟩⟩) λ ts G4 htl htw u4 p4 hp4=>?_
  refine d6q (by decide) ?_
  refine c7q a D.int (λ _=>True) (show 4<=1000 by decide) (λ _=>trivial) (u4.fd.new hp4) (λ d G R hf h=>⟨hf,by decide,by decide,λ k G' u k0 k1=>h k G' u trivial⟩) λ js G5 hjl _ u5 p5 hp5=>?_
  have htl5:ts.length=5:=htl
  have hjl4:js.length=4:=hjl
  have keep:∀ {b o},b≠a->up G3 pj (.lst [.ref q0,.ref q1,.ref q2]) b=some o->up G5 p5 (.lst (js.map D.int)) b=some o:=λ{b o} nb e=>by
    have e4:=u4.kp nb e
    have e5:=u5.kp nb (show up G4 p4 _ b=some o by rw [aIq (by rintro rfl;rw [hp4] at e4;cases e4)];exact e4)
    rw [aIq (by rintro rfl;rw [hp5] at e5;cases e5)];exact e5
  have k0:=keep na0 (show up G3 pj _ q0=_ by rw [aIq (nx h0)];exact h0)
  have k1:=keep na1 (show up G3 pj _ q1=_ by rw [aIq (nx h1)];exact h1)
  have k2:=keep na2 (show up G3 pj _ q2=_ by rw [aIq (nx h2)];exact h2)
  have kj:=keep naj a5q
  have k4:up G5 p5 (.lst (js.map D.int)) p4=some (.lst (ts.map Tm.enc)):=by
    have e5:=u5.kp (u4.fd.ne hp4) a5q
    rw [aIq (by rintro rfl;rw [hp5] at e5;cases e5)];exact e5
  have fb:Fy a G (up G5 p5 (.lst (js.map D.int))):=((((u3.new hpj).fx u4).new hp4).fx u5).new hp5
  refine ⟨p4,p5,ts,js,rfl,k4,a5q,by omega,by omega,?_⟩
  have W:WdOk ⟨m0,m1,m2,r,J0,J1,J2,aZq js ts⟩:={
    mm:=mm,hr:=by show r<=5;omega,j0:=l0,j1:=l1,j2:=l2
    gf:=fCq js ts (by omega) (λ t=>t.flat=true) (λ a b h1 h2=>by simp only [Tm.flat,h1,h2];rfl) λ t ht=>by obtain ⟨v,rfl⟩:=htw t ht;rfl
    gs:=by
      show (aZq js ts).sz=9
      have e:ts.map Tm.sz=List.replicate ts.length 1:=List.eq_replicate_iff.mpr ⟨by simp,λ b hb=>by obtain ⟨t,h1,rfl⟩:=List.mem_map.mp hb;obtain ⟨v,rfl⟩:=htw t h1;rfl⟩
      rw [fVq js ts (by omega) Tm.sz (λ a b=>by simp only [Tm.sz];omega),e,l8q];omega
    gd:=by
      have:=iNq js ts 0 (by omega) λ t ht=>by obtain ⟨v,rfl⟩:=htw t ht;exact Nat.le_refl _
      show (aZq js ts).dp<=4
      omega }
  generalize up G5 p5 (.lst (js.map D.int))=Gb at k0 k1 k2 kj fb ⊢
  generalize aZq js ts=gv at W ⊢
  have s0:Sub Gb Gb:=.refl _
  intro a0 ha0
  refine cOq rfl (wQq (t:=(.name r)) a5q (by omega) λ b0 hb0=>⟨_,Sub.refl _,?_⟩)
  have s1:=(s0.ext (o:=.lst [Tm.enc (.name r)]) ha0).ext (o:=.lst ((List.replicate m2 (.name r)).map Tm.enc)) hb0
  refine bRq (s1 _ _ kj) rfl ⟨b0,q2,List.replicate m2 (.name r),J2,rfl,a5q,s1 _ _ k2,by rw [List.length_replicate];omega,by rw [List.length_replicate];omega,?_⟩
  refine ⟨_,r,rfl,by omega,?_⟩
  intro a1 ha1
  refine cOq rfl (wQq (t:=(.name 0)) a5q (by omega) λ b1 hb1=>⟨_,Sub.refl _,?_⟩)
  have s2:=(s1.ext (o:=.lst [Tm.enc (.name 0)]) ha1).ext (o:=.lst ((List.replicate m1 (.name 0)).map Tm.enc)) hb1
  refine bRq (s2 _ _ kj) rfl ⟨b1,q1,List.replicate m1 (.name 0),J1,rfl,a5q,s2 _ _ k1,by rw [List.length_replicate];omega,by rw [List.length_replicate];omega,?_⟩
  intro a2 ha2
  refine cOq rfl (wQq (t:=(.name 0)) a5q (by omega) λ b2 hb2=>⟨_,Sub.refl _,?_⟩)
  have s3:=(s2.ext (o:=.lst [Tm.enc (.name 0)]) ha2).ext (o:=.lst ((List.replicate m0 (.name 0)).map Tm.enc)) hb2
  refine bRq (s3 _ _ kj) rfl ⟨b2,q0,List.replicate m0 (.name 0),J0,rfl,a5q,s3 _ _ k0,by rw [List.length_replicate];omega,by rw [List.length_replicate];omega,?_⟩
  intro a3 ha3
  refine cOq rfl (wQq (t:=gv) a5q (by omega) λ b3 hb3=>⟨_,Sub.refl _,?_⟩)
  have s4:=(s3.ext (o:=.lst [Tm.enc gv]) ha3).ext (o:=.lst ((List.replicate m0 gv).map Tm.enc)) hb3
  refine bRq (s4 _ _ kj) rfl ⟨b3,q0,List.replicate m0 gv,J0,rfl,a5q,s4 _ _ k0,by rw [List.length_replicate];omega,by rw [List.length_replicate];omega,?_⟩
  intro a4 ha4
  refine cOq rfl (wQq (t:=(aZq J0 (List.replicate m0 gv))) a5q (by omega) λ b4 hb4=>⟨_,Sub.refl _,?_⟩)
  have s5:=(s4.ext (o:=.lst [Tm.enc (aZq J0 (List.replicate m0 gv))]) ha4).ext (o:=.lst ((List.replicate m1 (aZq J0 (List.replicate m0 gv))).map Tm.enc)) hb4
  refine bRq (s5 _ _ kj) rfl ⟨b4,q1,List.replicate m1 (aZq J0 (List.replicate m0 gv)),J1,rfl,a5q,s5 _ _ k1,by rw [List.length_replicate];omega,by rw [List.length_replicate];omega,?_⟩
  intro a5 ha5
  refine cOq rfl (wQq (t:=(aZq J1 (List.replicate m1 (aZq J0 (List.replicate m0 gv))))) a5q (by omega) λ b5 hb5=>⟨_,Sub.refl _,?_⟩)
  have s6:=(s5.ext (o:=.lst [Tm.enc (aZq J1 (List.replicate m1 (aZq J0 (List.replicate m0 gv))))]) ha5).ext (o:=.lst ((List.replicate m2 (aZq J1 (List.replicate m1 (aZq J0 (List.replicate m0 gv))))).map Tm.enc)) hb5
  refine bRq (s6 _ _ kj) rfl ⟨b5,q2,List.replicate m2 (aZq J1 (List.replicate m1 (aZq J0 (List.replicate m0 gv)))),J2,rfl,a5q,s6 _ _ k2,by rw [List.length_replicate];omega,by rw [List.length_replicate];omega,?_⟩
  refine ⟨_,r,rfl,by omega,?_⟩
  intro o1 ho1 o2 ho2
  obtain ⟨-,-,n21⟩:=bKq (o:=.lst []) ho2
  refine aVq (by rw [aIq (Ne.symm n21)];exact a5q) (aVq a5q ⟨small (by simp only [List.length_cons,List.length_nil];omega),λ p3 hp3=>⟨_,Sub.refl _,?_⟩⟩)
  exact Dr.of (q ⟨m0,m1,m2,r,J0,J1,J2,gv⟩ p3 _ W (fb.sub (((s6.ext ho1).ext ho2).ext hp3)) ((fb.sub ((s6.ext ho1).ext ho2)).1.ne hp3) a5q)
abbrev hUq:Stmt:=top 48
theorem sc_dwide:FnScope ["_law_feed_here", "_law_own", "_law_size_of", "_law_most", "_law_due"] ["_law_feed_here"] (a6q hUq):=⟨rfl,rfl,rfl,by decide +kernel,rfl,by decide +kernel,by decide +kernel⟩
theorem rRq (B:Blt mg) (g_take:Got P w K mg base 1 "_law_take" ["_law_feed_here", "_law_many"] (aKq K d1q)) (g_wide:Got P w K mg base 3 "_law_wide" ["_law_feed_here"] (aKq K o1q)) (F:Fun K "_law_due_wide" "_law_due_wide" hUq f fd):FnOk P w K mg base CX0 4 f fd ["_law_feed_here"] (aKq K i2q):=by
  refine okD (k:=3) F sc_dwide (λ ds G DQ h=>?_) (λ cdv A outer s H E hr ds G DQ h=>?_)
  . obtain ⟨_,rfl,_⟩:=h;rfl
  obtain ⟨a,rfl,hF,q⟩:=h
  refine ⟨_,(a4q (gWq (a7q g_wide hr (by omega) rfl (a0q (a1q 0) a2q)) (fFq (n:=2) rfl (b3q (aNq (k:=1) sc_dwide.nd rfl (Or.inl rfl)) (b3q (aNq (k:=2) sc_dwide.nd rfl (Or.inl rfl)) d2q))))
      (a4q (aAq (k:=3) sc_dwide.nd rfl (Or.inl rfl) (c9q (a0q (a7q g_take hr (by omega) rfl (a0q (a1q 0) (a0q a3q a2q))) (a0q (aQq aWq a3q (a7q g_take hr (by omega) rfl (a0q (a1q 0) (a0q a3q a2q)))) a2q)) (a7q g_take hr (by omega) rfl (a0q (a1q 0) (a0q a3q a2q))) (λ _ _=>rfl)))
      (a4q (aAq (k:=4) sc_dwide.nd rfl (Or.inl rfl) (aCq (a0q aBq (a0q (aDq aix (a1q 1) (aTq (k8q rfl) rfl B.min PyProof.Rows.boot_min (a0q (a1q 3) (a0q a3q a2q))) (λ _ _=>rfl)) (a0q (a1q 3) a2q)))))
      (a4q (bAq (AW.at (qKq (aMq dKq (a1q 3) a3q (aGq _)) (lGq (aMq xWq (a1q 2) a3q (aGq _))))) (a8q (aAq (k:=4) sc_dwide.nd rfl (Or.inl rfl) (aCq (a0q aBq (a0q (aDq aix (a1q 1) a3q (λ _ _=>rfl)) (a0q a3q a2q)))))) (a8q (bAq (aMq dKq (a1q 3) a3q (aGq _)) (a8q (aAq (k:=4) sc_dwide.nd rfl (Or.inl rfl) (aCq (a0q aBq (a0q (aDq aix (a1q 1) a3q (λ _ _=>rfl)) (a0q a3q a2q)))))) b4q)))
      (a8q (aEq (aCq (a0q (aDq aix (a1q 1) a3q (λ _ _=>rfl)) (a0q (a1q 3) (a0q (a1q 4) a2q)))))))))),?_⟩
  refine ⟨a,rfl,hF,λ x l G1 W fy nl hl=>?_⟩
  obtain ⟨w0,w1,w2,w3⟩:=zMq W
  refine ⟨fy.1,by decide,by decide,λ e G2 u2 e0 e1=>⟨u2.fd,by decide,by decide,λ k' G3 u3 k0 k1=>⟨u3.fd,by decide,by decide,λ i G4 u4 i0 i1=>l3q i0 i1 λ d hd=>?_⟩⟩⟩
  obtain ⟨k,rfl,hk⟩:∃ k:Nat,d=.int k/\k<=1000:=by
    rcases List.mem_cons.mp hd with rfl | hd
    . exact ⟨e.toNat,by rw [Int.toNat_of_nonneg (by omega)],by omega⟩
    . rw [List.mem_singleton] at hd;subst hd
      exact ⟨(3+k':Int).toNat,by rw [Int.toNat_of_nonneg (by omega)],by omega⟩
  have hl4:=(u2.trans (u3.trans u4)).kp nl hl
  have fy4:=fy.fx (u2.trans (u3.trans u4))
  have hG:∀ b o,b≠a->G b=some o->G4 b=some o:=fy4.2
  refine aHq hl4 ?_
  rcases (by omega:k=0\/k=1\/k=2\/3<=k) with rfl | rfl | rfl | h3
  . exact dMq rfl ⟨λ c=>absurd c (by decide),λ _=>⟨λ c=>absurd c (by decide),λ _=>⟨λ c=>absurd c (by decide),λ _=>bRq hl4 rfl (Dr.of (q _ 0 _ _ 0 G4 w0 hG))⟩⟩⟩
  . exact dMq rfl ⟨λ c=>absurd c (by decide),λ _=>⟨λ c=>absurd c (by decide),λ _=>⟨λ c=>absurd c (by decide),λ _=>bRq hl4 rfl (Dr.of (q _ 1 _ _ 1 G4 w1 hG))⟩⟩⟩
  . exact dMq rfl ⟨λ c=>absurd c (by decide),λ _=>⟨λ c=>absurd c (by decide),λ _=>⟨λ c=>absurd c (by decide),λ _=>bRq hl4 rfl (Dr.of (q _ 2 _ _ 2 G4 w2 hG))⟩⟩⟩
  . have hd:decide ((2:Int) < (k:Int))=true:=decide_eq_true (by omega)
    obtain ⟨wa,wg⟩:=w3 k h3 hk
    refine dMq (d:=x.three.enc) (by
      dsimp only
      rw [show (if (3:Int) < (k:Int) then (3:Int) else (k:Int))=3 by split<;>omega];rfl) ⟨λ _=>⟨λ c=>?_,λ c=>⟨λ _=>?_,λ c=>by rw [hd] at c;cases c⟩⟩,λ c=>by rw [hd] at c;cases c⟩
    . have c':=of_decide_eq_true c
      exact bRq hl4 rfl (bRq hl4 rfl (Dr.of (q _ k _ _ 3 G4 (wa (by omega)) hG)))
    . have c':¬ ((2999:Int)+(x.r:Int)<=3000):=of_decide_eq_false c
      exact bRq hl4 rfl (bRq hl4 rfl (Dr.of (q _ k _ _ 2 G4 (wg (by omega)) hG)))
abbrev hEq:Stmt:=top 52
theorem sc_law:FnScope ["_law_script", "_law_feed_here", "_law_form", "_law_program", "_law_most", "_law_due"] ["_law_script"] (a6q hEq):=⟨rfl,rfl,rfl,by decide +kernel,rfl,by decide +kernel,by decide +kernel⟩
theorem yAq {T T2:Addr} {tp tp2:Pos} (B:Blt mg) (g_feed:Got P w K mg base 1 "_law_feed" ["_law_script", "_law_k"] (aKq K iZq)) (g_take:Got P w K mg base 1 "_law_take" ["_law_feed_here", "_law_many"] (aKq K d1q)) (g_dwide:Got P w K mg base 4 "_law_due_wide" ["_law_feed_here"] (aKq K i2q)) (g_ddeep:Got P w K mg base 4 "_law_due_deep" ["_law_feed_here"] (aKq K i2q)) (g_dsteady:Got P w K mg base 4 "_law_due_steady" ["_law_feed_here"] (aKq K i2q)) (g_run:Got P w K mg base 10 "run" ["program", "most"] (aKq K (vSq T tp T2 tp2))) (g_alike:Got P w K mg base 116 "_law_alike" ["_law_found", "_law_due"] (aKq K (gAq 115))) (F:Fun K "law" "law" hEq f fd):FnOk P w K mg base CX0 117 f fd ["_law_script"] (aKq K (fEq [(T,tp,"lifted.<locals>.moved"),(T2,tp2,"put_in.<locals>.taken")])):=by
  refine okD (k:=116) F sc_law (λ ds G DQ h=>?_) (λ cdv A outer s H E hr ds G DQ h=>?_)
  . obtain ⟨_,rfl,_⟩:=h;rfl
  obtain ⟨ns,rfl,hl,hTs,q⟩:=h
  have hT:G T=some (.tab tp "lifted.<locals>.moved"):=hTs _ (List.mem_cons_self ..)
  have hT2:G T2=some (.tab tp2 "put_in.<locals>.taken"):=hTs _ (List.mem_cons_of_mem _ (List.mem_cons_self ..))
  refine ⟨_,(a4q (aAq (k:=1) sc_law.nd rfl (Or.inl rfl) (a7q g_feed hr (by omega) rfl (a0q (a1q 0) (a0q a3q a2q))))
      (a4q (aAq (k:=2) sc_law.nd rfl (Or.inl rfl) (a7q g_take hr (by omega) rfl (a0q (a1q 1) (a0q a3q a2q))))
      (a4q (bAq (aMq k2q (a1q 2) a3q (aGq _)) (a8q (gWq (a7q g_dwide hr (by omega) rfl (a0q (a1q 1) a2q)) (fFq (n:=3) rfl (b3q (aNq (k:=3) sc_law.nd rfl (Or.inl rfl)) (b3q (aNq (k:=4) sc_law.nd rfl (Or.inl rfl)) (b3q (aNq (k:=5) sc_law.nd rfl (Or.inl rfl)) d2q)))))) (a8q (bAq (aMq (b0q (bCq hr)) (a1q 2) a3q (aGq _)) (a8q (gWq (a7q g_dsteady hr (by omega) rfl (a0q (a1q 1) a2q)) (fFq (n:=3) rfl (b3q (aNq (k:=3) sc_law.nd rfl (Or.inl rfl)) (b3q (aNq (k:=4) sc_law.nd rfl (Or.inl rfl)) (b3q (aNq (k:=5) sc_law.nd rfl (Or.inl rfl)) d2q)))))) (a8q (gWq (a7q g_ddeep hr (by omega) rfl (a0q (a1q 1) a2q)) (fFq (n:=3) rfl (b3q (aNq (k:=3) sc_law.nd rfl (Or.inl rfl)) (b3q (aNq (k:=4) sc_law.nd rfl (Or.inl rfl)) (b3q (aNq (k:=5) sc_law.nd rfl (Or.inl rfl)) d2q)))))))))
      (a8q (aEq (a7q g_alike hr (by omega) rfl (a0q (a7q g_run hr (by omega) rfl (a0q (a1q 3) (a0q (a1q 4) a2q))) (a0q (a1q 5) a2q)))))))),?_⟩
  refine ⟨ns,rfl,hl,by omega,by omega,λ a xa ya ha=>?_⟩
  have hTa:T≠a:=by rintro rfl;rw [ha] at hT;cases hT
  have hTa2:T2≠a:=by rintro rfl;rw [ha] at hT2;cases hT2
  refine ⟨.up,by decide,by decide,λ m1 G1 u1 m10 m11=>?_⟩
  have h1:G1 T=some (.tab tp "lifted.<locals>.moved"):=u1.kp hTa (by rw [aIq hTa];exact hT)
  have h2:G1 T2=some (.tab tp2 "put_in.<locals>.taken"):=u1.kp hTa2 (by rw [aIq hTa2];exact hT2)
  refine ⟨λ _=>⟨a,rfl,u1.fd,λ t k w u n G' hD hG=>?_⟩,λ _=>xGq rfl rfl (by simp [D.dp]) ⟨λ _=>⟨a,rfl,u1.fd,λ t k w u n G' hD hG=>?_⟩,λ _=>⟨a,rfl,u1.fd,λ t k w u n G' hD hG=>?_⟩⟩⟩
  all_goals
    obtain ⟨hg,hk,rfl,rfl,rfl,hs,hd⟩:=hD
    refine ⟨t,k,rfl,hg,hk,⟨hG T _ hTa h1,hG T2 _ hTa2 h2⟩,⟨_,rfl,?_,?_,Dr.of (q _)⟩⟩
    . simp only [D.plain,hCq,Tm.plain_enc,Bool.and_true,List.length_cons,List.length_nil];exact decide_eq_true (by omega)
    . simp only [D.dp,kDq,Tm.enc_dp];omega
abbrev e1q:Stmt:=top 49
theorem sc_lwithin:FnScope ["_law_part", "_law_forms", "_law_leaf", "_law_form", "_law_some"] ["_law_part", "_law_forms", "_law_leaf"] (a6q e1q):=⟨rfl,rfl,rfl,by decide +kernel,rfl,by decide +kernel,by decide +kernel⟩
theorem mRq (B:Blt mg)  (F:Fun K "_law_within" "_law_within" e1q f fd):FnOk P w K mg base CX0 1 f fd ["_law_part", "_law_forms", "_law_leaf"] (aKq K s3q):=by
  refine okD (k:=0) F sc_lwithin (λ ds G DQ h=>?_) (λ cdv A outer s H E hr ds G DQ h=>?_)
  . obtain ⟨_,_,_,_,rfl,_⟩:=h;rfl
  obtain ⟨p,m,fs,v,rfl,hm,hfs,hfl,q⟩:=h
  refine ⟨_,(a4q (fLq PassesOwn.never rfl (cBq (a1q 1)) (aNq (k:=3) sc_lwithin.nd rfl (Or.inl rfl)) (a4q (aAq (k:=4) sc_lwithin.nd rfl (Or.inl rfl) (b7q (a0q (aCq (a0q aBq (a0q (a1q 0) a2q))) (a0q (aCq (a0q aBq (a0q (a1q 0) a2q))) (a0q (aCq (a0q aBq (a0q (a1q 0) (a0q (a1q 2) a2q)))) (a0q (aCq (a0q aBq (a0q (a1q 0) (a0q (a1q 2) a2q)))) a2q))))))
      (a8q (aAq (k:=0) sc_lwithin.nd rfl (Or.inl rfl) (aDq aix (bJq (aQq aWq (a1q 4) (b7q (a0q (aCq (a0q aBq (a0q (a1q 0) (a0q (a1q 2) (a0q (a1q 2) a2q))))) (a0q (aCq (a0q aBq (a0q (a1q 2) (a0q (a1q 0) a2q)))) a2q))))) (a1q 3) (λ _ _=>rfl))))))
      (a8q (aEq (a1q 0)))),?_⟩
  refine d3q hm ?_
  refine ⟨λ i ρ G'=>∃ (o3 o4:Option D),ρ=[some (lay (.whole v) (fs.take i) p).enc,some (.ref m),some (Tm.whole v).enc,o3,o4]/\G=G',⟨_,_,rfl,rfl⟩,λ _ _ _ _ h=>by obtain ⟨_,_,_,rfl⟩:=h;exact hm,?_,?_⟩
  . rintro i d ρ G' hd ⟨o3,o4,rfl,rfl⟩
    have hd':(fs.map λ(f:Nat)=>D.int f)[i]?=some d:=hd
    rw [List.getElem?_map] at hd'
    cases hk:fs[i]? with
    | none=>rw [hk] at hd';cases hd'
    | some f=>
      rw [hk] at hd';cases hd'
      have hf6:=hfs f (List.mem_of_getElem? hk)
      have el:lay (.whole v) (fs.take (i+1)) p=j0q (.whole v) f (lay (.whole v) (fs.take i) p):=by
        rw [List.take_add_one,hk,Option.toList_some,kLq];rfl
      intro p1 hp1 p2 hp2
      obtain ⟨-,g2,n21⟩:=bKq (o:=.lst []) hp2
      refine aVq (by rw [aIq (Ne.symm n21)];exact a5q) (aVq a5q ⟨small (by simp only [List.length_cons,List.length_nil];omega),λ p3 hp3=>?_⟩)
      have g3:G p3=none:=(bKq (o:=.lst []) (bKq (o:=.lst []) hp3).2.1).2.1
      refine ⟨up G p3 _,Sub.put (Sub.new (Sub.new (Sub.refl _) hp1) g2),aHq a5q ?_⟩
      rcases (by omega:f=0\/f=1\/f=2\/f=3\/f=4\/f=5) with rfl | rfl | rfl | rfl | rfl | rfl<;>exact dMq rfl ⟨_,G,.refl _,Sub.new (Sub.refl _) g3,_,_,by rw [el];rfl,rfl⟩
  . rintro ρ G' ⟨o3,o4,rfl,rfl⟩
    rw [show (⟨fs.map λ(f:Nat)=>D.int f,λ G=>G m=some (.lst (fs.map λ(f:Nat)=>D.int f))⟩:DIt).items.length=fs.length from List.length_map ..,List.take_length]
    exact Dr.of q
abbrev hVq:Stmt:=top 50
theorem sc_ddeep:FnScope ["_law_feed_here", "_law_leaf", "_law_forms", "_law_around", "_law_own", "_law_last", "_law_most", "_law_many", "_law_coming", "_law_due"] ["_law_feed_here"] (a6q hVq):=⟨rfl,rfl,rfl,by decide +kernel,rfl,by decide +kernel,by decide +kernel⟩
theorem sSq (B:Blt mg) (g_take:Got P w K mg base 1 "_law_take" ["_law_feed_here", "_law_many"] (aKq K d1q)) (g_whole:Got P w K mg base 2 "_law_whole" ["_law_feed_here"] (aKq K d4q)) (g_lwithin:Got P w K mg base 1 "_law_within" ["_law_part", "_law_forms", "_law_leaf"] (aKq K s3q)) (F:Fun K "_law_due_deep" "_law_due_deep" hVq f fd):FnOk P w K mg base CX0 4 f fd ["_law_feed_here"] (aKq K i2q):=by
  refine okD (k:=3) F sc_ddeep (λ ds G DQ h=>?_) (λ cdv A outer s H E hr ds G DQ h=>?_)
  . obtain ⟨_,rfl,_⟩:=h;rfl
  obtain ⟨a,rfl,hF,q⟩:=h
  refine ⟨_,(a4q (aAq (k:=1) sc_ddeep.nd rfl (Or.inl rfl) (a7q g_whole hr (by omega) rfl (a0q (a1q 0) a2q)))
      (a4q (c6q (k:=2) rfl sc_ddeep.nd rfl (Or.inl rfl) (CompOk.of (N':=["_law_k", "_law_feed_here"]) (nt:=1) (cap:=[0]) rfl (by kernel_rfl)) (aRq (k:=0) (by decide)) (bWq rfl B.range (a0q (aQq aWq a3q (a7q g_take hr (by omega) rfl (a0q (a1q 0) (a0q a3q a2q)))) a2q)) (λ _ _ _ _=>(aNq (k:=0) (show List.Nodup (["_law_k", "_law_feed_here"]:List Str) by decide +kernel) rfl (Or.inl rfl)))  (λ _ _ _ _=>(a7q g_take hr (by omega) rfl (a0q (a1q 1) (a0q a3q a2q)))))
      (a4q (c6q (k:=3) rfl sc_ddeep.nd rfl (Or.inl rfl) (CompOk.of (N':=["_law_k", "_law_feed_here"]) (nt:=1) (cap:=[0]) rfl (by kernel_rfl)) (aRq (k:=0) (by decide)) (bWq rfl B.range (a0q (a7q g_take hr (by omega) rfl (a0q (a1q 0) (a0q a3q a2q))) a2q)) (λ _ _ _ _=>(aNq (k:=0) (show List.Nodup (["_law_k", "_law_feed_here"]:List Str) by decide +kernel) rfl (Or.inl rfl)))  (λ _ _ _ _=>(a7q g_take hr (by omega) rfl (a0q (a1q 1) (a0q a3q a2q)))))
      (a4q (aAq (k:=4) sc_ddeep.nd rfl (Or.inl rfl) (aCq (a0q aBq (a0q (a7q g_lwithin hr (by omega) rfl (a0q (aCq (a0q aBq (a0q (aCq (a0q aBq (a0q a3q a2q))) (a0q (aCq (a0q aBq (a0q a3q a2q))) a2q)))) (a0q (a1q 2) (a0q (a1q 1) a2q)))) a2q))))
      (a4q (aAq (k:=5) sc_ddeep.nd rfl (Or.inl rfl) (aQq iIq (aQq c3q (aQq c3q a3q (aTq b2q rfl B.len PySem.boot_len (a0q (a1q 2) a2q))) (aTq b2q rfl B.len PySem.boot_len (a0q (a1q 3) a2q))) (aTq b2q rfl B.len PySem.boot_len (a0q (a1q 2) a2q))))
      (a4q (aAq (k:=6) sc_ddeep.nd rfl (Or.inl rfl) (c9q (a0q (aQq aWq (aQq c3q (a1q 5) a3q) (a7q g_take hr (by omega) rfl (a0q (a1q 0) (a0q a3q a2q)))) (a0q (a7q g_take hr (by omega) rfl (a0q (a1q 0) (a0q a3q a2q))) a2q)) (a7q g_take hr (by omega) rfl (a0q (a1q 0) (a0q a3q a2q))) (λ _ _=>rfl)))
      (a4q (aAq (k:=7) sc_ddeep.nd rfl (Or.inl rfl) (aTq (k8q rfl) rfl B.min PyProof.Rows.boot_min (a0q (a1q 6) (a0q (a1q 5) a2q))))
      (a4q (aAq (k:=8) sc_ddeep.nd rfl (Or.inl rfl) (a7q g_lwithin hr (by omega) rfl (a0q (a7q g_lwithin hr (by omega) rfl (a0q (aCq (a0q aBq (a0q (a1q 4) (a0q (a1q 4) a2q)))) (a0q (aQq cCq (a1q 2) (a1q 7)) (a0q (a1q 1) a2q)))) (a0q (a1q 3) (a0q (a1q 1) a2q)))))
      (a4q (aAq (k:=9) sc_ddeep.nd rfl (Or.inl rfl) (aCq (a0q (c9q (a0q aBq (a0q aBq a2q)) (g9q oQq rfl B.int PyProof.Rows.boot_int (a0q (cFq dKq (a1q 6) (a1q 5) (aGq _)) a2q)) (λ _ _=>rfl)) (a0q (a1q 8) (a0q (a1q 7) a2q)))))
      (a8q (aEq (aCq (a0q (a7q g_lwithin hr (by omega) rfl (a0q (aCq (a0q aBq (a0q (a1q 4) (a0q (a1q 4) a2q)))) (a0q (a1q 3) (a0q (a1q 1) a2q)))) (a0q (a1q 6) (a0q (a1q 9) a2q))))))))))))))),?_⟩
  refine ⟨hF,λ v G1 u1 _ _=>⟨u1.fd,by decide,by decide,λ m G2 u2 m0 m1=>d6q (by omega) ?_⟩⟩
  refine c7q a (λ(f:Nat)=>D.int f) (λ f=>f < 6) ?_ (λ _=>trivial) u2.fd (λ d G R hf h=>⟨hf,by decide,by decide,λ k G' u k0 k1=>nOq (m:=6) k0 k1 λ n hn=>h n G' u hn⟩) λ fs G3 hfl hf6 u3 p hp=>?_
  . show (bQq 0 (3+m:Int).toNat).length<=1000
    rw [b8q];omega
  have hl:3<=fs.length/\fs.length<=6:=by
    have e:fs.length=(bQq 0 (3+m:Int).toNat).length:=hfl
    rw [b8q] at e;omega
  refine ⟨u3.fd.new hp,by decide,by decide,λ m' G4 u4 k0 k1=>d6q (by omega) ?_⟩
  have hp4:G4 p=some (.lst (fs.map λ(f:Nat)=>D.int f)):=u4.kp (u3.fd.ne hp) a5q
  refine c7q a (λ(f:Nat)=>D.int f) (λ f=>f < 6) ?_ (λ _=>trivial) u4.fd (λ d G R hf h=>⟨hf,by decide,by decide,λ k G' u k0 k1=>nOq (m:=6) k0 k1 λ n hn=>h n G' u hn⟩) λ ar G5 hrl hr6 u5 p2 hp2=>?_
  . show (bQq 0 (m':Int).toNat).length<=1000
    rw [b8q];omega
  have hl5:ar.length<=5:=by
    have e:ar.length=(bQq 0 (m':Int).toNat).length:=hrl
    rw [b8q] at e;omega
  have hp5:G5 p=some (.lst (fs.map λ(f:Nat)=>D.int f)):=u5.kp (u3.fd.ne hp) hp4
  have n2:p≠p2:=by rintro rfl;rw [hp5] at hp2;cases hp2
  have hp6:up G5 p2 (.lst (ar.map λ(f:Nat)=>D.int f)) p=some (.lst (fs.map λ(f:Nat)=>D.int f)):=by rw [aIq n2];exact hp5
  refine ⟨.give (.name 0) (.name 0),p,fs,v,rfl,hp6,hf6,by omega,aHq hp6 (aHq a5q (aHq hp6 ?_))⟩
  obtain ⟨L,hL⟩:∃ L:Nat,(L:Int)=(97 - (fs.length:Int) - (ar.length:Int)) / (fs.length:Int):=⟨((97 - (fs.length:Int) - (ar.length:Int)) / (fs.length:Int)).toNat,Int.toNat_of_nonneg (Int.ediv_nonneg (by omega) (by omega))⟩
  obtain ⟨h14,h31,-,-,h110⟩:=lSq hl.1 hl.2 hl5 hL
  have e1:(fs.map λ(f:Nat)=>D.int f).length=fs.length:=List.length_map ..
  have e2:(ar.map λ(f:Nat)=>D.int f).length=ar.length:=List.length_map ..
  dsimp only
  rw [e1,e2]
  refine ⟨⟨by omega,by omega⟩,?_⟩
  dsimp only
  rw [<- hL]
  refine ⟨u5.fd.new hp2,by decide,by decide,λ e G6 u6 e0 e3=>⟨u6.fd,by decide,by decide,λ k G7 u7 k0 k1=>⟨u7.fd,by decide,by decide,λ i G8 u8 i0 i1=>?_⟩⟩⟩
  have hF8:=u6.trans (u7.trans u8)
  have hp8:G8 p=some (.lst (fs.map λ(f:Nat)=>D.int f)):=hF8.kp (u3.fd.ne hp) hp6
  have hp28:G8 p2=some (.lst (ar.map λ(f:Nat)=>D.int f)):=hF8.kp (u5.fd.ne hp2) a5q
  refine l3q i0 i1 λ d hd=>?_
  obtain ⟨k,rfl,hk⟩:∃ k:Nat,d=.int k/\k<=1000:=by
    rcases List.mem_cons.mp hd with rfl | hd
    . exact ⟨((L:Int) - 1+e).toNat,by rw [Int.toNat_of_nonneg (by omega)],by omega⟩
    . rw [List.mem_singleton] at hd;subst hd
      exact ⟨k.toNat,by rw [Int.toNat_of_nonneg (by omega)],by omega⟩
  have hmn:(if (L:Int) < (k:Int) then (L:Int) else (k:Int))=((min k L:Nat):Int):=by split<;>omega
  have e3:(List.replicate (((min k L:Nat):Int)).toNat (fs.map λ(f:Nat)=>D.int f)).flatten=((List.replicate (min k L) fs).flatten).map λ(f:Nat)=>D.int f:=by rw [Int.toNat_natCast,List.map_flatten,List.map_replicate]
  have e4:=i0q (fs:=fs) (min k L)
  have e5:=h110 (min k L) (by omega)
  have Dd:=sKq (v:=v) hl.1 hl.2 hl5 hL hk
  refine aHq hp8 ?_
  dsimp only
  rw [hmn,e3]
  refine ⟨by omega,by omega,by rw [e1];omega,λ p3 hp3=>?_⟩
  have n3:p2≠p3:=by rintro rfl;rw [hp28] at hp3;cases hp3
  refine ⟨lpC v fs,p3,(List.replicate (min k L) fs).flatten,v,rfl,a5q,λ f hf=>?_,by omega,⟨_,p2,ar,v,rfl,by rw [aIq n3];exact hp28,hr6,by omega,?_⟩⟩
  . obtain ⟨l,h1,h2⟩:=List.mem_flatten.mp hf
    rw [List.eq_of_mem_replicate h1] at h2;exact hf6 f h2
  have hG:∀ b o,b≠a->G b=some o->up G8 p3 (.lst (((List.replicate (min k L) fs).flatten).map λ(f:Nat)=>D.int f)) b=some o:=λ b o nb e=>by
    have h1:G3 b=some o:=(u1.trans (u2.trans u3)).kp nb e
    have h2:G5 b=some o:=(u4.trans u5).kp nb (by rw [aIq (by rintro rfl;rw [hp] at h1;cases h1)];exact h1)
    have h3:G8 b=some o:=hF8.kp nb (by rw [aIq (by rintro rfl;rw [hp2] at h2;cases h2)];exact h2)
    rw [aIq (by rintro rfl;rw [hp3] at h3;cases h3)];exact h3
  have Z:=q _ k _ _ _ _ Dd hG
  refine at2 (i:=if decide ((L:Int) < (k:Int))=true then 1 else 0) (by split<;>omega) (by split<;>omega) (λ c=>?_) (λ c=>?_)
  . have c':¬ L < k:=λ h=>by rw [if_pos (decide_eq_true (by omega))] at c;cases c
    rw [if_neg c'] at Z
    exact ⟨lpC v fs,p2,ar,v,rfl,by rw [aIq n3];exact hp28,hr6,by omega,Dr.of Z⟩
  . have c':L < k:=Decidable.byContradiction λ h=>by rw [if_neg (by rw [decide_eq_true_eq];omega)] at c;cases c
    rw [if_pos c'] at Z
    exact ⟨lpC v fs,p2,ar,v,rfl,by rw [aIq n3];exact hp28,hr6,by omega,Dr.of Z⟩
abbrev e3q:Stmt:=top 51
theorem sc_dsteady:FnScope ["_law_feed_here", "_law_leaf", "_law_around", "_law_own", "_law_program", "_law_most"] ["_law_feed_here"] (a6q e3q):=⟨rfl,rfl,rfl,by decide +kernel,rfl,by decide +kernel,by decide +kernel⟩
theorem mQq (B:Blt mg) (g_take:Got P w K mg base 1 "_law_take" ["_law_feed_here", "_law_many"] (aKq K d1q)) (g_whole:Got P w K mg base 2 "_law_whole" ["_law_feed_here"] (aKq K d4q)) (g_lwithin:Got P w K mg base 1 "_law_within" ["_law_part", "_law_forms", "_law_leaf"] (aKq K s3q)) (F:Fun K "_law_due_steady" "_law_due_steady" e3q f fd):FnOk P w K mg base CX0 4 f fd ["_law_feed_here"] (aKq K i2q):=by
  refine okD (k:=3) F sc_dsteady (λ ds G DQ h=>?_) (λ cdv A outer s H E hr ds G DQ h=>?_)
  . obtain ⟨_,rfl,_⟩:=h;rfl
  obtain ⟨a,rfl,hF,q⟩:=h
  refine ⟨_,(a4q (aAq (k:=1) sc_dsteady.nd rfl (Or.inl rfl) (a7q g_whole hr (by omega) rfl (a0q (a1q 0) a2q)))
      (a4q (c6q (k:=2) rfl sc_dsteady.nd rfl (Or.inl rfl) (CompOk.of (N':=["_law_k", "_law_feed_here"]) (nt:=1) (cap:=[0]) rfl (by kernel_rfl)) (aRq (k:=0) (by decide)) (bWq rfl B.range (a0q (a7q g_take hr (by omega) rfl (a0q (a1q 0) (a0q a3q a2q))) a2q)) (λ _ _ _ _=>(aNq (k:=0) (show List.Nodup (["_law_k", "_law_feed_here"]:List Str) by decide +kernel) rfl (Or.inl rfl)))  (λ _ _ _ _=>(a7q g_take hr (by omega) rfl (a0q (a1q 1) (a0q a3q a2q)))))
      (a4q (aAq (k:=3) sc_dsteady.nd rfl (Or.inl rfl) (aCq (a0q aBq (a0q (aCq (a0q aBq (a0q (aCq (a0q aBq (a0q a3q a2q))) (a0q (aCq (a0q aBq (a0q a3q a2q))) a2q)))) a2q))))
      (a4q (aAq (k:=4) sc_dsteady.nd rfl (Or.inl rfl) (a7q g_lwithin hr (by omega) rfl (a0q (aCq (a0q aBq (a0q (a1q 3) (a0q (a1q 3) a2q)))) (a0q (a1q 2) (a0q (a1q 1) a2q)))))
      (a4q (aAq (k:=5) sc_dsteady.nd rfl (Or.inl rfl) (c9q (a0q a3q (a0q (a7q g_take hr (by omega) rfl (a0q (a1q 0) (a0q a3q a2q))) a2q)) (a7q g_take hr (by omega) rfl (a0q (a1q 0) (a0q a3q a2q))) (λ _ _=>rfl)))
      (a8q (aEq (aCq (a0q (a1q 4) (a0q (a1q 5) (a0q (aCq (a0q aBq (a0q (a1q 4) (a0q (a1q 5) a2q)))) a2q))))))))))),?_⟩
  refine ⟨hF,λ v G1 u1 _ _=>⟨u1.fd,by decide,by decide,λ m G2 u2 m0 m1=>d6q (by omega) ?_⟩⟩
  refine c7q a (λ(f:Nat)=>D.int f) (λ f=>f < 6) ?_ (λ _=>trivial) u2.fd (λ d G R hf h=>⟨hf,by decide,by decide,λ k G' u k0 k1=>nOq (m:=6) k0 k1 λ n hn=>h n G' u hn⟩) λ fs G3 hfl hf6 u3 p hp=>?_
  . show (bQq 0 (m:Int).toNat).length<=1000
    rw [b8q];omega
  have hl5:fs.length<=5:=by
    have e:fs.length=(bQq 0 (m:Int).toNat).length:=hfl
    rw [b8q] at e;omega
  have key:∀ k:Nat,k<=400->Due (lpP v [] fs 0) k "more" (lpP v [] fs 0) k:=λ k hk=>
    have hs:=pKq (v:=v) (fs:=[]) (ar:=fs) 0
    have hd:=v3q (v:=v) (fs:=[]) (ar:=fs) 0
    ⟨hYq (L:=0) (by decide) hl5 (λ _ _=>by simp) (λ _ _=>.inr rfl) k 0 (by omega),by omega,(cVq hl5 k).1,(cVq hl5 k).2.1,(cVq hl5 k).2.2,by simp at hs;omega,by simp at hd;omega⟩
  have g3:G p=none:=(u1.trans (u2.trans u3)).none hp
  refine ⟨lpC v [],p,fs,v,rfl,a5q,hf6,by omega,?_⟩
  refine ⟨u3.fd.new hp,by decide,by decide,λ k G4 u4 k0 k1=>⟨u4.fd,by decide,by decide,λ i G5 u5 i0 i1=>?_⟩⟩
  have hG:∀ b o,b≠a->G b=some o->G5 b=some o:=λ b o nb e=>by
    have h1:G3 b=some o:=(u1.trans (u2.trans u3)).kp nb e
    have h2:G4 b=some o:=u4.kp nb (by rw [aIq (by rintro rfl;rw [hp] at h1;cases h1)];exact h1)
    exact u5.kp nb h2
  refine at2 i0 i1 (λ _=>Dr.of (q _ 400 _ _ 400 G5 (key 400 (by decide)) hG)) λ _=>?_
  obtain ⟨n,rfl⟩:∃ n:Nat,k=n:=⟨k.toNat,by omega⟩
  exact Dr.of (q _ n _ _ n G5 (key n (by omega)) hG)
end
end KB
namespace KB
open PySem L2 L3
set_option maxHeartbeats 4000000
abbrev uHq:List (Addr × Addr):=[(107,103),(112,110)]
abbrev tl9:List (Addr × Pos × Str):=[(103,bTq aJq,"lifted.<locals>.moved"),(110,bTq aUq,"put_in.<locals>.taken")]
theorem xMq {l:PySem.W.OpenLaw} {w:World} {K:PySem.W.Frag} {h:Heap} {mg:Str->Option Value} {fa  : Addr} (X:K.In h) (G:h.Ns mainGlobals mg) (hfa:mg "law" = some (.ref fa))
    (d0:DT K "walked" gHq) (d1:DT K "is_over" kXq) (d2:DT K "path_of" gIq) (d3:DT K "is_answer" qGq) (d4:DT K "pairs_and_leaves" oTq) (d5:DT K "inner_of_pair" nBq) (d6:DT K "inner" hOq) (d7:DT K "open_names" oLq) (d8:DT K "names_in" e6q) (d9:DT K "ways_below" g5q) (d10:DTc K "lifted" dCq 107) (d11:DTc K "put_in" eOq 112) (d12:DT K "copies_for" fYq) (d13:DT K "with_names" hNq) (d14:DT K "at_place" pRq) (d15:DT K "replaced" l5q) (d16:DT K "with_inner" e0q) (d17:DT K "can_go" iOq) (d18:DT K "has_rule" kQq) (d19:DT K "behind" oFq) (d20:DT K "comes_of" i4q) (d21:DT K "next_use" tXq) (d22:DT K "first_unanswered" uMq) (d23:DT K "place_in_use" qBq) (d24:DT K "inner_in_use" qHq) (d25:DT K "run" q9q) (d26:DT K "run_through" kUq) (d27:DT K "is_great" hXq) (d28:DT K "_law_feed" kGq) (d29:DT K "_law_take" lAq) (d30:DT K "_law_whole" iVq) (d31:DT K "_law_alike" iGq) (d32:DT K "_law_joined" f4q) (d33:DT K "_law_ways" iMq) (d34:DT K "_law_wide" kRq) (d35:DT K "_law_due_wide" hUq) (d36:DT K "_law_within" e1q) (d37:DT K "_law_due_deep" hVq) (d38:DT K "_law_due_steady" e3q) (d39:DT K "law" hEq) (z0:PySem.W.nsIn K mainGlobals "len" = some none) (z1:PySem.W.nsIn K mainGlobals "isinstance" = some none) (z2:PySem.W.nsIn K mainGlobals "range" = some none) (z3:PySem.W.nsIn K mainGlobals "int" = some none) (z4:PySem.W.nsIn K mainGlobals "bool" = some none) (z5:PySem.W.nsIn K mainGlobals "str" = some none) (z6:PySem.W.nsIn K mainGlobals "tuple" = some none) (z7:PySem.W.nsIn K mainGlobals "list" = some none) (z8:PySem.W.nsIn K mainGlobals "zip" = some none) (z9:PySem.W.nsIn K mainGlobals "sorted" = some none) (z10:PySem.W.nsIn K mainGlobals "set" = some none) (z11:PySem.W.nsIn K mainGlobals "all" = some none) (z12:PySem.W.nsIn K mainGlobals "reversed" = some none) (z13:PySem.W.nsIn K mainGlobals "min" = some none)
    {tp:Tok} (tp0:PySem.W.nsIn K mainGlobals "MOST_PARTS" = some (some (.int 3000 tp)))
    {td:Tok} (td0:PySem.W.nsIn K mainGlobals "MOST_DEEP" = some (some (.int 100 td)))
    : ∃ fd:FuncData,(∀ (s:Shared) (v:Value),BindsTo s fd ⟨[v],[]⟩ [("_law_script", v)])/\∀ base:Heap,K.In base->base.Ns mainGlobals mg->(∀ q∈uHq,PySem.W.CodeHd base q.1 q.2)->f1q mg base->FnOk l.prog w K mg base CX0 117 fa fd ["_law_script"] ((λ K=>aKq K (fEq tl9)) K):=by
  obtain ⟨f0,_,a_walked,F_walked⟩:=d0.ok
  have b_walked:=F_walked.binds (ps:=eAq) λ _ _ _ _ _ _ us hl=>match us,hl with | [_,_],_=>rfl
  have m_walked:=PySem.W.mg_of X G a_walked
  have kp_walked:=F_walked.kp
  obtain ⟨f1,_,a_over,F_over⟩:=d1.ok
  have b_over:=F_over.binds (ps:=hHq) λ _ _ _ _ _ _ us hl=>match us,hl with | [_,_,_,_],_=>rfl
  have m_over:=PySem.W.mg_of X G a_over
  have kp_over:=F_over.kp
  obtain ⟨f2,_,a_pathof,F_pathof⟩:=d2.ok
  have b_pathof:=F_pathof.binds (ps:=eFq) λ _ _ _ _ _ _ us hl=>match us,hl with | [_],_=>rfl
  have m_pathof:=PySem.W.mg_of X G a_pathof
  have kp_pathof:=F_pathof.kp
  obtain ⟨f3,_,a_isa,F_isa⟩:=d3.ok
  have b_isa:=F_isa.binds (ps:=jRq) λ _ _ _ _ _ _ us hl=>match us,hl with | [_],_=>rfl
  have m_isa:=PySem.W.mg_of X G a_isa
  have kp_isa:=F_isa.kp
  obtain ⟨f4,_,a_pal,F_pal⟩:=d4.ok
  have b_pal:=F_pal.binds (ps:=k6q) λ _ _ _ _ _ _ us hl=>match us,hl with | [_],_=>rfl
  have m_pal:=PySem.W.mg_of X G a_pal
  have kp_pal:=F_pal.kp
  obtain ⟨f5,_,a_iop,F_iop⟩:=d5.ok
  have b_iop:=F_iop.binds (ps:=k4q) λ _ _ _ _ _ _ us hl=>match us,hl with | [_],_=>rfl
  have m_iop:=PySem.W.mg_of X G a_iop
  have kp_iop:=F_iop.kp
  obtain ⟨f6,_,a_inner,F_inner⟩:=d6.ok
  have b_inner:=F_inner.binds (ps:=fZq) λ _ _ _ _ _ _ us hl=>match us,hl with | [_],_=>rfl
  have m_inner:=PySem.W.mg_of X G a_inner
  have kp_inner:=F_inner.kp
  obtain ⟨f7,_,a_opn,F_opn⟩:=d7.ok
  have b_opn:=F_opn.binds (ps:=jGq) λ _ _ _ _ _ _ us hl=>match us,hl with | [_],_=>rfl
  have m_opn:=PySem.W.mg_of X G a_opn
  have kp_opn:=F_opn.kp
  obtain ⟨f8,_,a_namesin,F_namesin⟩:=d8.ok
  have b_namesin:=F_namesin.binds (ps:=dDq) λ _ _ _ _ _ _ us hl=>match us,hl with | [_],_=>rfl
  have m_namesin:=PySem.W.mg_of X G a_namesin
  have kp_namesin:=F_namesin.kp
  obtain ⟨f9,_,a_wbelow,F_wbelow⟩:=d9.ok
  have b_wbelow:=F_wbelow.binds (ps:=eEq) λ _ _ _ _ _ _ us hl=>match us,hl with | [_,_],_=>rfl
  have m_wbelow:=PySem.W.mg_of X G a_wbelow
  have kp_wbelow:=F_wbelow.kp
  obtain ⟨f10,_,a_lifted,F_lifted,kp_lifted⟩:=d10.ok
  have b_lifted:=(F_lifted.fun kp_lifted).binds (ps:=eHq) λ _ _ _ _ _ _ us hl=>match us,hl with | [_,_,_],_=>rfl
  have m_lifted:=PySem.W.mg_of X G a_lifted
  obtain ⟨f11,_,a_putin,F_putin,kp_putin⟩:=d11.ok
  have b_putin:=(F_putin.fun kp_putin).binds (ps:=gGq) λ _ _ _ _ _ _ us hl=>match us,hl with | [_,_],_=>rfl
  have m_putin:=PySem.W.mg_of X G a_putin
  obtain ⟨f12,_,a_copies,F_copies⟩:=d12.ok
  have b_copies:=F_copies.binds (ps:=eBq) λ _ _ _ _ _ _ us hl=>match us,hl with | [_,_],_=>rfl
  have m_copies:=PySem.W.mg_of X G a_copies
  have kp_copies:=F_copies.kp
  obtain ⟨f13,_,a_withn,F_withn⟩:=d13.ok
  have b_withn:=F_withn.binds (ps:=gEq) λ _ _ _ _ _ _ us hl=>match us,hl with | [_,_],_=>rfl
  have m_withn:=PySem.W.mg_of X G a_withn
  have kp_withn:=F_withn.kp
  obtain ⟨f14,_,a_atp,F_atp⟩:=d14.ok
  have b_atp:=F_atp.binds (ps:=jCq) λ _ _ _ _ _ _ us hl=>match us,hl with | [_,_],_=>rfl
  have m_atp:=PySem.W.mg_of X G a_atp
  have kp_atp:=F_atp.kp
  obtain ⟨f15,_,a_repl,F_repl⟩:=d15.ok
  have b_repl:=F_repl.binds (ps:=h8q) λ _ _ _ _ _ _ us hl=>match us,hl with | [_,_,_],_=>rfl
  have m_repl:=PySem.W.mg_of X G a_repl
  have kp_repl:=F_repl.kp
  obtain ⟨f16,_,a_withinn,F_withinn⟩:=d16.ok
  have b_withinn:=F_withinn.binds (ps:=dFq) λ _ _ _ _ _ _ us hl=>match us,hl with | [_,_,_],_=>rfl
  have m_withinn:=PySem.W.mg_of X G a_withinn
  have kp_withinn:=F_withinn.kp
  obtain ⟨f17,_,a_cango,F_cango⟩:=d17.ok
  have b_cango:=F_cango.binds (ps:=f5q) λ _ _ _ _ _ _ us hl=>match us,hl with | [_,_],_=>rfl
  have m_cango:=PySem.W.mg_of X G a_cango
  have kp_cango:=F_cango.kp
  obtain ⟨f18,_,a_hasr,F_hasr⟩:=d18.ok
  have b_hasr:=F_hasr.binds (ps:=h6q) λ _ _ _ _ _ _ us hl=>match us,hl with | [_],_=>rfl
  have m_hasr:=PySem.W.mg_of X G a_hasr
  have kp_hasr:=F_hasr.kp
  obtain ⟨f19,_,a_beh,F_beh⟩:=d19.ok
  have b_beh:=F_beh.binds (ps:=jYq) λ _ _ _ _ _ _ us hl=>match us,hl with | [_,_],_=>rfl
  have m_beh:=PySem.W.mg_of X G a_beh
  have kp_beh:=F_beh.kp
  obtain ⟨f20,_,a_comes,F_comes⟩:=d20.ok
  have b_comes:=F_comes.binds (ps:=fXq) λ _ _ _ _ _ _ us hl=>match us,hl with | [_],_=>rfl
  have m_comes:=PySem.W.mg_of X G a_comes
  have kp_comes:=F_comes.kp
  obtain ⟨f21,_,a_nu,F_nu⟩:=d21.ok
  have b_nu:=F_nu.binds (ps:=lVq) λ _ _ _ _ _ _ us hl=>match us,hl with | [_],_=>rfl
  have m_nu:=PySem.W.mg_of X G a_nu
  have kp_nu:=F_nu.kp
  obtain ⟨f22,_,a_fu,F_fu⟩:=d22.ok
  have b_fu:=F_fu.binds (ps:=lXq) λ _ _ _ _ _ _ us hl=>match us,hl with | [_],_=>rfl
  have m_fu:=PySem.W.mg_of X G a_fu
  have kp_fu:=F_fu.kp
  obtain ⟨f23,_,a_piu,F_piu⟩:=d23.ok
  have b_piu:=F_piu.binds (ps:=jZq) λ _ _ _ _ _ _ us hl=>match us,hl with | [_],_=>rfl
  have m_piu:=PySem.W.mg_of X G a_piu
  have kp_piu:=F_piu.kp
  obtain ⟨f24,_,a_iiu,F_iiu⟩:=d24.ok
  have b_iiu:=F_iiu.binds (ps:=jNq) λ _ _ _ _ _ _ us hl=>match us,hl with | [_],_=>rfl
  have m_iiu:=PySem.W.mg_of X G a_iiu
  have kp_iiu:=F_iiu.kp
  obtain ⟨f25,_,a_run,F_run⟩:=d25.ok
  have b_run:=F_run.binds (ps:=j6q) λ _ _ _ _ _ _ us hl=>match us,hl with | [_,_],_=>rfl
  have m_run:=PySem.W.mg_of X G a_run
  have kp_run:=F_run.kp
  obtain ⟨f26,_,a_runt,F_runt⟩:=d26.ok
  have b_runt:=F_runt.binds (ps:=hGq) λ _ _ _ _ _ _ us hl=>match us,hl with | [_,_],_=>rfl
  have m_runt:=PySem.W.mg_of X G a_runt
  have kp_runt:=F_runt.kp
  obtain ⟨f27,_,a_great,F_great⟩:=d27.ok
  have b_great:=F_great.binds (ps:=f0q) λ _ _ _ _ _ _ us hl=>match us,hl with | [_],_=>rfl
  have m_great:=PySem.W.mg_of X G a_great
  have kp_great:=F_great.kp
  obtain ⟨f28,_,a_feed,F_feed⟩:=d28.ok
  have b_feed:=F_feed.binds (ps:=h2q) λ _ _ _ _ _ _ us hl=>match us,hl with | [_,_],_=>rfl
  have m_feed:=PySem.W.mg_of X G a_feed
  have kp_feed:=F_feed.kp
  obtain ⟨f29,_,a_take,F_take⟩:=d29.ok
  have b_take:=F_take.binds (ps:=h1q) λ _ _ _ _ _ _ us hl=>match us,hl with | [_,_],_=>rfl
  have m_take:=PySem.W.mg_of X G a_take
  have kp_take:=F_take.kp
  obtain ⟨f30,_,a_whole,F_whole⟩:=d30.ok
  have b_whole:=F_whole.binds (ps:=fOq) λ _ _ _ _ _ _ us hl=>match us,hl with | [_],_=>rfl
  have m_whole:=PySem.W.mg_of X G a_whole
  have kp_whole:=F_whole.kp
  obtain ⟨f31,_,a_alike,F_alike⟩:=d31.ok
  have b_alike:=F_alike.binds (ps:=fHq) λ _ _ _ _ _ _ us hl=>match us,hl with | [_,_],_=>rfl
  have m_alike:=PySem.W.mg_of X G a_alike
  have kp_alike:=F_alike.kp
  obtain ⟨f32,_,a_joined,F_joined⟩:=d32.ok
  have b_joined:=F_joined.binds (ps:=eIq) λ _ _ _ _ _ _ us hl=>match us,hl with | [_,_],_=>rfl
  have m_joined:=PySem.W.mg_of X G a_joined
  have kp_joined:=F_joined.kp
  obtain ⟨f33,_,a_lways,F_lways⟩:=d33.ok
  have b_lways:=F_lways.binds (ps:=f8q) λ _ _ _ _ _ _ us hl=>match us,hl with | [_,_],_=>rfl
  have m_lways:=PySem.W.mg_of X G a_lways
  have kp_lways:=F_lways.kp
  obtain ⟨f34,_,a_wide,F_wide⟩:=d34.ok
  have b_wide:=F_wide.binds (ps:=hBq) λ _ _ _ _ _ _ us hl=>match us,hl with | [_],_=>rfl
  have m_wide:=PySem.W.mg_of X G a_wide
  have kp_wide:=F_wide.kp
  obtain ⟨f35,_,a_dwide,F_dwide⟩:=d35.ok
  have b_dwide:=F_dwide.binds (ps:=fNq) λ _ _ _ _ _ _ us hl=>match us,hl with | [_],_=>rfl
  have m_dwide:=PySem.W.mg_of X G a_dwide
  have kp_dwide:=F_dwide.kp
  obtain ⟨f36,_,a_lwithin,F_lwithin⟩:=d36.ok
  have b_lwithin:=F_lwithin.binds (ps:=dNq) λ _ _ _ _ _ _ us hl=>match us,hl with | [_,_,_],_=>rfl
  have m_lwithin:=PySem.W.mg_of X G a_lwithin
  have kp_lwithin:=F_lwithin.kp
  obtain ⟨f37,_,a_ddeep,F_ddeep⟩:=d37.ok
  have b_ddeep:=F_ddeep.binds (ps:=f3q) λ _ _ _ _ _ _ us hl=>match us,hl with | [_],_=>rfl
  have m_ddeep:=PySem.W.mg_of X G a_ddeep
  have kp_ddeep:=F_ddeep.kp
  obtain ⟨f38,_,a_dsteady,F_dsteady⟩:=d38.ok
  have b_dsteady:=F_dsteady.binds (ps:=dQq) λ _ _ _ _ _ _ us hl=>match us,hl with | [_],_=>rfl
  have m_dsteady:=PySem.W.mg_of X G a_dsteady
  have kp_dsteady:=F_dsteady.kp
  have B:Blt mg:=⟨PySem.W.mg_none_of X G z0,PySem.W.mg_none_of X G z1,PySem.W.mg_none_of X G z2,PySem.W.mg_none_of X G z3,PySem.W.mg_none_of X G z4,PySem.W.mg_none_of X G z5,PySem.W.mg_none_of X G z6,PySem.W.mg_none_of X G z7,PySem.W.mg_none_of X G z8,PySem.W.mg_none_of X G z9,PySem.W.mg_none_of X G z10,PySem.W.mg_none_of X G z11,PySem.W.mg_none_of X G z12,PySem.W.mg_none_of X G z13⟩
  obtain ⟨f39,_,a_law,F_law⟩:=d39.ok
  cases hfa.symm.trans (PySem.W.mg_of X G a_law)
  obtain ⟨_,_,kV,dc,pm,an,cd,ct,_,rfl,l9,c9⟩:=F_law.ex
  refine ⟨PySem.W.fnOf "law" "law" (bLq hEq) (b5q hEq) (a6q hEq) .none kV dc pm an cd ct,λ s v=>.of_eq rfl,λ base _ _ hCs hB=>?_⟩
  have m_MOST_PARTS:=PySem.W.mg_of X G tp0
  have m_MOST_DEEP:=PySem.W.mg_of X G td0
  have g_inner:Got l.prog w K mg base 1 "inner" fZq (aKq K (dIq Tm.enc Tm.inn)):=⟨_,_,sPq F_inner,m_inner,kp_inner,b_inner⟩
  have g_wbelow:Got l.prog w K mg base 1 "ways_below" eEq (aKq K iAq):=⟨_,_,pQq F_wbelow,m_wbelow,kp_wbelow,b_wbelow⟩
  have g_namesin:Got l.prog w K mg base 2 "names_in" dDq (aKq K dOq):=⟨_,_,mJq B g_inner g_wbelow F_namesin,m_namesin,kp_namesin,b_namesin⟩
  have g_withn:Got l.prog w K mg base 3 "with_names" gEq (aKq K (m7q l.prog w K mg base 1)):=⟨_,_,qTq B g_inner g_wbelow F_withn,m_withn,kp_withn,b_withn⟩
  have g_lifted:Got l.prog w K mg base 4 "lifted" eHq (aKq K (pHq 103 (bTq aJq))):=⟨_,_,o0q (hCs (107,103) (List.mem_cons_self ..)) hB g_withn F_lifted,m_lifted,kp_lifted,b_lifted⟩
  have g_opn:Got l.prog w K mg base 3 "open_names" jGq (aKq K o9q):=⟨_,_,yJq B g_namesin F_opn,m_opn,kp_opn,b_opn⟩
  have g_copies:Got l.prog w K mg base 5 "copies_for" eBq (aKq K (hMq 103 (bTq aJq))):=⟨_,_,oDq B g_opn g_lifted F_copies,m_copies,kp_copies,b_copies⟩
  have g_putin:Got l.prog w K mg base 6 "put_in" gGq (aKq K (vNq 103 (bTq aJq) 110 (bTq aUq))):=⟨_,_,r4q (hCs (112,110) (List.mem_cons_of_mem _ (List.mem_cons_self ..))) hB B g_namesin g_copies g_withn F_putin,m_putin,kp_putin,b_putin⟩
  have g_atp:Got l.prog w K mg base 2 "at_place" jCq (aKq K spAt):=⟨_,_,aA6q B g_inner F_atp,m_atp,kp_atp,b_atp⟩
  have g_hasr:Got l.prog w K mg base 1 "has_rule" h6q (aKq K (i9q Tm.hasRule)):=⟨_,_,uGq F_hasr,m_hasr,kp_hasr,b_hasr⟩
  have g_cango:Got l.prog w K mg base 3 "can_go" f5q (aKq K kFq):=⟨_,_,sRq g_atp g_hasr F_cango,m_cango,kp_cango,b_cango⟩
  have g_withinn:Got l.prog w K mg base 2 "with_inner" dFq (aKq K fDq):=⟨_,_,mWq g_inner F_withinn,m_withinn,kp_withinn,b_withinn⟩
  have g_repl:Got l.prog w K mg base 3 "replaced" h8q (aKq K oZq):=⟨_,_,wHq B g_inner g_withinn F_repl,m_repl,kp_repl,b_repl⟩
  have g_comes:Got l.prog w K mg base 7 "comes_of" fXq (aKq K (lFq 103 (bTq aJq) 110 (bTq aUq))):=⟨_,_,rOq g_putin F_comes,m_comes,kp_comes,b_comes⟩
  have g_beh:Got l.prog w K mg base 8 "behind" jYq (aKq K (uPq 103 (bTq aJq) 110 (bTq aUq))):=⟨_,_,x1q g_cango g_atp g_comes g_repl F_beh,m_beh,kp_beh,b_beh⟩
  have g_over:Got l.prog w K mg base 2 "is_over" hHq (aKq K (oGq l.prog w K mg base 1)):=⟨_,_,w8q F_over,m_over,kp_over,b_over⟩
  have g_great:Got l.prog w K mg base 3 "is_great" f0q (aKq K kPq):=⟨_,_,s8q g_inner g_over m_MOST_PARTS m_MOST_DEEP F_great,m_great,kp_great,b_great⟩
  have g_walked:Got l.prog w K mg base 2 "walked" eAq (aKq K (iTq l.prog w K mg base 1)):=⟨_,_,nEq B F_walked,m_walked,kp_walked,b_walked⟩
  have g_iop:Got l.prog w K mg base 1 "inner_of_pair" k4q (aKq K (dIq Tm.enc Tm.pinn)):=⟨_,_,y1q F_iop,m_iop,kp_iop,b_iop⟩
  have g_pal:Got l.prog w K mg base 3 "pairs_and_leaves" k6q (aKq K v7q):=⟨_,_,yGq g_iop g_walked F_pal,m_pal,kp_pal,b_pal⟩
  have g_isa:Got l.prog w K mg base 4 "is_answer" jRq (aKq K wMq):=⟨_,_,aC7q B g_pal F_isa,m_isa,kp_isa,b_isa⟩
  have g_pathof:Got l.prog w K mg base 1 "path_of" eFq (aKq K eUq):=⟨_,_,oAq B F_pathof,m_pathof,kp_pathof,b_pathof⟩
  have g_fu:Got l.prog w K mg base 2 "first_unanswered" lXq (aKq K spFu):=⟨_,_,aN2q g_pathof F_fu,m_fu,kp_fu,b_fu⟩
  have g_iiu:Got l.prog w K mg base 1 "inner_in_use" jNq (aKq K wNq):=⟨_,_,yDq F_iiu,m_iiu,kp_iiu,b_iiu⟩
  have g_piu:Got l.prog w K mg base 2 "place_in_use" jZq (aKq K vTq):=⟨_,_,aD4q B g_hasr g_iiu g_inner F_piu,m_piu,kp_piu,b_piu⟩
  have g_nu:Got l.prog w K mg base 3 "next_use" lVq (aKq K vWq):=⟨_,_,aH1q g_fu g_piu F_nu,m_nu,kp_nu,b_nu⟩
  have g_runt:Got l.prog w K mg base 9 "run_through" hGq (aKq K (qIq 103 (bTq aJq) 110 (bTq aUq))):=⟨_,_,uNq B g_nu g_beh g_great g_isa F_runt,m_runt,kp_runt,b_runt⟩
  have g_run:Got l.prog w K mg base 10 "run" j6q (aKq K (vSq 103 (bTq aJq) 110 (bTq aUq))):=⟨_,_,yOq B g_runt F_run,m_run,kp_run,b_run⟩
  have g_feed:Got l.prog w K mg base 1 "_law_feed" h2q (aKq K iZq):=⟨_,_,vHq B F_feed,m_feed,kp_feed,b_feed⟩
  have g_take:Got l.prog w K mg base 1 "_law_take" h1q (aKq K d1q):=⟨_,_,vBq F_take,m_take,kp_take,b_take⟩
  have g_whole:Got l.prog w K mg base 2 "_law_whole" fOq (aKq K d4q):=⟨_,_,s9q g_take F_whole,m_whole,kp_whole,b_whole⟩
  have g_alike:∀ n:Nat,Got l.prog w K mg base (n+1) "_law_alike" fHq (aKq K (gAq n)):=λ n=>by
    induction n with
    | zero=>exact ⟨f31,_,r5q,m_alike,kp_alike,b_alike⟩
    | succ n ih=>exact ⟨f31,_,rBq B ih F_alike,m_alike,kp_alike,b_alike⟩
  have g_joined:Got l.prog w K mg base 1 "_law_joined" eIq (aKq K iQq):=⟨_,_,nSq B F_joined,m_joined,kp_joined,b_joined⟩
  have g_lways:Got l.prog w K mg base 1 "_law_ways" f8q (aKq K kWq):=⟨_,_,sVq B F_lways,m_lways,kp_lways,b_lways⟩
  have g_wide:Got l.prog w K mg base 3 "_law_wide" hBq (aKq K o1q):=⟨_,_,tUq B g_take g_whole g_joined g_lways F_wide,m_wide,kp_wide,b_wide⟩
  have g_dwide:Got l.prog w K mg base 4 "_law_due_wide" fNq (aKq K i2q):=⟨_,_,rRq B g_take g_wide F_dwide,m_dwide,kp_dwide,b_dwide⟩
  have g_lwithin:Got l.prog w K mg base 1 "_law_within" dNq (aKq K s3q):=⟨_,_,mRq B F_lwithin,m_lwithin,kp_lwithin,b_lwithin⟩
  have g_ddeep:Got l.prog w K mg base 4 "_law_due_deep" f3q (aKq K i2q):=⟨_,_,sSq B g_take g_whole g_lwithin F_ddeep,m_ddeep,kp_ddeep,b_ddeep⟩
  have g_dsteady:Got l.prog w K mg base 4 "_law_due_steady" dQq (aKq K i2q):=⟨_,_,mQq B g_take g_whole g_lwithin F_dsteady,m_dsteady,kp_dsteady,b_dsteady⟩
  exact yAq B g_feed g_take g_dwide g_ddeep g_dsteady g_run (g_alike 115) F_law
theorem walk {l:PySem.W.OpenLaw} {q:Program} {loose:List Str} {XP:(Str->Option Value)->Heap->Prop} {YP:World->Heap->Prop} {d:DefRec} {K:Params->PySem.W.Frag} (hn:l.most=some 63) (hdf:d.params.defaults=[])
    (hY:∀ (w:World) (h:Heap),YP w h->(K w.params).In h) (hK:∀ w:World,PySem.W.noTabs (K w.params)=true) (hTab:∀ (w:World) (h:Heap),YP w h->PySem.W.TabsAt uHq h)
    (F:∀ (w:World) (mg:Str->Option Value) (fa:Addr) (h:Heap),(K w.params).In h->h.Ns mainGlobals mg->mg d.name=some (.ref fa) →
      ∃ fd:FuncData,(∀ (s:Shared) (u:Value),BindsTo s fd ⟨[u],[]⟩ [("_law_script", u)])/\∀ base:Heap,(K w.params).In base->base.Ns mainGlobals mg->(∀ q∈uHq,PySem.W.CodeHd base q.1 q.2)->f1q mg base->FnOk l.prog w (K w.params) mg base CX0 117 fa fd ["_law_script"] ((λ K=>aKq K (fEq tl9)) (K w.params))) :
    PySem.W.WalkO q loose XP YP l.row.toRowW d [] (λ f vs=>PySem.call f vs):=
  L2.rZq (n:=63) (k:=117) (x:="_law_script") (sp:=λ K=>(λ K=>aKq K (fEq tl9)) K) hn (by decide) hdf ⟨rfl,by decide,by decide⟩ hY hK hTab F λ _ _ _ _ hl hE hS=>rUq rfl (by decide) hl hE hS
end KB
def PySem.W.Fast.tw7807886416114846961:=0
def PySem.W.Fast.tw15239852354848126154:=0
def PySem.W.Fast.tw5196074503126204684:=0
def PySem.W.Fast.tw865943043746093511:=0
def PySem.W.Fast.tw1341572188375855964:=0
def PySem.W.Fast.tw8122161626971397018:=0
def PySem.W.Fast.tw17284165469532795442:=0
def PySem.W.Fast.tw16038029473044862102:=0
def PySem.W.Fast.tw13557193265727740803:=0
def PySem.W.Fast.tw5211005781545548710:=0
def PySem.W.Fast.tw11744928988471912053:=0
def PySem.W.Fast.tw17350645111714031112:=0
def PySem.W.Fast.tw6611131395746151834:=0
def PySem.W.Fast.tw6555149480987225436:=0
def PySem.W.Fast.tw2104042055459501060:=0
def PySem.W.Fast.tw18061656608707043016:=0
def PySem.W.Fast.tw13139719135864428783:=0
def PySem.W.Fast.tw7057060931520644948:=0
def PySem.W.Fast.tw18158067347370336459:=0
def PySem.W.Fast.tw18144004218514224727:=0
def PySem.W.Fast.tw428590886252685138:=0
def PySem.W.Fast.tw18000786224351024510:=0
def PySem.W.Fast.tw13767347142826189148:=0
def PySem.W.Fast.tw13706201309937198069:=0
def PySem.W.Fast.tw3967743862933857735:=0
def PySem.W.Fast.tw17209405053480808738:=0
def PySem.W.Fast.tw7807774477336278512:=0
def PySem.W.Fast.tw1868670679596962100:=0
def PySem.W.Fast.tw4406217154921846513:=0
def PySem.W.Fast.tw16174987787606982871:=0
def PySem.W.Fast.tw8515574594525718849:=0
def PySem.W.Fast.tw14287427492019649427:=0
def PySem.W.Fast.tw17726775735927100916:=0
def PySem.W.Fast.tw9823775761867037093:=0
def PySem.W.Fast.tw9713721967376619429:=0
def PySem.W.Fast.tw14752110833564271464:=0
def PySem.W.Fast.tw4290628939632755980:=0
def PySem.W.Fast.tw17074860966160630258:=0
def PySem.W.Fast.tw14642945277633716513:=0
def PySem.W.Fast.tw2562975085150985521:=0
def PySem.W.Fast.tw10250875880378148641:=0
def PySem.W.Fast.tw9701487160715588905:=0
def PySem.W.Fast.tw10527533398980761357:=0
def PySem.W.Fast.tw10475748690630274798:=0
def PySem.W.Fast.tw1336414818793105320:=0
def PySem.W.Fast.tw13538595000694250075:=0
def PySem.W.Fast.tw12011985844068162016:=0
def PySem.W.Fast.tw4950719724177929111:=0
def PySem.W.Fast.tw368960364239017218:=0
def PySem.W.Fast.tw900618124096210907:=0
def PySem.W.Fast.tw8977788593907056858:=0
def PySem.W.Fast.tw1718542542599678546:=0
def PySem.W.Fast.tw6241690658116982852:=0
def PySem.W.Fast.tw3155251609204975213:=0
def PySem.W.Fast.tw11463981381790459992:=0
def PySem.W.Fast.tw120898104706336637:=0
def PySem.W.Fast.tw1145048886323734853:=0
def PySem.W.Fast.tw16378981395331594249:=0
def PySem.W.Fast.tw14636162425340286987:=0
def PySem.W.Fast.tw6313276565924083830:=0
open PySem PySem.W PyProof.Rows
set_option maxRecDepth 100000 in
set_option maxHeartbeats 0 in
theorem PySem.Challenge.cw_kindbags_k20_what_grows_great_holds : PySem.Challenge.rw_kindbags_k20_what_grows_great.Holds := by
  w_on; o_law; k_head; (case hw => w_witness2)
  k_fill
  refine KB.walk (l := PySem.Challenge.rw_kindbags_k20_what_grows_great) rfl rfl (fun w h Y => PySem.W.km_in_of Y) (fun w => by kernel_rfl) (fun w h Y => List.forall_mem_cons.mpr ⟨⟨PySem.W.codeHd_of_K (c := 107) (P := 103) (PySem.W.km_in_of Y) (by kernel_rfl), PySem.W.km_tabs_of Y 103 (by k_mem)⟩, List.forall_mem_cons.mpr ⟨⟨PySem.W.codeHd_of_K (c := 112) (P := 110) (PySem.W.km_in_of Y) (by kernel_rfl), PySem.W.km_tabs_of Y 110 (by k_mem)⟩, fun _ h => nomatch h⟩⟩) ?F
  case F =>
    intro w mg fa h KX G hmg
    refine' KB.xMq KX G hmg ?_ ?_ ?_ ?_ ?_ ?_ ?_ ?_ ?_ ?_ ?_ ?_ ?_ ?_ ?_ ?_ ?_ ?_ ?_ ?_ ?_ ?_ ?_ ?_ ?_ ?_ ?_ ?_ ?_ ?_ ?_ ?_ ?_ ?_ ?_ ?_ ?_ ?_ ?_ ?_ ?_ ?_ ?_ ?_ ?_ ?_ ?_ ?_ ?_ ?_ ?_ ?_ ?_ ?_ ?tp0 ?td0
    (case tp0 => k_is)
    (case td0 => k_is)
    all_goals first | k_is | (refine' L3.DT.mk ?_ ?_ ?_ ?_ <;> try k_is) | (refine' L3.DM.mk ?_ ?_ ?_ ?_ ?_ <;> try k_is) | (refine' L3.DTc.mk ?_ ?_ ?_ ?_ <;> try k_is) | (refine' L3.DMc.mk ?_ ?_ ?_ ?_ ?_ <;> try k_is) | skip
