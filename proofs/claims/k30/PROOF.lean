import PyProof.Rows.All
import Wide.All
import OpenK.AllK
import Wide.FinOn
import Lean
import PyProof.EqAt
import PyProof.EqKinds
import PyProof.TupleCall
import PySem.Challenge.RW_kindbags_k30_whole_kinds_written_and_rea
set_option Elab.async false
set_option linter.all false
set_option maxRecDepth 100000
namespace L2
open PySem PySem.Spec PyProof.Rows
abbrev Key:=Sum Int Str
def xIq:Key->Value->Bool
  | .inl k,v=>Value.isInt k v
  | .inr x,v=>Value.isStrOf x v
def keyH (w:World):Key->Int
  | .inl k=>hashInt k
  | .inr x=>hashStr w x
theorem b7q:∀ {k:Key} {v:Value},xIq k v=true->(∃ i t,k=Sum.inl i/\v=Value.int i t)\/(∃ x t,k=Sum.inr x/\v=Value.str x t)
  | .inl i,v,h=>by
    obtain ⟨t,e⟩:=Value.isInt_shape (k:=i) (v:=v) h
    exact .inl ⟨i,t,rfl,e⟩
  | .inr x,v,h=>by
    obtain ⟨t,e⟩:=Value.isStrOf_shape (x:=x) (v:=v) h
    exact .inr ⟨x,t,rfl,e⟩
theorem vQq (a b:Int):decide ((Sum.inl a:Key)=Sum.inl b)=(a==b):=by
  by_cases e:a=b
  . subst e;simp
  . have h:¬ (Sum.inl a:Key)=Sum.inl b:=λ q=>e (Sum.inl.inj q)
    rw [decide_eq_false h]
    exact (beq_eq_false_iff_ne.mpr e).symm
theorem xCq (a b:Str):decide ((Sum.inr a:Key)=Sum.inr b)=decide (a=b):=by
  by_cases e:a=b
  . subst e;simp
  . have h:¬ (Sum.inr a:Key)=Sum.inr b:=λ q=>e (Sum.inr.inj q)
    rw [decide_eq_false h,decide_eq_false e]
theorem wFq (a:Int) (b:Str):decide ((Sum.inl a:Key)=Sum.inr b)=false:=decide_eq_false (λ q=>nomatch q)
theorem vUq (a:Str) (b:Int):decide ((Sum.inr a:Key)=Sum.inl b)=false:=decide_eq_false (λ q=>nomatch q)
def jFq (prog:Program) (w:World):PySem.KeyKind prog w Key where
  is:=xIq
  hash:=keyH w
  inj:=λ v a b ha hb=>by
    rcases b7q ha with ⟨i,t,rfl,rfl⟩ | ⟨x,t,rfl,rfl⟩
    . rcases b7q hb with ⟨j,u,rfl,e⟩ | ⟨y,u,rfl,e⟩
      . injection e with e1 _;rw [e1]
      . exact nomatch e
    . rcases b7q hb with ⟨j,u,rfl,e⟩ | ⟨y,u,rfl,e⟩
      . exact nomatch e
      . injection e with e1 _;rw [e1]
  byValue:=λ k v h=>by
    rcases b7q h with ⟨i,t,rfl,rfl⟩ | ⟨x,t,rfl,rfl⟩<;>rfl
  pyHash:=λ hv h=>by
    rcases b7q hv with ⟨i,t,rfl,rfl⟩ | ⟨x,t,rfl,rfl⟩
    . exact wpAny_pyHash_int h
    . exact wpAny_pyHash_str h
  eqBool:=λ hu hv h=>by
    rcases b7q hu with ⟨i,t,rfl,rfl⟩ | ⟨x,t,rfl,rfl⟩
    . rcases b7q hv with ⟨j,u,rfl,rfl⟩ | ⟨y,u,rfl,rfl⟩
      . rw [vQq] at h;exact wpAny_eqBool_int h
      . rw [wFq] at h;exact SeqAt.EqAt.int_str i t y u _ _ _ _ h
    . rcases b7q hv with ⟨j,u,rfl,rfl⟩ | ⟨y,u,rfl,rfl⟩
      . rw [vUq] at h;exact SeqAt.EqAt.str_int x t j u _ _ _ _ h
      . rw [xCq] at h;exact wpAny_eqBool_str h
  «strs»:=λ k x t v h=>by
    rcases b7q h with ⟨i,u,rfl,e⟩ | ⟨y,u,rfl,e⟩
    . exact nomatch e
    . injection e with e1 _
      subst e1
      cases v<;>rfl
inductive V where
  | non | bl (b:Bool) | int (i:Int) | str (x:Str) | byt (b:Array UInt8) | flt (b:UInt64) | ref (a:Addr) | ty (n:String)
  deriving DecidableEq
def RelV:V->Value->Prop
  | .non,u=>u=Value.none
  | .bl b,u=>u=Value.bool b
  | .int i,u=>∃ t,u=Value.int i t
  | .str x,u=>∃ t,u=Value.str x t
  | .byt b,u=>∃ t,u=Value.bytes b t
  | .flt b,u=>∃ t,u=Value.float b t
  | .ref a,u=>u=Value.ref a
  | .ty n,u=>u=Value.type n
abbrev Vals:List V->List Value->Prop:=Paired RelV
theorem Vals.length {xs:List V} {us:List Value} (r:Vals xs us):xs.length=us.length:=Paired.length r
theorem Vals.get:∀ {xs:List V} {us:List Value} {i:Nat} {x:V},Vals xs us->xs[i]?=some x->∃ u,us[i]?=some u/\RelV x u
  | _,_,_,_,.nil,e=>by simp at e
  | _,_,0,_,.cons r _,e=>by simp at e;subst e;exact ⟨_,rfl,r⟩
  | _,_,i+1,x,.cons _ t,e=>by
    obtain ⟨u,h1,h2⟩:=Vals.get (i:=i) (x:=x) t (by simpa using e)
    exact ⟨u,by simpa using h1,h2⟩
theorem Vals.set {x:V} {u:Value} (r:RelV x u):∀ {xs:List V} {us:List Value} (i:Nat),Vals xs us->Vals (xs.set i x) (us.set i u)
  | _,_,_,.nil=>.nil
  | _,_,0,.cons _ t=>.cons r t
  | _,_,i+1,.cons q t=>.cons q (Vals.set r i t)
theorem Vals.append:∀ {xs ys:List V} {us ws:List Value},Vals xs us->Vals ys ws->Vals (xs++ys) (us++ws)
  | _,_,_,_,.nil,s=>s
  | _,_,_,_,.cons r t,s=>.cons r (Vals.append t s)
theorem Vals.take:∀ {xs:List V} {us:List Value} (n:Nat),Vals xs us->Vals (xs.take n) (us.take n)
  | _,_,0,_=>.nil
  | _,_,_+1,.nil=>.nil
  | _,_,n+1,.cons r t=>.cons r (Vals.take n t)
theorem Vals.drop:∀ {xs:List V} {us:List Value} (n:Nat),Vals xs us->Vals (xs.drop n) (us.drop n)
  | _,_,0,r=>r
  | _,_,_+1,.nil=>.nil
  | _,_,n+1,.cons _ t=>Vals.drop n t
def RelO:Option V->Option Value->Prop
  | some v,some u=>RelV v u
  | none,none=>True
  | _,_=>False
def KV {κ:Type}:List (κ × V)->List (κ × Value)->Prop:=Paired λ(p:κ × V) (q:κ × Value)=>p.1=q.1/\RelV p.2 q.2
def kV:Key->V
  | .inl i=>.int i
  | .inr x=>.str x
inductive HO where
  | lst (xs:List V)
  | tup (xs:List V)
  | dK (kvs:List (Key × V)) | dT (kvs:List (List Key × V))
  | set (S:Int->Bool) (n:Nat)
  | ins (C dx:Addr) (fs:List (Str × V))
  | own (x:Addr)
  | xd (fs:List (Str × V))
  | met (f x:Addr)
  | rng (lo hi:Int)
  | frz (o:Obj) (u:HO)
  | tbl (ps:Array Value)
  | ext (φ:Heap->Prop)
abbrev Hp:=Addr->Option HO
def upd (H:Hp) (a:Addr) (o:HO):Hp:=λ b=>if b=a then some o else H b
theorem b3q {H:Hp} {a:Addr} {o:HO}:upd H a o a=some o:=by unfold upd;rw [if_pos rfl]
theorem aQq {H:Hp} {a b:Addr} {o:HO} (h:b≠a):upd H a o b=H b:=by unfold upd;rw [if_neg h]
theorem aVq {H:Hp} {a b:Addr} {o:HO} (h:H a=some o) (h':H b=none):a≠b:=by
  intro e;subst e;rw [h] at h';cases h'
section
variable (P:Program) (w:World)
def ObjOk (H:Hp) (h:Heap) (a:Addr):HO->Prop
  | .lst xs=>xs.length<=sizeLine/\∃ (its:List Value) (n:Nat),Vals xs its/\h.get? a=some { cls:=.type "list", data:=.seq its.toArray n }
  | .tup xs=>xs.length<=sizeLine/\∃ its:List Value,Vals xs its/\IsTup h a its.toArray
  | .dK kvs=>kvs.length<=sizeLine/\(a==sysModules)=false/\∃ vs,KV kvs vs/\h.DictOf (jFq P w) a vs
  | .dT kvs=>kvs.length<=sizeLine/\(a==sysModules)=false/\∃ xs:List (List Key × Addr × Value),
      Paired (λ(p:List Key × V) (q:List Key × Addr × Value)=>p.1=q.1/\H q.2.1=some (.tup (p.1.map kV))/\RelV p.2 q.2.2) kvs xs ∧
      ∃ o es ep,h.get? a=some o/\o.ExactDict/\o.data=.dict es ep/\es.toList=xs.map (entryOfKey (tupleKind (jFq P w)))/\(xs.map (·.1)).Nodup
  | .set S n=>h.SetOf (intKind P w) a S n
  | .ins C dx fs=>H dx=some (.own a)/\fs.length<=1000/\dx≠a/\h.get? a=some (PySem.W.instObj C dx) ∧
      ∃ mA,h.Ns1 dx mA/\(∀ f,RelO (fs.lookup f) (mA f))/\PySem.Within mA (fs.map (·.1))
  | .own _=>∃ o,h.get? a=some o
  | .xd fs=>∃ mA,h.Ns1 a mA/\∀ f,RelO (fs.lookup f) (mA f)
  | .rng lo hi=>∃ t u v,h.get? a=some { cls:=.type "range", data:=.fields #[.int lo t,.int hi u,.int 1 v] }
  | .frz o u=>h.get? a=some o/\ObjOk H h a u
  | .tbl ps=>h.get? a=some { cls:=.none,data:=.fields ps }
  | .met f x=>h.get? a=some (PySem.W.methodObj (.ref f) (.ref x))
  | .ext φ=>φ h/\(∃ o,h.get? a=some o)/\∀ h1 h2:Heap,φ h1->(∀ o,h1.get? a=some o->h2.get? a=some o)->φ h2
def HOk (H:Hp) (h:Heap):Prop:=∀ a o,H a=some o->ObjOk P w H h a o
end
section
variable {P:Program} {w:World} {H H':Hp} {h h':Heap} {a:Addr} {o:HO}
theorem ObjOk.lt (x:ObjOk P w H h a o):a < h.objs.size:=by
  cases o with
  | lst xs=>obtain ⟨_,_,_,_,e⟩:=x;exact Heap.lt_size e
  | tup xs=>obtain ⟨_,_,_,p⟩:=x;exact p.lt
  | dK kvs=>obtain ⟨_,_,_,_,o,_,_,e,_⟩:=x;exact Heap.lt_size e
  | dT kvs=>obtain ⟨_,_,_,_,o,_,_,e,_⟩:=x;exact Heap.lt_size e
  | set S n=>obtain ⟨o,_,_,_,e,_⟩:=x;exact Heap.lt_size e
  | ins C dx fs=>obtain ⟨_,_,_,e,_⟩:=x;exact Heap.lt_size e
  | own y=>obtain ⟨_,e⟩:=x;exact Heap.lt_size e
  | xd fs=>obtain ⟨_,⟨_,_,_,e,_⟩,_⟩:=x;exact Heap.lt_size e
  | rng lo hi=>obtain ⟨_,_,_,e⟩:=x;exact Heap.lt_size e
  | frz ob u=>obtain ⟨e,_⟩:=x;exact Heap.lt_size e
  | tbl ps=>exact Heap.lt_size (show h.get? a=some _ from x)
  | met f y=>exact Heap.lt_size (show h.get? a=some _ from x)
  | ext φ=>obtain ⟨_,⟨_,e⟩,_⟩:=x;exact Heap.lt_size e
theorem Paired.mapP {α β:Type} {F G:α->β->Prop}:∀ {l₁:List α} {l₂:List β},Paired F l₁ l₂->(∀ a b,F a b->G a b)->Paired G l₁ l₂
  | _,_,.nil,_=>.nil
  | _,_,.cons r t,f=>.cons (f _ _ r) (Paired.mapP t f)
theorem ObjOk.stay (x:ObjOk P w H h a o) (k:∀ b u,(b=a\/H b=some (.own a))->h.get? b=some u->h'.get? b=some u)
    (ho:∀ b,H b=some (.own a)->H' b=some (.own a)) (ht:∀ b xs,H b=some (.tup xs)->H' b=some (.tup xs)):ObjOk P w H' h' a o:=by
  induction o with
  | lst xs=>obtain ⟨z,its,n,r,e⟩:=x;exact ⟨z,its,n,r,k _ _ (.inl rfl) e⟩
  | tup xs=>obtain ⟨z,its,r,ob,e,c⟩:=x;exact ⟨z,its,r,ob,k _ _ (.inl rfl) e,c⟩
  | dK kvs=>obtain ⟨z,y,vs,r,ob,es,ep,e,c⟩:=x;exact ⟨z,y,vs,r,ob,es,ep,k _ _ (.inl rfl) e,c⟩
  | dT kvs=>
    obtain ⟨z,y,xs,r,ob,es,ep,e,c⟩:=x
    exact ⟨z,y,xs,Paired.mapP r λ p q z=>⟨z.1,ht _ _ z.2.1,z.2.2⟩,ob,es,ep,k _ _ (.inl rfl) e,c⟩
  | set S n=>obtain ⟨ob,es,ep,t,e,c⟩:=x;exact ⟨ob,es,ep,t,k _ _ (.inl rfl) e,c⟩
  | ins C dx fs=>
    obtain ⟨d,z,ne,e,mA,⟨od,es,ep,e2,c⟩,r⟩:=x
    exact ⟨ho _ d,z,ne,k _ _ (.inl rfl) e,mA,⟨od,es,ep,k _ _ (.inr d) e2,c⟩,r⟩
  | own y=>obtain ⟨ob,e⟩:=x;exact ⟨ob,k _ _ (.inl rfl) e⟩
  | xd fs=>obtain ⟨mA,⟨od,es,ep,e,c⟩,r⟩:=x;exact ⟨mA,⟨od,es,ep,k _ _ (.inl rfl) e,c⟩,r⟩
  | rng lo hi=>obtain ⟨t,u,v,e⟩:=x;exact ⟨t,u,v,k _ _ (.inl rfl) e⟩
  | frz ob u ih=>obtain ⟨e,q⟩:=x;exact ⟨k _ _ (.inl rfl) e,ih q⟩
  | tbl ps=>
    have e:h.get? a=some { cls:=.none,data:=.fields ps }:=x
    show h'.get? a=some { cls:=.none,data:=.fields ps }
    exact k a _ (.inl rfl) e
  | met f y=>
    have e:h.get? a=some (PySem.W.methodObj (.ref f) (.ref y)):=x
    show h'.get? a=some (PySem.W.methodObj (.ref f) (.ref y))
    exact k a _ (.inl rfl) e
  | ext φ=>obtain ⟨p,⟨o,e⟩,st⟩:=x;exact ⟨st _ _ p λ o q=>k _ _ (.inl rfl) q,⟨o,k _ _ (.inl rfl) e⟩,st⟩
theorem HOk.lt (x:HOk P w H h) (e:H a=some o):a < h.objs.size:=(x a o e).lt
theorem HOk.fresh (x:HOk P w H h) (e:h.objs.size<=a):H a=none:=by
  cases q:H a with
  | none=>rfl
  | some u=>exact absurd (Nat.lt_of_lt_of_le (x.lt q) e) (Nat.lt_irrefl _)
theorem HOk.kept (x:HOk P w H h) (k:∀ b u,h.get? b=some u->h'.get? b=some u):HOk P w H h':=λ a o e=>
  (x a o e).stay (λ b u _ q=>k b u q) (λ _ q=>q) λ _ _ q=>q
theorem HOk.laid (x:HOk P w H h) (k:∀ b u,h.get? b=some u->h'.get? b=some u) (hp:h.objs.size<=a) (new:ObjOk P w (upd H a o) h' a o):HOk P w (upd H a o) h':=λ b u e=>by
  have hn:=x.fresh hp
  by_cases hb:b=a
  . subst hb;rw [b3q] at e;cases e;exact new
  . rw [aQq hb] at e
    exact (x b u e).stay (λ c v _ q=>k c v q) (λ c q=>by rw [aQq (aVq q hn)];exact q) λ c xs q=>by rw [aQq (aVq q hn)];exact q
end
def Rd (H:Hp) (a:Addr) (u:HO):Prop:=H a=some u\/∃ o,H a=some (.frz o u)
theorem Rd.ok {P:Program} {w:World} {H:Hp} {h:Heap} {a:Addr} {u:HO} (r:Rd H a u) (x:HOk P w H h):ObjOk P w H h a u:=by
  rcases r with r | ⟨o,r⟩
  . exact x a u r
  . obtain ⟨_,q⟩:=x a _ r
    exact q
def Mut:Option HO->Prop
  | some (.lst _)=>True
  | some (.dK _)=>True
  | some (.dT _)=>True
  | some (.set _ _)=>True
  | some (.ins _ _ _)=>True
  | some (.ext _)=>True
  | _=>False
section
variable {P:Program} {w:World} {H:Hp} {h h':Heap} {x e:Addr} {o':HO}
theorem HOk.write (ok:HOk P w H h) (mu:Mut (H x)) (he:e=x\/H e=some (.own x)) (k:∀ b u,b≠e->h.get? b=some u->h'.get? b=some u) (heo:∃ u,h'.get? e=some u)
    (new:ObjOk P w (upd H x o') h' x o'):HOk P w (upd H x o') h':=λ b u q=>by
  have nown:∀ c y,H c=some (.own y)->c≠x:=λ c y r z=>by subst z;rw [r] at mu;exact mu
  have ntup:∀ c xs,H c=some (.tup xs)->c≠x:=λ c xs r z=>by subst z;rw [r] at mu;exact mu
  by_cases hb:b=x
  . subst hb;rw [b3q] at q;cases q;exact new
  . rw [aQq hb] at q
    by_cases hbe:b=e
    . have q':H b=some (.own x):=by
        rcases he with z | z
        . exact absurd (hbe.trans z) hb
        . rw [hbe];exact z
      rw [q] at q';cases q'
      obtain ⟨v,hv⟩:=heo
      exact ⟨v,by rw [hbe];exact hv⟩
    . refine (ok b u q).stay (λ c v hc r=>k c v ?_ r) (λ c r=>by rw [aQq (nown c b r)];exact r) λ c xs r=>by rw [aQq (ntup c xs r)];exact r
      rcases hc with rfl | hc
      . exact hbe
      . rintro rfl
        rcases he with z | z
        . exact nown c b hc z
        . rw [hc] at z;cases z;exact hb rfl
end
structure Un (fs ex:List Addr) (H H':Hp) (h h':Heap):Prop where
  keep:∀ b o,h.get? b=some o->H b=none->b ∉ fs->b ∉ ex->h'.get? b=some o
  slot:∀ b o,h.get? b=some o->H b=none->b∈fs->b ∉ ex->∃ sl,h'.get? b=some { o with slots:=sl }
  free:∀ b o,h.get? b=some o->H b=none->b ∉ ex->H' b=none
  there:∀ b o,h.get? b=some o->b ∉ ex->∃ o',h'.get? b=some o'
  tups:∀ b xs,H b=some (.tup xs)->H' b=some (.tup xs)
  frzs:∀ b o u,H b=some (.frz o u)->H' b=some (.frz o u)
  tbls:∀ b ps,H b=some (.tbl ps)->∃ more,H' b=some (.tbl (ps++more))
section
variable {fs fs' ex ex':List Addr} {H H1 H2:Hp} {h h1 h2 h':Heap} {a x e:Addr} {o:HO}
theorem Un.any (u:Un fs ex H H1 h h1) {b:Addr} {ob:Obj} (q:h.get? b=some ob) (n:H b=none) (hx:b ∉ ex):∃ sl,h1.get? b=some { ob with slots:=sl }:=by
  by_cases hb:b∈fs
  . exact u.slot b ob q n hb hx
  . exact ⟨ob.slots,u.keep b ob q n hb hx⟩
theorem Un.kept (k:∀ b u,h.get? b=some u->h'.get? b=some u):Un fs ex H H h h':=
  ⟨λ b ob q _ _ _=>k b ob q,λ b ob q _ _ _=>⟨ob.slots,k b ob q⟩,λ _ _ _ n _=>n,λ b ob q _=>⟨ob,k b ob q⟩,λ _ _ q=>q,λ _ _ _ q=>q,λ _ ps q=>⟨#[],by rw [q];simp⟩⟩
theorem Un.refl:Un fs ex H H h h:=Un.kept λ _ _ q=>q
theorem Un.laid (k:∀ b u,h.get? b=some u->h'.get? b=some u) (hp:h.objs.size<=a) (hn:H a=none):Un fs ex H (upd H a o) h h' where
  keep:=λ b u q _ _ _=>k b u q
  slot:=λ b u q _ _ _=>⟨u.slots,k b u q⟩
  free:=λ b u q n _=>by rw [aQq (Nat.ne_of_lt (Nat.lt_of_lt_of_le (Heap.lt_size q) hp))];exact n
  there:=λ b u q _=>⟨u,k b u q⟩
  tups:=λ b xs q=>by rw [aQq (aVq q hn)];exact q
  frzs:=λ b u xs q=>by rw [aQq (aVq q hn)];exact q
  tbls:=λ b ps q=>⟨#[],by rw [aQq (aVq q hn),q];simp⟩
theorem Un.write (mu:Mut (H x)) (he:e=x\/H e=some (.own x)) (k:∀ b u,b≠e->h.get? b=some u->h'.get? b=some u) (heo:∃ u,h'.get? e=some u):Un fs ex H (upd H x o) h h':=by
  have hx:∀ b,H b=none->b≠x:=λ b n z=>by subst z;rw [n] at mu;exact mu
  have hb:∀ b,H b=none->b≠e:=λ b n z=>by
    subst z
    rcases he with r | r
    . exact hx b n r
    . rw [n] at r;cases r
  have hm:∀ b u,H b=some u->¬ Mut (some u)->b≠x:=λ b u q nm z=>by subst z;rw [q] at mu;exact nm mu
  refine ⟨λ b u q n _ _=>k b u (hb b n) q,λ b u q n _ _=>⟨u.slots,k b u (hb b n) q⟩,λ b u q n _=>by rw [aQq (hx b n)];exact n,λ b u q _=>?_,
    λ b xs q=>by rw [aQq (hm b _ q λ z=>z)];exact q,λ b u xs q=>by rw [aQq (hm b _ q λ z=>z)];exact q,λ b ps q=>⟨#[],by rw [aQq (hm b _ q λ z=>z),q];simp⟩⟩
  by_cases hbe:b=e
  . subst hbe;exact heo
  . exact ⟨u,k b u hbe q⟩
end
def trk (h:Heap) (H:Hp):List Addr:=(List.range h.objs.size).filter λ a=>(H a).isSome
def p9q (h:Heap) (H:Hp):Heap:=PySem.W.hideAll h (trk h H)
theorem mOq (h:Heap) (H:Hp):(p9q h H).objs.size=h.objs.size:=PySem.W.hideAll_size _ _
theorem pVq {h:Heap} {H:Hp} {b:Addr} {o:Obj} (e:h.get? b=some o) (n:H b=none):(p9q h H).get? b=some o:=
  PySem.W.hideAll_get _ e λ hm=>by
    have q:(H b).isSome=true:=(List.mem_filter.mp hm).2
    rw [n] at q;simp at q
theorem rCq {h:Heap} {H:Hp} {b:Addr} {o:Obj} (e:(p9q h H).get? b=some o):h.get? b=some o/\H b=none:=by
  have e':h.get? b=some o:=PySem.W.of_hideAll (trk h H) e
  refine ⟨e',?_⟩
  cases q:H b with
  | none=>rfl
  | some x=>
    have hm:b∈trk h H:=List.mem_filter.mpr ⟨List.mem_range.mpr (Heap.lt_size e'),by simp [q]⟩
    have z:(p9q h H).get? b=none:=PySem.W.hideAll_none (trk h H) hm
    rw [z] at e;cases e
structure Mod (K:PySem.W.Frag) (mg:Str->Option Value) (base:Heap):Prop where
  kin:K.In base
  glob:base.Ns mainGlobals mg
  blt:∃ mb,base.Ns builtinsNs mb/\∀ x:Str,x≠"__name__"->mb x=bootBuiltins x
  nolimit:base.NoLimit
structure Cx where
  prog:Program
  w:World
  K:PySem.W.Frag
  mg:Str->Option Value
  base:Heap
  A:Around
  N:List Str
  s₀:Shared
  H₀:Hp
  env:Env
  outer:List Env
  stack:List Env
  ex:List Addr
  fn:Str->Bool
  calm:Bool
  pn:List (Addr × Obj)
  xe:Value->Shared->Prop
def frs (l:List Env):List Addr:=l.filterMap (·.frame)
abbrev Cx.fs (X:Cx):List Addr:=frs X.outer
def Vis (sc:Scope) (x:Str):Prop:=sc.names.lookup x=some .local\/sc.names.lookup x=some .cell\/sc.names.lookup x=some .free
def Loc (sc:Scope) (x:Str):Prop:=sc.names.lookup x=some .local\/sc.names.lookup x=some .cell
def Look (env:Env) (h:Heap) (m:Str->Option Value) (x:Str) (u:Value):Prop:=
  (env.kindOf x=some .local/\m x=some u)\/((env.kindOf x=some .cell\/env.kindOf x=some .free)/\∃ c,env.cells.lookup x=some c/\h.IsCell c (some u))
structure Cx.Ok (X:Cx):Prop where
  mod:Mod X.K X.mg X.base
  kind:X.env.scope.kind=.function
  glob:X.env.globals=mainGlobals
  blt:X.env.builtins=builtinsNs
  above:X.s₀.heap.objs.size<=X.env.locals
  inj:∀ x y c,X.env.cells.lookup x=some c->X.env.cells.lookup y=some c->x=y
  has:∀ x,(X.env.kindOf x=some .cell\/X.env.kindOf x=some .free)->∃ c,X.env.cells.lookup x=some c
  cab:∀ x c,X.fn x=true->X.env.cells.lookup x=some c->X.s₀.heap.objs.size<=c
  hd:X.calm=true->X.A.handled=none
  frames:X.A.frames=some X.stack
  stk:X.stack=X.outer\/(X.stack=X.env::X.outer/\X.env.frame=some X.env.locals)
  exf:∀ b∈X.ex,b≠X.env.locals/\∀ x c,X.env.cells.lookup x=some c->c≠b
  bs:∀ b o,X.base.get? b=some o->X.s₀.heap.get? b=some o/\X.H₀ b=none
  bsz:X.base.objs.size<=X.s₀.heap.objs.size
  noex:∀ b o,X.base.get? b=some o->b ∉ X.ex
  exfs:∀ b∈X.ex,b ∉ X.fs
  funs:X.s₀.heap.FunFrames X.base X.outer
  frf:∀ b∈X.fs,X.H₀ b=none
structure Inv (X:Cx) (pins:List (Addr × Obj)) (σ:List (Option V)) (H:Hp) (s:Shared):Prop where
  ok:X.Ok
  os:s.os=X.s₀.os
  bare:AllBare s.gens
  base:Un X.fs X.ex X.H₀ H X.s₀.heap s.heap
  loc:∃ m,s.heap.Ns X.env.locals m/\∀ (i:Nat) (x:Str) (v:V),X.N[i]?=some x->σ[i]?=some (some v)->Vis X.env.scope x->∃ u,RelV v u/\Look X.env s.heap m x u
  cell:∀ x c,X.env.cells.lookup x=some c->∃ v,s.heap.IsCell c v
  free:H X.env.locals=none
  freeC:∀ x c,X.env.cells.lookup x=some c->H c=none
  pin:∀ p∈X.pn++pins,s.heap.get? p.1=some p.2/\H p.1=none/\p.1≠X.env.locals/\p.1 ∉ X.fs/\∀ v,p.2.data≠.cell v
  hok:HOk X.prog X.w H s.heap
  len:σ.length=X.N.length
section
variable {X:Cx} {pins:List (Addr × Obj)} {σ:List (Option V)} {H H':Hp} {s:Shared} {h':Heap}
theorem Cx.Ok.nofr (ok:X.Ok) {b:Addr} {o:Obj} (e:X.base.get? b=some o):b ∉ X.fs:=λ hb=>by
  have:=(ok.funs.mem hb).1
  rw [e] at this;cases this
theorem Inv.bs (I:Inv X pins σ H s):∀ b o,X.base.get? b=some o->s.heap.get? b=some o/\H b=none:=λ b o e=>
  ⟨I.base.keep b o (I.ok.bs b o e).1 (I.ok.bs b o e).2 (I.ok.nofr e) (I.ok.noex b o e),I.base.free b o (I.ok.bs b o e).1 (I.ok.bs b o e).2 (I.ok.noex b o e)⟩
theorem Inv.bk (I:Inv X pins σ H s):∀ b o,X.base.get? b=some o->s.heap.get? b=some o:=λ b o e=>(I.bs b o e).1
theorem Inv.mod (I:Inv X pins σ H s):Mod X.K X.mg X.base:=I.ok.mod
theorem Inv.kIn (I:Inv X pins σ H s):X.K.In s.heap:=I.ok.mod.kin.keeps I.bk
theorem Inv.lt (I:Inv X pins σ H s):X.env.locals < s.heap.objs.size:=let ⟨_,hn,_⟩:=I.loc;hn.lt
theorem Inv.sz (I:Inv X pins σ H s):X.s₀.heap.objs.size<=s.heap.objs.size:=Nat.le_trans I.ok.above (Nat.le_of_lt I.lt)
theorem Inv.nofs (I:Inv X pins σ H s) {a:Addr} (h:s.heap.objs.size<=a):a ∉ X.fs:=λ hb=>by
  obtain ⟨_,o,ho,_⟩:=I.ok.funs.mem hb
  exact absurd (Nat.lt_of_lt_of_le (Heap.lt_size ho) (Nat.le_trans I.sz h)) (Nat.lt_irrefl _)
theorem Inv.cne (I:Inv X pins σ H s):∀ x c,X.env.cells.lookup x=some c->c≠X.env.locals:=λ x c e z=>by
  obtain ⟨v,o,ho,hd⟩:=I.cell x c e
  obtain ⟨m,⟨o',es,ep,ho',hd',_⟩,_⟩:=I.loc
  rw [z,ho'] at ho;cases ho;rw [hd'] at hd;cases hd
theorem Inv.funs (I:Inv X pins σ H s):s.heap.FunFrames X.base X.outer:=by
  have all:∀ (l:List Env),(∀ b∈frs l,b∈X.fs)->X.s₀.heap.FunFrames X.base l->s.heap.FunFrames X.base l:=by
    intro l
    induction l with
    | nil=>intro _ _;trivial
    | cons env r ih=>
      intro hs hl
      obtain ⟨hk,⟨L,o,hf,hn,ho,hd⟩,hr⟩:=hl
      have hL:L∈X.fs:=hs L (by unfold frs;rw [List.filterMap_cons,hf];exact List.mem_cons_self)
      obtain ⟨sl,e⟩:=I.base.slot L o ho (I.ok.frf L hL) hL λ z=>I.ok.exfs L z hL
      exact ⟨hk,⟨L,_,hf,hn,e,hd⟩,ih (λ b hb=>hs b (by unfold frs;rw [List.filterMap_cons,hf];exact List.mem_cons_of_mem _ hb)) hr⟩
  exact all X.outer (λ _ hb=>hb) I.ok.funs
theorem Inv.stack (I:Inv X pins σ H s):s.heap.FunFrames X.base X.stack:=by
  rcases I.ok.stk with e | ⟨e,hf⟩
  . rw [e];exact I.funs
  . rw [e]
    obtain ⟨m,hn,_⟩:=I.loc
    refine .cons (by rw [I.ok.kind];decide) hf hn ?_ I.funs
    exact Heap.get?_none_of_le (Nat.le_trans I.ok.bsz I.ok.above)
theorem Inv.stkSub (I:Inv X pins σ H s):∀ b∈frs X.stack,b∈X.env.locals::X.fs:=λ b hb=>by
  rcases I.ok.stk with e | ⟨e,hf⟩
  . rw [e] at hb;exact List.mem_cons_of_mem _ hb
  . rw [e] at hb
    unfold frs at hb
    rw [List.filterMap_cons,hf] at hb
    exact hb
theorem Inv.stkFree (I:Inv X pins σ H s):∀ b∈frs X.stack,H b=none:=λ b hb=>by
  rcases List.mem_cons.mp (I.stkSub b hb) with e | hb
  . rw [e];exact I.free
  . obtain ⟨_,o,ho,_⟩:=I.ok.funs.mem hb
    exact I.base.free b o ho (I.ok.frf b hb) λ z=>I.ok.exfs b z hb
theorem Inv.step {g':Array GenState} {t':Nat} {d':Drawn} {ch:List Addr} (I:Inv X pins σ H s)
    (hch:∀ b∈ch,(b∈X.ex\/X.s₀.heap.objs.size<=b)/\b≠X.env.locals/\(∀ x c,X.env.cells.lookup x=some c->c≠b)/\∀ p∈X.pn++pins,p.1≠b)
    (keep:∀ b o,b≠X.env.locals->b ∉ X.fs->b ∉ ch->s.heap.get? b=some o->H b=none->h'.get? b=some o)
    (slot:∀ b o,b≠X.env.locals->b∈X.fs->b ∉ ch->s.heap.get? b=some o->H b=none->∃ sl,h'.get? b=some { o with slots:=sl }) (free:∀ b o,b ∉ ch->s.heap.get? b=some o->H b=none->H' b=none)
    (there:∀ b o,b ∉ ch->s.heap.get? b=some o->∃ o',h'.get? b=some o')
    (tups:∀ b xs,H b=some (.tup xs)->H' b=some (.tup xs)) (frzs:∀ b o u,H b=some (.frz o u)->H' b=some (.frz o u)) (tbls:∀ b ps,H b=some (.tbl ps)->∃ more,H' b=some (.tbl (ps++more)))
    (ns:∀ m,s.heap.Ns X.env.locals m->h'.Ns X.env.locals m) (hok:HOk X.prog X.w H' h') (hg:AllBare g') :
    Inv X pins σ H' { s with heap:=h',gens:=g',drawn:=d',toks:=t' }:=by
  have neL:∀ b o,X.s₀.heap.get? b=some o->b≠X.env.locals:=λ b o e=>Nat.ne_of_lt (Nat.lt_of_lt_of_le (Heap.lt_size e) I.ok.above)
  have neC:∀ b o,X.s₀.heap.get? b=some o->b ∉ X.ex->b ∉ ch:=λ b o e hx hb=>by
    rcases (hch b hb).1 with z | z
    . exact hx z
    . exact absurd (Nat.lt_of_lt_of_le (Heap.lt_size e) z) (Nat.lt_irrefl _)
  have cellK:∀ x c,X.env.cells.lookup x=some c->∀ v,s.heap.IsCell c v->h'.IsCell c v:=λ x c e v ⟨o,ho,hd⟩=>by
    have nch:c ∉ ch:=λ z=>(hch c z).2.2.1 x c e rfl
    by_cases hc:c∈X.fs
    . obtain ⟨sl,q⟩:=slot c o (I.cne x c e) hc nch ho (I.freeC x c e)
      exact ⟨_,q,hd⟩
    . exact ⟨o,keep c o (I.cne x c e) hc nch ho (I.freeC x c e),hd⟩
  refine ⟨I.ok,I.os,hg,⟨λ b o e n hb hx=>?_,λ b o e n hb hx=>?_,λ b o e n hx=>?_,λ b o e hx=>?_,λ b xs e=>tups b xs (I.base.tups b xs e),λ b o xs e=>frzs b o xs (I.base.frzs b o xs e),λ b ps e=>?_⟩,?_,λ x c e=>?_,?_,λ x c e=>?_,λ p hp=>?_,hok,I.len⟩
  . exact keep b o (neL b o e) hb (neC b o e hx) (I.base.keep b o e n hb hx) (I.base.free b o e n hx)
  . obtain ⟨sl,e1⟩:=I.base.slot b o e n hb hx
    obtain ⟨sl',e2⟩:=slot b _ (neL b o e) hb (neC b o e hx) e1 (I.base.free b o e n hx)
    exact ⟨sl',e2⟩
  . obtain ⟨o',e1⟩:=I.base.there b o e hx
    exact free b o' (neC b o e hx) e1 (I.base.free b o e n hx)
  . obtain ⟨o',e1⟩:=I.base.there b o e hx
    exact there b o' (neC b o e hx) e1
  . obtain ⟨m1,e1⟩:=I.base.tbls b ps e
    obtain ⟨m2,e2⟩:=tbls b _ e1
    exact ⟨m1++m2,by rw [e2,Array.append_assoc]⟩
  . obtain ⟨m,hn,hl⟩:=I.loc
    refine ⟨m,ns m hn,λ i x v e1 e2 e3=>?_⟩
    obtain ⟨u,r,l⟩:=hl i x v e1 e2 e3
    refine ⟨u,r,?_⟩
    rcases l with l | ⟨k,c,e,z⟩
    . exact .inl l
    . exact .inr ⟨k,c,e,cellK x c e _ z⟩
  . obtain ⟨v,z⟩:=I.cell x c e
    exact ⟨v,cellK x c e v z⟩
  . obtain ⟨m,⟨o,_,_,ho,_⟩,_⟩:=I.loc
    exact free _ o (λ z=>(hch _ z).2.1 rfl) ho I.free
  . obtain ⟨v,o,ho,hd⟩:=I.cell x c e
    exact free c o (λ z=>(hch c z).2.2.1 x c e rfl) ho (I.freeC x c e)
  . obtain ⟨e,n,ne,nf,d⟩:=I.pin p hp
    have nch:p.1 ∉ ch:=λ z=>(hch p.1 z).2.2.2 p hp rfl
    exact ⟨keep p.1 p.2 ne nf nch e n,free p.1 p.2 nch e n,ne,nf,d⟩
theorem Inv.un {t':Nat} (I:Inv X pins σ H s) (u:Un X.fs [] H H' s.heap h') (hok:HOk X.prog X.w H' h'):Inv X pins σ H' { s with heap:=h',toks:=t' }:=by
  obtain ⟨m,⟨o,es,ep,ho,r⟩,_⟩:=id I.loc
  obtain ⟨sl,hL⟩:=u.any ho I.free (by simp)
  exact I.step (g':=s.gens) (d':=s.drawn) (ch:=[]) (λ _ z=>nomatch z) (λ b o _ hb _ e n=>u.keep b o e n hb (by simp)) (λ b o _ hb _ e n=>u.slot b o e n hb (by simp)) (λ b o _ e n=>u.free b o e n (by simp)) (λ b o _ e=>u.there b o e (by simp)) u.tups u.frzs u.tbls (λ m' hm=>by
    obtain ⟨o',es',ep',ho',r'⟩:=hm
    rw [ho] at ho';cases ho'
    exact ⟨_,es',ep',hL,r'⟩) hok I.bare
theorem Inv.call {g':Array GenState} {t':Nat} {d':Drawn} {ch:List Addr} (I:Inv X pins σ H s) (u:Un (frs X.stack) ch H H' s.heap h') (hok:HOk X.prog X.w H' h') (hg:AllBare g')
    (hch:∀ b∈ch,(b∈X.ex\/X.s₀.heap.objs.size<=b)/\b≠X.env.locals/\(∀ x c,X.env.cells.lookup x=some c->c≠b)/\∀ p∈X.pn++pins,p.1≠b) :
    Inv X pins σ H' { s with heap:=h',gens:=g',drawn:=d',toks:=t' }:=by
  obtain ⟨m,⟨o,es,ep,ho,r⟩,_⟩:=id I.loc
  obtain ⟨sl,hL⟩:=u.any ho I.free λ z=>(hch _ z).2.1 rfl
  exact I.step (ch:=ch) hch (λ b o hL hb hc e n=>u.keep b o e n (λ z=>(List.mem_cons.mp (I.stkSub b z)).elim hL hb) hc) (λ b o _ _ hc e n=>u.any e n hc) (λ b o hc e n=>u.free b o e n hc) (λ b o hc e=>u.there b o e hc) u.tups u.frzs u.tbls (λ m' hm=>by
    obtain ⟨o',es',ep',ho',r'⟩:=hm
    rw [ho] at ho';cases ho'
    exact ⟨_,es',ep',hL,r'⟩) hok hg
theorem Inv.turned {t':Nat} {it:Addr} (I:Inv X pins σ H s) (k:∀ b o,b≠it->s.heap.get? b=some o->h'.get? b=some o) (hn:H it=none) (hL:it≠X.env.locals)
    (h1:it∈X.ex\/X.s₀.heap.objs.size<=it) (h2:∀ x c,X.env.cells.lookup x=some c->c≠it) (h3:∀ p∈X.pn++pins,p.1≠it):Inv X pins σ H { s with heap:=h',toks:=t' }:=by
  have nit:∀ b u,H b=some u->b≠it:=λ b u e z=>by rw [z,hn] at e;cases e
  refine I.step (g':=s.gens) (d':=s.drawn) (ch:=[it]) (λ b hb=>?_) (λ b o _ _ hc e _=>k b o (λ z=>hc (by simp [z])) e) (λ b o _ _ hc e _=>⟨o.slots,k b o (λ z=>hc (by simp [z])) e⟩) (λ _ _ _ _ n=>n)
    (λ b o hc e=>⟨o,k b o (λ z=>hc (by simp [z])) e⟩) (λ _ _ e=>e) (λ _ _ _ e=>e) (λ b ps e=>⟨#[],by rw [e];simp⟩) (λ m hm=>?_) (λ b u e=>?_) I.bare
  . have e:b=it:=by simpa using hb
    subst e
    exact ⟨h1,hL,h2,h3⟩
  . obtain ⟨o,es,ep,ho,r⟩:=hm
    exact ⟨o,es,ep,k _ o (Ne.symm hL) ho,r⟩
  . refine (I.hok b u e).stay (λ c v hc q=>k c v ?_ q) (λ _ q=>q) λ _ _ q=>q
    rcases hc with z | z
    . rw [z];exact nit b u e
    . exact nit c _ z
theorem Inv.tok (I:Inv X pins σ H s) (t:Nat):Inv X pins σ H { s with toks:=t }:=I.un (h':=s.heap) (t':=t) Un.refl I.hok
theorem Inv.kept {t':Nat} (I:Inv X pins σ H s) (k:∀ b u,s.heap.get? b=some u->h'.get? b=some u):Inv X pins σ H { s with heap:=h',toks:=t' }:=I.un (Un.kept k) (I.hok.kept k)
theorem Inv.laid {a:Addr} {o:HO} {t':Nat} (I:Inv X pins σ H s) (k:∀ b u,s.heap.get? b=some u->h'.get? b=some u) (hp:s.heap.objs.size<=a) (new:ObjOk X.prog X.w (upd H a o) h' a o) :
    Inv X pins σ (upd H a o) { s with heap:=h',toks:=t' }:=I.un (Un.laid k hp (I.hok.fresh hp)) (I.hok.laid k hp new)
theorem Inv.write {x e:Addr} {o:HO} {t':Nat} (I:Inv X pins σ H s) (mu:Mut (H x)) (he:e=x\/H e=some (.own x)) (k:∀ b u,b≠e->s.heap.get? b=some u->h'.get? b=some u) (heo:∃ u,h'.get? e=some u)
    (new:ObjOk X.prog X.w (upd H x o) h' x o):Inv X pins σ (upd H x o) { s with heap:=h',toks:=t' }:=I.un (Un.write mu he k heo) (I.hok.write mu he k heo new)
theorem Inv.pins_of {pins':List (Addr × Obj)} (I:Inv X pins σ H s) (h:∀ p∈pins',s.heap.get? p.1=some p.2/\H p.1=none/\p.1≠X.env.locals/\p.1 ∉ X.fs/\∀ v,p.2.data≠.cell v):Inv X pins' σ H s:=
  ⟨I.ok,I.os,I.bare,I.base,I.loc,I.cell,I.free,I.freeC,λ p hp=>(List.mem_append.mp hp).elim (λ z=>I.pin p (List.mem_append_left _ z)) (h p),I.hok,I.len⟩
theorem k7q {N:List Str} (hN:N.Nodup) {i j:Nat} {x:Str} (a:N[i]?=some x) (b:N[j]?=some x):i=j:=by
  obtain ⟨h1,e1⟩:=List.getElem?_eq_some_iff.mp a
  obtain ⟨h2,e2⟩:=List.getElem?_eq_some_iff.mp b
  exact (List.getElem_inj hN).mp (e1.trans e2.symm)
theorem iOq {M:Model} {A:Around} {E:Value->Shared->Prop} {i:Nat} {x:Str} {v:V} {u:Value} {Q:Unit->Shared->Prop} (I:Inv X pins σ H s) (hN:X.N.Nodup) (hi:X.N[i]?=some x) (hx:Loc X.env.scope x) (r:RelV v u)
    (h:∀ s',Inv X pins (σ.set i (some v)) H s'->(∃ a,Heap.SameBut a s.heap s'.heap/\(a=X.env.locals\/X.env.cells.lookup x=some a))->Q () s') (hf:X.fn x=true\/X.env.scope.names.lookup x=some .local:=by first | exact .inl rfl | exact .inr rfl | assumption):wpAny M A (storeName X.env x u) Q E s:=by
  obtain ⟨m,hn,hl⟩:=id I.loc
  have hcls:(X.env.scope.kind==.class||(X.env.scope.kind==.module&&X.env.locals !=X.env.globals))=false:=by rw [I.ok.kind];rfl
  have hiσ:i < σ.length:=by rw [I.len];exact (List.getElem?_eq_some_iff.mp hi).1
  have cne:=I.cne
  have tracked:∀ {a:Addr} {h':Heap},(∃ o,s.heap.get? a=some o/\H a=none)->Heap.SameBut a s.heap h'->HOk X.prog X.w H h':=λ{a h'} ha hs b ob e=>by
    obtain ⟨_,_,hfree⟩:=ha
    refine (I.hok b ob e).stay (λ c w' hc q=>(hs.2 c ?_).trans q) (λ _ q=>q) λ _ _ q=>q
    rintro rfl
    rcases hc with rfl | hc
    . rw [hfree] at e;cases e
    . rw [hfree] at hc;cases hc
  rcases hx with hk | hk
  . refine wpAny_storeName_local hk hn (λ h' hn' hs=>?_) hcls
    obtain ⟨oL,_,_,hoL,_⟩:=id hn
    refine h _ ⟨I.ok,I.os,I.bare,⟨λ b o e n hb hx=>?_,λ b o e n hb hx=>?_,I.base.free,λ b o e hx=>?_,I.base.tups,I.base.frzs,I.base.tbls⟩,⟨_,hn',λ j y v' e1 e2 e3=>?_⟩,λ y c e=>?_,I.free,I.freeC,λ p hp=>?_,tracked ⟨oL,hoL,I.free⟩ hs,by simpa using I.len⟩ ⟨_,hs,.inl rfl⟩
    . exact (hs.2 b (Nat.ne_of_lt (Nat.lt_of_lt_of_le (Heap.lt_size e) I.ok.above))).trans (I.base.keep b o e n hb hx)
    . obtain ⟨sl,e1⟩:=I.base.slot b o e n hb hx
      exact ⟨sl,(hs.2 b (Nat.ne_of_lt (Nat.lt_of_lt_of_le (Heap.lt_size e) I.ok.above))).trans e1⟩
    . obtain ⟨o',e1⟩:=I.base.there b o e hx
      exact ⟨o',(hs.2 b (Nat.ne_of_lt (Nat.lt_of_lt_of_le (Heap.lt_size e) I.ok.above))).trans e1⟩
    . by_cases hj:j=i
      . subst hj
        rw [hi] at e1;cases e1
        rw [List.getElem?_set_self hiσ] at e2
        cases e2
        exact ⟨u,r,.inl ⟨hk,by simp⟩⟩
      . rw [List.getElem?_set_ne (Ne.symm hj)] at e2
        obtain ⟨u',r',q⟩:=hl j y v' e1 e2 e3
        refine ⟨u',r',?_⟩
        rcases q with ⟨k,e⟩ | ⟨k,c,e,z⟩
        . refine .inl ⟨k,?_⟩
          have:y≠x:=λ e=>hj (k7q hN e1 (e ▸ hi))
          simp [this,e]
        . exact .inr ⟨k,c,e,z.sameBut hs (cne y c e)⟩
    . obtain ⟨w',z⟩:=I.cell y c e
      exact ⟨w',z.sameBut hs (cne y c e)⟩
    . obtain ⟨e,n,ne,nf,d⟩:=I.pin p hp
      exact ⟨(hs.2 p.1 ne).trans e,n,ne,nf,d⟩
  . have hfn:X.fn x=true:=by
      rcases hf with z | z
      . exact z
      . rw [z] at hk;cases hk
    obtain ⟨c,hc⟩:=I.ok.has x (.inl hk)
    obtain ⟨w',z⟩:=I.cell x c hc
    refine wpAny_storeName_cell I.ok.kind hk hc z (λ h' hc' hs=>?_)
    obtain ⟨oc,hoc,hocd⟩:=id z
    refine h { s with heap:=h' } ⟨I.ok,I.os,I.bare,⟨λ b o e n hb hx=>?_,λ b o e n hb hx=>?_,I.base.free,λ b o e hx=>?_,I.base.tups,I.base.frzs,I.base.tbls⟩,⟨m,hn.sameBut hs (Ne.symm (cne x c hc)),λ j y v' e1 e2 e3=>?_⟩,λ y c' e=>?_,I.free,I.freeC,λ p hp=>?_,tracked ⟨oc,hoc,I.freeC x c hc⟩ hs,by simpa using I.len⟩ ⟨c,hs,.inr hc⟩
    . exact (hs.2 b (Nat.ne_of_lt (Nat.lt_of_lt_of_le (Heap.lt_size e) (I.ok.cab x c hfn hc)))).trans (I.base.keep b o e n hb hx)
    . obtain ⟨sl,e1⟩:=I.base.slot b o e n hb hx
      exact ⟨sl,(hs.2 b (Nat.ne_of_lt (Nat.lt_of_lt_of_le (Heap.lt_size e) (I.ok.cab x c hfn hc)))).trans e1⟩
    . obtain ⟨o',e1⟩:=I.base.there b o e hx
      exact ⟨o',(hs.2 b (Nat.ne_of_lt (Nat.lt_of_lt_of_le (Heap.lt_size e) (I.ok.cab x c hfn hc)))).trans e1⟩
    . by_cases hj:j=i
      . subst hj
        rw [hi] at e1;cases e1
        rw [List.getElem?_set_self hiσ] at e2
        cases e2
        exact ⟨u,r,.inr ⟨.inl hk,c,hc,hc'⟩⟩
      . rw [List.getElem?_set_ne (Ne.symm hj)] at e2
        obtain ⟨u',r',q⟩:=hl j y v' e1 e2 e3
        refine ⟨u',r',?_⟩
        rcases q with q | ⟨k,c',e,z'⟩
        . exact .inl q
        . refine .inr ⟨k,c',e,z'.sameBut hs ?_⟩
          rintro rfl
          exact hj (k7q hN e1 (I.ok.inj _ _ _ e hc ▸ hi))
    . by_cases hcc:c'=c
      . subst hcc;exact ⟨_,hc'⟩
      . obtain ⟨w2,z2⟩:=I.cell y c' e
        exact ⟨w2,z2.sameBut hs hcc⟩
    . obtain ⟨e,n,ne,nf,d⟩:=I.pin p hp
      refine ⟨(hs.2 p.1 ?_).trans e,n,ne,nf,d⟩
      intro q
      rw [q,hoc] at e
      have q':oc=p.2:=Option.some.inj e
      exact d w' (by rw [<- q'];exact hocd)
theorem kWq {M:Model} {A:Around} {E:Value->Shared->Prop} {i:Nat} {x:Str} {v:V} {u:Value} {Q:Unit->Shared->Prop} (I:Inv X pins σ H s) (hN:X.N.Nodup) (hi:X.N[i]?=some x) (hx:Loc X.env.scope x) (r:RelV v u)
    (h:∀ s',Inv X pins (σ.set i (some v)) H s'->Q () s') (hf:X.fn x=true\/X.env.scope.names.lookup x=some .local:=by first | exact .inl rfl | exact .inr rfl | assumption):wpAny M A (storeName X.env x u) Q E s:=
  iOq I hN hi hx r (λ s' I' _=>h s' I') hf
theorem Inv.call' {s':Shared} {ch:List Addr} (I:Inv X pins σ H s) (ho:s'.os=s.os) (u:Un (frs X.stack) ch H H' s.heap s'.heap) (hok:HOk X.prog X.w H' s'.heap) (hg:AllBare s'.gens)
    (hch:∀ b∈ch,(b∈X.ex\/X.s₀.heap.objs.size<=b)/\b≠X.env.locals/\(∀ x c,X.env.cells.lookup x=some c->c≠b)/\∀ p∈X.pn++pins,p.1≠b):Inv X pins σ H' s':=by
  obtain ⟨h',g',d',t',o'⟩:=s'
  have e:o'=s.os:=ho
  subst e
  exact I.call (g':=g') (t':=t') (d':=d') u hok hg hch
end
abbrev XK:=Value->Option Addr->Hp->Prop
abbrev St:=List (Option V)
abbrev VK:=V->Hp->Prop
abbrev TE:=St->Hp->VK->Prop
abbrev TT:=St->Hp->(Bool->Hp->Prop)->Prop
abbrev TA:=St->Hp->(List V->Hp->Prop)->Prop
structure Ends where
  nx:St->Hp->Prop
  rt:VK
  bk:St->Hp->Prop:=λ _ _=>False
  ct:St->Hp->Prop:=λ _ _=>False
abbrev TS:=Ends->St->Hp->Prop
def EP (X:Cx) (pins:List (Addr × Obj)) (σ:St) (Q:VK) (u:Value) (s':Shared):Prop:=∃ v H',Inv X pins σ H' s'/\RelV v u/\Q v H'
def TP (X:Cx) (pins:List (Addr × Obj)) (σ:St) (Q:Bool->Hp->Prop) (b:Bool) (s':Shared):Prop:=∃ H',Inv X pins σ H' s'/\Q b H'
def AP (X:Cx) (pins:List (Addr × Obj)) (σ:St) (Q:List V->Hp->Prop) (us:List Value) (s':Shared):Prop:=∃ vs H',Inv X pins σ H' s'/\Vals vs us/\Q vs H'
def SP (X:Cx) (pins:List (Addr × Obj)) (D:Ends) (f:Flow) (s':Shared):Prop:=
  match f with
  | .next=>∃ σ' H',Inv X pins σ' H' s'/\D.nx σ' H'
  | .brk=>∃ σ' H',Inv X pins σ' H' s'/\D.bk σ' H'
  | .cont=>∃ σ' H',Inv X pins σ' H' s'/\D.ct σ' H'
  | .ret u=>∃ v σ' H',Inv X pins σ' H' s'/\RelV v u/\D.rt v H'
def PE (X:Cx) (e:Expr) (t:TE):Prop:=
  ∀ (pins:List (Addr × Obj)) (s:Shared) (σ:St) (H:Hp) (Q:VK),Inv X pins σ H s->t σ H Q->wpAny (model X.prog X.w) X.A (eval e X.env) (EP X pins σ Q) X.xe s
def PT (X:Cx) (e:Expr) (t:TT):Prop:=
  ∀ (pins:List (Addr × Obj)) (s:Shared) (σ:St) (H:Hp) (Q:Bool->Hp->Prop),Inv X pins σ H s->t σ H Q->wpAny (model X.prog X.w) X.A (isTrue e X.env (eval e X.env)) (TP X pins σ Q) X.xe s
def PW (X:Cx) (e:Expr) (t:TT):Prop:=
  ∀ (whole:Sem Value) (pins:List (Addr × Obj)) (s:Shared) (σ:St) (H:Hp) (Q:Bool->Hp->Prop),Inv X pins σ H s->t σ H Q->wpAny (model X.prog X.w) X.A (isTrue e X.env whole) (TP X pins σ Q) X.xe s
theorem PW.pt {X:Cx} {e:Expr} {t:TT} (h:PW X e t):PT X e t:=h _
def PA (X:Cx) (es:List Expr) (t:TA):Prop:=
  ∀ (pos:Pos) (pins:List (Addr × Obj)) (s:Shared) (σ:St) (H:Hp) (Q:List V->Hp->Prop),Inv X pins σ H s->t σ H Q->wpAny (model X.prog X.w) X.A (spliced (backTo pos (starEach es X.env))) (AP X pins σ Q) X.xe s
def PS (X:Cx) (st:Stmt) (t:TS):Prop:=
  ∀ (pins:List (Addr × Obj)) (s:Shared) (σ:St) (H:Hp) (D:Ends),Inv X pins σ H s->t D σ H->wpAny (model X.prog X.w) X.A (exec st X.env) (SP X pins D) X.xe s
def PSs (X:Cx) (st:List Stmt) (t:TS):Prop:=
  ∀ (pins:List (Addr × Obj)) (s:Shared) (σ:St) (H:Hp) (D:Ends),Inv X pins σ H s->t D σ H->wpAny (model X.prog X.w) X.A (execs st X.env) (SP X pins D) X.xe s
theorem thn {α:Type} {t:Sem α} {Q Q':α->Shared->Prop} {M:Model} {A:Around} {E:Value->Shared->Prop} {s:Shared} (h:wpAny M A t Q E s) (hQ:∀ a s,Q a s->Q' a s):wpAny M A t Q' E s:=wpAny_mono h hQ λ _ _ x=>x
section
variable {X:Cx}
theorem bin {a b:Expr} {ta tb:TE} (ha:PE X a ta) (hb:PE X b tb) {pins:List (Addr × Obj)} {s:Shared} {σ:St} {H:Hp} {R:V->V->Hp->Prop} (I:Inv X pins σ H s) (h:ta σ H λ x H1=>tb σ H1 λ y H2=>R x y H2)
    {α:Type} {Q:α->Shared->Prop} {f:Value->Value->Sem α}
    (hf:∀ v u s2 x y H2,Inv X pins σ H2 s2->RelV x v->RelV y u->R x y H2->wpAny (model X.prog X.w) X.A (f v u) Q X.xe s2) :
    wpAny (model X.prog X.w) X.A (eval a X.env) (λ v s₁=>wpAny (model X.prog X.w) X.A (eval b X.env) (λ u s₂=>wpAny (model X.prog X.w) X.A (f v u) Q X.xe s₂) X.xe s₁) X.xe s:=by
  refine thn (ha pins s σ H _ I h) λ v s1 ⟨x,H1,I1,r1,q1⟩=>?_
  refine thn (hb pins s1 σ H1 _ I1 q1) λ u s2 ⟨y,H2,I2,r2,q2⟩=>?_
  exact hf v u s2 x y H2 I2 r1 r2 q2
def tVar (i:Nat):TE:=λ σ H Q=>∃ v,σ[i]?=some (some v)/\Q v H
def tC (v:V):TE:=λ _ H Q=>Q v H
theorem qDq {i:Nat} {x:Str} {pos:Pos} (hN:X.N[i]?=some x) (hv:Vis X.env.scope x) (hd:(x==("__debug__" : Str))=false:=by decide) (hcd:(x==("__classdict__" : Str))=false:=by decide):PE X (.Name x pos) (tVar i):=by
  intro pins s σ H Q I h
  obtain ⟨v,e,h⟩:=h
  obtain ⟨m,hn,hl⟩:=I.loc
  obtain ⟨u,r,l⟩:=hl i x v hN e hv
  have fin:EP X pins σ Q u s:=⟨v,H,I,r,h⟩
  rcases l with ⟨hk,hm⟩ | ⟨hk,c,hc,hcell⟩
  . exact wpAny_Name (wpAny_loadName_local I.ok.kind hk hn hm fin) hd
  . rcases hk with hk | hk
    . exact wpAny_Name (wpAny_loadName_cell I.ok.kind hk hc hcell fin) hd
    . exact wpAny_Name (wpAny_loadName_free I.ok.kind hk hc hcell fin hcd) hd
theorem xDq {i j pos}:PE X (.Constant (.int i) j pos) (tC (.int i)):=λ _ _ _ H _ I h=>wpAny_Constant_int ⟨.int i,H,I.tok _,⟨_,rfl⟩,h⟩
theorem yQq {b j pos}:PE X (.Constant (.bool b) j pos) (tC (.bl b)):=λ _ _ _ H _ I h=>Constant_bool ⟨.bl b,H,I,rfl,h⟩
theorem w0q {x j pos}:PE X (.Constant (.str x) j pos) (tC (.str x)):=λ _ _ _ H _ I h=>Calls.Constant_str ⟨.str x,H,I.tok _,⟨_,rfl⟩,h⟩
def Gl (X:Cx) (x:Str):Prop:=X.env.kindOf x=some .globalImplicit
theorem oHq {E:Value->Shared->Prop} {pins:List (Addr × Obj)} {s:Shared} {σ:St} {H:Hp} {x:Str} {u:Value} {pos:Pos} {Q:Value->Shared->Prop} (I:Inv X pins σ H s) (hg:Gl X x) (hm:X.mg x=some u) (h:Q u s)
    (hd:(x==("__debug__" : Str))=false:=by decide):wpAny (model X.prog X.w) X.A (eval (.Name x pos) X.env) Q E s:=
  Calls.Name_function_global I.ok.kind hg (Calls.loadGlobal_global (by rw [I.ok.glob];exact I.mod.glob.keeps I.bk) hm h) hd
theorem cMq {E:Value->Shared->Prop} {pins:List (Addr × Obj)} {s:Shared} {σ:St} {H:Hp} {x:Str} {u:Value} {pos:Pos} {Q:Value->Shared->Prop} (I:Inv X pins σ H s) (hg:Gl X x) (hm:X.mg x=none) (hv:bootBuiltins x=some u) (h:Q u s)
    (hn:x≠"__name__":=by decide) (hd:(x==("__debug__" : Str))=false:=by decide):wpAny (model X.prog X.w) X.A (eval (.Name x pos) X.env) Q E s:=by
  obtain ⟨mb,h1,h2⟩:=I.mod.blt
  exact Calls.Name_function_global I.ok.kind hg (Calls.loadGlobal_builtin (by rw [I.ok.glob];exact I.mod.glob.keeps I.bk) hm (by rw [I.ok.blt];exact h1.keeps I.bk) ((h2 x hn).trans hv) h) hd
theorem sWq {x:Str} {v:V} {u:Value} {pos:Pos} (hg:Gl X x) (hm:X.mg x=some u) (r:RelV v u) (hd:(x==("__debug__" : Str))=false:=by decide):PE X (.Name x pos) (tC v):=
  λ _ _ _ H _ I h=>oHq I hg hm ⟨v,H,I,r,h⟩ hd
theorem s6q {x:Str} {v:V} {u:Value} {pos:Pos} (hg:Gl X x) (hm:X.mg x=none) (hv:bootBuiltins x=some u) (r:RelV v u) (hn:x≠"__name__":=by decide) (hd:(x==("__debug__" : Str))=false:=by decide):PE X (.Name x pos) (tC v):=
  λ _ _ _ H _ I h=>cMq I hg hm hv ⟨v,H,I,r,h⟩ hn hd
variable {a b:Expr} {ta tb:TE} {pos:Pos}
variable {tA tB':TT} {rest:List Expr}
def tAnd (t u:TT):TT:=λ σ H Q=>t σ H λ c H1=>if c=true then u σ H1 Q else Q false H1
def tOr (t u:TT):TT:=λ σ H Q=>t σ H λ c H1=>if c=true then Q true H1 else u σ H1 Q
def tNot (t:TT):TT:=λ σ H Q=>t σ H λ c H1=>Q (!c) H1
theorem r4q (ha:PT X a tA):PW X (.BoolOp .And [a] pos) tA:=by
  intro wh pins s σ H Q I h
  refine isTrue_and (thn (ha pins s σ H Q I h) λ c s1 e=>?_)
  cases c with
  | true=>exact isTrue_and_nil e
  | false=>exact e
theorem uWq (ha:PT X a tA):PW X (.BoolOp .Or [a] pos) tA:=by
  intro wh pins s σ H Q I h
  refine isTrue_or (thn (ha pins s σ H Q I h) λ c s1 e=>?_)
  cases c with
  | false=>exact isTrue_or_nil e
  | true=>exact e
theorem xTq (ha:PT X a tA) (hb:PW X (.BoolOp .And (b::rest) pos) tB'):PW X (.BoolOp .And (a::b::rest) pos) (tAnd tA tB'):=by
  intro wh pins s σ H Q I h
  refine isTrue_and (thn (ha pins s σ H _ I h) λ c s1 ⟨H1,I1,q1⟩=>?_)
  cases c with
  | true=>exact hb wh pins s1 σ H1 Q I1 q1
  | false=>exact ⟨H1,I1,q1⟩
theorem aA0q (ha:PT X a tA) (hb:PW X (.BoolOp .Or (b::rest) pos) tB'):PW X (.BoolOp .Or (a::b::rest) pos) (tOr tA tB'):=by
  intro wh pins s σ H Q I h
  refine isTrue_or (thn (ha pins s σ H _ I h) λ c s1 ⟨H1,I1,q1⟩=>?_)
  cases c with
  | true=>exact ⟨H1,I1,q1⟩
  | false=>exact hb wh pins s1 σ H1 Q I1 q1
theorem wJq (ha:PT X a tA):PT X (.UnaryOp .Not a pos) (tNot tA):=by
  intro pins s σ H Q I h
  exact isTrue_not (ha pins s σ H (λ c H1=>Q (!c) H1) I h)
def vDq (ta tb:TE):TE:=λ σ H Q=>ta σ H λ x H1=>∃ c,x=.bl c/\if c=true then tb σ H1 Q else Q (.bl false) H1
def tOrV (ta tb:TE):TE:=λ σ H Q=>ta σ H λ x H1=>∃ c,x=.bl c/\if c=true then Q (.bl true) H1 else tb σ H1 Q
def v2q (ta:TE):TE:=λ σ H Q=>ta σ H λ x H1=>∃ c,x=.bl c/\Q (.bl (!c)) H1
theorem vTq {op} {t:TE} (h:PE X a t):PE X (.BoolOp op [a] pos) t:=λ pins s σ H Q I hw=>BoolOp_one (h pins s σ H Q I hw)
theorem wQq (ha:PE X a ta) (hb:PE X (.BoolOp .And (b::rest) pos) tb):PE X (.BoolOp .And (a::b::rest) pos) (vDq ta tb):=by
  intro pins s σ H Q I h
  refine BoolOp_and (thn (ha pins s σ H _ I h) λ v s1 ⟨x,H1,I1,r1,q1⟩=>?_)
  obtain ⟨c,rfl,q1⟩:=q1
  cases r1
  refine wpAny_truthy_bool ?_
  cases c with
  | true=>exact hb pins s1 σ H1 Q I1 q1
  | false=>exact ⟨.bl false,H1,I1,rfl,q1⟩
theorem zSq (ha:PE X a ta) (hb:PE X (.BoolOp .Or (b::rest) pos) tb):PE X (.BoolOp .Or (a::b::rest) pos) (tOrV ta tb):=by
  intro pins s σ H Q I h
  refine BoolOp_or (thn (ha pins s σ H _ I h) λ v s1 ⟨x,H1,I1,r1,q1⟩=>?_)
  obtain ⟨c,rfl,q1⟩:=q1
  cases r1
  refine wpAny_truthy_bool ?_
  cases c with
  | false=>exact hb pins s1 σ H1 Q I1 q1
  | true=>exact ⟨.bl true,H1,I1,rfl,q1⟩
theorem xVq (ha:PE X a ta):PE X (.UnaryOp .Not a pos) (v2q ta):=by
  intro pins s σ H Q I h
  refine UnaryOp_ (thn (ha pins s σ H _ I h) λ v s1 ⟨x,H1,I1,r1,q1⟩=>?_)
  obtain ⟨c,rfl,q1⟩:=q1
  cases r1
  exact not_of (wpAny_truthy_bool ⟨.bl (!c),H1,I1,rfl,q1⟩)
def tIf (t:TT) (ta tb:TE):TE:=λ σ H Q=>t σ H λ c H1=>if c=true then ta σ H1 Q else tb σ H1 Q
theorem oSq {c:Expr} (hc:PT X c tA) (ha:PE X a ta) (hb:PE X b tb):PE X (.IfExp c a b pos) (tIf tA ta tb):=by
  intro pins s σ H Q I h
  refine wpAny_IfExp (thn (hc pins s σ H _ I h) λ d s1 ⟨H1,I1,q1⟩=>?_)
  cases d with
  | true=>exact ha pins s1 σ H1 Q I1 q1
  | false=>exact hb pins s1 σ H1 Q I1 q1
end
def SqL (K:PySem.W.Frag) (H:Hp) (a:Addr) (xs:List V):Prop:=
  Rd H a (.lst xs) ∨
    ∃ (o:Obj) (its:Array Value) (n:Nat),K.lookup a=some o/\o.cls=.type "list"/\o.dict=none/\o.data=.seq its n/\its.size<=sizeLine/\Vals xs its.toList
def SqT (K:PySem.W.Frag) (H:Hp) (a:Addr) (xs:List V):Prop:=
  Rd H a (.tup xs) ∨
    ∃ (o:Obj) (its:Array Value) (n:Nat),K.lookup a=some o/\o.cls=.type "tuple"/\o.data=.seq its n/\its.size<=sizeLine/\Vals xs its.toList
def absV:Value->Option V
  | .none=>some .non
  | .bool b=>some (.bl b)
  | .int i _=>some (.int i)
  | .str x _=>some (.str x)
  | .bytes b _=>some (.byt b)
  | .float b _=>some (.flt b)
  | .ref a=>some (.ref a)
  | .type n=>some (.ty n)
  | _=>none
theorem RelV.abs {x:V} {u:Value} (r:RelV x u):absV u=some x:=by
  cases x with
  | non=>cases r;rfl
  | bl _=>cases r;rfl
  | int _=>obtain ⟨t,rfl⟩:=r;rfl
  | str _=>obtain ⟨t,rfl⟩:=r;rfl
  | byt _=>obtain ⟨t,rfl⟩:=r;rfl
  | flt _=>obtain ⟨t,rfl⟩:=r;rfl
  | ref _=>cases r;rfl
  | ty _=>cases r;rfl
theorem RelV.inj {x y:V} {u:Value} (r:RelV x u) (q:RelV y u):x=y:=Option.some.inj (r.abs.symm.trans q.abs)
theorem Vals.inj:∀ {xs ys:List V} {us:List Value},Vals xs us->Vals ys us->xs=ys
  | _,_,_,.nil,.nil=>rfl
  | _,_,_,.cons r t,.cons r' t'=>by rw [r.inj r',Vals.inj t t']
section
variable {X:Cx} {pins:List (Addr × Obj)} {σ:St} {H:Hp} {s:Shared} {a:Addr} {xs ys:List V}
theorem SqL.of {K:PySem.W.Frag} (h:H a=some (.lst xs)):SqL K H a xs:=.inl (.inl h)
theorem SqT.of {K:PySem.W.Frag} (h:H a=some (.tup xs)):SqT K H a xs:=.inl (.inl h)
theorem Inv.list (I:Inv X pins σ H s) (h:SqL X.K H a xs):∃ its:List Value,Vals xs its/\PlainL s.heap a its.toArray/\xs.length<=sizeLine:=by
  rcases h with h | ⟨o,its,n,hk,hc,hd,hs,hz,r⟩
  . obtain ⟨z,its,n,r,e⟩:=h.ok I.hok
    exact ⟨its,r,⟨_,n,e,rfl,rfl,rfl⟩,z⟩
  . refine ⟨its.toList,r,⟨o,n,I.kIn a o hk,hc,hd,by simpa using hs⟩,?_⟩
    have e:=r.length
    simp only [Array.length_toList] at e
    omega
theorem Inv.tuple (I:Inv X pins σ H s) (h:SqT X.K H a xs):∃ its:List Value,Vals xs its/\IsTup s.heap a its.toArray/\xs.length<=sizeLine:=by
  rcases h with h | ⟨o,its,n,hk,hc,hs,hz,r⟩
  . obtain ⟨z,its,r,p⟩:=h.ok I.hok
    exact ⟨its,r,p,z⟩
  . refine ⟨its.toList,r,⟨o,I.kIn a o hk,hc,n,by simpa using hs⟩,?_⟩
    have e:=r.length
    simp only [Array.length_toList] at e
    omega
theorem Inv.list_inj (I:Inv X pins σ H s) (h:SqL X.K H a xs) (h':SqL X.K H a ys):xs=ys:=by
  obtain ⟨its,r,⟨o,n,e,_,_,d⟩,_⟩:=I.list h
  obtain ⟨its',r',⟨o',n',e',_,_,d'⟩,_⟩:=I.list h'
  rw [e] at e';cases e'
  rw [d] at d'
  injection d' with d1 _
  have:its=its':=by simpa using congrArg Array.toList d1
  subst this
  exact r.inj r'
theorem Inv.tuple_inj (I:Inv X pins σ H s) (h:SqT X.K H a xs) (h':SqT X.K H a ys):xs=ys:=by
  obtain ⟨its,r,⟨o,e,_,n,d⟩,_⟩:=I.tuple h
  obtain ⟨its',r',⟨o',e',_,n',d'⟩,_⟩:=I.tuple h'
  rw [e] at e';cases e'
  rw [d] at d'
  injection d' with d1 _
  have:its=its':=by simpa using congrArg Array.toList d1
  subst this
  exact r.inj r'
end
abbrev Cx.wish (X:Cx) (E:Value->Shared->Prop):Cx:={ X with xe:=E }
abbrev Cx.nox (X:Cx):Cx:=X.wish λ _ _=>False
theorem Cx.Ok.wish {X:Cx} (ok:X.Ok) (E:Value->Shared->Prop):(X.wish E).Ok:=
  ⟨ok.mod,ok.kind,ok.glob,ok.blt,ok.above,ok.inj,ok.has,ok.cab,ok.hd,ok.frames,ok.stk,ok.exf,ok.bs,ok.bsz,ok.noex,ok.exfs,ok.funs,ok.frf⟩
theorem Cx.Ok.unwish {X:Cx} {E:Value->Shared->Prop} (ok:(X.wish E).Ok):X.Ok:=
  ⟨ok.mod,ok.kind,ok.glob,ok.blt,ok.above,ok.inj,ok.has,ok.cab,ok.hd,ok.frames,ok.stk,ok.exf,ok.bs,ok.bsz,ok.noex,ok.exfs,ok.funs,ok.frf⟩
section
variable {X:Cx} {pins:List (Addr × Obj)} {σ:St} {H:Hp} {s:Shared} {E:Value->Shared->Prop}
theorem Inv.wish (I:Inv X pins σ H s) (E:Value->Shared->Prop):Inv (X.wish E) pins σ H s:=⟨I.ok.wish E,I.os,I.bare,I.base,I.loc,I.cell,I.free,I.freeC,I.pin,I.hok,I.len⟩
theorem Inv.unwish (I:Inv (X.wish E) pins σ H s):Inv X pins σ H s:=⟨I.ok.unwish,I.os,I.bare,I.base,I.loc,I.cell,I.free,I.freeC,I.pin,I.hok,I.len⟩
theorem SP.unwish {D:Ends} {f:Flow} {s':Shared} (h:SP (X.wish E) pins D f s'):SP X pins D f s':=by
  cases f with
  | next=>obtain ⟨σ',H',I,q⟩:=h;exact ⟨σ',H',I.unwish,q⟩
  | brk=>obtain ⟨σ',H',I,q⟩:=h;exact ⟨σ',H',I.unwish,q⟩
  | cont=>obtain ⟨σ',H',I,q⟩:=h;exact ⟨σ',H',I.unwish,q⟩
  | ret u=>obtain ⟨v,σ',H',I,r,q⟩:=h;exact ⟨v,σ',H',I.unwish,r,q⟩
theorem PSs.nox {st:List Stmt} {t:TS} (h:PSs X.nox st t):PSs X st t:=λ pins s σ H D I hw=>
  wpAny_mono (h pins s σ H D (I.wish _) hw) (λ _ _ q=>q.unwish) λ _ _ z=>False.elim z
end
section
variable {X:Cx} {st:Stmt} {rest:List Stmt} {t u:TS} {e:Expr} {te:TE} {pos:Pos}
def y3q:TS:=λ D σ H=>D.nx σ H
def tSeq (t u:TS):TS:=λ D σ H=>t { D with nx:=u D } σ H
theorem sIq:PSs X [] y3q:=λ _ _ σ H _ I h=>wpAny_execs_nil ⟨σ,H,I,h⟩
theorem pKq (h1:PS X st t) (h2:PSs X rest u):PSs X (st::rest) (tSeq t u):=by
  intro pins s σ H D I h
  refine wpAny_execs_cons (thn (h1 pins s σ H { D with nx:=u D } I h) λ f s1 q=>?_)
  cases f with
  | next=>
    obtain ⟨σ',H',I',q⟩:=q
    exact h2 pins s1 σ' H' D I' q
  | ret v=>exact q
  | brk=>exact q
  | cont=>exact q
theorem rOq (h1:PS X st t):PSs X [st] t:=by
  intro pins s σ H D I h
  refine wpAny_execs_cons (thn (h1 pins s σ H D I h) λ f s1 q=>?_)
  cases f with
  | next=>exact wpAny_execs_nil q
  | ret v=>exact q
  | brk=>exact q
  | cont=>exact q
theorem Inv.quiet {pins:List (Addr × Obj)} {σ:St} {H:Hp} {s:Shared} (I:Inv X pins σ H s):interactive X.env=false:=by simp [interactive,I.ok.kind]
def wIq (te:TE):TS:=λ D σ H=>te σ H λ _ H1=>D.nx σ H1
theorem tCq (he:PE X e te) (hs:swapsWith e none pos.line X.env=pure false:=by rfl):PS X (.Expr e pos) (wIq te):=by
  intro pins s σ H D I h
  exact wpAny_Expr_any (thn (he pins s σ H _ I h) λ v s1 ⟨x,H1,I1,r1,q1⟩=>⟨σ,H1,I1,q1⟩) I.quiet hs
def tRet (te:TE):TS:=λ D σ H=>te σ H D.rt
theorem x7q (he:PE X e te):PS X (.Return (some e) pos) (tRet te):=by
  intro pins s σ H D I h
  exact wpAny_Return_some (thn (he pins s σ H _ I h) λ v s1 ⟨x,H1,I1,r1,q1⟩=>⟨x,σ,H1,I1,r1,q1⟩)
def tIfS (c:TT) (t u:TS):TS:=λ D σ H=>c σ H λ b H1=>if b=true then t D σ H1 else u D σ H1
theorem zIq {c:Expr} {a b:List Stmt} {tc:TT} (hc:PT X c tc) (ha:PSs X a t) (hb:PSs X b u):PS X (.If c a b pos) (tIfS tc t u):=by
  intro pins s σ H D I h
  refine wpAny_If (thn (hc pins s σ H _ I h) λ d s1 ⟨H1,I1,q1⟩=>?_)
  cases d with
  | true=>exact ha pins s1 σ H1 D I1 q1
  | false=>exact hb pins s1 σ H1 D I1 q1
end
abbrev TG:=V->St->Hp->(St->Hp->Prop)->Prop
abbrev TGs:=List V->St->Hp->(St->Hp->Prop)->Prop
def PG (X:Cx) (target:Expr) (t:TG):Prop:=
  ∀ (pins:List (Addr × Obj)) (s:Shared) (σ:St) (H:Hp) (v:V) (u:Value) (Q:St->Hp->Prop),Inv X pins σ H s->RelV v u->t v σ H Q →
    wpAny (model X.prog X.w) X.A (assign target X.env u) (λ _ s'=>∃ σ' H',Inv X pins σ' H' s'/\Q σ' H') X.xe s
def PGs (X:Cx) (ts:List Expr) (t:TGs):Prop:=
  ∀ (pins:List (Addr × Obj)) (s:Shared) (σ:St) (H:Hp) (vs:List V) (us:List Value) (Q:St->Hp->Prop),Inv X pins σ H s->Vals vs us->t vs σ H Q →
    wpAny (model X.prog X.w) X.A (assignInOrder ((assignEach ts X.env).map (·.2)) us) (λ _ s'=>∃ σ' H',Inv X pins σ' H' s'/\Q σ' H') X.xe s
abbrev uVq:=V->V->V->Hp->(Hp->Prop)->Prop
def zOq (X:Cx) (t:uVq):Prop:=
  ∀ (pins:List (Addr × Obj)) (s:Shared) (σ:St) (H:Hp) (o i v:V) (ov iv u:Value) (Q:Hp->Prop),Inv X pins σ H s->RelV o ov->RelV i iv->RelV v u->t o i v H Q →
    wpAny (model X.prog X.w) X.A (setItem ov iv u) (λ _ s'=>∃ H',Inv X pins σ H' s'/\Q H') X.xe s
section
variable {X:Cx} {pos:Pos}
def kZq (i:Nat):TG:=λ v σ H Q=>Q (σ.set i (some v)) H
theorem tYq {i:Nat} {x:Str} (hN:X.N.Nodup) (hi:X.N[i]?=some x) (hx:Loc X.env.scope x) (hf:X.fn x=true\/X.env.scope.names.lookup x=some .local:=by first | exact .inl rfl | exact .inr rfl | assumption):PG X (.Name x pos) (kZq i):=by
  intro pins s σ H v u Q I r h
  exact wpAny_assign_Name (kWq I hN hi hx r (λ s' I'=>⟨_,H,I',h⟩) hf)
def gNil:TGs:=λ vs σ H Q=>vs=[]/\Q σ H
def uGq (t:TG) (u:TGs):TGs:=λ vs σ H Q=>∃ v r,vs=v::r/\t v σ H λ σ' H'=>u r σ' H' Q
theorem sPq:PGs X [] gNil:=by
  intro pins s σ H vs us Q I r h
  obtain ⟨e,h⟩:=h
  subst e
  cases r
  exact assignInOrder_nil ⟨σ,H,I,h⟩
theorem p5q {e:Expr} {es:List Expr} {t:TG} {u:TGs} (h1:PG X e t) (h2:PGs X es u)
    (hs:(assignEach (e::es) X.env).map (·.2)=assign e X.env::(assignEach es X.env).map (·.2):=by rfl):PGs X (e::es) (uGq t u):=by
  intro pins s σ H vs us Q I r h
  obtain ⟨v,vr,e1,h⟩:=h
  subst e1
  cases r with
  | cons r rr=>
    rw [hs]
    refine assignInOrder_cons (thn (h1 pins s σ H _ _ _ I r h) λ _ s1 ⟨σ1,H1,I1,q1⟩=>?_)
    exact h2 pins s1 σ1 H1 _ _ Q I1 rr q1
def gTup (K:PySem.W.Frag) (n:Nat) (t:TGs):TG:=λ v σ H Q=>∃ a xs,v=.ref a/\SqT K H a xs/\xs.length=n/\t xs σ H Q
theorem wMq {es:List Expr} {k:Nat} {t:TGs} {n:Nat} (hc:X.calm=true) (h:PGs X es t)
    (hn:(assignEach es X.env).length=n:=by rfl) (hst:(assignEach es X.env).findIdx? (·.1)=none:=by rfl):PG X (.Tuple es k pos) (gTup X.K n t):=by
  intro pins s σ H v u Q I r hw
  obtain ⟨a,xs,e1,hq,hl,hw⟩:=hw
  subst e1
  cases r
  obtain ⟨its,rv,ht,hz⟩:=I.tuple hq
  refine assign_Tuple_tuple (I.ok.hd hc) ht (by simp [hn,<- hl,rv.length]) hst λ h' hx=>?_
  have I1:Inv X pins σ H { s with heap:=h' }:=I.kept (t':=s.toks) λ b o e=>hx b o (Nat.ne_of_lt (Heap.lt_size e)) e
  exact h pins _ σ H xs _ Q I1 (by simpa using rv) hw
def gSub (to ti:TE) (t:uVq):TG:=λ v σ H Q=>to σ H λ o H1=>ti σ H1 λ i H2=>t o i v H2 λ H3=>Q σ H3
theorem v4q {o i:Expr} {to ti:TE} {t:uVq} (ho:PE X o to) (hi:PE X i ti) (hs:zOq X t)
    (ha:∀ v,assign (.Subscript o i pos) X.env v=(do
      let ov ← holding [v] (eval o X.env)
      let iv ← holding [v,ov] (eval i X.env)
      standAt pos
      holding [v,ov,iv] (setItem ov iv v)
      release [v,ov,iv] []):=by intro _;rfl):PG X (.Subscript o i pos) (gSub to ti t):=by
  intro pins s σ H v u Q I r h
  rw [ha]
  refine wpAny_bind (wpAny_holding (thn (ho pins s σ H _ I h) λ ov s1 ⟨x,H1,I1,r1,q1⟩=>?_))
  refine wpAny_bind (wpAny_holding (thn (hi pins s1 σ H1 _ I1 q1) λ iv s2 ⟨y,H2,I2,r2,q2⟩=>?_))
  refine wpAny_bind (wpAny_standAt (wpAny_bind (wpAny_holding (thn (hs pins s2 σ H2 x y v ov iv u _ I2 r1 r2 r q2) λ _ s3 ⟨H3,I3,q3⟩=>?_))))
  exact wpAny_release ⟨σ,H3,I3,q3⟩
def u3q (te:TE) (g:TG):TS:=λ D σ H=>te σ H λ x H1=>g x σ H1 D.nx
theorem vAq {tg e:Expr} {te:TE} {g:TG} (he:PE X e te) (hg:PG X tg g) (hs:swapsWithSole [tg] e pos.line X.env=pure false:=by rfl) (hw:swappedStores [tg] e X.env=pure none:=by rfl)
    (h1:(assignEach [tg] X.env).map (·.2)=[assign tg X.env]:=by rfl):PS X (.Assign [tg] e pos) (u3q te g):=by
  intro pins s σ H D I h
  refine wpAny_Assign_stores (thn (he pins s σ H _ I h) λ v s1 ⟨x,H1,I1,r1,q1⟩=>?_) hs hw
  rw [h1]
  exact thn (hg pins s1 σ H1 x v _ I1 r1 q1) λ _ s2 q=>q
theorem vBq {i:Nat} {x:Str} {e:Expr} {te:TE} {pos':Pos} (hN:X.N.Nodup) (hi:X.N[i]?=some x) (hx:Loc X.env.scope x) (he:PE X e te) (hs:swapsWith e (some (.Name x pos')) pos.line X.env=pure false:=by rfl) (hf:X.fn x=true\/X.env.scope.names.lookup x=some .local:=by first | exact .inl rfl | exact .inr rfl | assumption) :
    PS X (.Assign [.Name x pos'] e pos) (u3q te (kZq i)):=by
  intro pins s σ H D I h
  refine wpAny_Assign_Name (thn (he pins s σ H _ I h) λ v s1 ⟨y,H1,I1,r1,q1⟩=>?_) hs
  exact kWq I1 hN hi hx r1 (λ s2 I2=>⟨_,H1,I2,q1⟩) hf
end
section
variable {X:Cx} {pos:Pos}
def q8q (c:TT) (tb:TS):TS:=λ D σ H=>∃ W:Nat->St->Hp->Prop,(∃ m,W m σ H)/\∀ m σ H,W m σ H →
  c σ H λ b H1=>if b=true then ∃ N:St->Hp->Prop,(∀ σ' H',N σ' H'->∃ m',m' < m/\W m' σ' H')/\tb { D with nx:=N,ct:=N,bk:=D.nx } σ H1 else D.nx σ H1
theorem oVq {c:Expr} {body:List Stmt} {tc:TT} {tb:TS} (hp:PassesOwn (model X.prog X.w) X.A X.env X.xe) (hc:PT X c tc) (hb:PSs X body tb):PS X (.While c body [] pos) (q8q tc tb):=by
  intro pins s σ H D I h
  obtain ⟨W,⟨m0,w0⟩,turn⟩:=h
  refine wpAny_While (codeAny_whileLoop (λ n s'=>∃ σ' H',Inv X pins σ' H' s'/\W n σ' H') ?_ m0 ⟨σ,H,I,w0⟩)
  rintro n s1 ⟨σ1,H1,I1,w1⟩
  refine wpAny_passesOwn hp (thn (hc pins s1 σ1 H1 _ I1 (turn n σ1 H1 w1)) λ b s2 ⟨H2,I2,q2⟩=>?_)
  cases b with
  | true=>
    obtain ⟨N,hN,q2⟩:=q2
    rw [if_pos rfl]
    refine wpAny_passesOwn hp (thn (hb pins s2 σ1 H2 _ I2 q2) λ f s3 q3=>?_)
    cases f with
    | next=>
      obtain ⟨σ3,H3,I3,n3⟩:=q3
      obtain ⟨m',hm,w3⟩:=hN σ3 H3 n3
      exact ⟨m',hm,σ3,H3,I3,w3⟩
    | cont=>
      obtain ⟨σ3,H3,I3,n3⟩:=q3
      obtain ⟨m',hm,w3⟩:=hN σ3 H3 n3
      exact ⟨m',hm,σ3,H3,I3,w3⟩
    | brk=>exact q3
    | ret v=>exact q3
  | false=>
    rw [if_neg Bool.false_ne_true]
    exact wpAny_execs_nil ⟨σ1,H2,I2,q2⟩
end
structure It where
  go:Nat->Hp->Prop
  yld:Nat->Hp->V->Hp->Prop
  stop:Nat->Hp->Prop
def iTq (X:Cx) (pins:List (Addr × Obj)) (H:Hp) (b:Addr):Prop:=
  H b=none/\b≠X.env.locals/\b ∉ X.fs/\(b∈X.ex\/X.s₀.heap.objs.size<=b)/\(∀ x c,X.env.cells.lookup x=some c->c≠b)/\∀ p∈X.pn++pins,p.1≠b
theorem Inv.fpOk {X:Cx} {pins:List (Addr × Obj)} {σ:St} {H H':Hp} {s:Shared} {b:Addr} (I:Inv X pins σ H s) (hb:s.heap.objs.size<=b) (hn:H' b=none):iTq X pins H' b:=by
  refine ⟨hn,Nat.ne_of_gt (Nat.lt_of_lt_of_le I.lt hb),I.nofs hb,.inr (Nat.le_trans I.sz hb),λ x c e z=>?_,λ p hp z=>?_⟩
  . obtain ⟨v,q⟩:=I.cell x c e
    exact absurd (Nat.lt_of_lt_of_le q.lt (by rw [z];exact hb)) (Nat.lt_irrefl _)
  . exact absurd (Nat.lt_of_lt_of_le (Heap.lt_size (I.pin p hp).1) (by rw [z];exact hb)) (Nat.lt_irrefl _)
structure Turn (P:Program) (w:World) (K:PySem.W.Frag) (tg:Expr) (J:It) (fp:List Addr) (it:Addr) (tn:Nat->Heap->Prop):Prop where
  mem:it∈fp
  obj:∀ i h,tn i h->∀ b∈fp,∃ o,h.get? b=some o/\∀ v,o.data≠.cell v
  keep:∀ i h h',tn i h->(∀ b∈fp,∀ o,h.get? b=some o->h'.get? b=some o)->tn i h'
  item:∀ (X:Cx),X.prog=P->X.w=w->X.K=K->X.calm=true->∀ (i:Nat) (pins:List (Addr × Obj)) (s:Shared) (σ:St) (H:Hp) (E:Value->Shared->Prop),Inv X pins σ H s->(∀ b∈fp,iTq X pins H b)->tn i s.heap->J.go i H →
    wpAny (model P w) X.A (pyNext (.ref it)) (λ r s1=>∃ u,r=some u ∧
      wpAny (model P w) X.A (letOwnedTupleGo tg (.ref it) u) (λ _ s2=>∃ x H',Inv X pins σ H' s2/\RelV x u/\J.yld i H x H'/\tn (i+1) s2.heap/\∀ b∈fp,H' b=none) E s1) E s
  done:∀ (X:Cx),X.prog=P->X.w=w->X.K=K->X.calm=true->∀ (i:Nat) (pins:List (Addr × Obj)) (s:Shared) (σ:St) (H:Hp) (E:Value->Shared->Prop),Inv X pins σ H s->(∀ b∈fp,iTq X pins H b)->tn i s.heap->J.stop i H →
    wpAny (model P w) X.A (pyNext (.ref it)) (λ r s1=>r=none/\Inv X pins σ H s1) E s
  self:∀ (A:Around) (i:Nat) (s:Shared) (Q:Value->Shared->Prop) (E:Value->Shared->Prop),tn i s.heap->Q (.ref it) s->wpAny (model P w) A (pyIter (.ref it)) Q E s
abbrev TI:=St->Hp->(It->Hp->Prop)->Prop
def PIE (X:Cx) (pins:List (Addr × Obj)) (σ:St) (tg:Expr) (R:It->Hp->Prop) (itv:Value) (s2:Shared):Prop:=
  ∃ (it:Addr) (fp:List Addr) (tn:Nat->Heap->Prop) (J:It) (H':Hp),itv=.ref it/\Inv X pins σ H' s2/\Turn X.prog X.w X.K tg J fp it tn/\tn 0 s2.heap/\(∀ b∈fp,iTq X pins H' b)/\R J H'
def PI (X:Cx) (tg iter:Expr) (wi:TI):Prop:=
  ∀ (pins:List (Addr × Obj)) (s:Shared) (σ:St) (H:Hp) (R:It->Hp->Prop),Inv X pins σ H s->wi σ H R →
    wpAny (model X.prog X.w) X.A (eval iter X.env) (λ v s1=>wpAny (model X.prog X.w) X.A (pyIter v) (PIE X pins σ tg R) X.xe s1) X.xe s
theorem nZq {M:Model} {A:Around} {E:Value->Shared->Prop} {s:Shared} {tg:Expr} {it:Addr} {u:Value} {o:Obj} {n:String} {vs:Array Value} {Q:Unit->Shared->Prop} (ho:s.heap.get? it=some o) (hc:o.cls=.type n) (hd:o.data=.fields vs)
    (hn:["enumerate", "zip", "dict_itemiterator", "dict_reverseitemiterator", "odict_iterator", "itertools.zip_longest", "itertools.pairwise"].contains n=false) (hQ:Q () s):wpAny M A (letOwnedTupleGo tg (.ref it) u) Q E s:=by
  unfold letOwnedTupleGo
  cases tg<;>first
    | exact wpAny_pure hQ
    | (cases u<;>first
        | exact wpAny_pure hQ
        | (refine wpAny_bind (wpAny_load ho ?_)
           rw [hc,hd]
           show wpAny M A (if (["enumerate", "zip", "dict_itemiterator", "dict_reverseitemiterator", "odict_iterator", "itertools.zip_longest", "itertools.pairwise"].contains n&&vs[0]?==some (rawInt _))=true then _ else _) Q E s
           rw [if_neg (by intro h;rw [hn,Bool.false_and] at h;cases h)]
           exact wpAny_pure hQ))
def Itl (K:PySem.W.Frag) (a:Addr):It:=
  ⟨λ i H=>∃ xs x,SqL K H a xs/\xs[i]?=some x,λ i H x H'=>H'=H/\∀ xs,SqL K H a xs->xs[i]?=some x,λ i H=>∃ xs,SqL K H a xs/\xs.length<=i⟩
def Itt (K:PySem.W.Frag) (a:Addr):It:=
  ⟨λ i H=>∃ xs x,SqT K H a xs/\xs[i]?=some x,λ i H x H'=>H'=H/\∀ xs,SqT K H a xs->xs[i]?=some x,λ i H=>∃ xs,SqT K H a xs/\xs.length<=i⟩
def Itr (lo:Int) (n:Nat):It:=⟨λ i _=>i < n,λ i H x H'=>H'=H/\x=.int (lo+i),λ i _=>n<=i⟩
theorem n3q {P:Program} {w:World} {K:PySem.W.Frag} {tg:Expr} (a it:Addr):Turn P w K tg (Itl K a) [it] it (λ i h=>h.IsListIter it a i) where
  mem:=by simp
  obj:=λ i h st b hb=>by
    have e:b=it:=by simpa using hb
    subst e
    obtain ⟨o,e,c,d⟩:=st
    exact ⟨o,e,λ v z=>by rw [d] at z;cases z⟩
  keep:=λ i h h' st k=>st.at λ o e=>k it (by simp) o e
  item:=by
    intro X hP hw hK hc i pins s σ H E I hf st hg
    subst hP hw hK
    obtain ⟨xs,x,hq,hx⟩:=hg
    obtain ⟨its,rv,p,hz⟩:=I.list hq
    obtain ⟨u,hu,ru⟩:=rv.get hx
    obtain ⟨f0,f1,f2,f3,f4,f5⟩:=hf it (by simp)
    refine wpAny_pyNext_list_item st p.isList (x:=u) (by simpa using hu) λ h' st' sb=>?_
    have I1:Inv X pins σ H { s with heap:=h' }:=I.turned (t':=s.toks) (λ b o hb e=>(sb.2 b hb).trans e) f0 f1 f3 f4 f5
    obtain ⟨o,e,c,d⟩:=id st'
    exact ⟨u,rfl,nZq (s:={ s with heap:=h' }) e c d (by decide) ⟨x,H,I1,ru,⟨rfl,λ ys hy=>by rw [I.list_inj hy hq];exact hx⟩,st',λ b hb=>(hf b hb).1⟩⟩
  done:=by
    intro X hP hw hK hc i pins s σ H E I hf st hg
    subst hP hw hK
    obtain ⟨xs,hq,hx⟩:=hg
    obtain ⟨its,rv,p,hz⟩:=I.list hq
    obtain ⟨f0,f1,f2,f3,f4,f5⟩:=hf it (by simp)
    have hl:=rv.length
    exact wpAny_pyNext_list_end (I.ok.hd hc) st p.isList (by simp;omega) λ h' eb=>⟨rfl,I.turned (t':=s.toks) (λ b o hb e=>eb b o hb e) f0 f1 f3 f4 f5⟩
  self:=λ _ _ _ _ _ st h=>wpAny_pyIter_listiter st h
theorem l3q {P:Program} {w:World} {K:PySem.W.Frag} {tg:Expr} (a it:Addr):Turn P w K tg (Itt K a) [it] it (λ i h=>h.IsTupleIter it a i) where
  mem:=by simp
  obj:=λ i h st b hb=>by
    have e:b=it:=by simpa using hb
    subst e
    obtain ⟨o,e,c,d⟩:=st
    exact ⟨o,e,λ v z=>by rw [d] at z;cases z⟩
  keep:=λ i h h' st k=>st.at λ o e=>k it (by simp) o e
  item:=by
    intro X hP hw hK hc i pins s σ H E I hf st hg
    subst hP hw hK
    obtain ⟨xs,x,hq,hx⟩:=hg
    obtain ⟨its,rv,p,hz⟩:=I.tuple hq
    obtain ⟨u,hu,ru⟩:=rv.get hx
    obtain ⟨f0,f1,f2,f3,f4,f5⟩:=hf it (by simp)
    refine wpAny_pyNext_tuple_item st (show s.heap.IsTuple a its.toArray from p) (x:=u) (by simpa using hu) λ h' st' sb=>?_
    have I1:Inv X pins σ H { s with heap:=h' }:=I.turned (t':=s.toks) (λ b o hb e=>(sb.2 b hb).trans e) f0 f1 f3 f4 f5
    obtain ⟨o,e,c,d⟩:=id st'
    exact ⟨u,rfl,nZq (s:={ s with heap:=h' }) e c d (by decide) ⟨x,H,I1,ru,⟨rfl,λ ys hy=>by rw [I.tuple_inj hy hq];exact hx⟩,st',λ b hb=>(hf b hb).1⟩⟩
  done:=by
    intro X hP hw hK hc i pins s σ H E I hf st hg
    subst hP hw hK
    obtain ⟨xs,hq,hx⟩:=hg
    obtain ⟨its,rv,p,hz⟩:=I.tuple hq
    obtain ⟨f0,f1,f2,f3,f4,f5⟩:=hf it (by simp)
    have hl:=rv.length
    exact wpAny_pyNext_tuple_end (I.ok.hd hc) st (show s.heap.IsTuple a its.toArray from p) (by simp;omega) λ h' eb=>⟨rfl,I.turned (t':=s.toks) (λ b o hb e=>eb b o hb e) f0 f1 f3 f4 f5⟩
  self:=λ _ _ _ _ _ st h=>wpAny_pyIter_tupleiter st h
theorem lEq {P:Program} {w:World} {K:PySem.W.Frag} {tg:Expr} (it:Addr) (lo:Int) (n:Nat):Turn P w K tg (Itr lo n) [it] it (λ i h=>IsRangeIter h it (lo+(i:Nat) * 1) ((n:Int) - (i:Nat)) 1) where
  mem:=by simp
  obj:=λ i h st b hb=>by
    have e:b=it:=by simpa using hb
    subst e
    exact ⟨_,st,λ v z=>by
      have z':Data.fields _=Data.cell v:=z
      cases z'⟩
  keep:=λ i h h' st k=>k it (by simp) _ st
  item:=by
    intro X hP hw hK hc i pins s σ H E I hf st hg
    subst hP hw hK
    obtain ⟨f0,f1,f2,f3,f4,f5⟩:=hf it (by simp)
    have W:=Walks.range (prog:=X.prog) (w:=X.w) (I.ok.hd hc) it lo 1 n
    refine W.item i s _ _ hg st λ v h' tk hv st' kk=>?_
    obtain ⟨t,rfl⟩:=hv
    have I1:Inv X pins σ H { s with heap:=h',toks:=tk }:=I.turned (λ b o hb e=>kk b o (by simpa using hb) e) f0 f1 f3 f4 f5
    refine ⟨_,rfl,nZq (s:={ s with heap:=h',toks:=tk }) (n:="range_iterator") st' rfl rfl (by decide) ⟨.int (lo+i),H,I1,⟨t,?_⟩,⟨rfl,rfl⟩,st',λ b hb=>(hf b hb).1⟩⟩
    rw [Int.mul_one]
  done:=by
    intro X hP hw hK hc i pins s σ H E I hf st hg
    subst hP hw hK
    obtain ⟨f0,f1,f2,f3,f4,f5⟩:=hf it (by simp)
    exact wpAny_pyNext_range_end (I.ok.hd hc) st (by have:n<=i:=hg;omega) λ h' eb=>⟨rfl,I.turned (t':=s.toks) (λ b o hb e=>eb b o hb e) f0 f1 f3 f4 f5⟩
  self:=λ _ _ _ _ _ st h=>wpAny_pyIter_rangeiter st h
section
variable {X:Cx} {tg:Expr}
theorem kOq {pins:List (Addr × Obj)} {σ:St} {H:Hp} {s:Shared} {R:It->Hp->Prop} {E:Value->Shared->Prop} {lo hi:Int} {t u v:Tok} {tk:Nat} (I:Inv X pins σ H s) (h1:-(2 ^ 62)<=lo) (h2:lo < 2 ^ 62) (h3:-(2 ^ 62)<=hi) (h4:hi < 2 ^ 62)
    (q:R (Itr lo (hi - lo).toNat) H):wpAny (model X.prog X.w) X.A (pyIter (.ref s.heap.objs.size)) (PIE X pins σ tg R) E { s with heap:=s.heap.push { cls:=.type "range", data:=.fields #[.int lo t,.int hi u,.int 1 v] },toks:=tk }:=by
  refine wpAny_pyIter_range (IsRange.new ..) (small_one h1 h2 h3 h4) ?_
  have I1:Inv X pins σ H { s with heap:=s.heap.push { cls:=.type "range", data:=.fields #[.int lo t,.int hi u,.int 1 v] },toks:=tk }:=I.kept λ b o e=>Heap.get?_push_of_some _ e
  refine ⟨(s.heap.push { cls:=.type "range", data:=.fields #[.int lo t,.int hi u,.int 1 v] }).objs.size,[(s.heap.push { cls:=.type "range", data:=.fields #[.int lo t,.int hi u,.int 1 v] }).objs.size],_,_,H,rfl,
    I1.kept (t':=tk) λ b o e=>Heap.get?_push_of_some _ e,lEq _ lo (hi - lo).toNat,?_,λ b hb=>?_,q⟩
  . have e1:lo+((0:Nat):Int) * 1=lo:=by simp
    have e2:(((hi - lo).toNat:Nat):Int) - ((0:Nat):Int)=Builtin.Range.rangeSize lo hi 1:=by rw [rangeSize_one];split<;>omega
    show IsRangeIter _ _ (lo+((0:Nat):Int) * 1) ((((hi - lo).toNat:Nat):Int) - ((0:Nat):Int)) 1
    rw [e1,e2]
    exact Heap.get?_push_size _ rfl
  . have e:b=(s.heap.push { cls:=.type "range", data:=.fields #[.int lo t,.int hi u,.int 1 v] }).objs.size:=by simpa using hb
    subst e
    exact I1.fpOk (Nat.le_refl _) (I1.hok.fresh (Nat.le_refl _))
def xRq (ta:TA):TI:=λ σ H R=>ta σ H λ vs H1=>∃ j:Int,vs=[.int j]/\-(2 ^ 62)<=j/\j < 2 ^ 62/\R (Itr 0 j.toNat) H1
def uKq (ta:TA):TI:=λ σ H R=>ta σ H λ vs H1=>∃ i j:Int,vs=[.int i,.int j]/\(-(2 ^ 62)<=i/\i < 2 ^ 62/\-(2 ^ 62)<=j/\j < 2 ^ 62)/\R (Itr i (j - i).toNat) H1
theorem mFq {a:Expr} {ta:TA} {p pos:Pos} (hg:Gl X "range") (hm:X.mg "range" = none) (ha:PA X [a] ta) (hs:starEach [a] X.env=[(false,eval a X.env)]:=by rfl):PI X tg (.Call (.Name "range" p) [a] [] pos) (xRq ta):=by
  intro pins s σ H R I h
  refine Call_ (cMq I hg hm boot_range (PyProof.Rows.callWith_type1 (thn (ha pos pins s σ H _ I h) λ us s1 ⟨vs,H1,I1,r1,q1⟩=>?_) hs rfl))
  obtain ⟨j,e,q1,q2,q⟩:=q1
  subst e
  cases r1 with
  | cons r rr=>
    cases rr
    obtain ⟨t,rfl⟩:=r
    exact call_range_1 (kOq I1 (by omega) (by omega) q1 q2 (by simpa using q))
theorem nNq {a b:Expr} {ta:TA} {p pos:Pos} (hg:Gl X "range") (hm:X.mg "range" = none) (ha:PA X [a,b] ta) (hs:starEach [a,b] X.env=[(false,eval a X.env),(false,eval b X.env)]:=by rfl) (hs2:starEach [b] X.env=[(false,eval b X.env)]:=by rfl) :
    PI X tg (.Call (.Name "range" p) [a,b] [] pos) (uKq ta):=by
  intro pins s σ H R I h
  refine Call_ (cMq I hg hm boot_range (PyProof.Rows.callWith_type1 (thn (ha pos pins s σ H _ I h) λ us s1 ⟨vs,H1,I1,r1,q1⟩=>?_) (by rw [hs,hs2]) (by rw [hs2];rfl)))
  obtain ⟨i,j,e,⟨q1,q2,q3,q4⟩,q⟩:=q1
  subst e
  cases r1 with
  | cons r rr=>
    cases rr with
    | cons r' rr=>
      cases rr
      obtain ⟨t,rfl⟩:=r
      obtain ⟨t',rfl⟩:=r'
      exact call_range_2 (kOq I1 q1 q2 q3 q4 q)
def tFor (wi:TI) (g:TG) (tb:TS):TS:=λ D σ H=>wi σ H λ J H1=>∃ W:Nat->Nat->St->Hp->Prop,(∃ m,W 0 m σ H1)/\∀ i m σ H,W i m σ H →
  (J.stop i H/\D.nx σ H)\/(J.go i H/\∃ N:St->Hp->Prop,(∀ σ' H',N σ' H'->∃ m',m' < m/\W (i+1) m' σ' H')/\∀ x H',J.yld i H x H'->g x σ H' λ σ2 H2=>tb { D with nx:=N,ct:=N,bk:=D.nx } σ2 H2)
def jZq (fp:List Addr) (h:Heap):List (Addr × Obj):=fp.filterMap λ b=>(h.get? b).map λ o=>(b,o)
theorem bUq {fp:List Addr} {h:Heap} {b:Addr} {o:Obj} (hb:b∈fp) (e:h.get? b=some o):(b,o)∈jZq fp h:=List.mem_filterMap.mpr ⟨b,hb,by rw [e];rfl⟩
theorem mEq {fp:List Addr} {h:Heap} {p:Addr × Obj} (hp:p∈jZq fp h):p.1∈fp/\h.get? p.1=some p.2:=by
  obtain ⟨b,hb,e⟩:=List.mem_filterMap.mp hp
  cases q:h.get? b with
  | none=>rw [q] at e;cases e
  | some o=>
    rw [q] at e
    have e':(b,o)=p:=Option.some.inj e
    subst e'
    exact ⟨hb,q⟩
theorem Inv.pinned {pins:List (Addr × Obj)} {σ:St} {H:Hp} {s:Shared} {fp:List Addr} (I:Inv X pins σ H s) (hf:∀ b∈fp,iTq X pins H b) (ho:∀ b∈fp,∃ o,s.heap.get? b=some o/\∀ v,o.data≠.cell v):Inv X (pins++jZq fp s.heap) σ H s:=
  I.pins_of λ p hp=>(List.mem_append.mp hp).elim (λ z=>I.pin p (List.mem_append_right _ z)) λ z=>by
    obtain ⟨hb,e⟩:=mEq z
    obtain ⟨f0,f1,f2,_⟩:=hf p.1 hb
    obtain ⟨o,e',d⟩:=ho p.1 hb
    rw [e] at e';cases e'
    exact ⟨e,f0,f1,f2,d⟩
theorem Inv.unpinned {pins pl:List (Addr × Obj)} {σ:St} {H:Hp} {s:Shared} (I:Inv X (pins++pl) σ H s):Inv X pins σ H s:=I.pins_of λ p hp=>I.pin p (List.mem_append_right _ (List.mem_append_left _ hp))
theorem wYq {iter:Expr} {body:List Stmt} {wi:TI} {g:TG} {tb:TS} {pos:Pos} (hp:PassesOwn (model X.prog X.w) X.A X.env X.xe) (hc:X.calm=true) (hi:PI X tg iter wi) (hg:PG X tg g) (hb:PSs X body tb)
    (hs:∀ x,foldedSetIterable iter X.env x=pure x:=by intro _;rfl):PS X (.For tg iter body [] pos) (tFor wi g tb):=by
  intro pins s σ H D I h
  refine wpAny_For (thn (hi pins s σ H _ I h) λ v s1 h1=>thn h1 λ itv s2 h2=>?_) hs
  obtain ⟨it,fp,tn,J,H2,e,I2,T,st2,f2,W,⟨m0,w0⟩,turn⟩:=h2
  subst e
  have stat:∀ {H':Hp},(∀ b∈fp,H' b=none)->∀ b∈fp,iTq X pins H' b:=λ hn b hb=>⟨hn b hb,(f2 b hb).2⟩
  refine codeAny_forLoop_any (λ n s'=>∃ i σ' H',Inv X pins σ' H' s'/\tn i s'.heap/\(∀ b∈fp,H' b=none)/\W i n σ' H') ?_ m0 ⟨0,σ,H2,I2,st2,λ b hb=>(f2 b hb).1,w0⟩
  rintro n s3 ⟨i,σ3,H3,I3,st3,fr3,w3⟩
  rcases turn i n σ3 H3 w3 with ⟨stop,qn⟩ | ⟨go,N,hN,step⟩
  . refine wpAny_passesOwn hp (thn (T.done X rfl rfl rfl hc i pins s3 σ3 H3 X.xe I3 (stat fr3) st3 stop) λ r s4 ⟨hr,I4⟩=>?_)
    subst hr
    exact wpAny_execs_nil ⟨σ3,H3,I4,qn⟩
  . refine wpAny_passesOwn hp (thn (T.item X rfl rfl rfl hc i pins s3 σ3 H3 X.xe I3 (stat fr3) st3 go) λ r s4 ⟨u,hr,h4⟩=>?_)
    subst hr
    refine wpAny_passesOwn hp (thn h4 λ _ s5 ⟨x,H5,I5,r5,y5,st5,fr5⟩=>?_)
    have I5':=I5.pinned (stat fr5) (T.obj _ _ st5)
    refine wpAny_passesOwn hp (thn (hg _ s5 σ3 H5 x u _ I5' r5 (step x H5 y5)) λ _ s6 ⟨σ6,H6,I6,q6⟩=>?_)
    refine wpAny_passesOwn hp (thn (hb _ s6 σ6 H6 _ I6 q6) λ f s7 q7=>?_)
    have again:∀ {σ7:St} {H7:Hp},Inv X (pins++jZq fp s5.heap) σ7 H7 s7->N σ7 H7->∃ m,m < n/\∃ i σ' H',Inv X pins σ' H' s7/\tn i s7.heap/\(∀ b∈fp,H' b=none)/\W i m σ' H':=λ{σ7 H7} I7 n7=>by
      obtain ⟨m',hm,w7⟩:=hN σ7 H7 n7
      refine ⟨m',hm,i+1,σ7,H7,I7.unpinned,T.keep _ _ _ st5 λ b hb o e=>(I7.pin (b,o) (List.mem_append_right _ (List.mem_append_right _ (bUq hb e)))).1,λ b hb=>?_,w7⟩
      obtain ⟨o,e,d⟩:=T.obj _ _ st5 b hb
      exact (I7.pin (b,o) (List.mem_append_right _ (List.mem_append_right _ (bUq hb e)))).2.1
    cases f with
    | next=>obtain ⟨σ7,H7,I7,n7⟩:=q7;exact again I7 n7
    | cont=>obtain ⟨σ7,H7,I7,n7⟩:=q7;exact again I7 n7
    | brk=>obtain ⟨σ7,H7,I7,q7⟩:=q7;exact ⟨σ7,H7,I7.unpinned,q7⟩
    | ret v=>obtain ⟨x7,σ7,H7,I7,r7,q7⟩:=q7;exact ⟨x7,σ7,H7,I7.unpinned,r7,q7⟩
end
abbrev R2:=V->V->Hp->VK->Prop
def OpR (X:Cx) (f:Value->Value->Sem Value) (r:R2):Prop:=
  ∀ (pins:List (Addr × Obj)) (s:Shared) (σ:St) (H:Hp) (x y:V) (v u:Value) (Q:VK),Inv X pins σ H s->RelV x v->RelV y u->r x y H Q →
    wpAny (model X.prog X.w) X.A (f v u) (EP X pins σ Q) X.xe s
def UnR (X:Cx) (f:Value->Sem Value) (r:V->Hp->VK->Prop):Prop:=
  ∀ (pins:List (Addr × Obj)) (s:Shared) (σ:St) (H:Hp) (x:V) (v:Value) (Q:VK),Inv X pins σ H s->RelV x v->r x H Q →
    wpAny (model X.prog X.w) X.A (f v) (EP X pins σ Q) X.xe s
def CallR (X:Cx) (f:Value) (r:List V->Hp->VK->Prop):Prop:=
  ∀ (pins:List (Addr × Obj)) (s:Shared) (σ:St) (H:Hp) (xs:List V) (us:List Value) (Q:VK),Inv X pins σ H s->Vals xs us->r xs H Q →
    wpAny (model X.prog X.w) X.A (call f us) (EP X pins σ Q) X.xe s
def TruR (X:Cx) (r:V->Hp->(Bool->Hp->Prop)->Prop):Prop:=
  ∀ (pins:List (Addr × Obj)) (s:Shared) (σ:St) (H:Hp) (x:V) (v:Value) (Q:Bool->Hp->Prop),Inv X pins σ H s->RelV x v->r x H Q →
    wpAny (model X.prog X.w) X.A (truthy v) (TP X pins σ Q) X.xe s
def tOp (r:R2) (ta tb:TE):TE:=λ σ H Q=>ta σ H λ x H1=>tb σ H1 λ y H2=>r x y H2 Q
def tUn (r:V->Hp->VK->Prop) (ta:TE):TE:=λ σ H Q=>ta σ H λ x H1=>r x H1 Q
def rI (C:Int->Int->Prop) (g:Int->Int->V):R2:=λ x y H Q=>∃ i j,x=.int i/\y=.int j/\C i j/\Q (g i j) H
def rI0 (g:Int->Int->V):R2:=λ x y H Q=>∃ i j,x=.int i/\y=.int j/\Q (g i j) H
def rU (g:Int->V):V->Hp->VK->Prop:=λ x H Q=>∃ i,x=.int i/\Q (g i) H
section
variable {X:Cx} {a b c:Expr} {ta tb tc:TE} {pos:Pos}
theorem zJq (ha:PE X a ta) (hb:PE X b tb) {pins:List (Addr × Obj)} {s:Shared} {σ:St} {H:Hp} {R:V->V->Hp->Prop} (I:Inv X pins σ H s)
    (h:ta σ H λ x H1=>tb σ H1 λ y H2=>R x y H2) {Q:Value->Shared->Prop} {f:Value->Value->Sem Value}
    (hf:∀ v u s2 x y H2,Inv X pins σ H2 s2->RelV x v->RelV y u->R x y H2->wpAny (model X.prog X.w) X.A (f v u) Q X.xe s2) :
    wpAny (model X.prog X.w) X.A (eval a X.env) (λ v s₁=>wpAny (model X.prog X.w) X.A (eval b X.env) (λ u s₂=>wpAny (model X.prog X.w) X.A (f v u) Q X.xe s₂) X.xe s₁) X.xe s:=by
  refine thn (ha pins s σ H _ I h) λ v s1 ⟨x,H1,I1,r1,q1⟩=>?_
  refine thn (hb pins s1 σ H1 _ I1 q1) λ u s2 ⟨y,H2,I2,r2,q2⟩=>?_
  exact hf v u s2 x y H2 I2 r1 r2 q2
theorem aC9q {op:Operator} {r:R2} (ho:OpR X (binaryOp op) r) (ha:PE X a ta) (hb:PE X b tb):PE X (.BinOp a op b pos) (tOp r ta tb):=by
  intro pins s σ H Q I h
  exact wpAny_BinOp (zJq ha hb I h λ v u s2 x y H2 I2 rx ry q=>ho pins s2 σ H2 x y v u Q I2 rx ry q)
theorem aC0q {op:UnaryOp} {r:V->Hp->VK->Prop} (ho:UnR X (unaryOp op) r) (ha:PE X a ta):PE X (.UnaryOp op a pos) (tUn r ta):=by
  intro pins s σ H Q I h
  exact UnaryOp_ (thn (ha pins s σ H _ I h) λ v s1 ⟨x,H1,I1,r1,q1⟩=>ho pins s1 σ H1 x v Q I1 r1 q1)
theorem opI {f:Value->Value->Sem Value} {C:Int->Int->Prop} {g:Int->Int->Int}
    (rule:∀ (i j:Int) (t u:Tok) (s:Shared) (Q:Value->Shared->Prop) (E:Value->Shared->Prop),C i j->Q (.int (g i j) s.toks) { s with toks:=s.toks+1 }->wpAny (model X.prog X.w) X.A (f (.int i t) (.int j u)) Q E s) :
    OpR X f (rI C λ i j=>.int (g i j)):=by
  intro pins s σ H x y v u Q I rx ry h
  obtain ⟨i,j,rfl,rfl,hc,q⟩:=h
  obtain ⟨t,rfl⟩:=rx
  obtain ⟨t',rfl⟩:=ry
  exact rule i j t t' s _ _ hc ⟨.int (g i j),H,I.tok _,⟨_,rfl⟩,q⟩
theorem opI0 {f:Value->Value->Sem Value} {g:Int->Int->Int}
    (rule:∀ (i j:Int) (t u:Tok) (s:Shared) (Q:Value->Shared->Prop) (E:Value->Shared->Prop),Q (.int (g i j) s.toks) { s with toks:=s.toks+1 }->wpAny (model X.prog X.w) X.A (f (.int i t) (.int j u)) Q E s) :
    OpR X f (rI0 λ i j=>.int (g i j)):=by
  intro pins s σ H x y v u Q I rx ry h
  obtain ⟨i,j,rfl,rfl,q⟩:=h
  obtain ⟨t,rfl⟩:=rx
  obtain ⟨t',rfl⟩:=ry
  exact rule i j t t' s _ _ ⟨.int (g i j),H,I.tok _,⟨_,rfl⟩,q⟩
theorem yEq {f:Value->Value->Sem Value} {g:Int->Int->Bool}
    (rule:∀ (i j:Int) (t u:Tok) (s:Shared) (Q:Value->Shared->Prop) (E:Value->Shared->Prop),Q (.bool (g i j)) s->wpAny (model X.prog X.w) X.A (f (.int i t) (.int j u)) Q E s) :
    OpR X f (rI0 λ i j=>.bl (g i j)):=by
  intro pins s σ H x y v u Q I rx ry h
  obtain ⟨i,j,rfl,rfl,q⟩:=h
  obtain ⟨t,rfl⟩:=rx
  obtain ⟨t',rfl⟩:=ry
  exact rule i j t t' s _ _ ⟨.bl (g i j),H,I,rfl,q⟩
def CPow (i j:Int):Prop:=0<=j/\j<=1000000/\i.natAbs < 2 ^ 64
def CMul (i j:Int):Prop:=(-(2 ^ 64) < i/\i < 2 ^ 64)\/(-(2 ^ 64) < j/\j < 2 ^ 64)
theorem CMul.ok {i j:Int} (h:CMul i j):IntMulOk i j:=by
  rcases h with ⟨h1,h2⟩ | ⟨h1,h2⟩
  . exact .of_left (intBits_le_64 h1 h2)
  . exact .of_right (intBits_le_64 h1 h2)
theorem op_add:OpR X (binaryOp .Add) (rI0 λ i j=>.int (i+j)):=opI0 λ _ _ _ _ _ _ _ q=>add_int q
theorem xLq:OpR X (binaryOp .Sub) (rI0 λ i j=>.int (i - j)):=opI0 λ _ _ _ _ _ _ _ q=>sub_int q
theorem xFq:OpR X (binaryOp .Mult) (rI CMul λ i j=>.int (i * j)):=opI λ _ _ _ _ _ _ _ hc q=>mul_int q hc.ok
theorem vVq:OpR X (binaryOp .Mod) (rI (λ _ j=>0 < j) λ i j=>.int (i % j)):=opI λ i j _ _ _ _ _ hc q=>by
  have h1:(0:Int) < j:=hc
  exact mod_int' (by omega) (by rw [Int.fmod_eq_emod_of_nonneg i (by omega)];exact q)
theorem uTq:OpR X (binaryOp .Pow) (rI CPow λ i j=>.int (i ^ j.toNat)):=opI λ _ _ _ _ _ _ _ hc q=>pow_int_small hc.1 hc.2.1 hc.2.2 q
theorem unI {f:Value->Sem Value} {g:Int->Int}
    (rule:∀ (i:Int) (t:Tok) (s:Shared) (Q:Value->Shared->Prop) (E:Value->Shared->Prop),Q (.int (g i) s.toks) { s with toks:=s.toks+1 }->wpAny (model X.prog X.w) X.A (f (.int i t)) Q E s) :
    UnR X f (rU λ i=>.int (g i)):=by
  intro pins s σ H x v Q I rx h
  obtain ⟨i,rfl,q⟩:=h
  obtain ⟨t,rfl⟩:=rx
  exact rule i t s _ _ ⟨.int (g i),H,I.tok _,⟨_,rfl⟩,q⟩
theorem xEq:UnR X (unaryOp .USub) (rU λ i=>.int (-i)):=unI λ _ _ _ _ _ q=>neg_int q
end
section
variable {X:Cx} {a b c:Expr} {ta tb tc:TE} {pos:Pos}
theorem uSq {pins:List (Addr × Obj)} {σ:St} {H:Hp} {s:Shared} {Q:VK} {k k':Bool} (I:Inv X pins σ H s) (q:Q (.bl k) H) (e:k=k'):EP X pins σ Q (.bool k') s:=by
  subst e
  exact ⟨.bl k,H,I,rfl,q⟩
theorem aB8q:OpR X (compareOp .Lt) (rI0 λ i j=>.bl (decide (i < j))):=yEq λ _ _ _ _ _ _ _ q=>lt_int q
theorem aA5q:OpR X (compareOp .LtE) (rI0 λ i j=>.bl (decide (i<=j))):=yEq λ _ _ _ _ _ _ _ q=>le_int q
theorem yWq:OpR X (compareOp .Gt) (rI0 λ i j=>.bl (decide (j < i))):=yEq λ _ _ _ _ _ _ _ q=>gt_int q
theorem yLq:OpR X (compareOp .GtE) (rI0 λ i j=>.bl (decide (j<=i))):=yEq λ _ _ _ _ _ _ _ q=>ge_int q
theorem mVq:OpR X (compareOp .In) (λ x y H Q=>∃ i j,x=.str i/\y=.str j/\Q (.bl (!(Builtin.Str.occurrences j i 0 j.length 1).isEmpty)) H):=by
  intro pins s σ H x y v u Q I rx ry h
  obtain ⟨i,j,rfl,rfl,q⟩:=h
  obtain ⟨t,rfl⟩:=rx
  obtain ⟨t',rfl⟩:=ry
  exact in_str (uSq I q rfl)
theorem OpR.or {f:Value->Value->Sem Value} {r r':R2} (h:OpR X f r) (h':OpR X f r'):OpR X f (λ x y H Q=>r x y H Q\/r' x y H Q):=by
  intro pins s σ H x y v u Q I rx ry q
  rcases q with q | q
  . exact h pins s σ H x y v u Q I rx ry q
  . exact h' pins s σ H x y v u Q I rx ry q
theorem aCq (b:Expr) {op:CmpOp} (h:op≠.In:=by decide) (h2:op≠.NotIn:=by decide):behindInMarks op b=false:=by
  have e1:(op==CmpOp.In)=false:=by cases op<;>first | rfl | exact absurd rfl h
  have e2:(op==CmpOp.NotIn)=false:=by cases op<;>first | rfl | exact absurd rfl h2
  cases b<;>simp [behindInMarks,e1,e2]
theorem tKq {op:CmpOp} {r:R2} (ho:OpR X (compareOp op) r) (ha:PE X a ta) (hb:PE X b tb) (hm:behindInMarks op b=false):PE X (.Compare a [op] [b] pos) (tOp r ta tb):=by
  intro pins s σ H Q I h
  exact wpAny_Compare1 (zJq ha hb I h λ v u s2 x y H2 I2 rx ry q=>ho pins s2 σ H2 x y v u Q I2 rx ry q) hm
def t1q (t:TE):TT:=λ σ H Q=>t σ H λ x H'=>∃ k,x=.bl k/\Q k H'
theorem sRq {op:CmpOp} {r:R2} (ho:OpR X (compareOp op) r) (ha:PE X a ta) (hb:PE X b tb) (hm:behindInMarks op b=false):PT X (.Compare a [op] [b] pos) (t1q (tOp r ta tb)):=by
  intro pins s σ H Q I h
  refine wpAny_isTrue_Compare1 (thn (ha pins s σ H _ I h) λ v s1 ⟨x,H1,I1,r1,q1⟩=>thn (hb pins s1 σ H1 _ I1 q1) λ u s2 ⟨y,H2,I2,r2,q2⟩=>
    thn (ho pins s2 σ H2 x y v u _ I2 r1 r2 q2) λ c s3 ⟨z,H3,I3,r3,k,e,q3⟩=>?_) hm
  subst e
  cases r3
  exact wpAny_truthy_bool ⟨H3,I3,q3⟩
def uDq (r r':R2) (ta tb tc:TE):TE:=λ σ H Q=>ta σ H λ x H1=>tb σ H1 λ y H2=>r x y H2 λ z H3=>∃ k,z=.bl k ∧
  (if k=true then tc σ H3 λ w' H4=>r' y w' H4 Q else Q (.bl false) H3)
theorem p1q {op op':CmpOp} {r r':R2} (ho:OpR X (compareOp op) r) (ho':OpR X (compareOp op') r') (ha:PE X a ta) (hb:PE X b tb) (hc:PE X c tc)
    (hm:lastMarks [op,op'] [b,c]=false:=by with_unfolding_all rfl):PT X (.Compare a [op,op'] [b,c] pos) (t1q (uDq r r' ta tb tc)):=by
  intro pins s σ H Q I h
  refine isTrue_chain (thn (ha pins s σ H _ I h) λ v s1 ⟨x,H1,I1,r1,q1⟩=>test_link (thn (hb pins s1 σ H1 _ I1 q1) λ u s2 ⟨y,H2,I2,r2,q2⟩=>
    thn (ho pins s2 σ H2 x y v u _ I2 r1 r2 q2) λ d s3 ⟨z,H3,I3,r3,k,e,q3⟩=>?_)) hm
  subst e
  cases r3
  refine wpAny_truthy_bool ?_
  cases k with
  | false=>
    obtain ⟨k',e',q'⟩:=q3
    cases e'
    exact ite_ff ⟨H3,I3,q'⟩
  | true=>
    refine ite_tt (test_last (thn (hc pins s3 σ H3 _ I3 q3) λ w' s4 ⟨z',H4,I4,r4,q4⟩=>thn (ho' pins s4 σ H4 y z' u w' _ I4 r2 r4 q4) λ d' s5 ⟨z2,H5,I5,r5,k2,e2,q5⟩=>?_))
    subst e2
    cases r5
    exact wpAny_truthy_bool ⟨H5,I5,q5⟩
def TruV (K:PySem.W.Frag) (x:V) (H:Hp) (k:Bool):Prop:=
  match x with
  | .non=>k=false
  | .bl b=>k=b
  | .int i=>k=(i !=0)
  | .str y=>y.length<=sizeLine/\k=((y.length:Int) !=0)
  | .byt y=>y.size<=sizeLine/\k=((y.size:Int) !=0)
  | .ref p=>(∃ xs,SqL K H p xs/\k=!xs.isEmpty)\/(∃ xs,SqT K H p xs/\k=!xs.isEmpty)\/∃ kvs,H p=some (.dK kvs)/\k=!kvs.isEmpty
  | _=>False
theorem lFq {κ:Type} {kvs:List (κ × V)} {vs:List (κ × Value)} (r:KV kvs vs):(!vs.isEmpty)=!kvs.isEmpty:=by
  cases r<;>rfl
theorem gEq {xs:List V} {its:List Value} (r:Vals xs its):(!its.toArray.isEmpty)=!xs.isEmpty:=by
  cases r<;>simp
theorem dGq:(sizeLine:Nat) < 2 ^ 63:=by rw [sizeLine_eq];decide
theorem w1q:TruR X (λ x H Q=>∃ k,TruV X.K x H k/\Q k H):=by
  intro pins s σ H x v Q I rx h
  obtain ⟨k,e,q⟩:=h
  have hl:=dGq
  have hs:sizeLine=16777216:=sizeLine_eq
  cases x with
  | non=>
    cases rx
    have e':k=false:=e
    subst e'
    exact truthy_none ⟨H,I,q⟩
  | bl b=>
    cases rx
    have e':k=b:=e
    subst e'
    exact wpAny_truthy_bool ⟨H,I,q⟩
  | int i=>
    obtain ⟨t,rfl⟩:=rx
    have e':k=(i !=0):=e
    subst e'
    exact PySem.P.truthy_int ⟨H,I,q⟩
  | str y=>
    obtain ⟨t,rfl⟩:=rx
    obtain ⟨hy,e'⟩:y.length<=sizeLine/\k=((y.length:Int) !=0):=e
    subst e'
    exact PySem.P.truthy_str (by omega) ⟨H,I.tok _,q⟩
  | byt y=>
    obtain ⟨t,rfl⟩:=rx
    obtain ⟨hy,e'⟩:y.size<=sizeLine/\k=((y.size:Int) !=0):=e
    subst e'
    exact PySem.W.truthy_bytes (by omega) ⟨H,I.tok _,q⟩
  | ref p=>
    cases rx
    have e':(∃ xs,SqL X.K H p xs/\k=!xs.isEmpty)\/(∃ xs,SqT X.K H p xs/\k=!xs.isEmpty)\/∃ kvs,H p=some (.dK kvs)/\k=!kvs.isEmpty:=e
    rcases e' with ⟨xs,hx,e'⟩ | ⟨xs,hx,e'⟩ | ⟨kvs,hx,e'⟩
    . subst e'
      obtain ⟨its,r,pl,hz⟩:=I.list hx
      have hlen:=r.length
      exact wpAny_truthy_list pl.isList (by simp only [List.size_toArray];omega) ⟨H,I.tok _,by rw [gEq r];exact q⟩
    . subst e'
      obtain ⟨its,r,pl,hz⟩:=I.tuple hx
      have hlen:=r.length
      exact truthy_tuple pl (by simp only [List.size_toArray];omega) ⟨H,I.tok _,by rw [gEq r];exact q⟩
    . subst e'
      obtain ⟨hz,hS,vs,r,m⟩:kvs.length<=sizeLine/\(p==sysModules)=false/\∃ vs,KV kvs vs/\s.heap.DictOf (jFq X.prog X.w) p vs:=I.hok p _ hx
      have hlen:kvs.length=vs.length:=Paired.length r
      exact wpAny_truthy_dict hS m (by omega) ⟨H,I.tok _,by rw [lFq r];exact q⟩
  | _=>exact (show False from e).elim
theorem oYq (ha:PE X a ta) (he:∀ whole,isTrue a X.env whole=(do let v ← whole;standAt a.pos;holding [v] (truthy v))) :
    PT X a (λ σ H Q=>ta σ H λ x H'=>∃ k,TruV X.K x H' k/\Q k H'):=by
  intro pins s σ H Q I h
  exact isTrue_plain (thn (ha pins s σ H _ I h) λ v s1 ⟨x,H1,I1,r1,q1⟩=>w1q pins s1 σ H1 x v Q I1 r1 q1) (he _)
theorem op_add_str:OpR X (binaryOp .Add) (λ x y H Q=>∃ i j,x=.str i/\y=.str j/\i.length+j.length<=sizeLine/\Q (.str (i++j)) H):=by
  intro pins s σ H x y v u Q I rx ry h
  obtain ⟨i,j,rfl,rfl,hz,q⟩:=h
  obtain ⟨t,rfl⟩:=rx
  obtain ⟨t',rfl⟩:=ry
  exact add_str (λ t' tk=>⟨.str (i++j),H,I.tok _,⟨_,rfl⟩,q⟩) hz
theorem gJq {x:V} {us:List Value} (r:Vals [x] us):∃ u,us=[u]/\RelV x u:=by
  cases r with
  | cons r1 r2=>cases r2;exact ⟨_,rfl,r1⟩
theorem vOq {x y:V} {us:List Value} (r:Vals [x,y] us):∃ u w',us=[u,w']/\RelV x u/\RelV y w':=by
  cases r with
  | cons r1 r2=>
    cases r2 with
    | cons r3 r4=>cases r4;exact ⟨_,_,rfl,r1,r3⟩
theorem mIq (hc:X.calm=true):CallR X (.builtin "max") (λ xs H Q=>∃ i j,xs=[.int i,.int j]/\Q (.int (if j > i then j else i)) H):=by
  intro pins s σ H xs us Q I r h
  obtain ⟨i,j,rfl,q⟩:=h
  obtain ⟨u,w',rfl,⟨t,rfl⟩,⟨t',rfl⟩⟩:=vOq r
  refine max_two_ints (I.ok.hd hc) λ h' tk k=>⟨_,H,I.kept k,?_,q⟩
  by_cases hj:j > i
  . rw [if_pos hj,if_pos hj];exact ⟨_,rfl⟩
  . rw [if_neg hj,if_neg hj];exact ⟨_,rfl⟩
theorem oJq (hc:X.calm=true):CallR X (.builtin "min") (λ xs H Q=>∃ i j,xs=[.int i,.int j]/\Q (.int (if j < i then j else i)) H):=by
  intro pins s σ H xs us Q I r h
  obtain ⟨i,j,rfl,q⟩:=h
  obtain ⟨u,w',rfl,⟨t,rfl⟩,⟨t',rfl⟩⟩:=vOq r
  refine min_two_ints (I.ok.hd hc) λ h' tk k=>⟨_,H,I.kept k,?_,q⟩
  by_cases hj:j < i
  . rw [if_pos hj,if_pos hj];exact ⟨_,rfl⟩
  . rw [if_neg hj,if_neg hj];exact ⟨_,rfl⟩
theorem nPq:CallR X (.type "int") (λ xs H Q=>(∃ i,xs=[.int i]/\Q (.int i) H)\/∃ k,xs=[.bl k]/\Q (.int (if k then 1 else 0)) H):=by
  intro pins s σ H xs us Q I r h
  rcases h with ⟨i,rfl,q⟩ | ⟨k,rfl,q⟩
  . obtain ⟨u,rfl,t,rfl⟩:=gJq r
    exact call_int_int ⟨.int i,H,I,⟨_,rfl⟩,q⟩
  . obtain ⟨u,rfl,r1⟩:=gJq r
    cases r1
    exact call_int_bool ⟨.int (if k then 1 else 0),H,I.tok _,⟨_,rfl⟩,q⟩
theorem iEq:CallR X (.type "str") (λ xs H Q=>∃ i,xs=[.int i]/\i.natAbs.log2 < 1920/\Q (.str (toString i)) H):=by
  intro pins s σ H xs us Q I r h
  obtain ⟨i,rfl,hz,q⟩:=h
  obtain ⟨u,rfl,t,rfl⟩:=gJq r
  exact PySem.P.str_of_int hz ⟨.str _,H,I.tok _,⟨_,rfl⟩,q⟩
end
structure ObjM (h:Heap) (x dx C:Addr) (mA:Str->Option Value):Prop where
  obj:h.get? x=some (PySem.W.instObj C dx)
  ns:h.Ns1 dx mA
  ne:dx≠x
theorem o0q {h:Heap} {dx:Addr} {mA:Str->Option Value} (n:h.Ns1 dx mA):∃ od,h.get? dx=some od/\∀ name,PySem.W.lookIn name od=some (mA name):=by
  obtain ⟨o,es,ep,ho,hd,hk,_,hm⟩:=n
  refine ⟨o,ho,λ name=>?_⟩
  have e:=hm name
  unfold nsFind findBy at e
  rw [<- Array.find?_toList] at e
  unfold PySem.W.lookIn
  rw [hd]
  dsimp only
  split
  . rename_i y q
    rw [q] at e
    exact congrArg some e
  . rename_i q
    rw [q] at e
    have a:es.toList.any (·.refKey)=false:=by
      rw [List.any_eq_false]
      intro y hy
      obtain ⟨z,t,hkey⟩:=hk y (Array.mem_toList_iff.mp hy)
      simp [DictEntry.refKey,hkey]
    have a':¬ es.toList.any (·.refKey)=true:=by rw [a];exact Bool.false_ne_true
    rw [if_neg a']
    exact congrArg some e
theorem ObjM.look {h:Heap} {x dx C:Addr} {mA:Str->Option Value} (I:ObjM h x dx C mA):∃ od,PySem.W.InstAt h x (PySem.W.instObj C dx) C (some od)/\∀ name,PySem.W.lookIn name od=some (mA name):=
  let ⟨od,ho,hl⟩:=o0q I.ns
  ⟨od,⟨I.obj,rfl,rfl,ho⟩,hl⟩
section
variable {prog:Program} {w:World} {A:Around} {E:Value->Shared->Prop} {s:Shared} {K:PySem.W.Frag} {x dx C f:Addr} {mA:Str->Option Value} {name:Str} {v:Value}
end
section
variable {P:Program} {w:World} {H H':Hp} {h h':Heap} {a C dx:Addr} {fs fs':List (Str × V)}
theorem r7q (hok:HOk P w H h) (e:H a=some (.ins C dx fs)):∃ mA,ObjM h a dx C mA/\(∀ f,RelO (fs.lookup f) (mA f))/\PySem.Within mA (fs.map (·.1))/\fs.length<=1000/\H dx=some (.own a):=by
  obtain ⟨d,z,ne,ob,mA,n,r,q⟩:=(show ObjOk P w H h a (.ins C dx fs) from hok a _ e)
  exact ⟨mA,⟨ob,n,ne⟩,r,q,z,d⟩
end
structure Cls (K:PySem.W.Frag) (C:Addr):Prop where
  pg:PySem.W.plainGet K C Str.empty=true
  hd:PySem.W.hasDictIn K C=true
  po:PySem.W.plainOver K C=true
  sa:PySem.W.findIn K (.ref C) "__setattr__" = some (some (.builtin "object.__setattr__"))
theorem Cls.get {K:PySem.W.Frag} {C:Addr} (c:Cls K C) (f:Str):PySem.W.plainGet K C f=true:=c.pg
section
variable {X:Cx} {pins:List (Addr × Obj)} {σ:St} {H:Hp} {s:Shared} {a C dx:Addr} {fs:List (Str × V)} {f:Str} {v:V} {A:Around} {E:Value->Shared->Prop}
end
section
variable {X:Cx} {o e value:Expr} {f:Str} {pos pos' tpos:Pos} {ta tv:TE}
end
section
variable {X:Cx} {pins:List (Addr × Obj)} {σ:St} {H:Hp} {s:Shared} {A:Around} {E:Value->Shared->Prop} {Q:Value->Shared->Prop} {c:Value} {b:Bool}
inductive TyOf (K:PySem.W.Frag) (H:Hp):V->Value->Prop where
  | non:TyOf K H .non (.type "NoneType")
  | bl (x:Bool):TyOf K H (.bl x) (.type "bool")
  | int (i:Int):TyOf K H (.int i) (.type "int")
  | str (x:Str):TyOf K H (.str x) (.type "str")
  | flt (x:UInt64):TyOf K H (.flt x) (.type "float")
  | lst {a:Addr} {xs:List V} (e:H a=some (.lst xs)):TyOf K H (.ref a) (.type "list")
  | frz {a:Addr} {o:Obj} {xs:List V} (e:H a=some (.frz o (.lst xs))):TyOf K H (.ref a) (.type "list")
  | tup {a:Addr} {xs:List V} (e:H a=some (.tup xs)):TyOf K H (.ref a) (.type "tuple")
  | dK {a:Addr} {kvs:List (Key × V)} (e:H a=some (.dK kvs)):TyOf K H (.ref a) (.type "dict")
  | dT {a:Addr} {kvs:List (List Key × V)} (e:H a=some (.dT kvs)):TyOf K H (.ref a) (.type "dict")
  | ins {a C dx:Addr} {fs:List (Str × V)} (e:H a=some (.ins C dx fs)) (cl:Cls K C) (ha:PySem.W.findIn K (.ref C) "__class__" = some (some (.builtin "object.__class__")))
      (hn:PySem.W.specialIn K (.builtin "object.__class__") "__get__" = some (some (.builtin "getset_descriptor.__get__"))) (htk:PySem.W.takesIn K (.builtin "object.__class__")=some true)
      (hm:PySem.W.mroIn K C (.type "object")=some true):TyOf K H (.ref a) (.ref C)
theorem n2q {x:V} {u t:Value} (I:Inv X pins σ H s) (rx:RelV x u) (ty:TyOf X.K H x t) (e:PySem.W.kitOne X.K t c=some b) (h:∀ tk,Q (.bool b) { s with toks:=tk }) :
    wpAny (model X.prog X.w) A (call (.builtin "isinstance") [u,c]) Q E s:=by
  cases ty with
  | non=>cases (show u=Value.none from rx);exact PySem.W.kia_one PySem.W.kitx_none I.kIn True.intro e (λ z=>nomatch z) h
  | bl y=>cases (show u=Value.bool y from rx);exact PySem.W.kia_one PySem.W.kitx_bool I.kIn True.intro e (λ z=>nomatch z) h
  | int i=>obtain ⟨t,q⟩:=(show ∃ t,u=Value.int i t from rx);cases q;exact PySem.W.kia_one PySem.W.kitx_int I.kIn True.intro e (λ z=>nomatch z) h
  | str y=>obtain ⟨t,q⟩:=(show ∃ t,u=Value.str y t from rx);cases q;exact PySem.W.kia_one PySem.W.kitx_str I.kIn True.intro e (λ z=>nomatch z) h
  | flt y=>obtain ⟨t,q⟩:=(show ∃ t,u=Value.float y t from rx);cases q;exact PySem.W.kia_one PySem.W.kitx_float I.kIn True.intro e (λ z=>nomatch z) h
  | @lst a xs ea=>
    cases (show u=Value.ref a from rx)
    obtain ⟨_,_,n,_,h1⟩:=(show ObjOk X.prog X.w H s.heap a (.lst xs) from I.hok a _ ea)
    exact PySem.W.kia_one PySem.W.kitx_list I.kIn ⟨_,h1,rfl⟩ e (λ z=>nomatch z) h
  | @frz a ob xs ea=>
    cases (show u=Value.ref a from rx)
    obtain ⟨_,_,_,n,_,h1⟩:=(show ObjOk X.prog X.w H s.heap a (.frz ob (.lst xs)) from I.hok a _ ea)
    exact PySem.W.kia_one PySem.W.kitx_list I.kIn ⟨_,h1,rfl⟩ e (λ z=>nomatch z) h
  | @tup a xs ea=>
    cases (show u=Value.ref a from rx)
    obtain ⟨_,_,_,p⟩:=(show ObjOk X.prog X.w H s.heap a (.tup xs) from I.hok a _ ea)
    obtain ⟨o,h1,h2,_⟩:=p
    exact PySem.W.kia_one PySem.W.kitx_tuple I.kIn ⟨o,h1,h2⟩ e (λ z=>nomatch z) h
  | @dK a kvs ea=>
    cases (show u=Value.ref a from rx)
    obtain ⟨_,_,vs,_,p⟩:=(show ObjOk X.prog X.w H s.heap a (.dK kvs) from I.hok a _ ea)
    obtain ⟨o,es,ep,h1,h2,_⟩:=p
    exact PySem.W.kia_one PySem.W.kitx_dict I.kIn ⟨o,h1,h2.1⟩ e (λ z=>nomatch z) h
  | @dT a kvs ea=>
    cases (show u=Value.ref a from rx)
    obtain ⟨_,_,xs,_,o,es,ep,h1,h2,_⟩:=(show ObjOk X.prog X.w H s.heap a (.dT kvs) from I.hok a _ ea)
    exact PySem.W.kia_one PySem.W.kitx_dict I.kIn ⟨o,h1,h2.1⟩ e (λ z=>nomatch z) h
  | @ins a C dx fs ea cl ha hn htk hm=>
    cases (show u=Value.ref a from rx)
    obtain ⟨mA,O,_⟩:=r7q I.hok ea
    obtain ⟨od,J,_⟩:=O.look
    exact PySem.W.kia_one (PySem.W.kitx_own (cl.get _) cl.hd ha hn htk hm) I.kIn J e (λ z=>nomatch z) h
end
structure Room (k:Nat) (A:Around):Prop where
  hd:A.handled=none
  dp:A.depth+3 * k+5 < recursionLimit
  un:A.units+16 * k+200 < cLine
theorem Room.mono {j k:Nat} {A:Around} (r:Room k A) (h:j<=k):Room j A:=⟨r.hd,by have:=r.dp;omega,by have:=r.un;omega⟩
theorem Room.deeper {k:Nat} {A:Around} (r:Room (k+1) A) (env:Env):Room k (A.deeper env):=
  ⟨r.hd,by have:=r.dp;show A.depth+1+3 * k+5 < _;omega,by have:=r.un;show A.units+3+16 * k+200 < _;omega⟩
theorem Room.depth {k:Nat} {A:Around} (r:Room k A):A.depth < recursionLimit:=by have:=r.dp;omega
def tNil:TA:=λ _ H Q=>Q [] H
def y9q (ta:TE) (tr:TA):TA:=λ σ H Q=>ta σ H λ x H1=>tr σ H1 λ xs H2=>Q (x::xs) H2
section
variable {X:Cx} {e:Expr} {es:List Expr} {te:TE} {t:TA} {pos:Pos}
theorem wHq:PA X [] tNil:=λ _ _ _ _ H Q I h=>Calls.spliced_nil ⟨[],H,I,.nil,h⟩
theorem s5q (ha:PE X e te) (hr:PA X es t) (hs:starEach (e::es) X.env=(false,eval e X.env)::starEach es X.env:=by rfl):PA X (e::es) (y9q te t):=by
  intro pos pins s σ H Q I h
  rw [hs]
  show wpAny _ _ (spliced ((false,eval e X.env)::backTo pos (starEach es X.env))) _ _ s
  refine Calls.spliced_cons (thn (ha pins s σ H _ I h) λ u s1 ⟨x,H1,I1,r1,q1⟩=>?_)
  exact thn (hr pos pins s1 σ H1 _ I1 q1) λ us s2 ⟨xs,H2,I2,r2,q2⟩=>⟨x::xs,H2,I2,.cons r1 r2,q2⟩
def tTup (t:TA):TE:=λ σ H Q=>t σ H λ xs H1=>xs.length<=sizeLine/\∀ p,H1 p=none->Q (.ref p) (upd H1 p (.tup xs))
def tLst (t:TA):TE:=λ σ H Q=>t σ H λ xs H1=>xs.length<=sizeLine/\∀ p,H1 p=none->Q (.ref p) (upd H1 p (.lst xs))
theorem wBq {x1} (h:PA X es t):PE X (.Tuple es x1 pos) (tTup t):=by
  intro pins s σ H Q I hq
  refine wpAny_Tuple_spliced (thn (h pos pins s σ H _ I hq) λ us s1 ⟨xs,H1,I1,r,z,q⟩=>⟨by rw [<- r.length];exact z,?_⟩)
  have hf:H1 s1.heap.objs.size=none:=I1.hok.fresh (Nat.le_refl _)
  refine ⟨.ref s1.heap.objs.size,upd H1 s1.heap.objs.size (.tup xs),I1.laid (t':=s1.toks) (λ b u e=>Heap.get?_push_of_some _ e) (Nat.le_refl _) ?_,rfl,q _ hf⟩
  exact ⟨z,us,r,⟨_,Heap.get?_push_size _ rfl,rfl,_,rfl⟩⟩
theorem uOq (h:PA X es t):PE X (.List es pos) (tLst t):=by
  intro pins s σ H Q I hq
  refine wpAny_List_spliced (thn (h pos pins s σ H _ I hq) λ us s1 ⟨xs,H1,I1,r,z,q⟩=>⟨by rw [<- r.length];exact z,?_⟩)
  have hf:H1 s1.heap.objs.size=none:=I1.hok.fresh (Nat.le_refl _)
  refine ⟨.ref s1.heap.objs.size,upd H1 s1.heap.objs.size (.lst xs),I1.laid (t':=s1.toks) (λ b u e=>Heap.get?_push_of_some _ e) (Nat.le_refl _) ?_,rfl,q _ hf⟩
  exact ⟨z,us,0,r,Heap.get?_push_size _ rfl⟩
end
abbrev Sp:=List V->Hp->VK->XK->Prop
abbrev CXT:=List Env->Hp->Shared->XK->Value->Shared->Prop
structure Env0 (P:Program) (w:World) (K:PySem.W.Frag) (mg:Str->Option Value) (base:Heap) (A:Around) (outer:List Env) (s:Shared) (H:Hp):Prop where
  frames:A.frames=some outer
  mod:Mod K mg base
  bs:∀ b o,base.get? b=some o->s.heap.get? b=some o/\H b=none
  bsz:base.objs.size<=s.heap.objs.size
  funs:s.heap.FunFrames base outer
  frf:∀ b∈frs outer,H b=none
  hok:HOk P w H s.heap
  bare:AllBare s.gens
def CE (outer:List Env) (P:Program) (w:World) (H:Hp) (s:Shared) (Q:VK) (u:Value) (s':Shared):Prop:=
  ∃ v H',s'.os=s.os/\AllBare s'.gens/\Un (frs outer) [] H H' s.heap s'.heap/\HOk P w H' s'.heap/\RelV v u/\Q v H'
def CR (CX:CXT) (outer:List Env) (P:Program) (w:World) (H:Hp) (s:Shared) (Q:VK) (E:XK) (r:Result) (s':Shared):Prop:=
  match r with
  | .ok (.ret u)=>CE outer P w H s Q u s'
  | .ok _=>False
  | .error e=>CX outer H s E e s'
structure FnOk (P:Program) (w:World) (K:PySem.W.Frag) (mg:Str->Option Value) (base:Heap) (CX:CXT) (k:Nat) (f:Addr) (fd:FuncData) (ps:List Str) (sp:Sp):Prop where
  len:∀ vs H Q E,sp vs H Q E->vs.length=ps.length
  run:∀ (A:Around) (outer:List Env) (s:Shared) (H:Hp) (args:Args) (us:List Value) (vs:List V) (Q:VK) (E:XK),Room k A->Env0 P w K mg base A outer s H->BindsTo s fd args (ps.zip us)->Vals vs us->sp vs H Q E →
    codeAny (model P w) A (.call (.ref f) args) (CR CX outer P w H s Q E) s
section
variable {X:Cx} {pins:List (Addr × Obj)} {σ:St} {H:Hp} {s s':Shared}
theorem Inv.env0 (I:Inv X pins σ H s):Env0 X.prog X.w X.K X.mg X.base X.A X.stack s H:=
  ⟨I.ok.frames,I.ok.mod,I.bs,Nat.le_trans I.ok.bsz I.sz,I.stack,I.stkFree,I.hok,I.bare⟩
theorem Inv.after {Q:VK} {u:Value} (I:Inv X pins σ H s) (h:CE X.stack X.prog X.w H s Q u s'):EP X pins σ Q u s':=by
  obtain ⟨v,H',os,bare,un,hok,r,q⟩:=h
  obtain ⟨hh,g,d,t,os'⟩:=s'
  obtain rfl:os'=s.os:=os
  exact ⟨v,H',I.call (h':=hh) (g':=g) (d':=d) (t':=t) (ch:=[]) un hok bare (λ b z=>absurd z (by simp)),r,q⟩
end
def p0q (sp:Sp) (dvs:List V) (E:XK) (t:TA):TE:=λ σ H Q=>t σ H λ vs H1=>sp (vs++dvs) H1 Q E
def Binds (K:PySem.W.Frag) (fd:FuncData) (ps:List Str) (ds:List Value):Prop:=
  ∀ (s:Shared) (us:List Value),K.In s.heap->(us++ds).length=ps.length->BindsTo s fd ⟨us,[]⟩ (ps.zip (us++ds))
theorem Binds.all {K:PySem.W.Frag} {fd:FuncData} {ps:List Str} (h:∀ us:List Value,us.length=ps.length->bindArgs fd ⟨us,[]⟩=pure (ps.zip us)):Binds K fd ps []:=λ s us _ hl=>by
  rw [List.append_nil] at hl ⊢
  exact .of_eq (h us hl)
def lWq (CX:CXT) (X:Cx) (E:XK):Prop:=∀ (pins:List (Addr × Obj)) (σ:St) (H:Hp) (s:Shared) (e:Value) (s':Shared),Inv X pins σ H s->CX X.stack H s E e s'->X.xe e s'
section
variable {X:Cx} {CX:CXT} {k:Nat} {f C:Addr} {fd:FuncData} {ps:List Str} {sp:Sp} {dvs:List V} {ds:List Value} {E:XK} {x m:Str} {p pos apos:Pos} {e o:Expr} {es:List Expr} {ta:TE} {t:TA}
theorem qPq {pins:List (Addr × Obj)} {σ:St} {H:Hp} {s:Shared} {Q:VK} {us:List Value} {vs:List V} (F:FnOk X.prog X.w X.K X.mg X.base CX k f fd ps sp) (hr:Room k X.A) (hb:Binds X.K fd ps ds) (hd:Vals dvs ds) (hx:lWq CX X E)
    (I:Inv X pins σ H s) (r:Vals vs us) (h:sp (vs++dvs) H Q E):wpAny (model X.prog X.w) X.A (call (.ref f) us) (EP X pins σ Q) X.xe s:=by
  have r2:Vals (vs++dvs) (us++ds):=r.append hd
  have hl:(us++ds).length=ps.length:=by rw [<- r2.length];exact F.len _ _ _ _ h
  refine wpAny_call (codeAny_mono (F.run X.A X.stack s H ⟨us,[]⟩ (us++ds) (vs++dvs) Q E hr I.env0 (hb s us I.kIn hl) r2 h) λ r s' hq=>?_)
  cases r with
  | error e=>exact hx pins σ H s e s' I hq
  | ok fl=>
    cases fl with
    | ret u=>exact I.after hq
    | next=>exact False.elim hq
    | brk=>exact False.elim hq
    | cont=>exact False.elim hq
theorem r9q (F:FnOk X.prog X.w X.K X.mg X.base CX k f fd ps sp) (hr:Room k X.A) (hg:Gl X x) (hm:X.mg x=some (.ref f)) (hk:PySem.W.keepIn X.K (.ref f)=true) (hb:Binds X.K fd ps ds) (hd:Vals dvs ds) (hx:lWq CX X E)
    (ha:PA X (e::es) t) (hdb:(x==("__debug__" : Str))=false:=by decide) (he:starEach (e::es) X.env=(false,eval e X.env)::starEach es X.env:=by rfl) (hpl:(backTo pos (starEach es X.env)).any (·.1)=false:=by rfl) :
    PE X (.Call (.Name x p) (e::es) [] pos) (p0q sp dvs E t):=by
  intro pins s σ H Q I h
  refine wpAny_Call_Name_kw (oHq I hg hm ?_ hdb)
  refine PySem.W.callWith_K (h₀:=X.base) I.ok.mod.kin hk (thn (ha pos pins s σ H _ I h) λ us s1 ⟨vs,H1,I1,r,q⟩=>⟨I1.kIn,?_⟩) he hpl
  exact qPq F hr hb hd hx I1 r q
end
section
variable {X:Cx} {CX:CXT} {k:Nat} {f C:Addr} {fd:FuncData} {ps ks:List Str} {sp:Sp} {E:XK} {x m:Str} {p pos apos kpos:Pos} {e o:Expr} {es:List Expr} {kws:List Keyword} {te ta:TE} {t tk:TA} {nm:Option Str}
variable {g:List Value->List Value->List Value} {gV:List V->List V->List V}
end
structure FnScope (N P:List Str) (sc:Scope):Prop where
  kind:sc.kind=.function
  co:sc.isCoroutine=false
  gen:sc.isGenerator=false
  nd:N.Nodup
  pre:N.take P.length=P
  par:∀ x∈P,sc.names.lookup x=some .local\/sc.names.lookup x=some .cell
  nofree:∀ y∈sc.names,y.2≠.free
theorem iSq {kindOf:Str->Option NameKind} {x:Str}:∀ {binds:List (Str × Value)} {m:Str->Option Value},(∀ v,(x,v) ∉ binds)->bindL kindOf binds m x=m x
  | [],_,_=>rfl
  | (n,v)::r,m,h=>by
    unfold bindL
    rw [iSq λ w hw=>h w (List.mem_cons_of_mem _ hw)]
    split
    . have:x≠n:=by rintro rfl;exact h v List.mem_cons_self
      simp [this]
    . rfl
theorem i2q {kindOf:Str->Option NameKind} {x:Str}:∀ {binds:List (Str × Value)} {m:Str->Option Value},(∀ v,(x,v) ∉ binds)->bindC kindOf binds m x=m x
  | [],_,_=>rfl
  | (n,v)::r,m,h=>by
    unfold bindC
    rw [i2q λ w hw=>h w (List.mem_cons_of_mem _ hw)]
    split
    . rfl
    . have:x≠n:=by rintro rfl;exact h v List.mem_cons_self
      simp [this]
theorem iRq {kindOf:Str->Option NameKind} {x:Str} {v:Value}:∀ {P:List Str} {vs:List Value} {i:Nat} {m:Str->Option Value},P.Nodup->P[i]?=some x->vs[i]?=some v->kindOf x=some .local →
    bindL kindOf (P.zip vs) m x=some v
  | [],_,_,_,_,h,_,_=>by simp at h
  | _::_,[],_,_,_,_,h,_=>by simp at h
  | p::P,w::vs,0,m,nd,h1,h2,hk=>by
    simp at h1 h2;subst h1;subst h2
    show bindL kindOf ((p,w)::P.zip vs) m p=_
    unfold bindL
    rw [iSq λ v hv=>(List.nodup_cons.mp nd).1 (List.of_mem_zip hv).1,if_pos hk]
    simp
  | p::P,w::vs,i+1,m,nd,h1,h2,hk=>by
    show bindL kindOf ((p,w)::P.zip vs) m x=_
    unfold bindL
    exact iRq (i:=i) (List.nodup_cons.mp nd).2 (by simpa using h1) (by simpa using h2) hk
theorem iBq {kindOf:Str->Option NameKind} {x:Str} {v:Value}:∀ {P:List Str} {vs:List Value} {i:Nat} {m:Str->Option Value},P.Nodup->P[i]?=some x->vs[i]?=some v->kindOf x≠some .local →
    bindC kindOf (P.zip vs) m x=some v
  | [],_,_,_,_,h,_,_=>by simp at h
  | _::_,[],_,_,_,_,h,_=>by simp at h
  | p::P,w::vs,0,m,nd,h1,h2,hk=>by
    simp at h1 h2;subst h1;subst h2
    show bindC kindOf ((p,w)::P.zip vs) m p=_
    unfold bindC
    rw [i2q λ v hv=>(List.nodup_cons.mp nd).1 (List.of_mem_zip hv).1,if_neg hk]
    simp
  | p::P,w::vs,i+1,m,nd,h1,h2,hk=>by
    show bindC kindOf ((p,w)::P.zip vs) m x=_
    unfold bindC
    exact iBq (i:=i) (List.nodup_cons.mp nd).2 (by simpa using h1) (by simpa using h2) hk
def e2q (N:List Str) (vs:List V):St:=vs.map some++List.replicate (N.length - vs.length) none
def qNq (CX:CXT) (P:Program) (w:World) (K:PySem.W.Frag) (mg:Str->Option Value) (base:Heap) (N:List Str) (qual:Str) (scope:Scope) (f:Addr) (cd:Value) (A:Around) (outer:List Env) (s:Shared) (H:Hp) (E:XK):Cx where
  prog:=P
  w:=w
  K:=K
  mg:=mg
  base:=base
  A:=A.deeper (envOfC qual scope s.heap.objs.size f cd)
  N:=N
  s₀:=s
  H₀:=H
  env:=envOfC qual scope s.heap.objs.size f cd
  outer:=outer
  stack:=envOfC qual scope s.heap.objs.size f cd::outer
  ex:=[]
  calm:=true
  fn:=λ _=>true
  pn:=[]
  xe:=λ e s'=>wpAny (model P w) (A.deeper (envOfC qual scope s.heap.objs.size f cd)) (leaving (envOfC qual scope s.heap.objs.size f cd) e) (λ _ s''=>CX outer H s E e s'') (λ e' s''=>CX outer H s E e' s'') s'
theorem kGq {sc:Scope} {n:Nat} {x:Str} (h:sc.names.lookup x=some .cell):∃ c,(cellsFrom n sc.names []).lookup x=some c:=by
  have q:=PySem.W.cellsFrom_some sc.names n [] (.inl h)
  exact Option.isSome_iff_exists.mp q
theorem nVq {CX:CXT} {P:Program} {w:World} {K:PySem.W.Frag} {mg:Str->Option Value} {base:Heap} {N ps:List Str} {qual:Str} {scope:Scope} {f:Addr} {cd:Value} {A:Around} {outer:List Env} {s s1:Shared} {H:Hp} {E:XK} {us:List Value} {vs:List V}
    (S:FnScope N ps scope) (hd:A.handled=none) (e0:Env0 P w K mg base A outer s H) (hl:vs.length=ps.length) (r:Vals vs us)
    (x:InCallC s s.heap.objs.size (bindL (envOfC qual scope s.heap.objs.size f cd).kindOf (ps.zip us) λ _=>none) (cellsFrom (s.heap.objs.size+1) scope.names []) (bindC (envOfC qual scope s.heap.objs.size f cd).kindOf (ps.zip us) λ _=>none) s1) :
    Inv (qNq CX P w K mg base N qual scope f cd A outer s H E) [] (e2q N vs) H s1:=by
  have hpl:ps.length<=N.length:=by have:=congrArg List.length S.pre;rw [List.length_take] at this;omega
  obtain ⟨h1,tk,rfl,hk⟩:=x.done
  have noA:∀ b:Addr,b ∉ (qNq CX P w K mg base N qual scope f cd A outer s H E).ex:=λ b z=>absurd (show b∈([]:List Addr) from z) (by simp)
  refine ⟨⟨e0.mod,S.kind,rfl,rfl,Nat.le_refl _,λ y z c h1 h2=>?_,λ y hy=>?_,λ y c _ h=>?_,λ _=>hd,Around.frames_deeper e0.frames,.inr ⟨rfl,rfl⟩,λ b z=>absurd z (noA b),e0.bs,e0.bsz,λ b _ _=>noA b,λ b z=>absurd z (noA b),e0.funs,e0.frf⟩,
    rfl,e0.bare,Un.kept hk,⟨_,x.toInCall.ns,λ i y v h1 h2 h3=>?_⟩,λ y c h=>⟨_,x.cell y c h⟩,e0.hok.fresh (Nat.le_refl _),λ y c h=>?_,λ p hp=>absurd (show p∈([]:List (Addr × Obj)) from hp) (by simp),e0.hok.kept hk,?_⟩
  . exact name_of_addr x.apart (PySem.mem_of_lookup h1) (PySem.mem_of_lookup h2)
  . have hy:scope.names.lookup y=some .cell\/scope.names.lookup y=some .free:=hy
    rcases hy with hy | hy
    . exact kGq hy
    . exact absurd rfl (S.nofree _ (PySem.mem_of_lookup hy))
  . exact Nat.le_of_lt (x.above y c (PySem.mem_of_lookup h))
  . have hi:i < vs.length:=by
      unfold e2q at h2
      by_cases hi:i < vs.length
      . exact hi
      . rw [List.getElem?_append_right (by simpa using hi)] at h2
        rw [List.getElem?_replicate] at h2
        split at h2<;>cases h2
    have ha:vs[i]?=some v:=by
      unfold e2q at h2
      rw [List.getElem?_append_left (by simpa using hi),List.getElem?_map] at h2
      cases e:vs[i]? with
      | none=>rw [e] at h2;cases h2
      | some a=>rw [e] at h2;cases h2;rfl
    obtain ⟨u,hu,rv⟩:=r.get ha
    have hp:ps[i]?=some y:=by
      rw [<- S.pre,List.getElem?_take_of_lt (by omega)];exact h1
    have ndP:ps.Nodup:=by rw [<- S.pre];exact S.nd.sublist (List.take_sublist _ _)
    refine ⟨u,rv,?_⟩
    rcases S.par y (List.mem_of_getElem? hp) with k | k
    . exact .inl ⟨k,iRq ndP hp hu k⟩
    . obtain ⟨c,e⟩:=kGq (n:=s.heap.objs.size+1) k
      refine .inr ⟨.inl k,c,e,?_⟩
      have q:=x.cell y c e
      rw [iBq ndP hp hu (by show scope.names.lookup y≠_;rw [k];decide)] at q
      exact q
  . exact e0.hok.fresh (Nat.le_of_lt (x.above y c (PySem.mem_of_lookup h)))
  . unfold e2q
    show _=N.length
    rw [List.length_append,List.length_map,List.length_replicate]
    omega
theorem aB2q {CX:CXT} {P:Program} {w:World} {K:PySem.W.Frag} {mg:Str->Option Value} {base:Heap} {k:Nat} {f:Addr} {name qual:Str} {params:Arguments} {body:List Stmt} {scope:Scope} {dV kV doc pm cdv ct oc:Value} {an od:Option Addr}
    {osl:Array (Option Value)} {N ps:List Str} {sp:Sp} (lk:K.lookup f=some ⟨oc,od,.func (PySem.W.fnOf name qual params body scope dV kV doc pm an cdv ct),osl⟩) (hcd:PySem.W.codeIn K cdv qual=true) (S:FnScope N ps scope)
    (len:∀ vs H Q E,sp vs H Q E->vs.length=ps.length)
    (hbody:∀ (A:Around) (outer:List Env) (s:Shared) (H:Hp) (vs:List V) (Q:VK) (E:XK),Room k (A.deeper (envOfC qual scope s.heap.objs.size f cdv))->sp vs H Q E →
      ∃ t,PSs (qNq CX P w K mg base N qual scope f cdv A outer s H E) body t/\t { nx:=λ _ H'=>Q .non H',rt:=Q } (e2q N vs) H) :
    FnOk P w K mg base CX (k+1) f (PySem.W.fnOf name qual params body scope dV kV doc pm an cdv ct) ps sp:=by
  refine ⟨len,λ A outer s H args us vs Q E hr e0 hb r hsp=>?_⟩
  have hl:=len _ _ _ _ hsp
  have KX:K.In s.heap:=e0.mod.kin.keeps λ b o e=>(e0.bs b o e).1
  have lim:s.heap.NoLimit:=e0.mod.nolimit.keeps λ b o e=>(e0.bs b o e).1
  have hkind:∀ y∈ps.zip us,scope.names.lookup y.1=some .local\/(scope.names.lookup y.1=some .cell/\((cellsFrom (s.heap.objs.size+1) scope.names []).lookup y.1).isSome=true):=λ⟨n,v⟩ hy=>by
    rcases S.par n (List.of_mem_zip hy).1 with q | q
    . exact .inl q
    . exact .inr ⟨q,PySem.W.cellsFrom_some _ _ _ (.inl q)⟩
  refine codeAny_call_function hr.depth (KX _ _ lk) rfl S.co S.gen rfl (PySem.W.codeRec_of KX hcd) (hb _ _ _ _ ?_)
  refine wpAny_newFunctionEnv_cells S.kind hkind λ env he s1 x=>?_
  subst he
  refine ⟨lim.keeps x.toInCall.keep,codeAny_func ?_⟩
  obtain ⟨t,ht,hq⟩:=hbody A outer s H vs Q E (hr.deeper _) hsp
  have I:Inv (qNq CX P w K mg base N qual scope f cdv A outer s H E) [] (e2q N vs) H s1:=nVq S hr.hd e0 hl r x
  refine wpAny_mono (ht [] s1 (e2q N vs) H _ I hq) (λ fl s' hs=>?_) λ e s' hs=>hs
  have fin:∀ {σ':St} {H':Hp} {v:V} {u:Value},Inv (qNq CX P w K mg base N qual scope f cdv A outer s H E) [] σ' H' s'->RelV v u->Q v H'->CE outer P w H s Q u s':=
    λ{σ' H' v u} J rv q=>⟨v,H',J.os,J.bare,J.base,J.hok,rv,q⟩
  cases fl with
  | ret u=>
    obtain ⟨v,σ',H',J,rv,q⟩:=hs
    exact fin J rv q
  | next=>
    obtain ⟨σ',H',J,q⟩:=hs
    exact fin (v:=V.non) (u:=Value.none) J rfl q
  | brk=>
    obtain ⟨_,_,_,q⟩:=hs
    exact False.elim q
  | cont=>
    obtain ⟨_,_,_,q⟩:=hs
    exact False.elim q
section
variable {X:Cx} {x:Str} {p pos:Pos} {e:Expr} {es:List Expr} {t:TA} {id T:String} {r:List V->Hp->VK->Prop}
def tCB (r:List V->Hp->VK->Prop) (t:TA):TE:=λ σ H Q=>t σ H λ vs H1=>r vs H1 Q
theorem pZq (hc:CallR X (.builtin id) r) (hg:Gl X x) (hm:X.mg x=none) (hv:bootBuiltins x=some (.builtin id)) (ha:PA X (e::es) t) (hn:x≠"__name__":=by decide) (hdb:(x==("__debug__" : Str))=false:=by decide)
    (he:starEach (e::es) X.env=(false,eval e X.env)::starEach es X.env:=by rfl) (hpl:(backTo pos (starEach es X.env)).any (·.1)=false:=by rfl):PE X (.Call (.Name x p) (e::es) [] pos) (tCB r t):=by
  intro pins s σ H Q I h
  refine wpAny_Call_Name_kw (cMq I hg hm hv ?_ hn hdb)
  exact PyProof.Rows.callWith_builtin1 (thn (ha pos pins s σ H _ I h) λ us s1 ⟨vs,H1,I1,r1,q1⟩=>hc pins s1 σ H1 vs us Q I1 r1 q1) he hpl
theorem m4q (hc:CallR X (.type T) r) (hg:Gl X x) (hm:X.mg x=none) (hv:bootBuiltins x=some (.type T)) (ha:PA X (e::es) t) (hn:x≠"__name__":=by decide) (hdb:(x==("__debug__" : Str))=false:=by decide)
    (he:starEach (e::es) X.env=(false,eval e X.env)::starEach es X.env:=by rfl) (hpl:(backTo pos (starEach es X.env)).any (·.1)=false:=by rfl):PE X (.Call (.Name x p) (e::es) [] pos) (tCB r t):=by
  intro pins s σ H Q I h
  refine wpAny_Call_Name_kw (cMq I hg hm hv ?_ hn hdb)
  exact PyProof.Rows.callWith_type1 (thn (ha pos pins s σ H _ I h) λ us s1 ⟨vs,H1,I1,r1,q1⟩=>hc pins s1 σ H1 vs us Q I1 r1 q1) he hpl
end
end L2
namespace HT
open PySem PyProof.Rows
section
open PySem.SeqAt
open PySem.AutoSeq1 (wpAny_loadPart')
open PySem.MeetsSeq PySem.MeetsSeq2 PySem.MeetsSeq3
end
section
variable {prog:Program} {w:World} {A:Around} {E:Value->Shared->Prop} {s:Shared}
theorem cat_tup {t b:Addr} {vs ws:List Value} {Q:Value->Shared->Prop} (ht:IsTup s.heap t vs.toArray) (hb:IsTup s.heap b ws.toArray) (hv:vs≠[])
    (h1:ws=[]->Q (.ref t) s) (h2:ws≠[]->Q (.ref s.heap.objs.size) { s with heap:=s.heap.push { cls:=.type "tuple", data:=.seq (vs++ws).toArray } })
    (hsz:vs.length+ws.length<=sizeLine):wpAny (model prog w) A (binaryOp .Add (.ref t) (.ref b)) Q E s:=by
  obtain ⟨⟨cls,dd,data,sl⟩,ho,hc,n,hd⟩:=id ht
  obtain ⟨⟨cls2,dd2,data2,sl2⟩,ho2,hc2,n2,hd2⟩:=id hb
  simp only at hc hd hc2 hd2
  subst hc hd hc2 hd2
  have e:vs.toArray++ws.toArray=(vs++ws).toArray:=by simp
  by_cases hw:ws=[]
  . exact concat_meets ⟨_,ho,rfl⟩ ⟨_,ho2,rfl⟩ noFill_tuple_add seq_tuple_add PySem.F.slot_tuple_add PySem.F.entry_tuple_add (PySem.F.args_tuple_add_2 _ _)
      (tuple_addW1 t b vs.toArray ws.toArray n n2 dd dd2 sl sl2 (by simpa using hv) (by simp [hw])) ⟨ho,ho2,h1 hw⟩
  . refine concat_meets ⟨_,ho,rfl⟩ ⟨_,ho2,rfl⟩ noFill_tuple_add seq_tuple_add PySem.F.slot_tuple_add PySem.F.entry_tuple_add (PySem.F.args_tuple_add_2 _ _)
      (tuple_addW2 t b vs.toArray ws.toArray n n2 dd dd2 sl sl2 (by simpa using hv) (by simpa using hw) (by rw [List.size_toArray,List.size_toArray];exact hsz)) ⟨ho,ho2,?_⟩
    rw [e]
    exact h2 hw
def sIx (n d:Nat):Option Int->Nat
  | none=>d
  | some v=>if v < 0 then (v+(n:Int)).toNat else min v.toNat n
theorem y0q (n d:Nat) (hd:d<=n) (o:Option Int):sIx n d o<=n:=by
  cases o with
  | none=>exact hd
  | some v=>
    show (if v < 0 then (v+(n:Int)).toNat else min v.toNat n)<=n
    by_cases hv:v < 0
    . rw [if_pos hv];omega
    . rw [if_neg hv];exact Nat.min_le_right _ _
theorem m7q (v:Int) (n d:Nat):(if v < 0 then max (v+(n:Int)) 0 else min v (n:Int))=((sIx n d (some v):Nat):Int):=by
  show (if v < 0 then max (v+(n:Int)) 0 else min v (n:Int))=(((if v < 0 then (v+(n:Int)).toNat else min v.toNat n):Nat):Int)
  by_cases hv:v < 0
  . simp only [if_pos hv];omega
  . simp only [if_neg hv];omega
theorem l4q (lo hi:Option Int) (n:Nat):Builtin.Slice.sliceAdjust lo hi 1 (n:Int)=(((sIx n 0 lo:Nat):Int),((sIx n n hi:Nat):Int)):=by
  have h1:¬ ((1:Int) < 0):=by omega
  unfold Builtin.Slice.sliceAdjust
  simp only [h1,if_false]
  refine Prod.ext ?_ ?_
  . cases lo with
    | none=>rfl
    | some v=>exact m7q v n 0
  . cases hi with
    | none=>rfl
    | some v=>exact m7q v n n
theorem l6q (i j:Nat):Builtin.Slice.slicePlaces (i:Int) (j:Int) 1=j - i:=by
  unfold Builtin.Slice.slicePlaces
  have h1:(1:Int) > 0:=by omega
  simp only [h1,if_true,Int.ediv_one]
  split<;>omega
theorem slicePart_ {v:Value} {o:Option Int} {Q:Option Int->Shared->Prop} (p:IsPart v o) (h:Q o s):wpAny (model prog w) A (Builtin.Slice.slicePartIndex v) Q E s:=by
  cases p with
  | none=>exact slicePart_none h
  | int i t=>exact slicePart_int h
theorem sliceApplied_gen {sl:Addr} {vl vu:Value} {lo hi:Option Int} {n:Nat} {Q:Int × Int × Nat->Shared->Prop} (hs:s.heap.IsSliceOf sl vl vu .none) (pl:IsPart vl lo) (pu:IsPart vu hi)
    (h:Q (((sIx n 0 lo:Nat):Int),1,sIx n n hi - sIx n 0 lo) s):wpAny (model prog w) A (Builtin.Slice.sliceApplied (.ref sl) (pure (n:Int))) Q E s:=by
  obtain ⟨os,hos,hcs,hds⟩:=id hs
  unfold Builtin.Slice.sliceApplied Builtin.Slice.sliceFields
  refine wpAny_bind (wpAny_bind (wpAny_field hos hds (x:=vl) rfl (wpAny_bind (wpAny_field hos hds (x:=vu) rfl (wpAny_bind (wpAny_field hos hds (x:=.none) rfl (wpAny_pure ?_)))))))
  refine wpAny_bind (slicePart_none ?_)
  show wpAny _ _ (if ((1:Int)==0)=true then _ else _) _ _ s
  rw [if_neg (by decide)]
  refine wpAny_bind (slicePart_ pl (wpAny_bind (slicePart_ pu (wpAny_bind (wpAny_pure ?_)))))
  show wpAny _ _ (match Builtin.Slice.sliceAdjust lo hi 1 (n:Int) with | (lo,hi)=>pure (lo,(1:Int),Builtin.Slice.slicePlaces lo hi 1)) _ _ s
  rw [l4q lo hi n]
  show wpAny _ _ (pure (((sIx n 0 lo:Nat):Int),(1:Int),Builtin.Slice.slicePlaces ((sIx n 0 lo:Nat):Int) ((sIx n n hi:Nat):Int) 1)) _ _ s
  rw [l6q]
  exact wpAny_pure h
theorem oZq (xs:Array Value) (i k:Nat):((List.range k).filterMap λ(m:Nat)=>xs[((i:Int)+(m:Int) * 1).toNat]?).toArray=((xs.toList.drop i).take k).toArray:=by
  have e:(λ(m:Nat)=>xs[((i:Int)+(m:Int) * 1).toNat]?)=λ m=>xs[i+m]?:=by
    funext m
    have:((i:Int)+(m:Int) * 1).toNat=i+m:=by omega
    rw [this]
  rw [e]
  have:=pick_run xs i k
  rw [List.filterMap_map] at this
  have e2:((λ x=>xs[x]?) ∘ λ x=>i+x)=λ m=>xs[i+m]?:=rfl
  rw [e2] at this
  rw [this]
theorem getItem_tuple_cut {t sl:Addr} {items:Array Value} {vl vu:Value} {lo hi:Option Int} {Q:Value->Shared->Prop} (ht:IsTup s.heap t items) (hs:s.heap.IsSliceOf sl vl vu .none) (pl:IsPart vl lo) (pu:IsPart vu hi)
    (hw:¬ (sIx items.size 0 lo=0/\sIx items.size items.size hi=items.size))
    (h:Q (.ref s.heap.objs.size) { s with heap:=s.heap.push { cls:=.type "tuple", data:=.seq ((items.toList.drop (sIx items.size 0 lo)).take (sIx items.size items.size hi - sIx items.size 0 lo)).toArray } })
    (hsz:items.size<=sizeLine):wpAny (model prog w) A (getItem (.ref t) (.ref sl)) Q E s:=by
  have htake:sizeOk (.seq ((items.toList.drop (sIx items.size 0 lo)).take (sIx items.size items.size hi - sIx items.size 0 lo)).toArray):=by
    show ((items.toList.drop (sIx items.size 0 lo)).take (sIx items.size items.size hi - sIx items.size 0 lo)).toArray.size<=sizeLine
    rw [List.size_toArray,List.length_take,List.length_drop,Array.length_toList]
    omega
  have hj:sIx items.size items.size hi<=items.size:=y0q _ _ (Nat.le_refl _) hi
  obtain ⟨os,hos,hcs,hds⟩:=id hs
  have hTs:s.TypeIs (.ref sl) "slice":=⟨os,hos,hcs⟩
  unfold getItem
  try with_reducible refine wpAny_holding ?_
  first | refine wpAny_bind (wpAny_pure ?_) | skip
  refine wpAny_bind (wpAny_sequenceKey ht.typeIs (by decide) ?_)
  refine wpAny_bind (wpAny_callSpecial?_slot (name:=Str.ofString "__getitem__") ht.typeIs PyProof.Rows.slot_tuple_getitem
    (wpAny_call_entry PyProof.Rows.slot_tuple_getitem ht.typeIs entry_tuple_getitem ?_ (args_tuple_getitem _ _)))
  show wpAny _ _ (Builtin.Tuple.tupleItemsOf (.ref t) >>= _) _ _ s
  refine wpAny_bind (tupleItemsOf_ ht ?_)
  refine wpAny_bind (wpAny_typeOf hTs ?_)
  rw [if_pos (by decide)]
  refine wpAny_bind (sliceApplied_gen hs pl pu ?_)
  have hno:¬ ((((sIx items.size 0 lo:Nat):Int)==0&&(1:Int)==1&&(sIx items.size items.size hi - sIx items.size 0 lo)==items.size)=true):=by
    intro q
    rw [Bool.and_eq_true,Bool.and_eq_true] at q
    have q1:((sIx items.size 0 lo:Nat):Int)=0:=eq_of_beq q.1.1
    have q2:sIx items.size items.size hi - sIx items.size 0 lo=items.size:=eq_of_beq q.2
    exact hw ⟨by omega,by omega⟩
  show wpAny _ _ (if (((sIx items.size 0 lo:Nat):Int)==0&&(1:Int)==1&&(sIx items.size items.size hi - sIx items.size 0 lo)==items.size)=true then _ else _) _ _ s
  rw [if_neg hno,oZq]
  first
    | exact wpAny_bind (m:=Builtin.Tuple.tupleExact _) (wpAny_newObj_type (wpAny_pure ⟨_,rfl,wpAny_pure h⟩) htake)
    | exact wpAny_bind (m:=Builtin.Tuple.tupleExact _) (wpAny_newObj_type (wpAny_bind (wpAny_pure (wpAny_pure ⟨_,rfl,wpAny_pure h⟩))) htake)
    | exact wpAny_bind (wpAny_bind (m:=Builtin.Tuple.tupleExact _) (wpAny_newObj_type (wpAny_pure (wpAny_pure ⟨_,rfl,wpAny_pure h⟩)) htake))
    | exact wpAny_bind (wpAny_bind (m:=Builtin.Tuple.tupleExact _) (wpAny_newObj_type (wpAny_pure ⟨_,rfl,wpAny_pure h⟩) htake))
end
end HT
namespace L2
open PySem PySem.Spec PyProof.Rows
abbrev TO:=St->Hp->(Option Int->Hp->Prop)->Prop
def PO (X:Cx) (e:Option Expr) (t:TO):Prop:=
  ∀ (pins:List (Addr × Obj)) (s:Shared) (σ:St) (H:Hp) (Q:Option Int->Hp->Prop),Inv X pins σ H s->t σ H Q →
    wpAny (model X.prog X.w) X.A (evalPart e X.env) (λ u s'=>∃ o H',Inv X pins σ H' s'/\IsPart u o/\Q o H') X.xe s
def oCq:TO:=λ _ H Q=>Q none H
def vXq (t:TE):TO:=λ σ H Q=>t σ H λ x H1=>∃ i,x=.int i/\Q (some i) H1
section
variable {X:Cx} {e:Expr} {te:TE} {lo hi:Option Expr} {tl th:TO} {pos p2:Pos}
theorem sTq:PO X none oCq:=by
  intro pins s σ H Q I h
  rw [evalPart_none]
  exact wpAny_pure ⟨none,H,I,.none,h⟩
theorem tZq (h:PE X e te):PO X (some e) (vXq te):=by
  intro pins s σ H Q I hw
  rw [evalPart_some]
  refine thn (h pins s σ H _ I hw) λ u s1 ⟨x,H1,I1,r1,q1⟩=>?_
  obtain ⟨i,rfl,q⟩:=q1
  obtain ⟨t,rfl⟩:=r1
  exact ⟨some i,H1,I1,.int i t,q⟩
def SlR (X:Cx) (r:V->Option Int->Option Int->Hp->VK->Prop):Prop:=
  ∀ (pins:List (Addr × Obj)) (s:Shared) (σ:St) (H:Hp) (x:V) (v vl vu:Value) (lo hi:Option Int) (sl:Addr) (Q:VK),Inv X pins σ H s->RelV x v->s.heap.IsSliceOf sl vl vu .none->IsPart vl lo->IsPart vu hi->r x lo hi H Q →
    ∃ T id,typeLookup (.type T) "__getitem__" = pure (some (.builtin id))/\s.TypeIs v T/\wpAny (model X.prog X.w) X.A (getItem v (.ref sl)) (EP X pins σ Q) X.xe s
theorem SlR.or {r r':V->Option Int->Option Int->Hp->VK->Prop} (h:SlR X r) (h':SlR X r'):SlR X (λ x lo hi H Q=>r x lo hi H Q\/r' x lo hi H Q):=by
  intro pins s σ H x v vl vu lo hi sl Q I rx hs pl pu q
  rcases q with q | q
  . exact h pins s σ H x v vl vu lo hi sl Q I rx hs pl pu q
  . exact h' pins s σ H x v vl vu lo hi sl Q I rx hs pl pu q
def tSl (r:V->Option Int->Option Int->Hp->VK->Prop) (te:TE) (tl th:TO):TE:=λ σ H Q=>te σ H λ x H1=>tl σ H1 λ l H2=>th σ H2 λ u H3=>r x l u H3 Q
theorem p8q {r:V->Option Int->Option Int->Hp->VK->Prop} (hr:SlR X r) (he:PE X e te) (hl:PO X lo tl) (hu:PO X hi th):PE X (.Subscript e (.Slice lo hi none p2) pos) (tSl r te tl th):=by
  intro pins s σ H Q I h
  refine Subscript_ (thn (he pins s σ H _ I h) λ v s1 ⟨x,H1,I1,r1,q1⟩=>?_)
  refine wpAny_Slice (thn (hl pins s1 σ H1 _ I1 q1) λ vl s2 ⟨l,H2,I2,pl,q2⟩=>thn (hu pins s2 σ H2 _ I2 q2) λ vu s3 ⟨u,H3,I3,pu,q3⟩=>?_)
  rw [evalPart_none]
  refine wpAny_pure ?_
  have I4:Inv X pins σ H3 { s3 with heap:=s3.heap.push { cls:=.type "slice", data:=.fields #[vl,vu,.none] } }:=I3.kept (t':=s3.toks) λ b ob q=>Heap.get?_push_of_some _ q
  obtain ⟨T,id,hT,ht,hg⟩:=hr pins { s3 with heap:=s3.heap.push { cls:=.type "slice", data:=.fields #[vl,vu,.none] } } σ H3 x v vl vu l u s3.heap.objs.size Q I4 r1 (Heap.IsSliceOf.new ..) pl pu q3
  show wpAny (model X.prog X.w) X.A (subscriptTail e (.Slice lo hi none p2) v (.ref s3.heap.objs.size)) (EP X pins σ Q) X.xe { s3 with heap:=s3.heap.push { cls:=.type "slice", data:=.fields #[vl,vu,.none] } }
  exact tail_any (ops:=[.ref s3.heap.objs.size,v]) ht hT hg (by with_unfolding_all rfl)
def lKq (xs:List V) (lo hi:Option Int):List V:=(xs.drop (HT.sIx xs.length 0 lo)).take (HT.sIx xs.length xs.length hi - HT.sIx xs.length 0 lo)
theorem f8q (xs:List V) (lo hi:Option Int):(lKq xs lo hi).length<=xs.length:=by
  unfold lKq
  rw [List.length_take,List.length_drop]
  omega
def rSlT (K:PySem.W.Frag):V->Option Int->Option Int->Hp->VK->Prop:=λ x lo hi H Q=>∃ a xs,x=.ref a/\SqT K H a xs ∧
  ¬ (HT.sIx xs.length 0 lo=0/\HT.sIx xs.length xs.length hi=xs.length)/\∀ p,H p=none->Q (.ref p) (upd H p (.tup (lKq xs lo hi)))
theorem u8q:SlR X (rSlT X.K):=by
  intro pins s σ H x v vl vu lo hi sl Q I rx hs pl pu h
  obtain ⟨a,xs,rfl,hx,hw,q⟩:=h
  cases rx
  obtain ⟨its,r,ht,hz⟩:=I.tuple hx
  have hlen:its.toArray.size=xs.length:=by rw [List.size_toArray];exact r.length.symm
  refine ⟨"tuple", _,PyProof.Rows.slot_tuple_getitem.lookup,ht.typeIs,?_⟩
  refine HT.getItem_tuple_cut ht hs pl pu (by rw [hlen];exact hw) ?_ (by rw [hlen];exact hz)
  rw [hlen]
  refine ⟨.ref s.heap.objs.size,_,I.laid (t':=s.toks) (o:=.tup (lKq xs lo hi)) (λ b ob q=>Heap.get?_push_of_some _ q) (Nat.le_refl _) ?_,rfl,q _ (I.hok.fresh (Nat.le_refl _))⟩
  exact ⟨Nat.le_trans (f8q xs lo hi) hz,_,(r.drop (HT.sIx xs.length 0 lo)).take (HT.sIx xs.length xs.length hi - HT.sIx xs.length 0 lo),IsTup.new _ _⟩
def zKq (K:PySem.W.Frag):R2:=λ x y H Q=>∃ a b xs ys,x=.ref a/\y=.ref b/\SqT K H a xs/\SqT K H b ys/\xs≠[]/\xs.length+ys.length<=sizeLine ∧
  (ys=[]->Q (.ref a) H)/\(ys≠[]->∀ p,H p=none->Q (.ref p) (upd H p (.tup (xs++ys))))
theorem Vals.nil_iff {xs:List V} {us:List Value} (r:Vals xs us):us=[] ↔ xs=[]:=by
  cases r with
  | nil=>simp
  | cons _ _=>simp
theorem s7q:OpR X (binaryOp .Add) (zKq X.K):=by
  intro pins s σ H x y v u Q I rx ry h
  obtain ⟨a,b,xs,ys,rfl,rfl,ha,hb,hx,hz,q1,q2⟩:=h
  cases rx
  cases ry
  obtain ⟨its,r1,p1,_⟩:=I.tuple ha
  obtain ⟨its2,r2,p2,_⟩:=I.tuple hb
  refine HT.cat_tup p1 p2 (λ z=>hx (r1.nil_iff.mp z)) (λ z=>⟨.ref a,H,I,rfl,q1 (r2.nil_iff.mp z)⟩) (λ z=>?_) (by rw [<- r1.length,<- r2.length];exact hz)
  refine ⟨.ref s.heap.objs.size,_,I.laid (t':=s.toks) (o:=.tup (xs++ys)) (λ b ob q=>Heap.get?_push_of_some _ q) (Nat.le_refl _) ?_,rfl,q2 (λ w=>z (r2.nil_iff.mpr w)) _ (I.hok.fresh (Nat.le_refl _))⟩
  exact ⟨by rw [List.length_append];exact hz,_,r1.append r2,IsTup.new _ _⟩
end
def ixN (n:Nat) (i:Int):Option Nat:=if 0<=i then (if i < n then some i.toNat else none) else if -(n:Int)<=i then some (i+n).toNat else none
def atI {α:Type} (xs:List α) (i:Int):Option α:=(ixN xs.length i).bind λ j=>xs[j]?
theorem o5q {n:Nat} {i:Int} {j:Nat} (h:ixN n i=some j):seqIndex? i n=some j/\j < n/\-(n:Int)<=i/\i < n:=by
  unfold ixN at h
  by_cases h0:0<=i
  . rw [if_pos h0] at h
    by_cases h1:i < n
    . rw [if_pos h1] at h
      have e:i.toNat=j:=Option.some.inj h
      exact ⟨by rw [seqIndex_of h0 h1,e],by omega,by omega,h1⟩
    . rw [if_neg h1] at h;cases h
  . rw [if_neg h0] at h
    by_cases h1:-(n:Int)<=i
    . rw [if_pos h1] at h
      have e:(i+n).toNat=j:=Option.some.inj h
      exact ⟨by rw [seqIndex_neg (by omega) h1,e],by omega,h1,by omega⟩
    . rw [if_neg h1] at h;cases h
theorem jCq {α:Type} {xs:List α} {i:Int} {v:α} (h:atI xs i=some v):∃ j,seqIndex? i xs.length=some j/\xs[j]?=some v/\j < xs.length/\-(xs.length:Int)<=i/\i < xs.length:=by
  unfold atI at h
  cases e:ixN xs.length i with
  | none=>rw [e] at h;cases h
  | some j=>
    rw [e] at h
    obtain ⟨h1,h2,h3,h4⟩:=o5q e
    exact ⟨j,h1,h,h2,h3,h4⟩
theorem cPq {α:Type} {xs:List α} {j:Nat} {v:α} (h:xs[j]?=some v):atI xs (j:Int)=some v:=by
  have hj:j < xs.length:=(List.getElem?_eq_some_iff.mp h).1
  have e:ixN xs.length (j:Int)=some j:=by
    unfold ixN
    rw [if_pos (by omega),if_pos (by omega)];simp
  unfold atI;rw [e];exact h
def gNq (b:Expr):Prop:=∀ o i,subscripted b false o i=operate [o,i] (getItem o i)
def IxR (X:Cx) (r:R2):Prop:=
  ∀ (value slice:Expr) (pins:List (Addr × Obj)) (s:Shared) (σ:St) (H:Hp) (x y:V) (v u:Value) (Q:VK),Inv X pins σ H s->RelV x v->RelV y u->r x y H Q →
    subscripted slice false v u=operate [v,u] (getItem v u)->wpAny (model X.prog X.w) X.A (subscriptTail value slice v u) (EP X pins σ Q) X.xe s
def MtR (X:Cx) (id:String) (r:V->List V->Hp->VK->Prop):Prop:=
  ∀ (pins:List (Addr × Obj)) (s:Shared) (σ:St) (H:Hp) (x:V) (xs:List V) (v:Value) (us:List Value) (Q:VK),Inv X pins σ H s->RelV x v->Vals xs us->r x xs H Q →
    wpAny (model X.prog X.w) X.A (call (.builtin id) (v::us)) (EP X pins σ Q) X.xe s
section
variable {X:Cx} {a b:Expr} {ta tb:TE} {pos:Pos}
theorem IxR.or {r r':R2} (h:IxR X r) (h':IxR X r'):IxR X (λ x y H Q=>r x y H Q\/r' x y H Q):=by
  intro value slice pins s σ H x y v u Q I rx ry q hs
  rcases q with q | q
  . exact h value slice pins s σ H x y v u Q I rx ry q hs
  . exact h' value slice pins s σ H x y v u Q I rx ry q hs
theorem MtR.or {id:String} {r r':V->List V->Hp->VK->Prop} (h:MtR X id r) (h':MtR X id r'):MtR X id (λ x xs H Q=>r x xs H Q\/r' x xs H Q):=by
  intro pins s σ H x xs v us Q I rx rs q
  rcases q with q | q
  . exact h pins s σ H x xs v us Q I rx rs q
  . exact h' pins s σ H x xs v us Q I rx rs q
theorem yTq {r:R2} (hr:IxR X r) (ha:PE X a ta) (hb:PE X b tb) (hs:gNq b):PE X (.Subscript a b pos) (tOp r ta tb):=by
  intro pins s σ H Q I h
  exact Subscript_ (zJq ha hb I h λ v u s2 x y H2 I2 rx ry q=>hr a b pins s2 σ H2 x y v u Q I2 rx ry q (hs _ _))
def rIxL (K:PySem.W.Frag):R2:=λ x y H Q=>∃ p xs i v,x=.ref p/\y=.int i/\SqL K H p xs/\atI xs i=some v/\Q v H
def rIxT (K:PySem.W.Frag):R2:=λ x y H Q=>∃ p xs i v,x=.ref p/\y=.int i/\SqT K H p xs/\atI xs i=some v/\Q v H
def rIxS:R2:=λ x y H Q=>∃ z i c,x=.str z/\y=.int i/\z.length<=sizeLine/\atI z.cps.toList i=some c/\Q (.str ⟨#[c]⟩) H
theorem ix_list:IxR X (rIxL X.K):=by
  intro value slice pins s σ H x y v u Q I rx ry h hs
  obtain ⟨p,xs,i,z,rfl,rfl,hq,he,q⟩:=h
  cases rx
  obtain ⟨t,rfl⟩:=ry
  obtain ⟨its,r,pl,hz⟩:=I.list hq
  obtain ⟨j,h1,h2,h3,h4,h5⟩:=jCq he
  obtain ⟨w,ew,rw'⟩:=r.get h2
  have hl:=r.length
  have hn:=dGq
  have fin:EP X pins σ Q w s:=⟨z,H,I,rw',q⟩
  by_cases h0:0<=i
  . have hj:i.toNat=j:=by
      rw [seqIndex_of h0 h5] at h1
      exact Option.some.inj h1
    exact item_listR pl.isList h0 (by omega) (by rw [hj];simpa using ew) fin hs
  . have hj:(i+(its.toArray.size:Int)).toNat=j:=by
      rw [seqIndex_neg (by omega) h4] at h1
      rw [List.size_toArray,<- hl]
      exact Option.some.inj h1
    exact subscriptTail_builtinR (x:=w) pl.isList.typeIs slot_list_getitem.lookup
      (wpAny_getItem_list_neg (Q:=λ r s'=>r=w/\EP X pins σ Q r s') pl.isList (by omega) (by rw [List.size_toArray]<;>omega) (by omega) (by rw [hj];simpa using ew) ⟨rfl,fin⟩) hs
theorem ix_tup:IxR X (rIxT X.K):=by
  intro value slice pins s σ H x y v u Q I rx ry h hs
  obtain ⟨p,xs,i,z,rfl,rfl,hq,he,q⟩:=h
  cases rx
  obtain ⟨t,rfl⟩:=ry
  obtain ⟨its,r,pl,hz⟩:=I.tuple hq
  obtain ⟨j,h1,h2,h3,h4,h5⟩:=jCq he
  obtain ⟨w,ew,rw'⟩:=r.get h2
  have hl:=r.length
  have hn:=dGq
  have fin:EP X pins σ Q w s:=⟨z,H,I,rw',q⟩
  exact subscriptTail_builtinR (x:=w) pl.typeIs slot_tuple_getitem.lookup
    (getItem_tuple (j:=j) (Q:=λ r s'=>r=w/\EP X pins σ Q r s') pl (by omega) (by omega) (by rw [List.size_toArray,<- hl];exact h1) (by simpa using ew) ⟨rfl,fin⟩) hs
theorem v6q:IxR X rIxS:=by
  intro value slice pins s σ H x y v u Q I rx ry h hs
  obtain ⟨z,i,c,rfl,rfl,hz,he,q⟩:=h
  obtain ⟨t,rfl⟩:=rx
  obtain ⟨t',rfl⟩:=ry
  obtain ⟨j,h1,h2,h3,h4,h5⟩:=jCq he
  have hl:z.cps.toList.length=z.length:=by simp [Str.length]
  rw [hl] at h1 h4 h5
  have hn:=dGq
  exact tail_any (typeIs_str s z t) slot_str_getitem.lookup (getItem_str (c:=c) (by
    have e1:decide (i < -(2 ^ 63:Int))=false:=decide_eq_false (by omega)
    have e2:decide (i ≥ 2 ^ 63)=false:=decide_eq_false (by omega)
    rw [e1,e2,Bool.or_false]) (by rw [h1];simpa using h2) ⟨.str ⟨#[c]⟩,H,I.tok _,⟨_,rfl⟩,q⟩) hs
def rIx (K:PySem.W.Frag):R2:=λ x y H Q=>rIxL K x y H Q\/rIxT K x y H Q\/rIxS x y H Q
theorem r0q:IxR X (rIx X.K):=ix_list.or (ix_tup.or v6q)
theorem l5q (its:List Value) (n j:Nat) (u:Value):Obj.mapSeq (·.setIfInBounds j u) { cls:=.type "list", data:=.seq its.toArray n }={ cls:=.type "list", data:=.seq (its.set j u).toArray n }:=by
  simp [Obj.mapSeq]
theorem Inv.lst {pins:List (Addr × Obj)} {σ:St} {H:Hp} {s:Shared} {p:Addr} {xs:List V} (I:Inv X pins σ H s) (h:H p=some (.lst xs)) :
    ∃ (its:List Value) (n:Nat),Vals xs its/\s.heap.get? p=some { cls:=.type "list", data:=.seq its.toArray n }/\xs.length<=sizeLine:=by
  obtain ⟨z,its,n,r,e⟩:=I.hok p _ h
  exact ⟨its,n,r,e,z⟩
theorem Inv.lstUpd {pins:List (Addr × Obj)} {σ:St} {H:Hp} {s:Shared} {p:Addr} {xs ys:List V} {its its':List Value} {n n':Nat} {f:Obj->Obj} (I:Inv X pins σ H s) (h:H p=some (.lst xs))
    (ho:s.heap.get? p=some { cls:=.type "list", data:=.seq its.toArray n }) (hf:f { cls:=.type "list", data:=.seq its.toArray n }={ cls:=.type "list", data:=.seq its'.toArray n' }) (r:Vals ys its') (hz:ys.length<=sizeLine) (t:Nat) :
    Inv X pins σ (upd H p (.lst ys)) { s with heap:=s.heap.update p f,toks:=t }:=by
  have e:(s.heap.update p f).get? p=some { cls:=.type "list", data:=.seq its'.toArray n' }:=by
    rw [Heap.get?_update_self f ho (by rw [hf]<;>rfl),hf]
  refine I.write (x:=p) (e:=p) (by rw [h];trivial) (.inl rfl) (λ b u hb q=>(Heap.get?_update_other _ _ (Ne.symm hb)).trans q) ⟨_,e⟩ ?_
  exact ⟨hz,its',n',r,e⟩
def aC3q:V->V->V->Hp->(Hp->Prop)->Prop:=λ o i v H Q=>∃ p xs k j,o=.ref p/\i=.int k/\H p=some (.lst xs)/\ixN xs.length k=some j/\Q (upd H p (.lst (xs.set j v)))
theorem pIq:zOq X aC3q:=by
  intro pins s σ H o i v ov iv u Q I ro ri rv h
  obtain ⟨p,xs,k,j,rfl,rfl,hp,hj,q⟩:=h
  cases ro
  obtain ⟨t,rfl⟩:=ri
  obtain ⟨its,n,r,ho,hz⟩:=I.lst hp
  obtain ⟨h1,h2,h3,h4⟩:=o5q hj
  have hl:=r.length
  have hn:=dGq
  have I':Inv X pins σ (upd H p (.lst (xs.set j v))) { s with heap:=s.heap.update p (Obj.mapSeq (·.setIfInBounds j u)) }:=
    I.lstUpd hp ho (l5q its n j u) (r.set rv j) (by rw [List.length_set];exact hz) s.toks
  by_cases h0:0<=k
  . have hk:k.toNat=j:=by
      rw [seqIndex_of h0 h4] at h1
      exact Option.some.inj h1
    exact PySem.W.ki_setAt ho h0 (by omega) (by rw [List.size_toArray,<- hl];exact h4) (by rw [hk];exact ⟨_,I',q⟩)
  . have hk:(k+(its.toArray.size:Int)).toNat=j:=by
      rw [seqIndex_neg (by omega) h3] at h1
      rw [List.size_toArray,<- hl]
      exact Option.some.inj h1
    exact PySem.W.ki_setBack ho (by omega) (by rw [List.size_toArray,<- hl];exact h3) (by omega) (by rw [hk];exact ⟨_,I',q⟩)
theorem iQq (lo hi:Option Int) (n:Nat):(sliceBounds lo hi none n).1=((HT.sIx n 0 lo:Nat):Int)/\(sliceBounds lo hi none n).2.1=((HT.sIx n n hi:Nat):Int)/\(sliceBounds lo hi none n).2.2=1:=by
  refine ⟨?_,?_,rfl⟩
  . cases lo with
    | none=>simp [sliceBounds,HT.sIx]
    | some i=>
      simp only [sliceBounds,HT.sIx,Option.getD_none,show (1:Int) > 0 by decide,if_true]
      by_cases h:i < 0
      . simp only [h,if_true]<;>omega
      . simp only [h,if_false]<;>omega
  . cases hi with
    | none=>simp [sliceBounds,HT.sIx]
    | some i=>
      simp only [sliceBounds,HT.sIx,Option.getD_none,show (1:Int) > 0 by decide,if_true]
      by_cases h:i < 0
      . simp only [h,if_true]<;>omega
      . simp only [h,if_false]<;>omega
theorem hAq (its:List Value) (lo hi:Option Int):slicePick its.toArray lo hi none=((its.drop (HT.sIx its.length 0 lo)).take (HT.sIx its.length its.length hi - HT.sIx its.length 0 lo)).toArray:=by
  obtain ⟨h1,h2,h3⟩:=iQq lo hi its.toArray.size
  unfold slicePick
  rw [h1,h2,h3]
  simp only [sliceRange_one,pick_run,List.size_toArray]<;>rfl
def rSlL (K:PySem.W.Frag):V->Option Int->Option Int->Hp->VK->Prop:=λ x lo hi H Q=>∃ a xs,x=.ref a/\SqL K H a xs/\∀ p,H p=none->Q (.ref p) (upd H p (.lst (lKq xs lo hi)))
theorem sZq:SlR X (rSlL X.K):=by
  intro pins s σ H x v vl vu lo hi sl Q I rx hs pl pu h
  obtain ⟨a,xs,rfl,hx,q⟩:=h
  cases rx
  obtain ⟨its,r,ht,hz⟩:=I.list hx
  have hlen:=r.length
  refine ⟨"list", _,slot_list_getitem.lookup,ht.isList.typeIs,?_⟩
  refine wpAny_getItem_list_slice ht.isList hs pl pu .none (by simp) ?_ (by rw [List.size_toArray]<;>omega)
  rw [hAq,<- hlen]
  refine ⟨.ref s.heap.objs.size,_,I.laid (t':=s.toks) (o:=.lst (lKq xs lo hi)) (λ b ob q=>Heap.get?_push_of_some _ q) (Nat.le_refl _) ?_,rfl,q _ (I.hok.fresh (Nat.le_refl _))⟩
  exact ⟨Nat.le_trans (f8q xs lo hi) hz,_,0,(r.drop (HT.sIx xs.length 0 lo)).take (HT.sIx xs.length xs.length hi - HT.sIx xs.length 0 lo),Heap.get?_push_size _ rfl⟩
def fNq:V->Bool
  | .non=>true
  | .bl _=>true
  | .int _=>true
  | .str _=>true
  | _=>false
def eqV:V->V->Bool
  | .non,.non=>true
  | .bl a,.bl b=>a==b
  | .bl a,.int b=>(if a then 1 else 0)==b
  | .int a,.bl b=>a==(if b then 1 else 0)
  | .int a,.int b=>a==b
  | .str a,.str b=>a==b
  | _,_=>false
theorem wUq {A:Around} {s:Shared} {y x:V} {u v:Value} (ry:RelV y u) (rx:RelV x v) (fy:fNq y=true) (fx:fNq x=true):SeqAt.EqAt A s u v (eqV y x):=by
  cases y with
  | non=>
    cases ry
    cases x with
    | non=>cases rx;exact SeqAt.EqAt.same _
    | bl b=>cases rx;exact SeqAt.EqAt.none_bool b
    | int b=>obtain ⟨t,rfl⟩:=rx;exact SeqAt.EqAt.none_int b t
    | str b=>obtain ⟨t,rfl⟩:=rx;exact SeqAt.EqAt.none_str b t
    | _=>exact absurd (show false=true from fx) Bool.false_ne_true
  | bl a=>
    cases ry
    cases x with
    | non=>cases rx;exact SeqAt.EqAt.bool_none a
    | bl b=>cases rx;exact SeqAt.EqAt.bool_bool a b
    | int b=>obtain ⟨t,rfl⟩:=rx;exact SeqAt.EqAt.bool_int a b t
    | str b=>obtain ⟨t,rfl⟩:=rx;exact SeqAt.EqAt.bool_str a b t
    | _=>exact absurd (show false=true from fx) Bool.false_ne_true
  | int a=>
    obtain ⟨t',rfl⟩:=ry
    cases x with
    | non=>cases rx;exact SeqAt.EqAt.int_none a t'
    | bl b=>cases rx;exact SeqAt.EqAt.int_bool a t' b
    | int b=>obtain ⟨t,rfl⟩:=rx;exact SeqAt.EqAt.int_int a t' b t
    | str b=>obtain ⟨t,rfl⟩:=rx;exact SeqAt.EqAt.int_str a t' b t
    | _=>exact absurd (show false=true from fx) Bool.false_ne_true
  | str a=>
    obtain ⟨t',rfl⟩:=ry
    cases x with
    | non=>cases rx;exact SeqAt.EqAt.str_none a t'
    | bl b=>cases rx;exact SeqAt.EqAt.str_bool a t' b
    | int b=>obtain ⟨t,rfl⟩:=rx;exact SeqAt.EqAt.str_int a t' b t
    | str b=>obtain ⟨t,rfl⟩:=rx;exact SeqAt.EqAt.str_str a t' b t
    | _=>exact absurd (show false=true from fx) Bool.false_ne_true
  | _=>exact absurd (show false=true from fy) Bool.false_ne_true
def eqU (x:V) (u:Value):Bool:=match u with
  | .none=>eqV .non x
  | .bool b=>eqV (.bl b) x
  | .int i _=>eqV (.int i) x
  | .str z _=>eqV (.str z) x
  | _=>false
theorem qXq {x y:V} {u:Value} (r:RelV y u) (f:fNq y=true):eqU x u=eqV y x:=by
  cases y with
  | non=>cases r;rfl
  | bl b=>cases r;rfl
  | int i=>obtain ⟨t,rfl⟩:=r;rfl
  | str z=>obtain ⟨t,rfl⟩:=r;rfl
  | _=>exact absurd (show false=true from f) Bool.false_ne_true
theorem iVq {x:V}:∀ {xs:List V} {us:List Value},Vals xs us->xs.all fNq=true->us.any (eqU x)=xs.any λ y=>eqV y x
  | _,_,.nil,_=>rfl
  | y::xs,u::us,.cons r t,f=>by
    rw [List.all_cons,Bool.and_eq_true] at f
    rw [List.any_cons,List.any_cons,qXq r f.1,iVq t f.2]
theorem gUq {A:Around} {s:Shared} {x:V} {v:Value} (rx:RelV x v) (fx:fNq x=true):∀ {xs:List V} {us:List Value},Vals xs us->xs.all fNq=true->∀ u∈us,SeqAt.EqAt A s u v (eqU x u)
  | _,_,.nil,_=>λ u hu=>by cases hu
  | y::xs,u::us,.cons r t,f=>λ u' hu=>by
    rw [List.all_cons,Bool.and_eq_true] at f
    rcases List.mem_cons.mp hu with rfl | hu
    . rw [qXq r f.1];exact wUq r rx f.1 fx
    . exact gUq rx fx t f.2 u' hu
def inV (x:V) (xs:List V):Bool:=xs.any λ y=>eqV y x
def rIn (K:PySem.W.Frag) (neg:Bool):R2:=λ x y H Q=>∃ p xs,y=.ref p/\(SqL K H p xs\/SqT K H p xs)/\fNq x=true/\xs.all fNq=true/\Q (.bl (if neg then !inV x xs else inV x xs)) H
theorem op_in_seq:OpR X (compareOp .In) (rIn X.K false):=by
  intro pins s σ H x y v u Q I rx ry h
  obtain ⟨p,xs,rfl,hq,fx,fs,q⟩:=h
  cases ry
  rcases hq with hq | hq
  . obtain ⟨its,r,pl,hz⟩:=I.list hq
    refine SeqAt.in_listAt (eqU x) pl.isList (λ w hw=>gUq rx fx r fs w (by simpa using hw)) ⟨.bl _,H,I,rfl,?_⟩
    rw [show its.toArray.any (eqU x)=its.any (eqU x) by simp,iVq r fs]
    exact q
  . obtain ⟨its,r,pl,hz⟩:=I.tuple hq
    refine SeqAt.in_tupleAt (eqU x) pl (λ w hw=>gUq rx fx r fs w (by simpa using hw)) ⟨.bl _,H,I,rfl,?_⟩
    rw [show its.toArray.any (eqU x)=its.any (eqU x) by simp,iVq r fs]
    exact q
theorem call_len_seq:CallR X (.builtin "len") (λ xs H Q=>∃ p ys,xs=[.ref p]/\(SqL X.K H p ys\/SqT X.K H p ys)/\Q (.int ys.length) H):=by
  intro pins s σ H xs us Q I r h
  obtain ⟨p,ys,rfl,hq,q⟩:=h
  obtain ⟨u,rfl,rx⟩:=gJq r
  cases rx
  have hn:=dGq
  rcases hq with hq | hq
  . obtain ⟨its,r',pl,hz⟩:=I.list hq
    have hlen:=r'.length
    exact Calls.call_len_list pl.isList (by simp only [List.size_toArray]<;>omega) ⟨.int ys.length,H,I.tok _,⟨s.toks+1,by rw [List.size_toArray,hlen]⟩,q⟩
  . obtain ⟨its,r',pl,hz⟩:=I.tuple hq
    have hlen:=r'.length
    exact len_tuple pl (by simp only [List.size_toArray]<;>omega) ⟨.int ys.length,H,I.tok _,⟨s.toks+1,by rw [List.size_toArray,hlen]⟩,q⟩
theorem iDq:CallR X (.builtin "len") (λ xs H Q=>∃ z,xs=[.str z]/\z.length<=sizeLine/\Q (.int z.length) H):=by
  intro pins s σ H xs us Q I r h
  obtain ⟨z,rfl,hz,q⟩:=h
  obtain ⟨u,rfl,t,rfl⟩:=gJq r
  have hn:=dGq
  exact len_str (by omega) ⟨.int z.length,H,I.tok _,⟨_,rfl⟩,q⟩
theorem CallR.or {f:Value} {r r':List V->Hp->VK->Prop} (h:CallR X f r) (h':CallR X f r'):CallR X f (λ xs H Q=>r xs H Q\/r' xs H Q):=by
  intro pins s σ H xs us Q I rs q
  rcases q with q | q
  . exact h pins s σ H xs us Q I rs q
  . exact h' pins s σ H xs us Q I rs q
theorem h9q:CallR X (.type "tuple") (λ xs H Q=>∃ p ys,xs=[.ref p]/\((SqL X.K H p ys/\∀ l,H l=none->Q (.ref l) (upd H l (.tup ys)))\/(SqT X.K H p ys/\Q (.ref p) H))):=by
  intro pins s σ H xs us Q I r h
  obtain ⟨p,ys,rfl,h⟩:=h
  obtain ⟨u,rfl,rx⟩:=gJq r
  cases rx
  rcases h with ⟨hq,q⟩ | ⟨hq,q⟩
  . obtain ⟨its,r',pl,hz⟩:=I.list hq
    have hlen:=r'.length
    refine call_tuple_list pl.isList (λ h' kp=>?_) (by simp only [List.size_toArray]<;>omega)
    have I1:Inv X pins σ H { s with heap:=h' }:=I.kept (t':=s.toks) kp
    have I2:Inv X pins σ (upd H h'.objs.size (.tup ys)) { s with heap:=h'.push { cls:=.type "tuple", data:=.seq its.toArray } }:=
      I1.laid (t':=s.toks) (λ b o e=>Heap.get?_push_of_some _ e) (Nat.le_refl _) (show ObjOk X.prog X.w _ _ _ (.tup ys) from ⟨hz,its,r',IsTup.new _ _⟩)
    exact ⟨.ref h'.objs.size,_,I2,rfl,q _ (I1.hok.fresh (Nat.le_refl _))⟩
  . obtain ⟨its,r',pl,hz⟩:=I.tuple hq
    exact call_tuple_same pl ⟨.ref p,H,I,rfl,q⟩
def tyV (K:PySem.W.Frag) (T:String) (x:V) (H:Hp):Prop:=match x with
  | .str _=>T = "str"
  | .int _=>T = "int"
  | .ref p=>(T = "list"/\∃ xs,SqL K H p xs)\/(T = "tuple"/\∃ o,K.lookup p=some o/\o.cls=.type "tuple"/\o.dict=none) ∨
      (T = "dict"/\((∃ kvs,H p=some (.dK kvs))\/∃ kvs,H p=some (.dT kvs)))\/(T = "set"/\∃ S n,H p=some (.set S n))
  | _=>False
theorem qLq {pins:List (Addr × Obj)} {σ:St} {H:Hp} {s:Shared} {T:String} {x:V} {v:Value} (I:Inv X pins σ H s) (r:RelV x v) (ty:tyV X.K T x H) :
    s.TypeIs v T/\∀ a,v=.ref a->∃ ob,s.heap.get? a=some ob/\ob.dict=none:=by
  cases x with
  | str z=>
    obtain ⟨t,rfl⟩:=r
    cases (show T = "str" from ty)
    exact ⟨typeIs_str s z t,λ _ e=>nomatch e⟩
  | int i=>
    obtain ⟨t,rfl⟩:=r
    cases (show T = "int" from ty)
    exact ⟨typeIs_int s i t,λ _ e=>nomatch e⟩
  | ref p=>
    cases r
    rcases ty with ⟨rfl,xs,hq⟩ | ⟨rfl,o,hk,hc,hd⟩ | ⟨rfl,hk⟩ | ⟨rfl,S,n,hk⟩
    . obtain ⟨its,_,pl,_⟩:=I.list hq
      refine ⟨pl.isList.typeIs,λ a e=>?_⟩
      cases e
      obtain ⟨o,n,e,c,hd,_⟩:=pl
      exact ⟨o,e,hd⟩
    . refine ⟨⟨o,I.kIn p o hk,hc⟩,λ a e=>?_⟩
      cases e
      exact ⟨o,I.kIn _ o hk,hd⟩
    . have z:∃ o,s.heap.get? p=some o/\o.ExactDict:=by
        rcases hk with ⟨kvs,hk⟩ | ⟨kvs,hk⟩
        . obtain ⟨_,_,_,_,o,_,_,e,ex,_⟩:=I.hok p _ hk
          exact ⟨o,e,ex⟩
        . obtain ⟨_,_,_,_,o,_,_,e,ex,_⟩:=I.hok p _ hk
          exact ⟨o,e,ex⟩
      obtain ⟨o,e,ex⟩:=z
      refine ⟨⟨o,e,ex.1⟩,λ a e2=>?_⟩
      cases e2
      exact ⟨o,e,ex.2.1⟩
    . obtain ⟨o,_,_,_,e,ex,_⟩:=I.hok p _ hk
      refine ⟨⟨o,e,ex.1⟩,λ a e2=>?_⟩
      cases e2
      exact ⟨o,e,ex.2.1⟩
  | _=>exact False.elim ty
def tBM0 (K:PySem.W.Frag) (T:String) (r:V->List V->Hp->VK->Prop) (to:TE):TE:=λ σ H Q=>to σ H λ x H1=>tyV K T x H1/\r x [] H1 Q
def tBM (K:PySem.W.Frag) (T:String) (r:V->List V->Hp->VK->Prop) (to:TE) (t:TA):TE:=λ σ H Q=>to σ H λ x H1=>tyV K T x H1/\t σ H1 λ xs H2=>r x xs H2 Q
variable {o e:Expr} {es:List Expr} {to:TE} {t:TA} {name:Str} {apos cpos:Pos} {T id:String} {r:V->List V->Hp->VK->Prop}
theorem vWq (pa:PlainAttrs T) (slot:Slot T name id) (hty:typeOf (.builtin id)=pure (.type "method_descriptor")) (hm:MtR X id r) (ho:PE X o to)
    (hbase:attributeBase o name X.env (eval o X.env)=eval o X.env:=by rfl) (hline:(apos.endLine==cpos.line)=true:=by rfl):PE X (.Call (.Attribute o name apos) [] [] cpos) (tBM0 X.K T r to):=by
  intro pins s σ H Q I h
  refine wpAny_Call_method0_late hbase hline (thn (ho pins s σ H _ I h) λ v s1 ⟨x,H1,I1,r1,ty,q1⟩=>?_)
  obtain ⟨h1,h2⟩:=qLq I1 r1 ty
  exact ⟨T,id,pa,slot,hty,h1,h2,Calls.callWith_builtin rfl (PySem.evalArgs_none (hm pins s1 σ H1 x [] v [] Q I1 r1 .nil q1))⟩
theorem aD2q (pa:PlainAttrs T) (slot:Slot T name id) (hty:typeOf (.builtin id)=pure (.type "method_descriptor")) (hm:MtR X id r) (ho:PE X o to) (ha:PA X (e::es) t)
    (hbase:attributeBase o name X.env (eval o X.env)=eval o X.env:=by rfl)
    (hfew:((backTo cpos (starEach (e::es) X.env)).all (λ x=>!x.1)&&(backToKw cpos (keywordEach [] X.env)).all (λ x=>x.1.isSome)
     &&decide ((e::es).length+([]:List Keyword).length+(if ([]:List Keyword).isEmpty then 0 else 1) < 30))=true:=by rfl)
    (hline:(apos.endLine==cpos.line)=true:=by rfl) (hs:starEach (e::es) X.env=(false,eval e X.env)::starEach es X.env:=by rfl) (hplain:(backTo cpos (starEach es X.env)).any (·.1)=false:=by rfl) :
    PE X (.Call (.Attribute o name apos) (e::es) [] cpos) (tBM X.K T r to t):=by
  intro pins s σ H Q I h
  refine wpAny_Call_method_late hbase hfew hline rfl (thn (ho pins s σ H _ I h) λ v s1 ⟨x,H1,I1,r1,ty,q1⟩=>?_)
  obtain ⟨h1,h2⟩:=qLq I1 r1 ty
  refine ⟨T,id,pa,slot,hty,h1,h2,?_⟩
  have hA:=ha cpos pins s1 σ H1 _ I1 q1
  rw [hs] at hA ⊢
  refine Calls.callWith_builtin (by show (false||(backTo cpos (starEach es X.env)).any (·.1))=false;rw [hplain]<;>rfl) (Calls.evalArgs_plain ?_)
  exact thn hA λ us s2 ⟨vs,H2,I2,r2,q2⟩=>hm pins s2 σ H2 x vs v us Q I2 r1 r2 q2
end
def MtM (X:Cx) (id:String) (r:V->List V->Hp->VK->Prop):Prop:=
  ∀ (pins:List (Addr × Obj)) (s:Shared) (σ:St) (H:Hp) (x:V) (xs:List V) (v:Value) (us:List Value) (Q:VK),Inv X pins σ H s->RelV x v->Vals xs us->r x xs H Q →
    wpAny (model X.prog X.w) X.A (call (.builtin id) (v::us)) (EP X pins σ Q) X.xe s
theorem Vals.one:∀ {x:V} {us:List Value},Vals [x] us->∃ u,us=[u]/\RelV x u
  | _,_,.cons r .nil=>⟨_,rfl,r⟩
theorem Vals.two:∀ {x y:V} {us:List Value},Vals [x,y] us->∃ u v,us=[u,v]/\RelV x u/\RelV y v
  | _,_,_,.cons r (.cons q .nil)=>⟨_,_,rfl,r,q⟩
theorem Vals.zero:∀ {us:List Value},Vals [] us->us=[]
  | _,.nil=>rfl
theorem Vals.dropLast {xs:List V} {us:List Value} (h:Vals xs us):Vals xs.dropLast us.dropLast:=by
  induction h with
  | nil=>exact .nil
  | cons r t ih=>
    cases t with
    | nil=>exact .nil
    | cons q t'=>exact .cons r ih
theorem Vals.reverse {xs:List V} {us:List Value} (h:Vals xs us):Vals xs.reverse us.reverse:=by
  induction h with
  | nil=>exact .nil
  | cons r t ih=>rw [List.reverse_cons,List.reverse_cons];exact Vals.append ih (.cons r .nil)
theorem lAq {α:Type} (l:List α):l.eraseIdx (l.length - 1)=l.dropLast:=by
  induction l with
  | nil=>rfl
  | cons a r ih=>
    cases r with
    | nil=>rfl
    | cons b r=>
      have e:(a::b::r).length - 1=((b::r).length - 1)+1:=by
        have h1:(a::b::r).length=r.length+2:=rfl
        have h2:(b::r).length=r.length+1:=rfl
        omega
      rw [e,List.eraseIdx_cons_succ,ih]
      all_goals rfl
section
variable {X:Cx} {pins:List (Addr × Obj)} {σ:St} {H:Hp} {s:Shared} {l b:Addr} {xs ys zs:List V}
theorem Inv.lset {its its':List Value} {n:Nat} {f:Array Value->Array Value} {t':Nat} (I:Inv X pins σ H s) (hH:H l=some (.lst xs))
    (e:s.heap.get? l=some { cls:=.type "list", data:=.seq its.toArray n }) (hf:f its.toArray=its'.toArray) (hv:Vals ys its') (hz:ys.length<=sizeLine) :
    Inv X pins σ (upd H l (.lst ys)) { s with heap:=s.heap.update l (Obj.mapSeq f),toks:=t' }:=by
  have q:=PySem.IsL.update e f
  rw [hf] at q
  refine I.write (x:=l) (e:=l) (by rw [hH];exact trivial) (.inl rfl) (λ b' u hb hu=>(Heap.get?_update_other s.heap (Obj.mapSeq f) (Ne.symm hb)).trans hu) ⟨_,q⟩ ?_
  exact ⟨hz,its',_,hv,q⟩
theorem Inv.lnew {its:List Value} {t':Nat} (I:Inv X pins σ H s) (hv:Vals ys its) (hz:ys.length<=sizeLine) :
    Inv X pins σ (upd H s.heap.objs.size (.lst ys)) { s with heap:=s.heap.push { cls:=.type "list", data:=.seq its.toArray },toks:=t' }:=
  I.laid (λ _ _ q=>Heap.get?_push_of_some _ q) (Nat.le_refl _) ⟨hz,its,0,hv,Heap.get?_push_size _ rfl⟩
theorem Inv.fresh (I:Inv X pins σ H s):H s.heap.objs.size=none:=I.hok.fresh (Nat.le_refl _)
theorem Inv.lstM (I:Inv X pins σ H s) (hH:H l=some (.lst xs)):xs.length<=sizeLine/\∃ (its:List Value) (n:Nat),Vals xs its/\xs.length=its.length/\s.heap.get? l=some { cls:=.type "list", data:=.seq its.toArray n }:=by
  obtain ⟨z,its,n,r,e⟩:=I.hok l _ hH
  exact ⟨z,its,n,r,r.length,e⟩
theorem kCq {n:Nat} (h:n<=sizeLine):Builtin.List.listTooLong n=false:=by
  unfold Builtin.List.listTooLong
  exact decide_eq_false (by omega)
end
section
variable {X:Cx}
def sGq:V->List V->Hp->VK->Prop:=λ x vs H Q=>∃ l xs y,x=.ref l/\vs=[y]/\H l=some (.lst xs)/\xs.length < sizeLine/\Q .non (upd H l (.lst (xs++[y])))
theorem fGq:MtM X "list.append" sGq:=by
  intro pins s σ H x vs v us Q I rx rv h
  obtain ⟨l,xs,y,rfl,rfl,hH,hz,q⟩:=h
  cases rx
  obtain ⟨u,rfl,ru⟩:=rv.one
  obtain ⟨z,its,n,r,hl,e⟩:=I.lstM hH
  refine call_meets F.slot_list_append ⟨_,e,rfl⟩ F.entry_list_append (F.args_list_append_2 _ _) (PySem.list_append l its.toArray n u (by rw [List.size_toArray];omega)) ⟨e,?_⟩
  refine ⟨.non,_,I.lset (its':=its++[u]) hH e (by simp) (r.append (.cons ru .nil)) ?_,rfl,q⟩
  rw [List.length_append,List.length_singleton]
  omega
def tPq:V->List V->Hp->VK->Prop:=λ x vs H Q=>∃ l b xs zs,x=.ref l/\vs=[.ref b]/\H l=some (.lst xs)/\H b=some (.lst zs)/\xs.length+zs.length<=sizeLine/\Q .non (upd H l (.lst (xs++zs)))
theorem lPq:MtM X "list.extend" tPq:=by
  intro pins s σ H x vs v us Q I rx rv h
  obtain ⟨l,b,xs,zs,rfl,rfl,hH,hB,hz,q⟩:=h
  cases rx
  obtain ⟨u,rfl,ru⟩:=rv.one
  cases ru
  obtain ⟨z,its,n,r,hl,e⟩:=I.lstM hH
  obtain ⟨z2,its2,n2,r2,hl2,e2⟩:=I.lstM hB
  have hsz:its.toArray.size+its2.toArray.size<=sizeLine:=by rw [List.size_toArray,List.size_toArray];omega
  have hlong:¬ (!its.toArray.isEmpty&&Builtin.List.listTooLong (its.toArray.size+its2.toArray.size))=true:=by
    rw [kCq hsz,Bool.and_false]
    exact Bool.false_ne_true
  refine call_meets F.slot_list_extend ⟨_,e,rfl⟩ F.entry_list_extend (F.args_list_extend_2 _ _)
    (AutoSeq1.list_extend_list_list_0 l its.toArray n b its2.toArray n2 hlong (by rw [List.size_toArray];omega) (by omega)) ⟨e,e2,?_⟩
  refine ⟨.non,_,I.lset (its':=its++its2) hH e (by simp) (r.append r2) ?_,rfl,q⟩
  rw [List.length_append]
  omega
def rPop:V->List V->Hp->VK->Prop:=λ x vs H Q=>∃ l xs y,x=.ref l/\vs=[]/\H l=some (.lst xs)/\xs[xs.length - 1]?=some y/\Q y (upd H l (.lst xs.dropLast))
theorem y2q:MtM X "list.pop" rPop:=by
  intro pins s σ H x vs v us Q I rx rv h
  obtain ⟨l,xs,y,rfl,rfl,hH,hy,q⟩:=h
  cases rx
  have hus:=rv.zero
  subst hus
  obtain ⟨z,its,n,r,hl,e⟩:=I.lstM hH
  obtain ⟨u,hu,ru⟩:=r.get hy
  have hy':its.toArray[its.toArray.size - 1]?=some u:=by
    show its.toArray[its.length - 1]?=some u
    rw [<- Array.getElem?_toList,<- hl]
    exact hu
  refine call_meets F.slot_list_pop ⟨_,e,rfl⟩ F.entry_list_pop (F.args_list_pop_1 _) (MeetsSeq.list_pop_last l its.toArray n u hy' (by rw [List.size_toArray];omega)) ⟨e,?_⟩
  refine ⟨y,_,I.lset (its':=its.dropLast) hH e ?_ r.dropLast ?_,ru,q⟩
  . show its.toArray.eraseIdxIfInBounds (its.toArray.size - 1)=its.dropLast.toArray
    rw [List.size_toArray,List.eraseIdxIfInBounds_toArray,lAq]
  . rw [List.length_dropLast]
    omega
def rCat:R2:=λ x y H Q=>∃ l b xs zs,x=.ref l/\y=.ref b/\H l=some (.lst xs)/\H b=some (.lst zs)/\xs.length+zs.length<=sizeLine/\∀ p,H p=none->Q (.ref p) (upd H p (.lst (xs++zs)))
theorem uMq:OpR X (binaryOp .Add) rCat:=by
  intro pins s σ H x y v u Q I rx ry h
  obtain ⟨l,b,xs,zs,rfl,rfl,hH,hB,hz,q⟩:=h
  cases rx
  cases ry
  obtain ⟨z,its,n,r,hl,e⟩:=I.lstM hH
  obtain ⟨z2,its2,n2,r2,hl2,e2⟩:=I.lstM hB
  refine PySem.P.add_list e e2 ?_ (by rw [List.size_toArray,List.size_toArray];omega)
  have ea:its.toArray++its2.toArray=(its++its2).toArray:=by simp
  rw [ea]
  exact ⟨.ref _,_,I.lnew (t':=s.toks) (r.append r2) (by rw [List.length_append];omega),rfl,q _ I.fresh⟩
end
section
variable {prog:Program} {w:World} {A:Around} {E:Value->Shared->Prop} {s:Shared}
end
section
variable {X:Cx}
end
end L2
namespace Att
open PySem PySem.W PySem.Calls PyProof.Rows
theorem eUq {P:Params} {h:Heap}:∀ (ns:List Int) (vs:List Value),WellAll P h vs (ns.map WData.int)->IntsAre vs ns:=by
  intro ns
  induction ns with
  | nil=>
    intro vs w
    rw [List.map_nil] at w
    cases w
    exact .nil
  | cons n ns ih=>
    intro vs w
    rw [List.map_cons] at w
    cases w with
    | cons a b=>
      cases a
      exact .cons _ _ (ih _ b)
theorem m2q {l:OpenLaw} {n:Nat} (hn:l.most=some n) {P:Params} {h:Heap} {args:List WData} {vals:List Value}
    (hpre:l.row.toRowW.claim.pre args=true) (hwl:WellAll P h vals args) :
    ∃ a vs ns,vals=[Value.ref a]/\args=[WData.list (ns.map WData.int)]/\h.get? a=some { cls:=.type "list", data:=.seq vs.toArray }/\IntsAre vs ns/\ns.length<=n:=by
  have hsh:WShape.hasAll [] args [.list .int]=true:=(pre_splitW hpre).1
  have hc:l.pre.holds [] { args:=args }=true:=(pre_splitW hpre).2
  obtain ⟨d,r,rfl,h1,h2⟩:=hasAllW_cons hsh
  obtain rfl:=hasAllW_nil h2
  obtain ⟨xs,rfl,h3⟩:=hasW_list h1
  obtain ⟨ns,rfl⟩:=items_int h3
  have hlen:ns.length<=n:=by
    unfold OpenLaw.pre at hc
    have h4:(WTm.not (.lt (.lit (.int (n:Int))) (.len (.arg 0)))).holds [] { args:=[.list (ns.map .int)] }=true:=by
      have h4:=(holds_andW hc).1
      rw [hn] at h4
      exact h4
    have h5:=condW_of h4 (w_not (w_lt w_lit (w_len_list (w_arg rfl))))
    rw [List.length_map] at h5
    refine Nat.le_of_not_lt λ q=>?_
    have q':(n:Int) < ((ns.length:Nat):Int):=by omega
    first
      | (rw [decide_eq_true q'] at h5;exact absurd h5 (by decide))
      | (simp at h5;omega)
  cases hwl with
  | cons w1 w2=>
    cases w2
    cases w1 with
    | list ho hall=>exact ⟨_,_,ns,rfl,rfl,ho,eUq ns _ hall,hlen⟩
theorem n4q (l:OpenLaw) (args:List WData):l.row.toRowW.claim.post args (.bool true) args=true:=
  postW_of (r:=l.row.toRowW) (X:=(true==true))
    (show WShape.has [] (.bool true) .bool=true by first | rfl | decide | simp [WShape.has,WShape.arms,WShape.armsAll])
    (show (WTm.eq .res (.lit (.bool true))).value [] { args:=args,res:=some (.bool true),after:=args }=some (.bool (true==true)) from w_eq_bool (w_res rfl) w_lit) rfl
theorem attach_call {l:OpenLaw} {n:Nat} {q:Program} {loose:List Str} {XP:(Str->Option Value)->Heap->Prop} {YP:World->Heap->Prop} {d:DefRec}
    (hn:l.most=some n) (hdf:d.params.defaults=[])
    (call:∀ (w:World) (s₀ s₁:Shared) (mg mb:Str->Option Value) (fa:Addr) (o:Obj) (pm cd doc:Value) (a:Addr) (vs:List Value) (ns:List Int),
      Ground q loose [] XP w s₀ mg mb s₁.heap->YP w s₁.heap →
      s₁.heap.get? fa=some o->o.data=.func (docDef d.name d.params d.body d.scope pm cd doc)->s₁.heap.CodeRec cd d.name->mg d.name=some (.ref fa) →
      s₁.heap.get? a=some { cls:=.type "list", data:=.seq vs.toArray }->IntsAre vs ns->ns.length<=n->s₁.gens=#[] →
      codeAny (model l.prog w) callerA (.call (.ref fa) ⟨[.ref a],[]⟩) (λ r s'=>r=.ok (.ret (.bool true))/\OldK s₁.heap s'.heap/\s'.os=s₁.os/\AllBare s'.gens) s₁) :
    WalkO q loose XP YP l.row.toRowW d [] (λ f vs=>PySem.call f vs):=by
  intro w s₀ s₁ mg mb G Y fa o pm cd doc dV kV ho hd hcd hD hmg hg args vals as hpre hlay hrd hwl hlo
  obtain rfl:dV=.none:=Dflts.none hD hdf
  obtain rfl:kV=.none:=Dflts.noKw hD
  obtain ⟨a,vs,ns,rfl,rfl,hobj,hints,hlen⟩:=m2q hn hpre hwl
  refine enter_call (codeAny_mono (call w s₀ s₁ mg mb fa o pm cd doc a vs ns G Y ho (fd_plain hd) hcd hmg hobj hints hlen hg) λ r s' hq=>?_)
  obtain ⟨rfl,h2,h3,h4⟩:=hq
  exact ⟨.inl ⟨.bool true,.bool true,[],rfl,λ _=>rfl,.bool true,n4q l _,λ _=>⟨List.Pairwise.nil,λ _ hm=>(nomatch hm)⟩⟩,h2,h3,h4⟩
section
variable {prog:Program} {w:World} {A:Around} {E:Value->Shared->Prop} {s:Shared} {K:Frag}
end
end Att
namespace L2
open PySem PySem.Spec PyProof.Rows
theorem i7q:∀ {vs:List Value} {ns:List Int},IntsAre vs ns->Vals (ns.map V.int) vs
  | _,_,.nil=>.nil
  | _,_,.cons n t h=>.cons ⟨t,rfl⟩ (i7q h)
def yCq (H:Hp):Prop:=∀ b,H b=none\/∃ o xs,H b=some (.frz o (.lst xs))
theorem p3q {P:Program} {w:World} {K:PySem.W.Frag} {mg mb:Str->Option Value} {CX:CXT} {k:Nat} {fa a:Addr} {fd:FuncData} {x:Str} {sp:Sp} {s₁:Shared} {vs:List Value} {ns:List Int}
    (KX:K.In s₁.heap) (hns:s₁.heap.Ns mainGlobals mg) (hb:s₁.heap.Ns builtinsNs mb) (hbb:∀ x:Str,x≠"__name__"->mb x=bootBuiltins x) (hlim:s₁.heap.NoLimit) (hg:s₁.gens=#[])
    (ha:s₁.heap.get? a=some { cls:=.type "list", data:=.seq vs.toArray }) (hi:IntsAre vs ns) (hl:ns.length<=sizeLine) (hr:Room k callerA)
    (F:∀ base:Heap,K.In base->base.Ns mainGlobals mg->FnOk P w K mg base CX k fa fd [x] sp) (hbind:∀ (s:Shared) (u:Value),BindsTo s fd ⟨[u],[]⟩ [(x,u)])
    (hsp:∀ H:Hp,yCq H->SqL K H a (ns.map V.int)->sp [.ref a] H (λ v _=>v=.bl true) λ _ _ _=>False)
    (hCX:∀ H e s',CX [] H s₁ (λ _ _ _=>False) e s'->False) :
    codeAny (model P w) callerA (.call (.ref fa) ⟨[.ref a],[]⟩) (λ r s'=>r=.ok (.ret (.bool true))/\OldK s₁.heap s'.heap/\s'.os=s₁.os/\AllBare s'.gens) s₁:=by
  have rv:=i7q hi
  have lenV:=hi.length
  have core:∀ H:Hp,yCq H->SqL K H a (ns.map V.int)->HOk P w H s₁.heap->(∀ b,H b≠none->b=a)->(H a≠none->K.lookup a=none) →
      codeAny (model P w) callerA (.call (.ref fa) ⟨[.ref a],[]⟩) (λ r s'=>r=.ok (.ret (.bool true))/\OldK s₁.heap s'.heap/\s'.os=s₁.os/\AllBare s'.gens) s₁:=by
    intro H hO hS hok hA hK
    have base_of:∀ {b:Addr} {o:Obj},s₁.heap.get? b=some o->H b=none->(p9q s₁.heap H).get? b=some o:=λ e n=>pVq e n
    have noA:∀ {b:Addr} {o:Obj} {es:Array DictEntry} {ep:Nat},s₁.heap.get? b=some o->o.data=.dict es ep->H b=none:=λ{b o es ep} e d=>by
      cases q:H b with
      | none=>rfl
      | some u=>
        have e':b=a:=hA b (by rw [q];simp)
        subst e'
        rw [ha] at e;cases e
        have d':Data.seq vs.toArray _=Data.dict es ep:=d
        cases d'
    have nsK:∀ {b:Addr} {m:Str->Option Value},s₁.heap.Ns b m->(p9q s₁.heap H).Ns b m:=λ{b m} ⟨o,es,ep,e,d,r⟩=>⟨o,es,ep,base_of e (noA e d),d,r⟩
    have hKb:K.In (p9q s₁.heap H):=λ b o e=>base_of (KX b o e) (by
      cases q:H b with
      | none=>rfl
      | some u=>
        have e':b=a:=hA b (by rw [q];simp)
        subst e'
        rw [hK (by rw [q];simp)] at e;cases e)
    have hM:Mod K mg (p9q s₁.heap H):=⟨hKb,nsK hns,⟨mb,nsK hb,hbb⟩,let ⟨mc,h1,h2⟩:=hlim;⟨mc,nsK h1,h2⟩⟩
    have e0:Env0 P w K mg (p9q s₁.heap H) callerA [] s₁ H:=⟨rfl,hM,λ b o e=>rCq e,Nat.le_of_eq (mOq _ _),trivial,λ b hb=>absurd (show b∈([]:List Addr) from hb) (by simp),hok,.of_eq hg⟩
    refine codeAny_mono ((F _ hKb (nsK hns)).run callerA [] s₁ H ⟨[.ref a],[]⟩ [.ref a] [.ref a] _ _ hr e0 (hbind s₁ (.ref a)) (.cons rfl .nil) (hsp H hO hS)) λ r s' h=>?_
    cases r with
    | error e=>exact (hCX H e s' h).elim
    | ok fl=>
      cases fl with
      | next=>exact False.elim h
      | brk=>exact False.elim h
      | cont=>exact False.elim h
      | ret u=>
        obtain ⟨v,H',os,bare,un,hok',r',q⟩:=h
        have q':v=.bl true:=q
        subst q'
        obtain rfl:u=Value.bool true:=r'
        refine ⟨rfl,OldK.of_keep λ b o e=>?_,os,bare⟩
        cases q:H b with
        | none=>exact un.keep b o e q (by intro z;exact absurd (show b∈([]:List Addr) from z) (by simp)) (by simp)
        | some u=>
          rcases hO b with z | ⟨ob,xs,z⟩
          . rw [q] at z;cases z
          . have z2:=un.frzs b ob _ z
            obtain ⟨e1,_⟩:=hok b _ z
            obtain ⟨e2,_⟩:=hok' b _ z2
            rw [e] at e1;cases e1
            exact e2
  cases hk:K.lookup a with
  | some o=>
    have e:=KX a o hk
    rw [ha] at e
    cases e
    refine core (λ _=>none) (λ _=>.inl rfl) (.inr ⟨_,vs.toArray,_,hk,rfl,rfl,rfl,by rw [List.size_toArray,lenV];exact hl,by simpa using rv⟩) (λ b u z=>by have z':(none:Option HO)=some u:=z;cases z') (λ b z=>absurd rfl z) λ z=>absurd rfl z
  | none=>
    refine core (λ b=>if b=a then some (.frz { cls:=.type "list", data:=.seq vs.toArray } (.lst (ns.map V.int))) else none) (λ b=>?_) (.inl (.inr ⟨{ cls:=.type "list", data:=.seq vs.toArray },if_pos rfl⟩)) (λ b u z=>?_) (λ b z=>?_) λ _=>hk
    . by_cases hb:b=a
      . exact .inr ⟨_,_,if_pos hb⟩
      . exact .inl (if_neg hb)
    . by_cases hb:b=a
      . have z':=(if_pos hb).symm.trans z
        cases z'
        subst hb
        exact ⟨ha,by rw [List.length_map];exact hl,vs,_,rv,ha⟩
      . have z':=(if_neg hb).symm.trans z
        cases z'
    . by_cases hb:b=a
      . exact hb
      . exact absurd (if_neg hb) z
theorem sYq {l:PySem.W.OpenLaw} {n k:Nat} {q:Program} {loose:List Str} {XP:(Str->Option Value)->Heap->Prop} {YP:World->Heap->Prop} {d:DefRec} {K:Params->PySem.W.Frag} {CX:World->CXT} {sp:World->Sp} {x:Str}
    (hn:l.most=some n) (hn2:n<=sizeLine) (hdf:d.params.defaults=[]) (hr:Room k callerA)
    (hY:∀ (w:World) (h:Heap),YP w h->(K w.params).In h)
    (F:∀ (w:World) (mg:Str->Option Value) (fa:Addr) (h:Heap),(K w.params).In h->h.Ns mainGlobals mg->mg d.name=some (.ref fa) →
      ∃ fd:FuncData,(∀ (s:Shared) (u:Value),BindsTo s fd ⟨[u],[]⟩ [(x,u)]) ∧
        ∀ base:Heap,(K w.params).In base->base.Ns mainGlobals mg->FnOk l.prog w (K w.params) mg base (CX w) k fa fd [x] (sp w))
    (hsp:∀ (w:World) (H:Hp) (a:Addr) (ns:List Int),ns.length<=n->yCq H->SqL (K w.params) H a (ns.map V.int)->sp w [.ref a] H (λ v _=>v=.bl true) λ _ _ _=>False)
    (hCX:∀ (w:World) (H:Hp) (s:Shared) (e:Value) (s':Shared),CX w [] H s (λ _ _ _=>False) e s'->False) :
    PySem.W.WalkO q loose XP YP l.row.toRowW d [] (λ f vs=>PySem.call f vs):=by
  refine Att.attach_call hn hdf λ w s₀ s₁ mg mb fa o pm cd doc a vs ns G Y ho hd hcd hmg hobj hints hlen hg=>?_
  have KX:=hY w _ Y
  obtain ⟨fd,hb,hF⟩:=F w mg fa _ KX G.T.g hmg
  exact p3q KX G.T.g G.T.b G.T.builtins G.T.nolimit hg hobj hints (Nat.le_trans hlen hn2) hr hF hb (λ H hO hS=>hsp w H a ns hlen hO hS) λ H e s'=>hCX w H s₁ e s'
def cIq (s:Stmt):Arguments:=match s with
  | .FunctionDef _ a _ _ _ _ _ _ _ _=>a
  | _=>{ posonlyargs:=[],args:=[],vararg:=none,kwonlyargs:=[],kw_defaults:=[],kwarg:=none,defaults:=[] }
def bMq (s:Stmt):List Stmt:=match s with
  | .FunctionDef _ _ b _ _ _ _ _ _ _=>b
  | _=>[]
def aAq (s:Stmt):Scope:=match s with
  | .FunctionDef _ _ _ _ _ _ sc _ _ _=>sc
  | _=>{ kind:=.function,names:=[],isGenerator:=false,isCoroutine:=false }
abbrev CX0:CXT:=λ _ _ _ _ _ _=>False
abbrev E0:XK:=λ _ _ _=>False
theorem y8q {X:Cx}:lWq CX0 X E0:=λ _ _ _ _ _ _ _ h=>h.elim
structure Fun (K:PySem.W.Frag) (x qual:Str) (st:Stmt) (f:Addr) (fd:FuncData):Prop where
  ex:∃ (oc:Value) (od:Option Addr) (kV doc pm:Value) (an:Option Addr) (cdv ct:Value) (osl:Array (Option Value)),
    fd=PySem.W.fnOf x qual (cIq st) (bMq st) (aAq st) .none kV doc pm an cdv ct/\K.lookup f=some ⟨oc,od,.func fd,osl⟩/\PySem.W.codeIn K cdv qual=true
  kp:PySem.W.keepIn K (.ref f)=true
section
variable {P:Program} {w:World} {K:PySem.W.Frag} {mg:Str->Option Value} {base:Heap}
theorem Fun.ok {x qual:Str} {st:Stmt} {f:Addr} {fd:FuncData} {N ps:List Str} {k:Nat} {sp:Sp} (F:Fun K x qual st f fd) (S:FnScope N ps (aAq st)) (len:∀ vs H Q E,sp vs H Q E->vs.length=ps.length)
    (hbody:∀ (cdv:Value) (A:Around) (outer:List Env) (s:Shared) (H:Hp) (vs:List V) (Q:VK) (E:XK),Room k (A.deeper (envOfC qual (aAq st) s.heap.objs.size f cdv))->sp vs H Q E →
      ∃ t,PSs (qNq CX0 P w K mg base N qual (aAq st) f cdv A outer s H E).nox (bMq st) t/\t { nx:=λ _ H'=>Q .non H',rt:=Q } (e2q N vs) H):FnOk P w K mg base CX0 (k+1) f fd ps sp:=by
  obtain ⟨oc,od,kV,doc,pm,an,cdv,ct,osl,rfl,lk,hcd⟩:=F.ex
  refine aB2q lk hcd S len λ A outer s H vs Q E hr hsp=>?_
  obtain ⟨t,h,q⟩:=hbody cdv A outer s H vs Q E hr hsp
  exact ⟨t,h.nox,q⟩
theorem Fun.binds {x qual:Str} {st:Stmt} {f:Addr} {fd:FuncData} {ps:List Str} (F:Fun K x qual st f fd)
    (h:∀ (kV doc pm:Value) (an:Option Addr) (cdv ct:Value) (us:List Value),us.length=ps.length->bindArgs (PySem.W.fnOf x qual (cIq st) (bMq st) (aAq st) .none kV doc pm an cdv ct) ⟨us,[]⟩=pure (ps.zip us)):Binds K fd ps []:=by
  obtain ⟨oc,od,kV,doc,pm,an,cdv,ct,osl,rfl,lk,hcd⟩:=F.ex
  exact .all (h kV doc pm an cdv ct)
theorem vKq {x qual:Str} {st:Stmt} {f:Addr} {oc:Value} {od an:Option Addr} {osl:Array (Option Value)} {kV doc pm cdv ct:Value} (l:K.lookup f=some ⟨oc,od,.func (PySem.W.fnOf x qual (cIq st) (bMq st) (aAq st) .none kV doc pm an cdv ct),osl⟩)
 (c:PySem.W.codeIn K cdv qual=true) (k:PySem.W.keepIn K (.ref f)=true):Fun K x qual st f (PySem.W.fnOf x qual (cIq st) (bMq st) (aAq st) .none kV doc pm an cdv ct):=⟨⟨oc,od,kV,doc,pm,an,cdv,ct,osl,rfl,l,c⟩,k⟩
end
section
variable {X:Cx}
end
def Same (H H':Hp):Prop:=∀ b o,H b=some o->H' b=some o
theorem Same.refl (H:Hp):Same H H:=λ _ _ h=>h
def cCq (cells:List (Str × Addr)):List (Str × NameKind)->List (Str × Addr)->List (Str × Addr)
  | [],acc=>acc
  | (n,k)::r,acc=>cCq cells r (if k=.free then (n,(cells.lookup n).getD 0)::acc else acc)
theorem g4q {α β:Type} {f:α->β->Sem (ForInStep β)} (g:β->α->β):∀ (l:List α) (c:β),(∀ x∈l,∀ c,f x c=pure (.yield (g c x)))->forIn l c f=pure (l.foldl g c)
  | [],_,_=>rfl
  | x::l,c,h=>by
    rw [List.forIn_cons,h x List.mem_cons_self,pure_bind]
    exact g4q g l _ λ y hy=>h y (List.mem_cons_of_mem _ hy)
theorem g6q (cells:List (Str × Addr)):∀ (names:List (Str × NameKind)) (acc:List (Str × Addr)),
    names.foldl (λ c y=>if y.2=.free then (y.1,(cells.lookup y.1).getD 0)::c else c) acc=cCq cells names acc
  | [],_=>rfl
  | (n,k)::r,acc=>by
    rw [List.foldl_cons,cCq]
    exact g6q cells r _
theorem mWq {scope:Scope} {env:Env} (h:∀ y∈scope.names,y.2=.free->∃ c,env.cells.lookup y.1=some c):closureFor scope env=pure (cCq env.cells scope.names []):=by
  rw [<- g6q]
  simp only [closureFor]
  rw [g4q (λ c y=>if y.2=.free then (y.1,(env.cells.lookup y.1).getD 0)::c else c) scope.names [] λ x hx c=>?_]
  . rfl
  . obtain ⟨n,k⟩:=x
    by_cases hk:k=.free
    . subst hk
      obtain ⟨a,e⟩:=h _ hx rfl
      have e':env.cells.lookup n=some a:=e
      simp [cellOf,e']
    . have hb:(k==NameKind.free)=false:=by simpa using hk
      simp [hb,hk]
theorem jYq {cells:List (Str × Addr)}:∀ (names:List (Str × NameKind)) (acc:List (Str × Addr)),(∀ y∈names,y.2=.free->∃ c,cells.lookup y.1=some c)->(∀ x c,acc.lookup x=some c->cells.lookup x=some c) →
    ∀ x c,(cCq cells names acc).lookup x=some c->cells.lookup x=some c
  | [],_,_,ha=>ha
  | (n,k)::r,acc,h,ha=>by
    rw [cCq]
    refine jYq r _ (λ y hy=>h y (List.mem_cons_of_mem _ hy)) λ x c e=>?_
    by_cases hk:k=.free
    . rw [if_pos hk] at e
      obtain ⟨a,ea⟩:=h (n,k) List.mem_cons_self hk
      have ea':cells.lookup n=some a:=ea
      rw [List.lookup_cons] at e
      cases hx:x==n with
      | true=>
        rw [hx] at e
        have e2:some ((cells.lookup n).getD 0)=some c:=e
        rw [ea'] at e2
        have e3:a=c:=Option.some.inj e2
        rw [eq_of_beq hx,ea',e3]
      | false=>
        rw [hx] at e
        exact ha x c e
    . rw [if_neg hk] at e
      exact ha x c e
theorem hYq {cells:List (Str × Addr)} {x:Str}:∀ (names:List (Str × NameKind)) (acc:List (Str × Addr)),(acc.lookup x).isSome=true->((cCq cells names acc).lookup x).isSome=true
  | [],_,h=>h
  | (n,k)::r,acc,h=>by
    rw [cCq]
    refine hYq r _ ?_
    by_cases hk:k=.free
    . rw [if_pos hk,List.lookup_cons]
      cases hx:x==n with
      | true=>rfl
      | false=>exact h
    . rw [if_neg hk];exact h
theorem fFq {cells:List (Str × Addr)} {x:Str}:∀ (names:List (Str × NameKind)) (acc:List (Str × Addr)),(x,NameKind.free)∈names->((cCq cells names acc).lookup x).isSome=true
  | [],_,h=>nomatch h
  | (n,k)::r,acc,h=>by
    rw [cCq]
    rcases List.mem_cons.mp h with e | h
    . cases e
      refine hYq r _ ?_
      rw [if_pos rfl,List.lookup_cons,beq_self_eq_true];rfl
    . exact fFq r _ h
theorem fYq {g:Str->NameKind->NameKind} {x:Str}:∀ names:List (Str × NameKind),(names.map λ y=>(y.1,g y.1 y.2)).lookup x=(names.lookup x).map (g x)
  | []=>rfl
  | (n,k)::r=>by
    rw [List.map_cons,List.lookup_cons,List.lookup_cons]
    cases hx:x==n with
    | true=>
      have e:=eq_of_beq hx
      subst e;rfl
    | false=>exact fYq r
theorem gYq (scope:Scope) (env:Env):(relabel scope env).names=scope.names.map λ y=>(y.1,if (y.2==.free&&env.scope.kind==.function&&env.kindOf y.1==some .cell)=true then NameKind.cell else y.2):=by
  unfold relabel
  refine List.map_congr_left λ y _=>?_
  obtain ⟨n,k⟩:=y
  show (if (k==.free&&env.scope.kind==.function&&env.kindOf n==some .cell)=true then (n,NameKind.cell) else (n,k))=_
  split<;>simp_all
theorem eDq (scope:Scope) (env:Env) (x:Str):(relabel scope env).names.lookup x=(scope.names.lookup x).map λ k=>if (k==.free&&env.scope.kind==.function&&env.kindOf x==some .cell)=true then NameKind.cell else k:=by
  rw [gYq]
  exact fYq (g:=λ n k=>if (k==.free&&env.scope.kind==.function&&env.kindOf n==some .cell)=true then NameKind.cell else k) scope.names
def aZq (X:Cx) (scope:Scope) (N':List Str) (C:Addr) (ex:List Addr) (s:Shared) (H:Hp):Cx:=
  { X with N:=N',s₀:=s,H₀:=H,env:=compEnvC scope (cCq X.env.cells scope.names []) C X.env,outer:=X.stack,stack:=X.stack,ex:=ex,fn:=λ _=>false,pn:=[],xe:=λ _ _=>False }
def dEq (nt:Nat) (cap:List Nat) (σ:St):St:=List.replicate nt none++cap.map λ i=>(σ[i]?).join
structure CompOk (X:Cx) (scope:Scope) (N':List Str) (nt:Nat) (cap:List Nat):Prop where
  kind:scope.kind=.function
  nocell:∀ y∈scope.names,y.2≠.cell
  locs:∀ y∈scope.names,y.2=.local->scope.names.lookup y.1=some .local
  frees:∀ y∈scope.names,y.2=.free->X.env.scope.names.lookup y.1=some .cell\/X.env.scope.names.lookup y.1=some .free
  len:N'.length=nt+cap.length
  caps:∀ (j i:Nat) (x:Str),cap[j]?=some i->N'[nt+j]?=some x->X.N[i]?=some x/\scope.names.lookup x=some .free
section
variable {X:Cx} {scope:Scope} {N':List Str} {nt:Nat} {cap:List Nat} {pins:List (Addr × Obj)} {σ:St} {H:Hp} {s:Shared}
theorem CompOk.has (c:CompOk X scope N' nt cap) (ok:X.Ok):∀ y∈scope.names,y.2=.free->∃ a,X.env.cells.lookup y.1=some a:=λ y hy hk=>ok.has y.1 (c.frees y hy hk)
theorem CompOk.cells (c:CompOk X scope N' nt cap) (ok:X.Ok) {x:Str} {a:Addr} (e:(cCq X.env.cells scope.names []).lookup x=some a):X.env.cells.lookup x=some a:=
  jYq scope.names [] (c.has ok) (λ _ _ z=>by simp at z) x a e
theorem CompOk.free_of (c:CompOk X scope N' nt cap) {x:Str} (h:(relabel scope X.env).names.lookup x=some .cell\/(relabel scope X.env).names.lookup x=some .free):(x,NameKind.free)∈scope.names:=by
  rw [eDq] at h
  cases q:scope.names.lookup x with
  | none=>rw [q] at h;simp at h
  | some k=>
    have hm:=PySem.mem_of_lookup q
    have nc:k≠.cell:=c.nocell _ hm
    rw [q] at h
    by_cases hk:k=.free
    . subst hk;exact hm
    . have hb:(k==NameKind.free)=false:=by simpa using hk
      simp only [Option.map_some,hb,Bool.false_and,Bool.false_eq_true,if_false,Option.some.injEq] at h
      rcases h with h | h
      . exact absurd h nc
      . exact absurd h hk
theorem Inv.comp (I:Inv X pins σ H s) (c:CompOk X scope N' nt cap) {fp:List Addr} (hf:∀ b∈fp,iTq X pins H b) (hfs:∀ b∈fp,b < s.heap.objs.size) {h':Heap} {m:Str->Option Value} {t':Nat}
    (hk:∀ b o,s.heap.get? b=some o->h'.get? b=some o) (hn:h'.Ns s.heap.objs.size m) :
    Inv (aZq X scope N' s.heap.objs.size fp s H) [] (dEq nt cap σ) H { s with heap:=h',toks:=t' }:=by
  have cl:=λ{x:Str} {a:Addr} (e:(cCq X.env.cells scope.names []).lookup x=some a)=>c.cells I.ok e
  have cellLt:∀ x a,X.env.cells.lookup x=some a->a < s.heap.objs.size:=λ x a e=>by
    obtain ⟨v,q⟩:=I.cell x a e
    exact q.lt
  refine ⟨⟨I.ok.mod,c.kind,I.ok.glob,I.ok.blt,Nat.le_refl _,λ x y a e1 e2=>I.ok.inj x y a (cl e1) (cl e2),λ x hx=>?_,λ x a hx=>absurd hx Bool.false_ne_true,I.ok.hd,I.ok.frames,.inl rfl,λ b hb=>⟨?_,λ x a e=>?_⟩,
      λ b o e=>I.bs b o e,Nat.le_trans I.ok.bsz I.sz,λ b o e hb=>?_,λ b hb hbf=>?_,I.stack,λ b hb=>I.stkFree b hb⟩,
    rfl,I.bare,Un.kept hk,⟨m,hn,λ i x v e1 e2 e3=>?_⟩,λ x a e=>?_,I.hok.fresh (Nat.le_refl _),λ x a e=>I.freeC x a (cl e),λ p hp=>absurd (show p∈([]:List (Addr × Obj)) from hp) (by simp),I.hok.kept hk,?_⟩
  . exact Option.isSome_iff_exists.mp (fFq scope.names [] (c.free_of hx))
  . exact Nat.ne_of_lt (hfs b hb)
  . exact (hf b hb).2.2.2.2.1 x a (cl e)
  . obtain ⟨f0,f1,f2,f3,_⟩:=hf b hb
    rcases f3 with z | z
    . exact I.ok.noex b o e z
    . exact absurd (Nat.lt_of_lt_of_le (Heap.lt_size e) (Nat.le_trans I.ok.bsz z)) (Nat.lt_irrefl _)
  . obtain ⟨f0,f1,f2,_⟩:=hf b hb
    rcases List.mem_cons.mp (I.stkSub b hbf) with z | z
    . exact f1 z
    . exact f2 z
  .
    have e1':N'[i]?=some x:=e1
    have hi:nt<=i:=by
      refine Nat.le_of_not_lt λ q=>?_
      unfold dEq at e2
      rw [List.getElem?_append_left (by simpa using q),List.getElem?_replicate,if_pos q] at e2
      cases e2
    obtain ⟨j,rfl⟩:=Nat.exists_eq_add_of_le hi
    unfold dEq at e2
    rw [List.getElem?_append_right (by simp),List.length_replicate,Nat.add_sub_cancel_left,List.getElem?_map] at e2
    cases q:cap[j]? with
    | none=>rw [q] at e2;cases e2
    | some k=>
      rw [q] at e2
      have e2':(σ[k]?).join=some v:=Option.some.inj e2
      have e4:σ[k]?=some (some v):=by
        cases z:σ[k]? with
        | none=>rw [z] at e2';cases e2'
        | some w'=>rw [z] at e2';exact congrArg some e2'
      obtain ⟨n1,n2⟩:=c.caps j k x q e1'
      have hmem:=PySem.mem_of_lookup n2
      have hkind:=c.frees _ hmem rfl
      obtain ⟨m0,_,hl⟩:=I.loc
      obtain ⟨u,r,lk⟩:=hl k x v n1 e4 (.inr hkind)
      refine ⟨u,r,.inr ⟨?_,?_⟩⟩
      . show (relabel scope X.env).names.lookup x=some .cell\/(relabel scope X.env).names.lookup x=some .free
        rw [eDq,n2]
        by_cases z:((NameKind.free==.free&&X.env.scope.kind==.function&&X.env.kindOf x==some .cell)=true)
        . exact .inl (by rw [Option.map_some,if_pos z])
        . exact .inr (by rw [Option.map_some,if_neg z])
      . rcases lk with ⟨k1,_⟩ | ⟨_,a,e,z⟩
        . have k1':X.env.scope.names.lookup x=some .local:=k1
          rcases hkind with y | y<;>(rw [k1'] at y;cases y)
        . obtain ⟨a',ea⟩:=Option.isSome_iff_exists.mp (fFq (cells:=X.env.cells) scope.names [] hmem)
          have e':=cl ea
          rw [e] at e';cases e'
          obtain ⟨o,ho,hd⟩:=z
          exact ⟨a,ea,o,hk _ _ ho,hd⟩
  . obtain ⟨v,o,ho,hd⟩:=I.cell x a (cl e)
    exact ⟨v,o,hk _ _ ho,hd⟩
  . show (dEq nt cap σ).length=N'.length
    unfold dEq
    rw [List.length_append,List.length_replicate,List.length_map,c.len]
theorem Inv.uncomp {C:Addr} {fp:List Addr} {σ':St} {H':Hp} {s':Shared} (I:Inv X pins σ H s) (hC:C=s.heap.objs.size) (hf:∀ b∈fp,iTq X pins H b) {N':List Str} (J:Inv (aZq X scope N' C fp s H) [] σ' H' s') :
    ∃ m,s'.heap.Ns C m/\∀ h',Heap.SameBut C s'.heap h'->Inv X pins σ H' { s' with heap:=h' }:=by
  subst hC
  obtain ⟨m,hn,_⟩:=J.loc
  refine ⟨m,hn,λ h' hs=>?_⟩
  have ne:∀ b o,s.heap.get? b=some o->b≠s.heap.objs.size:=λ b o e=>Nat.ne_of_lt (Heap.lt_size e)
  have B:=J.base
  refine I.call' (ch:=fp) J.os ⟨λ b o e n hb hx=>?_,λ b o e n hb hx=>?_,B.free,λ b o e hx=>?_,B.tups,B.frzs,B.tbls⟩ (λ b u e=>?_) J.bare λ b hb=>?_
  . exact (hs.2 b (ne b o e)).trans (B.keep b o e n hb hx)
  . obtain ⟨sl,q⟩:=B.slot b o e n hb hx
    exact ⟨sl,(hs.2 b (ne b o e)).trans q⟩
  . obtain ⟨o',q⟩:=B.there b o e hx
    exact ⟨o',(hs.2 b (ne b o e)).trans q⟩
  . have hCn:H' s.heap.objs.size=none:=J.free
    refine (J.hok b u e).stay (λ d w' hd q=>(hs.2 d ?_).trans q) (λ _ q=>q) λ _ _ q=>q
    intro z
    subst z
    rcases hd with z | z
    . rw [<- z,hCn] at e;cases e
    . rw [hCn] at z;cases z
  . obtain ⟨f0,f1,f2,f3,f4,f5⟩:=hf b hb
    exact ⟨f3,f1,f4,f5⟩
end
def m9q (wi:TI) (g:TG) (te:TE) (nt:Nat) (cap:List Nat):TE:=λ σ H Q=>wi σ H λ J H1=>∀ acc,H1 acc=none →
  ∃ W:Nat->Nat->List V->St->Hp->Prop,(∃ m,W 0 m [] (dEq nt cap σ) (upd H1 acc (.lst [])))/\∀ i m ys σ' H',W i m ys σ' H' →
    (J.stop i H'/\Q (.ref acc) H')\/(J.go i H'/\∀ x H2,J.yld i H' x H2->g x σ' H2 λ σ3 H3=>te σ3 H3 λ y H4=>
      H4 acc=some (.lst ys)/\ys.length < sizeLine/\∃ m',m' < m/\W (i+1) m' (ys++[y]) σ3 (upd H4 acc (.lst (ys++[y]))))
section
variable {X:Cx} {scope:Scope} {N':List Str} {nt:Nat} {cap:List Nat} {elt iter tg:Expr} {pos:Pos} {wi:TI} {g:TG} {te:TE}
theorem sCq (hc:X.calm=true) (c:CompOk X scope N' nt cap) (hi:PI X tg iter wi) (hg:∀ C ex s H,PG (aZq X scope N' C ex s H) tg g) (he:∀ C ex s H,PE (aZq X scope N' C ex s H) elt te)
    (hs:∀ x,foldedSetIterable iter X.env x=pure x:=by intro _;rfl):PE X (.ListComp elt [⟨tg,iter,[],0⟩] scope pos) (m9q wi g te nt cap):=by
  intro pins s σ H Q I h
  rw [eval_ListComp]
  refine wpAny_comprehension_free (use:=none) rfl hs (mWq (c.has I.ok)) c.kind c.locs (thn (hi pins s σ H _ I h) λ v s1 h1=>thn h1 λ itv s2 h2=>?_)
  obtain ⟨it,fp,tn,J,H2,rfl,I2,T,st2,f2,R⟩:=h2
  have hD:H2 s2.heap.objs.size=none:=I2.hok.fresh (Nat.le_refl _)
  obtain ⟨W,⟨m0,w0⟩,turn⟩:=R _ hD
  have I3:Inv X pins σ (upd H2 s2.heap.objs.size (.lst [])) { s2 with heap:=s2.heap.push { cls:=.type "list", dict:=none,data:=.seq ([]:List Value).toArray } }:=
    I2.laid (t':=s2.toks) (λ b u e=>Heap.get?_push_of_some _ e) (Nat.le_refl _) ⟨Nat.zero_le _,[],0,.nil,Heap.get?_push_size _ rfl⟩
  have fpLt:∀ b∈fp,b < s2.heap.objs.size:=λ b hb=>by
    obtain ⟨o,e,_⟩:=T.obj _ _ st2 b hb
    exact Heap.lt_size e
  have f3:∀ b∈fp,iTq X pins (upd H2 s2.heap.objs.size (.lst [])) b:=λ b hb=>⟨by rw [aQq (Nat.ne_of_lt (fpLt b hb))];exact (f2 b hb).1,(f2 b hb).2⟩
  have st3:tn 0 (s2.heap.push { cls:=.type "list", dict:=none,data:=.seq ([]:List Value).toArray }):=T.keep _ _ _ st2 λ b _ o e=>Heap.get?_push_of_some _ e
  generalize hh3:s2.heap.push { cls:=.type "list", dict:=none,data:=.seq ([]:List Value).toArray }=h3 at I3 st3
  have sz3:s2.heap.objs.size < h3.objs.size:=by rw [<- hh3,Heap.size_push];exact Nat.lt_succ_self _
  generalize hDD:s2.heap.objs.size=D at I3 f3 hD w0 turn sz3 fpLt
  refine wpAny_newObj_type ?_
  rw [hDD,hh3]
  refine wpAny_newFunctionEnv c.nocell (by intro y hy;simp at hy) (λ h4 hns4 hsb4=>?_) c.kind
  dsimp only at hns4 hsb4 ⊢
  have keep4:∀ b o,h3.get? b=some o->h4.get? b=some o:=λ b o e=>(hsb4.2 b (Nat.ne_of_lt (Heap.lt_size e))).trans (Heap.get?_push_of_some _ e)
  have I4:=I3.comp (t':=s2.toks+([]:List (Str × Value)).length) c f3 (λ b hb=>Nat.lt_trans (fpLt b hb) sz3) keep4 hns4
  have st4:tn 0 h4:=T.keep _ _ _ st3 λ b _ o e=>keep4 b o e
  dsimp only at I4
  have fin:∀ {σ':St} {H':Hp} {s':Shared},Inv (aZq X scope N' h3.objs.size fp { s2 with heap:=h3 } (upd H2 D (.lst []))) [] σ' H' s'->Q (.ref D) H' →
      compPost (model X.prog X.w) X.A X.xe none (EP X pins σ Q) (.ref D) h3.objs.size (.ok .next) s':=λ{σ' H' s'} J' q=>by
    obtain ⟨m,hn,hh⟩:=I3.uncomp rfl f3 J'
    exact ⟨m,hn,λ h' hs'=>⟨.ref D,H',hh h' hs',rfl,q⟩⟩
  have stat:∀ {H':Hp},(∀ b∈fp,H' b=none)->∀ b∈fp,iTq (aZq X scope N' h3.objs.size fp { s2 with heap:=h3 } (upd H2 D (.lst []))) [] H' b:=λ{H'} hn b hb=>by
    refine ⟨hn b hb,Nat.ne_of_lt (Nat.lt_trans (fpLt b hb) sz3),λ z=>?_,.inl hb,λ x a e=>(f3 b hb).2.2.2.2.1 x a (c.cells I.ok e),λ p hp=>absurd (show p∈([]:List (Addr × Obj)) from hp) (by simp)⟩
    rcases List.mem_cons.mp (I.stkSub b z) with y | y
    . exact (f3 b hb).2.1 y
    . exact (f3 b hb).2.2.1 y
  have loop:codeAny (model X.prog X.w) X.A (.compLoop (.ListComp elt [⟨tg,iter,[],0⟩] scope pos) 0 (.ref it) (.ref D) (compEnvC scope (cCq X.env.cells scope.names []) h3.objs.size X.env))
      (compPost (model X.prog X.w) X.A X.xe none (EP X pins σ Q) (.ref D) h3.objs.size) { s2 with heap:=h4,toks:=s2.toks+([]:List (Str × Value)).length }:=by
    refine codeAny_loop rfl (λ n s'=>∃ i ys σ' H',Inv (aZq X scope N' h3.objs.size fp { s2 with heap:=h3 } (upd H2 D (.lst []))) [] σ' H' s'/\tn i s'.heap/\(∀ b∈fp,H' b=none)/\W i n ys σ' H') (λ n s5 hI=>?_) m0 ⟨0,[],_,_,I4,st4,λ b hb=>(f3 b hb).1,w0⟩
    obtain ⟨i,ys,σ5,H5,I5,st5,fr5,w5⟩:=hI
    show wpAny _ X.A ((compTurn (.ListComp elt [⟨tg,iter,[],0⟩] scope pos) 0 (.ref it) (.ref D) (compEnvC scope (cCq X.env.cells scope.names []) h3.objs.size X.env)).onRaise (λ x=>do noteFrame x (compEnvC scope (cCq X.env.cells scope.names []) h3.objs.size X.env);theTreesLotGoes x)) _ _ s5
    refine wpAny_noted ?_
    rw [compTurn_list1]
    rcases turn i n ys σ5 H5 w5 with ⟨stop,qn⟩ | ⟨go,step⟩
    . refine wpAny_bind (wpAny_standAt (wpAny_bind (wpAny_mono (T.done (aZq X scope N' h3.objs.size fp { s2 with heap:=h3 } (upd H2 D (.lst []))) rfl rfl rfl hc i [] s5 σ5 H5 (λ _ _=>False) I5 (stat fr5) st5 stop) (λ r s6 ⟨hr,I6⟩=>?_) λ _ _ z=>z.elim)))
      subst hr
      exact wpAny_pure (fin I6 qn)
    . refine wpAny_bind (wpAny_standAt (wpAny_bind (wpAny_mono (T.item (aZq X scope N' h3.objs.size fp { s2 with heap:=h3 } (upd H2 D (.lst []))) rfl rfl rfl hc i [] s5 σ5 H5 (λ _ _=>False) I5 (stat fr5) st5 go) (λ r s6 ⟨u,hr,h6⟩=>?_) λ _ _ z=>z.elim)))
      subst hr
      refine wpAny_bind (wpAny_mono h6 (λ _ s7 ⟨x,H7,I7,r7,y7,st7,fr7⟩=>?_) λ _ _ z=>z.elim)
      have I7':=I7.pinned (stat fr7) (T.obj _ _ st7)
      refine wpAny_bind (wpAny_mono (hg _ _ _ _ _ s7 σ5 H7 x u _ I7' r7 (step x H7 y7)) (λ _ s8 ⟨σ8,H8,I8,q8⟩=>?_) λ _ _ z=>z.elim)
      refine wpAny_bind (wpAny_bind (wpAny_mono (he _ _ _ _ _ s8 σ8 H8 _ I8 q8) (λ yv s9 ⟨y,H9,I9,r9,e9,z9,m',hm',w9⟩=>?_) λ _ _ z=>z.elim))
      refine wpAny_bind (wpAny_mono (fGq (X:=aZq X scope N' h3.objs.size fp { s2 with heap:=h3 } (upd H2 D (.lst []))) _ s9 σ8 H9 (.ref D) [y] (.ref D) [yv] (λ v H10=>v=.non/\H10=upd H9 D (.lst (ys++[y]))) I9 rfl (.cons r9 .nil) ⟨D,ys,y,rfl,rfl,e9,z9,rfl,rfl⟩)
        (λ _ s10 ⟨v10,H10,I10,_,_,e10⟩=>?_) λ _ _ z=>z.elim)
      subst e10
      refine wpAny_pure (wpAny_pure ⟨rfl,m',hm',i+1,ys++[y],σ8,_,I10.unpinned,?_,λ b hb=>?_,w9⟩)
      . exact T.keep _ _ _ st7 λ b hb o e=>(I10.pin (b,o) (List.mem_append_right _ (List.mem_append_right _ (bUq hb e)))).1
      . obtain ⟨o,e,d⟩:=T.obj _ _ st7 b hb
        exact (I10.pin (b,o) (List.mem_append_right _ (List.mem_append_right _ (bUq hb e)))).2.1
  exact codeAny_compStart_list loop (T.self _ 0 _ _ _ st4 loop)
end
structure Got (P:Program) (w:World) (K:PySem.W.Frag) (mg:Str->Option Value) (base:Heap) (k:Nat) (x:Str) (ps:List Str) (sp:Sp):Prop where
  ex:∃ (f:Addr) (fd:FuncData),FnOk P w K mg base CX0 k f fd ps sp/\mg x=some (.ref f)/\PySem.W.keepIn K (.ref f)=true/\Binds K fd ps []
section
variable {X:Cx} {k j:Nat} {x:Str} {ps:List Str} {sp:Sp} {p pos:Pos} {e:Expr} {es:List Expr} {t:TA}
theorem aD0q (G:Got X.prog X.w X.K X.mg X.base k x ps sp) (hr:Room j X.A) (hk:k<=j) (hg:Gl X x) (ha:PA X (e::es) t) (hdb:(x==("__debug__" : Str))=false:=by decide)
    (he:starEach (e::es) X.env=(false,eval e X.env)::starEach es X.env:=by rfl) (hpl:(backTo pos (starEach es X.env)).any (·.1)=false:=by rfl) :
    PE X (.Call (.Name x p) (e::es) [] pos) (p0q sp [] E0 t):=by
  obtain ⟨f,fd,F,hm,kp,b⟩:=G.ex
  exact r9q F (hr.mono hk) hg hm kp b .nil y8q ha hdb he hpl
end
section
variable {X:Cx}
theorem pEq:OpR X (binaryOp .FloorDiv) (rI (λ _ j=>0 < j/\j < 2 ^ 64) λ i j=>.int (i / j)):=opI λ i j t u s E Q hc q=>by
  have h0:j≠0:=by omega
  have h1:j.natAbs.log2 < 9000:=by
    have e1:j.natAbs < 2 ^ 64:=by omega
    exact Nat.lt_trans ((Nat.log2_lt (by omega)).mpr e1) (by decide)
  have e:i.fdiv j=i / j:=Int.fdiv_eq_ediv_of_nonneg i (by omega)
  exact floordiv_int h0 (by rw [e];exact q) (.inl (PyProof.noPylong_of_log2 h1))
theorem tFq (l b:Addr) (items items2:Array Value) (n n2:Nat) (dd2:Option Addr) (sl2:Array (Option Value)) (h0:¬(!items.isEmpty&&Builtin.List.listTooLong (items.size+items2.size))=true) (h1:items.size<=sizeLine) (h2:items.size+items2.size<=sizeLine+1) :
    Meets (Builtin.«list.extend» ⟨[.ref l,.ref b],[]⟩) (λ _ R s=>s.heap.get? l=some { cls:=.type "list", dict:=none,data:=.seq items n,slots:=#[] } ∧
      s.heap.get? b=some { cls:=.type "tuple", dict:=dd2,data:=.seq items2 n2,slots:=sl2 }/\R (.ok (.ret Value.none)) { s with heap:=s.heap.update l (Obj.mapSeq λ x=>x++items2),toks:=s.toks }):=
  .of_wp λ prog w A R s h=>by
    obtain ⟨hp,g,d,tk,os⟩:=s
    obtain ⟨hl,hb,h⟩:=h
    have f1:=AutoSeq1.idx_int
    have f2:=AutoSeq1.sub_tuple_tuple
    have f3:=AutoSeq1.sub_list_list
    have f4:=AutoSeq1.sub_tuple_list
    have f5:=AutoSeq1.sub_list_tuple
    have hz':(items++items2).size<=sizeLine+1:=by rw [Array.size_append];exact h2
    wp_walk using (wpAny_updateSeq hl rfl (hz:=h1) (_hz':=hz')),wpAny_loadPart' hl,wpAny_loadPart' hb
    exact ⟨_,rfl,h⟩
def aC2q (K:PySem.W.Frag):V->List V->Hp->VK->Prop:=λ x vs H Q=>∃ l b xs zs,x=.ref l/\vs=[.ref b]/\H l=some (.lst xs)/\SqT K H b zs/\xs.length+zs.length<=sizeLine/\Q .non (upd H l (.lst (xs++zs)))
theorem tMq:MtM X "list.extend" (aC2q X.K):=by
  intro pins s σ H x vs v us Q I rx rv h
  obtain ⟨l,b,xs,zs,rfl,rfl,hH,hB,hz,q⟩:=h
  cases rx
  obtain ⟨u,rfl,ru⟩:=rv.one
  cases ru
  obtain ⟨z,its,n,r,hl,e⟩:=I.lstM hH
  obtain ⟨its2,r2,⟨⟨c2,dd2,da2,sl2⟩,e2,hc2,n2,hd2⟩,hz2⟩:=I.tuple hB
  simp only at hc2 hd2
  subst hc2 hd2
  have hl2:=r2.length
  have hsz:its.toArray.size+its2.toArray.size<=sizeLine:=by rw [List.size_toArray,List.size_toArray];omega
  have hlong:¬ (!its.toArray.isEmpty&&Builtin.List.listTooLong (its.toArray.size+its2.toArray.size))=true:=by
    rw [kCq hsz,Bool.and_false]
    exact Bool.false_ne_true
  refine call_meets F.slot_list_extend ⟨_,e,rfl⟩ F.entry_list_extend (F.args_list_extend_2 _ _) (tFq l b its.toArray its2.toArray n n2 dd2 sl2 hlong (by rw [List.size_toArray];omega) (by omega)) ⟨e,e2,?_⟩
  refine ⟨.non,_,I.lset (its':=its++its2) hH e (by simp) (r.append r2) ?_,rfl,q⟩
  rw [List.length_append]
  omega
end
section
variable {X:Cx} {scope:Scope} {N':List Str} {nt:Nat} {cap:List Nat} {elt iter tg:Expr} {pos:Pos} {wi:TI} {g:TG} {te:TE}
end
def aOq:Expr->Bool
  | .Starred ..=>false
  | _=>true
theorem aBq {e:Expr} {es:List Expr} {env:Env} (h:aOq e=true):starEach (e::es) env=(false,eval e env)::starEach es env:=by
  cases e<;>first | rfl | cases h
section
variable {κ:Type} [DecidableEq κ]
end
section
variable {P:Program} {w:World} {H:Hp} {h:Heap} {a:Addr}
end
section
variable {X:Cx} {pins:List (Addr × Obj)} {σ:St} {H:Hp} {s:Shared} {a:Addr} {y v:V} {u r:Value} {o:Option V} {A:Around} {E:Value->Shared->Prop}
end
section
variable {X:Cx} {pins:List (Addr × Obj)} {σ:St} {H:Hp} {s:Shared} {a:Addr} {kvs:List (Key × V)} {k:Key} {u:Value} {A:Around} {E:Value->Shared->Prop}
end
section
variable {X:Cx} {o i e value:Expr} {pos pos' tpos:Pos} {td ty tv:TE}
end
section
variable {X:Cx} {pos:Pos}
end
section
variable {X:Cx} {pins:List (Addr × Obj)} {σ:St} {H:Hp} {s:Shared} {a:Addr} {y d:V} {u r:Value} {o:Option V} {A:Around} {E:Value->Shared->Prop}
end
section
variable {X:Cx} {o e f:Expr} {apos cpos:Pos} {td ty tx:TE}
end
section
variable {X:Cx} {pins:List (Addr × Obj)} {σ:St} {H:Hp} {s:Shared} {a:Addr} {kvs:List (Key × V)} {A:Around} {E:Value->Shared->Prop}
end
section
variable {X:Cx} {pins:List (Addr × Obj)} {σ:St} {H:Hp} {s:Shared} {a:Addr} {y:V} {u:Value} {A:Around} {E:Value->Shared->Prop}
end
section
variable {κ:Type} [DecidableEq κ]
end
section
variable {prog:Program} {w:World} {A:Around} {E:Value->Shared->Prop} {s:Shared}
theorem d9q {t sl:Addr} {items:Array Value} {vl vu:Value} {lo hi:Option Int} {Q:Value->Shared->Prop} (ht:IsTup s.heap t items) (hs:s.heap.IsSliceOf sl vl vu .none) (pl:IsPart vl lo) (pu:IsPart vu hi)
    (hw:HT.sIx items.size 0 lo=0/\HT.sIx items.size items.size hi=items.size) (h:Q (.ref t) s):wpAny (model prog w) A (getItem (.ref t) (.ref sl)) Q E s:=by
  obtain ⟨os,hos,hcs,hds⟩:=id hs
  have hTs:s.TypeIs (.ref sl) "slice":=⟨os,hos,hcs⟩
  unfold getItem
  try with_reducible refine wpAny_holding ?_
  first | refine wpAny_bind (wpAny_pure ?_) | skip
  refine wpAny_bind (wpAny_sequenceKey ht.typeIs (by decide) ?_)
  refine wpAny_bind (wpAny_callSpecial?_slot (name:=Str.ofString "__getitem__") ht.typeIs PyProof.Rows.slot_tuple_getitem (wpAny_call_entry PyProof.Rows.slot_tuple_getitem ht.typeIs entry_tuple_getitem ?_ (args_tuple_getitem _ _)))
  show wpAny _ _ (Builtin.Tuple.tupleItemsOf (.ref t) >>= _) _ _ s
  refine wpAny_bind (tupleItemsOf_ ht ?_)
  refine wpAny_bind (wpAny_typeOf hTs ?_)
  rw [if_pos (by decide)]
  refine wpAny_bind (HT.sliceApplied_gen hs pl pu ?_)
  have hyes:(((HT.sIx items.size 0 lo:Nat):Int)==0&&(1:Int)==1&&(HT.sIx items.size items.size hi - HT.sIx items.size 0 lo)==items.size)=true:=by
    rw [hw.1,hw.2];simp
  show wpAny _ _ (if (((HT.sIx items.size 0 lo:Nat):Int)==0&&(1:Int)==1&&(HT.sIx items.size items.size hi - HT.sIx items.size 0 lo)==items.size)=true then _ else _) _ _ s
  rw [if_pos hyes]
  have ex:∀ {Q':Bool->Shared->Prop},Q' true s->wpAny (model prog w) A.in1 (Builtin.Tuple.tupleIsExact (.ref t)) Q' E s:=λ{Q'} q=>by
    unfold Builtin.Tuple.tupleIsExact
    refine wpAny_bind (wpAny_typeOf ht.typeIs (wpAny_pure ?_))
    have e:(Value.type "tuple"==Value.type "tuple")=true:=beq_self_eq_true _
    rw [e];exact q
  first
    | exact wpAny_bind (ex (wpAny_bind (wpAny_rule (wpAny_pure ⟨_,rfl,wpAny_pure h⟩))))
    | (unfold Builtin.Tuple.tupleIsExact
       refine wpAny_bind (wpAny_bind (wpAny_typeOf ht.typeIs (wpAny_pure ?_)))
       have e:(Value.type "tuple"==Value.type "tuple")=true:=beq_self_eq_true _
       rw [e,if_pos rfl]
       first
         | exact wpAny_bind (wpAny_rule (wpAny_pure ⟨_,rfl,wpAny_pure h⟩))
         | exact wpAny_bind (wpAny_rule (wpAny_bind (wpAny_pure (wpAny_pure ⟨_,rfl,wpAny_pure h⟩))))
         | exact wpAny_bind (wpAny_rule (wpAny_bind (wpAny_bind (wpAny_pure (wpAny_pure ⟨_,rfl,wpAny_pure h⟩))))))
end
section
variable {X:Cx}
def yOq (K:PySem.W.Frag):V->Option Int->Option Int->Hp->VK->Prop:=λ x lo hi H Q=>∃ a xs,x=.ref a/\SqT K H a xs ∧
  ((HT.sIx xs.length 0 lo=0/\HT.sIx xs.length xs.length hi=xs.length)->Q (.ref a) H)/\(¬ (HT.sIx xs.length 0 lo=0/\HT.sIx xs.length xs.length hi=xs.length)->∀ p,H p=none->Q (.ref p) (upd H p (.tup (lKq xs lo hi))))
theorem rVq:SlR X (yOq X.K):=by
  intro pins s σ H x v vl vu lo hi sl Q I rx hs pl pu h
  obtain ⟨a,xs,rfl,hx,q1,q2⟩:=h
  by_cases hw:HT.sIx xs.length 0 lo=0/\HT.sIx xs.length xs.length hi=xs.length
  . cases rx
    obtain ⟨its,r,ht,hz⟩:=I.tuple hx
    have hlen:its.toArray.size=xs.length:=by rw [List.size_toArray];exact r.length.symm
    refine ⟨"tuple", _,PyProof.Rows.slot_tuple_getitem.lookup,ht.typeIs,?_⟩
    exact d9q ht hs pl pu (by rw [hlen];exact hw) ⟨.ref a,H,I,rfl,q1 hw⟩
  . exact u8q pins s σ H _ v vl vu lo hi sl Q I rx hs pl pu ⟨a,xs,rfl,hx,hw,q2 hw⟩
def yKq (K:PySem.W.Frag):R2:=λ x y H Q=>∃ a b xs ys,x=.ref a/\y=.ref b/\SqT K H a xs/\SqT K H b ys/\xs.length+ys.length<=sizeLine ∧
  (xs=[]->Q (.ref b) H)/\(xs≠[]->ys=[]->Q (.ref a) H)/\(xs≠[]->ys≠[]->∀ p,H p=none->Q (.ref p) (upd H p (.tup (xs++ys))))
theorem op_catW:OpR X (binaryOp .Add) (yKq X.K):=by
  intro pins s σ H x y v u Q I rx ry h
  obtain ⟨a,b,xs,ys,rfl,rfl,ha,hb,hz,q0,q1,q2⟩:=h
  by_cases hx:xs=[]
  . cases rx;cases ry
    obtain ⟨its,r,ht,_⟩:=I.tuple ha
    obtain ⟨its2,r2,ht2,_⟩:=I.tuple hb
    subst hx
    cases r
    obtain ⟨⟨cls,dd,data,sl⟩,ho,hc,n,hd⟩:=id ht
    obtain ⟨⟨cls2,dd2,data2,sl2⟩,ho2,hc2,n2,hd2⟩:=id ht2
    simp only at hc hd hc2 hd2
    subst hc hd hc2 hd2
    refine concat_meets ⟨_,ho,rfl⟩ ⟨_,ho2,rfl⟩ noFill_tuple_add seq_tuple_add PySem.F.slot_tuple_add PySem.F.entry_tuple_add (PySem.F.args_tuple_add_2 _ _) (tuple_addW0 a b _ its2.toArray n n2 dd dd2 sl sl2 (by simp)) ⟨ho,ho2,?_⟩
    exact ⟨.ref b,H,I,rfl,q0 rfl⟩
  . exact s7q pins s σ H _ _ v u Q I rx ry ⟨a,b,xs,ys,rfl,rfl,ha,hb,hx,hz,q1 hx,q2 hx⟩
end
section
variable {X:Cx}
def z7q (K:PySem.W.Frag):V->Option Int->Option Int->Hp->VK->Prop:=λ x lo hi H Q=>∃ a xs,x=.ref a/\SqT K H a xs/\∀ t H2,Same H H2->SqT K H2 t (lKq xs lo hi)->Q (.ref t) H2
theorem oWq {xs:List V} {lo hi:Option Int} (h:HT.sIx xs.length 0 lo=0/\HT.sIx xs.length xs.length hi=xs.length):lKq xs lo hi=xs:=by
  unfold lKq
  rw [h.1,h.2,List.drop_zero,Nat.sub_zero,List.take_length]
theorem sl_tupU:SlR X (z7q X.K):=by
  intro pins s σ H x v vl vu lo hi sl Q I rx hs pl pu h
  obtain ⟨a,xs,rfl,hx,q⟩:=h
  refine rVq pins s σ H _ v vl vu lo hi sl Q I rx hs pl pu ⟨a,xs,rfl,hx,λ w=>q a H (Same.refl _) (by rw [oWq w];exact hx),λ _ p hp=>q p _ (λ b u e=>by rw [aQq (aVq e hp)];exact e) (SqT.of b3q)⟩
end
structure JE (X:Cx) (e:Expr) (t:TE):Prop where
  run:PE X e t
structure JT (X:Cx) (e:Expr) (t:TT):Prop where
  run:PT X e t
structure JW (X:Cx) (e:Expr) (t:TT):Prop where
  run:PW X e t
structure JA (X:Cx) (es:List Expr) (t:TA):Prop where
  run:PA X es t
structure JS (X:Cx) (st:Stmt) (t:TS):Prop where
  run:PS X st t
structure JB (X:Cx) (st:List Stmt) (t:TS):Prop where
  run:PSs X st t
structure JG (X:Cx) (e:Expr) (t:TG):Prop where
  run:PG X e t
structure JGs (X:Cx) (es:List Expr) (t:TGs):Prop where
  run:PGs X es t
structure JI (X:Cx) (tg iter:Expr) (wi:TI):Prop where
  run:PI X tg iter wi
structure JO (X:Cx) (e:Option Expr) (t:TO):Prop where
  run:PO X e t
structure JOp (X:Cx) (f:Value->Value->Sem Value) (r:R2):Prop where
  run:OpR X f r
structure JUn (X:Cx) (f:Value->Sem Value) (r:V->Hp->VK->Prop):Prop where
  run:UnR X f r
structure JCall (X:Cx) (f:Value) (r:List V->Hp->VK->Prop):Prop where
  run:CallR X f r
structure JIx (X:Cx) (r:R2):Prop where
  run:IxR X r
structure JSl (X:Cx) (r:V->Option Int->Option Int->Hp->VK->Prop):Prop where
  run:SlR X r
structure JMt (X:Cx) (id:String) (r:V->List V->Hp->VK->Prop):Prop where
  run:MtR X id r
structure JSet (X:Cx) (t:uVq):Prop where
  run:zOq X t
section
variable {X:Cx} {a b c e o i:Expr} {es:List Expr} {ta tb te to ti:TE} {t tr:TA} {pos p apos cpos:Pos}
theorem vSq {n:Int} {j}:JE X (.Constant (.int n) j pos) (tC (.int n)):=⟨xDq⟩
theorem zWq {n:Bool} {j}:JE X (.Constant (.bool n) j pos) (tC (.bl n)):=⟨yQq⟩
theorem xXq {x:Str} {j}:JE X (.Constant (.str x) j pos) (tC (.str x)):=⟨w0q⟩
theorem jv (k:Nat) {x:Str} (hN:X.N[k]?=some x:=by rfl) (hv:Vis X.env.scope x:=by first | exact Or.inl rfl | exact Or.inr (Or.inl rfl) | exact Or.inr (Or.inr rfl)) (hd:(x==("__debug__" : Str))=false:=by decide)
    (hcd:(x==("__classdict__" : Str))=false:=by decide):JE X (.Name x pos) (tVar k):=⟨qDq hN hv hd hcd⟩
theorem sVq {x:Str} {v:V} {u:Value} (hg:Gl X x) (hm:X.mg x=none) (hv:bootBuiltins x=some u) (r:RelV v u) (hn:x≠"__name__":=by decide) (hd:(x==("__debug__" : Str))=false:=by decide):JE X (.Name x pos) (tC v):=⟨s6q hg hm hv r hn hd⟩
theorem sSq {x:Str} {v:V} {u:Value} (hg:Gl X x) (hm:X.mg x=some u) (r:RelV v u) (hd:(x==("__debug__" : Str))=false:=by decide):JE X (.Name x pos) (tC v):=⟨sWq hg hm r hd⟩
theorem u6q:JA X [] tNil:=⟨wHq⟩
theorem t7q (ha:JE X e te) (hr:JA X es t) (hs:aOq e=true:=by rfl):JA X (e::es) (y9q te t):=⟨s5q ha.run hr.run (aBq hs)⟩
theorem wSq {x1} (h:JA X es t):JE X (.Tuple es x1 pos) (tTup t):=⟨wBq h.run⟩
theorem qIq (h:JA X es t):JE X (.List es pos) (tLst t):=⟨uOq h.run⟩
theorem zRq {op:Operator} {r:R2} (ho:JOp X (binaryOp op) r) (ha:JE X a ta) (hb:JE X b tb):JE X (.BinOp a op b pos) (tOp r ta tb):=⟨aC9q ho.run ha.run hb.run⟩
theorem aA9q {op:UnaryOp} {r:V->Hp->VK->Prop} (ho:JUn X (unaryOp op) r) (ha:JE X a ta):JE X (.UnaryOp op a pos) (tUn r ta):=⟨aC0q ho.run ha.run⟩
theorem vZq (ha:JE X a ta):JE X (.UnaryOp .Not a pos) (v2q ta):=⟨xVq ha.run⟩
theorem t9q {op:CmpOp} {r:R2} (ho:JOp X (compareOp op) r) (ha:JE X a ta) (hb:JE X b tb) (hm:behindInMarks op b=false):JE X (.Compare a [op] [b] pos) (tOp r ta tb):=⟨tKq ho.run ha.run hb.run hm⟩
theorem wKq {op} (h:JE X a ta):JE X (.BoolOp op [a] pos) ta:=⟨vTq h.run⟩
theorem y5q {rest:List Expr} (ha:JE X a ta) (hb:JE X (.BoolOp .And (b::rest) pos) tb):JE X (.BoolOp .And (a::b::rest) pos) (vDq ta tb):=⟨wQq ha.run hb.run⟩
theorem zVq {rest:List Expr} (ha:JE X a ta) (hb:JE X (.BoolOp .Or (b::rest) pos) tb):JE X (.BoolOp .Or (a::b::rest) pos) (tOrV ta tb):=⟨zSq ha.run hb.run⟩
theorem p4q {tc:TT} (hc:JT X c tc) (ha:JE X a ta) (hb:JE X b tb):JE X (.IfExp c a b pos) (tIf tc ta tb):=⟨oSq hc.run ha.run hb.run⟩
theorem sQq:JO X none oCq:=⟨sTq⟩
theorem tGq (h:JE X e te):JO X (some e) (vXq te):=⟨tZq h.run⟩
theorem pDq {r:V->Option Int->Option Int->Hp->VK->Prop} {lo hi:Option Expr} {tl th:TO} {p2:Pos} (hr:JSl X r) (he:JE X e te) (hl:JO X lo tl) (hu:JO X hi th):JE X (.Subscript e (.Slice lo hi none p2) pos) (tSl r te tl th):=⟨p8q hr.run he.run hl.run hu.run⟩
theorem v3q {r:R2} (hr:JIx X r) (ha:JE X a ta) (hb:JE X b tb) (hs:gNq b):JE X (.Subscript a b pos) (tOp r ta tb):=⟨yTq hr.run ha.run hb.run hs⟩
theorem bWq {es:List Expr} {env:Env} (h:es.all aOq=true):(backTo pos (starEach es env)).any (·.1)=false:=by
  induction es with
  | nil=>rfl
  | cons x r ih=>
    rw [List.all_cons,Bool.and_eq_true] at h
    rw [aBq h.1]
    exact ih h.2
theorem aC5q {k j:Nat} {x:Str} {ps:List Str} {sp:Sp} (G:Got X.prog X.w X.K X.mg X.base k x ps sp) (hr:Room j X.A) (hk:k<=j) (hg:Gl X x) (ha:JA X (e::es) t) (hdb:(x==("__debug__" : Str))=false:=by decide)
    (hs:(e::es).all aOq=true:=by rfl):JE X (.Call (.Name x p) (e::es) [] pos) (p0q sp [] E0 t):=by
  have h:=hs
  rw [List.all_cons,Bool.and_eq_true] at h
  exact ⟨aD0q G hr hk hg ha.run hdb (aBq h.1) (bWq h.2)⟩
theorem pBq {x:Str} {id:String} {r:List V->Hp->VK->Prop} (hc:JCall X (.builtin id) r) (hg:Gl X x) (hm:X.mg x=none) (hv:bootBuiltins x=some (.builtin id)) (ha:JA X (e::es) t) (hn:x≠"__name__":=by decide) (hdb:(x==("__debug__" : Str))=false:=by decide)
    (hs:(e::es).all aOq=true:=by rfl):JE X (.Call (.Name x p) (e::es) [] pos) (tCB r t):=by
  have h:=hs
  rw [List.all_cons,Bool.and_eq_true] at h
  exact ⟨pZq hc.run hg hm hv ha.run hn hdb (aBq h.1) (bWq h.2)⟩
theorem m1q {x:Str} {T:String} {r:List V->Hp->VK->Prop} (hc:JCall X (.type T) r) (hg:Gl X x) (hm:X.mg x=none) (hv:bootBuiltins x=some (.type T)) (ha:JA X (e::es) t) (hn:x≠"__name__":=by decide) (hdb:(x==("__debug__" : Str))=false:=by decide)
    (hs:(e::es).all aOq=true:=by rfl):JE X (.Call (.Name x p) (e::es) [] pos) (tCB r t):=by
  have h:=hs
  rw [List.all_cons,Bool.and_eq_true] at h
  exact ⟨m4q hc.run hg hm hv ha.run hn hdb (aBq h.1) (bWq h.2)⟩
theorem aB5q {name:Str} {T id:String} {r:V->List V->Hp->VK->Prop} (pa:PlainAttrs T) (slot:Slot T name id) (hty:typeOf (.builtin id)=pure (.type "method_descriptor")) (hm:JMt X id r) (ho:JE X o to) (ha:JA X [e] t)
    (hbase:attributeBase o name X.env (eval o X.env)=eval o X.env:=by rfl) (hline:(apos.endLine==cpos.line)=true:=by rfl) (hs:aOq e=true:=by rfl):JE X (.Call (.Attribute o name apos) [e] [] cpos) (tBM X.K T r to t):=
  ⟨aD2q pa slot hty hm.run ho.run ha.run hbase (by rw [aBq hs];rfl) hline (aBq hs) rfl⟩
theorem x6q {name:Str} {T id:String} {r:V->List V->Hp->VK->Prop} (pa:PlainAttrs T) (slot:Slot T name id) (hty:typeOf (.builtin id)=pure (.type "method_descriptor")) (hm:JMt X id r) (ho:JE X o to)
    (hbase:attributeBase o name X.env (eval o X.env)=eval o X.env:=by rfl) (hline:(apos.endLine==cpos.line)=true:=by rfl):JE X (.Call (.Attribute o name apos) [] [] cpos) (tBM0 X.K T r to):=⟨vWq pa slot hty hm.run ho.run hbase hline⟩
theorem rDq {op:CmpOp} {r:R2} (ho:JOp X (compareOp op) r) (ha:JE X a ta) (hb:JE X b tb) (hm:behindInMarks op b=false):JT X (.Compare a [op] [b] pos) (t1q (tOp r ta tb)):=⟨sRq ho.run ha.run hb.run hm⟩
theorem wXq {tc:TT} (ha:JT X a tc):JT X (.UnaryOp .Not a pos) (tNot tc):=⟨wJq ha.run⟩
theorem oUq (ha:JE X a ta) (he:∀ whole,isTrue a X.env whole=(do let v ← whole;standAt a.pos;holding [v] (truthy v))):JT X a (λ σ H Q=>ta σ H λ x H'=>∃ k,TruV X.K x H' k/\Q k H'):=⟨oYq ha.run he⟩
theorem rIq {tA:TT} (ha:JT X a tA):JW X (.BoolOp .And [a] pos) tA:=⟨r4q ha.run⟩
theorem xKq {tA:TT} (ha:JT X a tA):JW X (.BoolOp .Or [a] pos) tA:=⟨uWq ha.run⟩
theorem wCq {tA tB':TT} {rest:List Expr} (ha:JT X a tA) (hb:JW X (.BoolOp .And (b::rest) pos) tB'):JW X (.BoolOp .And (a::b::rest) pos) (tAnd tA tB'):=⟨xTq ha.run hb.run⟩
theorem z2q {tA tB':TT} {rest:List Expr} (ha:JT X a tA) (hb:JW X (.BoolOp .Or (b::rest) pos) tB'):JW X (.BoolOp .Or (a::b::rest) pos) (tOr tA tB'):=⟨aA0q ha.run hb.run⟩
theorem JW.pt {tA:TT} (h:JW X e tA):JT X e tA:=⟨PW.pt h.run⟩
theorem tEq {k:Nat} {x:Str} (hN:X.N.Nodup) (hi:X.N[k]?=some x) (hx:Loc X.env.scope x) (hf:X.fn x=true\/X.env.scope.names.lookup x=some .local:=by first | exact .inl rfl | exact .inr rfl | assumption):JG X (.Name x pos) (kZq k):=⟨tYq hN hi hx hf⟩
theorem rPq:JGs X [] gNil:=⟨sPq⟩
theorem oRq {tg:TG} {u:TGs} (h1:JG X e tg) (h2:JGs X es u) (hs:(assignEach (e::es) X.env).map (·.2)=assign e X.env::(assignEach es X.env).map (·.2):=by rfl):JGs X (e::es) (uGq tg u):=⟨p5q h1.run h2.run hs⟩
theorem x4q {k n:Nat} {tg:TGs} (hc:X.calm=true) (h:JGs X es tg) (hn:(assignEach es X.env).length=n:=by rfl) (hst:(assignEach es X.env).findIdx? (·.1)=none:=by rfl):JG X (.Tuple es k pos) (gTup X.K n tg):=⟨wMq hc h.run hn hst⟩
theorem wPq {tset:uVq} (ho:JE X o to) (hi:JE X i ti) (hs:JSet X tset) (ha:∀ v,assign (.Subscript o i pos) X.env v=(do
      let ov ← holding [v] (eval o X.env)
      let iv ← holding [v,ov] (eval i X.env)
      standAt pos
      holding [v,ov,iv] (setItem ov iv v)
      release [v,ov,iv] []):=by intro _;rfl):JG X (.Subscript o i pos) (gSub to ti tset):=⟨v4q ho.run hi.run hs.run ha⟩
theorem o3q {tg:Expr} (hg:Gl X "range") (hm:X.mg "range" = none) (ha:JA X [a] t) (hs:aOq a=true:=by rfl):JI X tg (.Call (.Name "range" p) [a] [] pos) (xRq t):=⟨mFq hg hm ha.run (aBq hs)⟩
theorem v5q:JB X [] y3q:=⟨sIq⟩
theorem tLq {st:Stmt} {rest:List Stmt} {ts us:TS} (h1:JS X st ts) (h2:JB X rest us):JB X (st::rest) (tSeq ts us):=⟨pKq h1.run h2.run⟩
theorem vJq {st:Stmt} {ts:TS} (h1:JS X st ts):JB X [st] ts:=⟨rOq h1.run⟩
theorem tWq (he:JE X e te) (hs:swapsWith e none pos.line X.env=pure false:=by rfl):JS X (.Expr e pos) (wIq te):=⟨tCq he.run hs⟩
theorem vGq (he:JE X e te):JS X (.Return (some e) pos) (tRet te):=⟨x7q he.run⟩
theorem aA2q {ss us:List Stmt} {tc:TT} {ts tu:TS} (hc:JT X c tc) (ha:JB X ss ts) (hb:JB X us tu):JS X (.If c ss us pos) (tIfS tc ts tu):=⟨zIq hc.run ha.run hb.run⟩
theorem uBq {k:Nat} {x:Str} {pos':Pos} (hN:X.N.Nodup) (hi:X.N[k]?=some x) (hx:Loc X.env.scope x) (he:JE X e te) (hs:swapsWith e (some (.Name x pos')) pos.line X.env=pure false:=by rfl) (hf:X.fn x=true\/X.env.scope.names.lookup x=some .local:=by first | exact .inl rfl | exact .inr rfl | assumption) :
    JS X (.Assign [.Name x pos'] e pos) (u3q te (kZq k)):=⟨vBq hN hi hx he.run hs hf⟩
theorem xZq {tg:Expr} {g:TG} (he:JE X e te) (hg:JG X tg g) (hs:swapsWithSole [tg] e pos.line X.env=pure false:=by rfl) (hw:swappedStores [tg] e X.env=pure none:=by rfl) (h1:(assignEach [tg] X.env).map (·.2)=[assign tg X.env]:=by rfl):JS X (.Assign [tg] e pos) (u3q te g):=⟨vAq he.run hg.run hs hw h1⟩
theorem oTq {body:List Stmt} {tc:TT} {tb':TS} (hp:PassesOwn (model X.prog X.w) X.A X.env X.xe) (hc:JT X c tc) (hb:JB X body tb'):JS X (.While c body [] pos) (q8q tc tb'):=⟨oVq hp hc.run hb.run⟩
theorem uCq {tg iter:Expr} {body:List Stmt} {wi:TI} {g:TG} {tb':TS} (hp:PassesOwn (model X.prog X.w) X.A X.env X.xe) (hc:X.calm=true) (hi:JI X tg iter wi) (hg:JG X tg g) (hb:JB X body tb') (hs:∀ x,foldedSetIterable iter X.env x=pure x:=by intro _;rfl) :
    JS X (.For tg iter body [] pos) (tFor wi g tb'):=⟨wYq hp hc hi.run hg.run hb.run hs⟩
theorem rAq {scope:Scope} {N':List Str} {nt:Nat} {cap:List Nat} {elt iter tg:Expr} {wi:TI} {g:TG} (hc:X.calm=true) (ok:CompOk X scope N' nt cap) (hi:JI X tg iter wi) (hg:∀ C ex s H,JG (aZq X scope N' C ex s H) tg g) (he:∀ C ex s H,JE (aZq X scope N' C ex s H) elt te)
    (hs:∀ x,foldedSetIterable iter X.env x=pure x:=by intro _;rfl):JE X (.ListComp elt [⟨tg,iter,[],0⟩] scope pos) (m9q wi g te nt cap):=⟨sCq hc ok hi.run (λ C ex s H=>(hg C ex s H).run) (λ C ex s H=>(he C ex s H).run) hs⟩
end
theorem Fun.okJ {P:Program} {w:World} {K:PySem.W.Frag} {mg:Str->Option Value} {base:Heap} {x qual:Str} {st:Stmt} {f:Addr} {fd:FuncData} {N ps:List Str} {k:Nat} {sp:Sp} (F:Fun K x qual st f fd) (S:FnScope N ps (aAq st)) (len:∀ vs H Q E,sp vs H Q E->vs.length=ps.length)
    (hbody:∀ (cdv:Value) (A:Around) (outer:List Env) (s:Shared) (H:Hp) (vs:List V) (Q:VK) (E:XK),Room k (A.deeper (envOfC qual (aAq st) s.heap.objs.size f cdv))->sp vs H Q E →
      ∃ t,JB (qNq CX0 P w K mg base N qual (aAq st) f cdv A outer s H E).nox (bMq st) t/\t { nx:=λ _ H'=>Q .non H',rt:=Q } (e2q N vs) H):FnOk P w K mg base CX0 (k+1) f fd ps sp:=
  F.ok S len λ cdv A outer s H vs Q E hr h=>let ⟨t,j,q⟩:=hbody cdv A outer s H vs Q E hr h;⟨t,j.run,q⟩
section
variable {X:Cx} {scope:Scope} {N':List Str} {nt:Nat} {cap:List Nat} {elt iter tg:Expr} {pos:Pos} {wi:TI} {g:TG} {te:TE}
theorem l9q {y:Str} {py spos:Pos} {k:Nat} (hc:X.calm=true) (hN:X.N.Nodup) (hk:X.N[k]?=some y) (hy:Loc X.env.scope y) (c:CompOk X scope N' nt cap) (hi:PI X tg iter wi) (hg:∀ C ex s H,PG (aZq X scope N' C ex s H) tg g) (he:∀ C ex s H,PE (aZq X scope N' C ex s H) elt te)
    (hs:∀ x,foldedSetIterable iter X.env x=pure x:=by intro _;rfl) (hsw:swapsWith (.ListComp elt [⟨tg,iter,[],0⟩] scope pos) (some (.Name y py)) spos.line X.env=pure true:=by rfl) (hf:X.fn y=true\/X.env.scope.names.lookup y=some .local:=by first | exact .inl rfl | exact .inr rfl | assumption) :
    PS X (.Assign [.Name y py] (.ListComp elt [⟨tg,iter,[],0⟩] scope pos) spos) (u3q (m9q wi g te nt cap) (kZq k)):=by
  intro pins s σ H D0 I h
  rw [exec_Assign_Name_used _ _ _ _ hsw]
  refine wpAny_bind (wpAny_standAt (wpAny_bind ?_))
  show wpAny _ X.A (do let _ ← comprehension (.ListComp elt [⟨tg,iter,[],0⟩] scope pos) scope X.env _ (newList []) false (eval iter X.env) (some (assign (.Name y py) X.env))) _ _ s
  refine wpAny_bind (wpAny_mono (wpAny_comprehension_free (use:=some (assign (.Name y py) X.env)) (Q:=λ _ s'=>SP X pins D0 .next s') rfl hs (mWq (c.has I.ok)) c.kind c.locs (thn (hi pins s σ H _ I h) λ v s1 h1=>thn h1 λ itv s2 h2=>?_)) (λ _ s' hq=>wpAny_pure (wpAny_pure hq)) λ _ _ e=>e)
  obtain ⟨it,fp,tn,J,H2,rfl,I2,T,st2,f2,R⟩:=h2
  have hD:H2 s2.heap.objs.size=none:=I2.hok.fresh (Nat.le_refl _)
  obtain ⟨W,⟨m0,w0⟩,turn⟩:=R _ hD
  have I3:Inv X pins σ (upd H2 s2.heap.objs.size (.lst [])) { s2 with heap:=s2.heap.push { cls:=.type "list", dict:=none,data:=.seq ([]:List Value).toArray } }:=
    I2.laid (t':=s2.toks) (λ b u e=>Heap.get?_push_of_some _ e) (Nat.le_refl _) ⟨Nat.zero_le _,[],0,.nil,Heap.get?_push_size _ rfl⟩
  have fpLt:∀ b∈fp,b < s2.heap.objs.size:=λ b hb=>by
    obtain ⟨o,e,_⟩:=T.obj _ _ st2 b hb
    exact Heap.lt_size e
  have f3:∀ b∈fp,iTq X pins (upd H2 s2.heap.objs.size (.lst [])) b:=λ b hb=>⟨by rw [aQq (Nat.ne_of_lt (fpLt b hb))];exact (f2 b hb).1,(f2 b hb).2⟩
  have st3:tn 0 (s2.heap.push { cls:=.type "list", dict:=none,data:=.seq ([]:List Value).toArray }):=T.keep _ _ _ st2 λ b _ o e=>Heap.get?_push_of_some _ e
  generalize hh3:s2.heap.push { cls:=.type "list", dict:=none,data:=.seq ([]:List Value).toArray }=h3 at I3 st3
  have sz3:s2.heap.objs.size < h3.objs.size:=by rw [<- hh3,Heap.size_push];exact Nat.lt_succ_self _
  generalize hDD:s2.heap.objs.size=D at I3 f3 hD w0 turn sz3 fpLt
  refine wpAny_newObj_type ?_
  rw [hDD,hh3]
  refine wpAny_newFunctionEnv c.nocell (by intro y hy;simp at hy) (λ h4 hns4 hsb4=>?_) c.kind
  dsimp only at hns4 hsb4 ⊢
  have keep4:∀ b o,h3.get? b=some o->h4.get? b=some o:=λ b o e=>(hsb4.2 b (Nat.ne_of_lt (Heap.lt_size e))).trans (Heap.get?_push_of_some _ e)
  have I4:=I3.comp (t':=s2.toks+([]:List (Str × Value)).length) c f3 (λ b hb=>Nat.lt_trans (fpLt b hb) sz3) keep4 hns4
  have st4:tn 0 h4:=T.keep _ _ _ st3 λ b _ o e=>keep4 b o e
  dsimp only at I4
  have fin:∀ {σ':St} {H':Hp} {s':Shared},Inv (aZq X scope N' h3.objs.size fp { s2 with heap:=h3 } (upd H2 D (.lst []))) [] σ' H' s'->D0.nx (σ.set k (some (.ref D))) H' →
      compPost (model X.prog X.w) X.A X.xe (some (assign (.Name y py) X.env)) (λ _ s'=>SP X pins D0 .next s') (.ref D) h3.objs.size (.ok .next) s':=λ{σ' H' s'} J' q=>by
    obtain ⟨m,hn,hh⟩:=I3.uncomp rfl f3 J'
    have IX:Inv X pins σ H' s':=hh s'.heap (Heap.SameBut.refl ..)
    have hCL:h3.objs.size≠X.env.locals:=Nat.ne_of_gt I3.lt
    have hCc:∀ x a,X.env.cells.lookup x=some a->a≠h3.objs.size:=λ x a e=>by
      obtain ⟨v,z⟩:=I3.cell x a e
      exact Nat.ne_of_lt z.lt
    show wpAny _ X.A (assign (.Name y py) X.env (.ref D)) _ _ s'
    refine wpAny_assign_Name (iOq IX hN hk hy (v:=.ref D) rfl (λ s'' I'' hch=>?_) hf)
    obtain ⟨a,sb,ha⟩:=hch
    have hCa:h3.objs.size≠a:=by
      rcases ha with z | z
      . rw [z];exact hCL
      . exact (hCc _ _ z).symm
    refine ⟨m,hn.sameBut sb hCa,λ h' hs'=>⟨_,H',?_,q⟩⟩
    exact I''.turned (t':=s''.toks) (λ b o hb e=>(hs'.2 b hb).trans e) J'.free hCL (.inr I3.sz) hCc λ p hp z=>by
      have e:=(I3.pin p hp).1
      rw [z] at e
      exact absurd (Heap.lt_size e) (Nat.lt_irrefl _)
  have stat:∀ {H':Hp},(∀ b∈fp,H' b=none)->∀ b∈fp,iTq (aZq X scope N' h3.objs.size fp { s2 with heap:=h3 } (upd H2 D (.lst []))) [] H' b:=λ{H'} hn b hb=>by
    refine ⟨hn b hb,Nat.ne_of_lt (Nat.lt_trans (fpLt b hb) sz3),λ z=>?_,.inl hb,λ x a e=>(f3 b hb).2.2.2.2.1 x a (c.cells I.ok e),λ p hp=>absurd (show p∈([]:List (Addr × Obj)) from hp) (by simp)⟩
    rcases List.mem_cons.mp (I.stkSub b z) with y | y
    . exact (f3 b hb).2.1 y
    . exact (f3 b hb).2.2.1 y
  have loop:codeAny (model X.prog X.w) X.A (.compLoop (.ListComp elt [⟨tg,iter,[],0⟩] scope pos) 0 (.ref it) (.ref D) (compEnvC scope (cCq X.env.cells scope.names []) h3.objs.size X.env))
      (compPost (model X.prog X.w) X.A X.xe (some (assign (.Name y py) X.env)) (λ _ s'=>SP X pins D0 .next s') (.ref D) h3.objs.size) { s2 with heap:=h4,toks:=s2.toks+([]:List (Str × Value)).length }:=by
    refine codeAny_loop rfl (λ n s'=>∃ i ys σ' H',Inv (aZq X scope N' h3.objs.size fp { s2 with heap:=h3 } (upd H2 D (.lst []))) [] σ' H' s'/\tn i s'.heap/\(∀ b∈fp,H' b=none)/\W i n ys σ' H') (λ n s5 hI=>?_) m0 ⟨0,[],_,_,I4,st4,λ b hb=>(f3 b hb).1,w0⟩
    obtain ⟨i,ys,σ5,H5,I5,st5,fr5,w5⟩:=hI
    show wpAny _ X.A ((compTurn (.ListComp elt [⟨tg,iter,[],0⟩] scope pos) 0 (.ref it) (.ref D) (compEnvC scope (cCq X.env.cells scope.names []) h3.objs.size X.env)).onRaise (λ x=>do noteFrame x (compEnvC scope (cCq X.env.cells scope.names []) h3.objs.size X.env);theTreesLotGoes x)) _ _ s5
    refine wpAny_noted ?_
    rw [compTurn_list1]
    rcases turn i n ys σ5 H5 w5 with ⟨stop,qn⟩ | ⟨go,step⟩
    . refine wpAny_bind (wpAny_standAt (wpAny_bind (wpAny_mono (T.done (aZq X scope N' h3.objs.size fp { s2 with heap:=h3 } (upd H2 D (.lst []))) rfl rfl rfl hc i [] s5 σ5 H5 (λ _ _=>False) I5 (stat fr5) st5 stop) (λ r s6 ⟨hr,I6⟩=>?_) λ _ _ z=>z.elim)))
      subst hr
      exact wpAny_pure (fin I6 qn)
    . refine wpAny_bind (wpAny_standAt (wpAny_bind (wpAny_mono (T.item (aZq X scope N' h3.objs.size fp { s2 with heap:=h3 } (upd H2 D (.lst []))) rfl rfl rfl hc i [] s5 σ5 H5 (λ _ _=>False) I5 (stat fr5) st5 go) (λ r s6 ⟨u,hr,h6⟩=>?_) λ _ _ z=>z.elim)))
      subst hr
      refine wpAny_bind (wpAny_mono h6 (λ _ s7 ⟨x,H7,I7,r7,y7,st7,fr7⟩=>?_) λ _ _ z=>z.elim)
      have I7':=I7.pinned (stat fr7) (T.obj _ _ st7)
      refine wpAny_bind (wpAny_mono (hg _ _ _ _ _ s7 σ5 H7 x u _ I7' r7 (step x H7 y7)) (λ _ s8 ⟨σ8,H8,I8,q8⟩=>?_) λ _ _ z=>z.elim)
      refine wpAny_bind (wpAny_bind (wpAny_mono (he _ _ _ _ _ s8 σ8 H8 _ I8 q8) (λ yv s9 ⟨y,H9,I9,r9,e9,z9,m',hm',w9⟩=>?_) λ _ _ z=>z.elim))
      refine wpAny_bind (wpAny_mono (fGq (X:=aZq X scope N' h3.objs.size fp { s2 with heap:=h3 } (upd H2 D (.lst []))) _ s9 σ8 H9 (.ref D) [y] (.ref D) [yv] (λ v H10=>v=.non/\H10=upd H9 D (.lst (ys++[y]))) I9 rfl (.cons r9 .nil) ⟨D,ys,y,rfl,rfl,e9,z9,rfl,rfl⟩)
        (λ _ s10 ⟨v10,H10,I10,_,_,e10⟩=>?_) λ _ _ z=>z.elim)
      subst e10
      refine wpAny_pure (wpAny_pure ⟨rfl,m',hm',i+1,ys++[y],σ8,_,I10.unpinned,?_,λ b hb=>?_,w9⟩)
      . exact T.keep _ _ _ st7 λ b hb o e=>(I10.pin (b,o) (List.mem_append_right _ (List.mem_append_right _ (bUq hb e)))).1
      . obtain ⟨o,e,d⟩:=T.obj _ _ st7 b hb
        exact (I10.pin (b,o) (List.mem_append_right _ (List.mem_append_right _ (bUq hb e)))).2.1
  exact codeAny_compStart_list loop (T.self _ 0 _ _ _ st4 loop)
end
section
variable {X:Cx} {tg:Expr}
end
end L2
namespace L2
open PySem PySem.Spec PyProof.Rows Builtin
section
variable {X:Cx}
theorem kYq {us:List Value} {xs:List V} (r:Vals xs us):∀ k:Nat,Vals (List.replicate k xs).flatten (List.replicate k us).flatten
  | 0=>.nil
  | k+1=>by
    rw [List.replicate_succ,List.replicate_succ,List.flatten_cons,List.flatten_cons]
    exact r.append (kYq r k)
end
section
variable {X:Cx} {a b c e:Expr} {t:TA} {te:TE} {pos p:Pos}
theorem o2q {tg:Expr} (hg:Gl X "range") (hm:X.mg "range" = none) (ha:JA X [a,b] t) (h1:aOq a=true:=by rfl) (h2:aOq b=true:=by rfl):JI X tg (.Call (.Name "range" p) [a,b] [] pos) (uKq t):=
  ⟨nNq hg hm ha.run (by rw [aBq h1,aBq h2];rfl) (by rw [aBq h2];rfl)⟩
variable {scope:Scope} {N':List Str} {nt:Nat} {cap:List Nat} {elt iter tg:Expr} {wi:TI} {g:TG}
theorem l2q {y:Str} {py spos:Pos} {k:Nat} (hc:X.calm=true) (hN:X.N.Nodup) (hk:X.N[k]?=some y) (hy:Loc X.env.scope y) (ok:CompOk X scope N' nt cap) (hi:JI X tg iter wi) (hg:∀ C ex s H,JG (aZq X scope N' C ex s H) tg g) (he:∀ C ex s H,JE (aZq X scope N' C ex s H) elt te)
    (hs:∀ x,foldedSetIterable iter X.env x=pure x:=by intro _;rfl) (hsw:swapsWith (.ListComp elt [⟨tg,iter,[],0⟩] scope pos) (some (.Name y py)) spos.line X.env=pure true:=by rfl) (hf:X.fn y=true\/X.env.scope.names.lookup y=some .local:=by first | exact .inl rfl | exact .inr rfl | assumption) :
    JS X (.Assign [.Name y py] (.ListComp elt [⟨tg,iter,[],0⟩] scope pos) spos) (u3q (m9q wi g te nt cap) (kZq k)):=⟨l9q hc hN hk hy ok hi.run (λ C ex s H=>(hg C ex s H).run) (λ C ex s H=>(he C ex s H).run) hs hsw hf⟩
end
structure FnV (P:Program) (w:World) (K:PySem.W.Frag) (mg:Str->Option Value) (base:Heap) (k:Nat) (f:Addr) (sp:Sp):Prop where
  ex:∃ (fd:FuncData) (ps:List Str),FnOk P w K mg base CX0 k f fd ps sp/\PySem.W.keepIn K (.ref f)=true/\Binds K fd ps []
theorem Got.fnV {P:Program} {w:World} {K:PySem.W.Frag} {mg:Str->Option Value} {base:Heap} {k:Nat} {x:Str} {ps:List Str} {sp:Sp} (G:Got P w K mg base k x ps sp):∃ f,mg x=some (.ref f)/\FnV P w K mg base k f sp:=by
  obtain ⟨f,fd,F,hm,kp,b⟩:=G.ex
  exact ⟨f,hm,fd,ps,F,kp,b⟩
def qEq (i:Nat) (f:Addr) (sp:Sp) (t:TA):TE:=λ σ H Q=>σ[i]?=some (some (.ref f))/\p0q sp [] E0 t σ H Q
section
variable {X:Cx} {k j:Nat} {f:Addr} {x:Str} {sp:Sp} {p pos:Pos} {e:Expr} {es:List Expr} {t:TA}
theorem aC1q {i:Nat} (G:FnV X.prog X.w X.K X.mg X.base k f sp) (hr:Room j X.A) (hk:k<=j) (hN:X.N[i]?=some x) (hv:Vis X.env.scope x) (ha:PA X (e::es) t) (hd:(x==("__debug__" : Str))=false) (hcd:(x==("__classdict__" : Str))=false)
    (he:starEach (e::es) X.env=(false,eval e X.env)::starEach es X.env) (hpl:(backTo pos (starEach es X.env)).any (·.1)=false) :
    PE X (.Call (.Name x p) (e::es) [] pos) (qEq i f sp t):=by
  intro pins s σ H Q I h
  obtain ⟨e1,h⟩:=h
  obtain ⟨fd,ps,F,kp,b⟩:=G.ex
  refine wpAny_Call_Name_kw (thn (qDq (pos:=p) hN hv hd hcd pins s σ H (λ v H1=>v=.ref f/\H1=H) I ⟨_,e1,rfl,rfl⟩) λ u s1 ⟨v,H1,I1,r1,ev,eH⟩=>?_)
  subst ev eH
  obtain rfl:u=Value.ref f:=r1
  refine PySem.W.callWith_K (h₀:=X.base) I.ok.mod.kin kp (thn (ha pos pins s1 σ H1 _ I1 h) λ us s2 ⟨vs,H2,I2,r,q⟩=>⟨I2.kIn,?_⟩) he hpl
  exact qPq F (hr.mono hk) b .nil y8q I2 r q
theorem aC6q (i:Nat) (G:FnV X.prog X.w X.K X.mg X.base k f sp) (hr:Room j X.A) (hk:k<=j) (ha:JA X (e::es) t) (hN:X.N[i]?=some x:=by rfl) (hv:Vis X.env.scope x:=by first | exact Or.inl rfl | exact Or.inr (Or.inl rfl) | exact Or.inr (Or.inr rfl))
    (hd:(x==("__debug__" : Str))=false:=by decide) (hcd:(x==("__classdict__" : Str))=false:=by decide) (hs:(e::es).all aOq=true:=by rfl):JE X (.Call (.Name x p) (e::es) [] pos) (qEq i f sp t):=by
  have h:=hs
  rw [List.all_cons,Bool.and_eq_true] at h
  exact ⟨aC1q G hr hk hN hv ha.run hd hcd (aBq h.1) (bWq h.2)⟩
end
end L2
namespace KRv
open PySem PyProof.Rows
theorem own:Manifest.owners.lookup (String.ofList ['d', 'e', 's', 'r', 'e', 'v', 'e', 'r'].reverse)=some Manifest.sig_reversed:=by kernel_rfl
theorem sNext:Slot "reversed" "__next__" "reversed.__next__":=.of (owner:="reversed") (n:="__next__") (by rw [typeLookup_type,builtinLookup_eq_fast];kernel_rfl) (by decide +kernel) (by decide +kernel) (by decide +kernel) (by first | exact .inl (by decide +kernel) | exact .inr (by decide +kernel)) (by rw [isSubtype_type];kernel_rfl)
theorem w8q:Slot "reversed" "__iter__" "reversed.__iter__":=.of (owner:="reversed") (n:="__iter__") (by rw [typeLookup_type,builtinLookup_eq_fast];kernel_rfl) (by decide +kernel) (by decide +kernel) (by decide +kernel) (by first | exact .inl (by decide +kernel) | exact .inr (by decide +kernel)) (by rw [isSubtype_type];kernel_rfl)
theorem sHint:Slot "reversed" "__length_hint__" "reversed.__length_hint__":=.of (owner:="reversed") (n:="__length_hint__") (by rw [typeLookup_type,builtinLookup_eq_fast];kernel_rfl) (by decide +kernel) (by decide +kernel) (by decide +kernel) (by first | exact .inl (by decide +kernel) | exact .inr (by decide +kernel)) (by rw [isSubtype_type];kernel_rfl)
theorem aA4q:Slot "reversed" "__init__" "object.__init__":=.of (owner:="object") (n:="__init__") (by rw [typeLookup_type,builtinLookup_eq_fast];kernel_rfl) (by decide +kernel) (by decide +kernel) (by decide +kernel) (by first | exact .inl (by decide +kernel) | exact .inr (by decide +kernel)) (by rw [isSubtype_type];kernel_rfl)
theorem y1q:entryFor table "reversed.__next__" = some Builtin.«reversed.__next__»:=entryFor_of_tree (by kernel_rfl)
theorem yUq:entryFor table "reversed.__length_hint__" = some Builtin.«reversed.__length_hint__»:=entryFor_of_tree (by kernel_rfl)
theorem aC7q:entryFor table "reversed.__iter__" = some Builtin.«dict_keyiterator.__iter__»:=entryFor_alias (id':="dict_keyiterator.__iter__") (by kernel_rfl) (by first | rfl | decide +kernel | (unfold String.splitOn;simp +decide [String.splitOnAux])) (by decide +kernel) (by kernel_rfl)
theorem vEq (a:Value):argsOk "reversed.__next__" ⟨[a],[]⟩:=by unfold argsOk;rw [signature?_of (id:="reversed.__next__") (n:=['_', '_', 't', 'x', 'e', 'n', '_', '_']) (o:=['d', 'e', 's', 'r', 'e', 'v', 'e', 'r']) (by kernel_rfl) own];kernel_rfl
theorem ySq (a:Value):argsOk "reversed.__iter__" ⟨[a],[]⟩:=by unfold argsOk;rw [signature?_of (id:="reversed.__iter__") (n:=['_', '_', 'r', 'e', 't', 'i', '_', '_']) (o:=['d', 'e', 's', 'r', 'e', 'v', 'e', 'r']) (by kernel_rfl) own];kernel_rfl
theorem aB7q (a:Value):argsOk "reversed.__length_hint__" ⟨[a],[]⟩:=by unfold argsOk;rw [signature?_of (id:="reversed.__length_hint__") (n:=['_', '_', 't', 'n', 'i', 'h', '_', 'h', 't', 'g', 'n', 'e', 'l', '_', '_']) (o:=['d', 'e', 's', 'r', 'e', 'v', 'e', 'r']) (by kernel_rfl) own];kernel_rfl
theorem xGq:TypeCalled "reversed" "reversed.__new__" "object.__init__":=⟨by decide +kernel,by decide +kernel,⟨_,_,F.mro_reversed⟩,F.made_reversed,by decide +kernel,by rw [isSubtype_type];kernel_rfl,aA4q⟩
theorem aB4q:typeLookup (.type "reversed") "__len__" = pure none:=by rw [typeLookup_type,builtinLookup_eq_fast];kernel_rfl
theorem wNq:typeLookup (.type "list_reverseiterator") "__len__" = pure none:=by rw [typeLookup_type,builtinLookup_eq_fast];kernel_rfl
theorem z4q:typeLookup (.type "list_reverseiterator") "__length_hint__" = pure (some (.builtin "list_reverseiterator.__length_hint__")):=by rw [typeLookup_type,builtinLookup_eq_fast];kernel_rfl
theorem zFq:typeLookup (.type "tuple") "__reversed__" = pure none:=by rw [typeLookup_type,builtinLookup_eq_fast];kernel_rfl
theorem uQq:isSubtype (.type "tuple") (.type "dict")=pure false:=by rw [isSubtype_type];kernel_rfl
abbrev IsRev (h:Heap) (it t:Addr) (k:Int):Prop:=h.get? it=some { cls:=.type "reversed", dict:=none,data:=.fields #[.ref t,rawInt k],slots:=#[] }
section
variable {prog:Program} {w:World} {A:Around} {E:Value->Shared->Prop} {s:Shared} {it t:Addr}
theorem stops {α:Type} {Q:α->Shared->Prop} (hh:A.handled=none) (h:∀ h' e,(∀ b o,s.heap.get? b=some o->h'.get? b=some o)->Shared.TypeIs { s with heap:=h' } (.ref e) "StopIteration"->E (.ref e) { s with heap:=h' }):wpAny (model prog w) A (Builtin.SmallTypes.stopIteration:Sem α) Q E s:=by
  unfold Builtin.SmallTypes.stopIteration
  refine wpAny_bind ?_
  unfold newExc newTuple
  refine wpAny_bind (wpAny_newObj_type ?_ (by size_fits))
  rw [show firstArgMember (.type "StopIteration") []=pure Value.none from by unfold firstArgMember;rfl,pure_bind]
  refine wpAny_newObj_type ?_ (by size_fits)
  unfold raiseNew
  refine wpAny_bind (wpAny_handled ?_)
  rw [hh]
  exact wpAny_throw (h _ _ (λ b o e=>Heap.get?_push_of_some _ (Heap.get?_push_of_some _ e)) ⟨_,Heap.get?_push_size _ rfl,rfl⟩)
theorem iterT {k:Int} {Q:Value->Shared->Prop} (hit:IsRev s.heap it t k) (h:Q (.ref it) s):wpAny (model prog w) A (pyIter (.ref it)) Q E s:=
  have hT:s.TypeIs (.ref it) "reversed":=⟨_,hit,rfl⟩
  wpAny_pyIter_slot hT w8q (wpAny_call_entry w8q hT aC7q (wpAny_pure ⟨_,rfl,"reversed", _,hT,sNext.lookup,h⟩) (ySq _))
theorem nextT {k:Nat} {items:Array Value} {x:Value} {Q:Option Value->Shared->Prop} (hit:IsRev s.heap it t k) (ht:IsTup s.heap t items) (hx:items[k]?=some x) (hk:(k:Int) < 2 ^ 63)
    (hQ:∀ h' tk,IsRev h' it t ((k:Int) - 1)->Heap.SameBut it s.heap h'->Q (some x) { s with heap:=h',toks:=tk }):wpAny (model prog w) A (pyNext (.ref it)) Q E s:=by
  have hT:s.TypeIs (.ref it) "reversed":=⟨_,hit,rfl⟩
  have hlt:k < items.size:=(Array.getElem?_eq_some_iff.mp hx).1
  unfold pyNext
  refine wpAny_bind (wpAny_attempt (wpAny_callSpecial?_slot hT sNext (wpAny_call_entry sNext hT y1q ?_ (vEq _))))
  refine (show wpAny (model prog w) A.in1 (field (.ref it) 0 >>= _) _ _ s from wpAny_bind (wpAny_field hit rfl (x:=.ref t) rfl ?_))
  refine (show wpAny (model prog w) A.in1 (field (.ref it) 1 >>= _) _ _ s from wpAny_bind (wpAny_field hit rfl (x:=rawInt k) rfl ?_))
  refine (show wpAny (model prog w) A.in1 (if (k:Int) < 0 then _ else _) _ _ s from ?_)
  rw [if_neg (by omega)]
  refine wpAny_bind (wpAny_specialOf ht.typeIs slot_tuple_getitem.lookup ?_)
  rw [if_neg (by simp)]
  refine (show wpAny (model prog w) A.in1 (mkInt k >>= _) _ _ s from wpAny_bind (wpAny_mkInt ?_))
  refine wpAny_bind (wpAny_attempt (getItem_tuple (j:=k) (x:=x) (s:={ s with toks:=s.toks+1 }) ht (by omega) hk (by simp [seqIndex?];omega) hx ?_))
  refine (show wpAny (model prog w) A.in1 (field (.ref it) 1 >>= _) _ _ _ from wpAny_bind (wpAny_field hit rfl (x:=rawInt k) rfl ?_))
  exact wpAny_bind (wpAny_setField hit rfl (by simp) (wpAny_pure ⟨x,rfl,wpAny_pure (hQ _ _ (Heap.get?_update_self _ hit rfl) (Heap.SameBut.update ..))⟩))
theorem endT {k:Int} {Q:Option Value->Shared->Prop} (hh:A.handled=none) (hit:IsRev s.heap it t k) (hk:k < 0) (hQ:∀ h',Heap.ExtBut it s.heap h'->Q none { s with heap:=h' }):wpAny (model prog w) A (pyNext (.ref it)) Q E s:=by
  have hT:s.TypeIs (.ref it) "reversed":=⟨_,hit,rfl⟩
  unfold pyNext
  refine wpAny_bind (wpAny_attempt (wpAny_callSpecial?_slot hT sNext (wpAny_call_entry sNext hT y1q ?_ (vEq _))))
  refine (show wpAny (model prog w) A.in1 (field (.ref it) 0 >>= _) _ _ s from wpAny_bind (wpAny_field hit rfl (x:=.ref t) rfl ?_))
  refine (show wpAny (model prog w) A.in1 (field (.ref it) 1 >>= _) _ _ s from wpAny_bind (wpAny_field hit rfl (x:=rawInt k) rfl ?_))
  refine (show wpAny (model prog w) A.in1 (if k < 0 then _ else _) _ _ s from ?_)
  rw [if_pos hk]
  refine wpAny_bind (wpAny_rule (wpAny_bind ?_))
  refine (show wpAny (model prog w) A.in1 (setField (.ref it) 1 (rawInt (-1)) >>= λ _=>setField (.ref it) 0 .none) _ _ s from wpAny_bind (wpAny_setField hit rfl (by simp) ?_))
  refine wpAny_setField (Heap.get?_update_self (Obj.mapFields (·.setIfInBounds 1 (rawInt (-1)))) hit rfl) rfl (by simp) ?_
  refine wpAny_bind (stops (A:=A.in1) hh λ h' e kk hs=>?_)
  refine wpAny_bind (wpAny_isInstance (T:="StopIteration") (b:=true) hs isSubtype_stop (wpAny_pure (hQ _ λ b o hb e=>kk b o ?_)))
  exact ((Heap.SameBut.update ..).trans (Heap.SameBut.update ..)).extBut b o hb e
theorem z1q {k:Int} {items:Array Value} {Q:Value->Shared->Prop} (hit:IsRev s.heap it t k) (ht:IsTup s.heap t items) (hz:(items.size:Int) < 2 ^ 63) (hk:k+1=items.size)
    (h:∀ u tk,s.toks<=tk->Q (.int (items.size:Int) u) { s with toks:=tk }):wpAny (model prog w) A (call (.builtin "reversed.__length_hint__") [.ref it]) Q E s:=by
  have hT:s.TypeIs (.ref it) "reversed":=⟨_,hit,rfl⟩
  refine wpAny_call_entry sHint hT yUq ?_ (aB7q _)
  refine (show wpAny (model prog w) A.in1 (field (.ref it) 0 >>= _) _ _ s from wpAny_bind (wpAny_field hit rfl (x:=.ref t) rfl ?_))
  refine (show wpAny (model prog w) A.in1 (if (Value.ref t==Value.none)=true then _ else _) _ _ s from ?_)
  rw [if_neg (show ¬ ((Value.ref t==Value.none)=true) from Bool.false_ne_true)]
  refine (show wpAny (model prog w) A.in1 (call (.builtin "len") [.ref t] >>= _) _ _ s from wpAny_bind (len_tuple ht hz ?_))
  refine wpAny_bind (m:=asInt? (.int (items.size:Int) _)) (wpAny_pure ?_)
  refine (show wpAny (model prog w) A.in1 (field (.ref it) 1 >>= _) _ _ _ from wpAny_bind (wpAny_field hit rfl (x:=rawInt k) rfl ?_))
  refine (show wpAny (model prog w) A.in1 (if (items.size:Int) < k+1 then _ else _) _ _ _ from ?_)
  rw [if_neg (by omega),hk]
  exact wpAny_bind (wpAny_mkInt (wpAny_pure ⟨_,rfl,h _ _ (by simp;omega)⟩))
end
theorem newT (t:Addr) (items:Array Value) (hz:(items.size:Int) < 2 ^ 63) :
    Meets (Builtin.«reversed.__new__» ⟨[.type "reversed", .ref t],[]⟩) (λ _ R s=>IsTup s.heap t items ∧
      ∀ tk,R (.ok (.ret (.ref s.heap.objs.size))) { s with heap:=s.heap.push { cls:=.type "reversed", data:=.fields #[.ref t,rawInt ((items.size:Int) - 1)] },toks:=tk }):=
  .of_wp λ prog w A R s ⟨ht,h⟩=>by
    unfold Builtin.«reversed.__new__»
    refine wpAny_bind (wpAny_of_eq (newClass_reversed _) (wpAny_bind (m:=Builtin.SmallTypes.refuseKeywords _ _ _) (wpAny_pure ?_)))
    refine wpAny_bind (wpAny_of_eq (a:=()) (by rfl) (wpAny_bind (wpAny_specialOf ht.typeIs zFq (wpAny_bind ?_))))
    refine (show wpAny (model prog w) A.in1 (isInstance (Value.ref t) (.type "dict") >>= _) _ _ s from wpAny_bind (wpAny_isInstance (T:="tuple") (b:=false) ht.typeIs uQq ?_))
    rw [if_neg (by decide)]
    refine wpAny_bind (wpAny_specialOf ht.typeIs slot_tuple_getitem.lookup ?_)
    refine (show wpAny (model prog w) A.in1 (if (["tuple.__getitem__", "str.__getitem__", "bytes.__getitem__", "bytearray.__getitem__", "memoryview.__getitem__", "numpy.ndarray.__getitem__", "sqlite3.Row.__getitem__"].contains "tuple.__getitem__")=true then _ else _) _ _ s from ?_)
    rw [if_pos (by decide)]
    refine wpAny_pure ?_
    rw [if_neg (by decide)]
    refine (show wpAny (model prog w) A.in1 (call (.builtin "len") [.ref t] >>= _) _ _ s from wpAny_bind (len_tuple ht hz ?_))
    refine wpAny_bind (m:=asInt? (.int (items.size:Int) _)) (wpAny_pure ?_)
    refine (show wpAny (model prog w) A.in1 (newObj (.type "reversed") (.fields #[.ref t,rawInt ((items.size:Int) - 1)]) >>= _) _ _ _ from wpAny_bind (wpAny_newObj_type ?_ (by size_fits)))
    exact wpAny_pure ⟨_,rfl,h _⟩
theorem callT {prog:Program} {w:World} {A:Around} {E:Value->Shared->Prop} {s:Shared} {t:Addr} {items:Array Value} {Q:Value->Shared->Prop} (ht:IsTup s.heap t items) (hz:(items.size:Int) < 2 ^ 63)
    (h:∀ tk,Q (.ref s.heap.objs.size) { s with heap:=s.heap.push { cls:=.type "reversed", data:=.fields #[.ref t,rawInt ((items.size:Int) - 1)] },toks:=tk }):wpAny (model prog w) A (call (.type "reversed") [.ref t]) Q E s:=
  callType_new xGq (by decide) (F.typeCall_reversed_1 _) (F.newCall_reversed_1 _) (λ obj=>F.args_object_init_2 obj _) F.entry_reversed_new (newT t items hz) ⟨ht,λ tk=>⟨⟨_,Heap.get?_push_size _ rfl,rfl⟩,h tk⟩⟩
theorem z8q {prog:Program} {w:World} {A:Around} (hh:A.handled=none) (I t:Addr) (hne:t≠I) (items:Array Value) (hz:(items.size:Int) < 2 ^ 63) :
    Walks prog w A I [I,t] [I] items.size (λ i v=>items[items.size - 1 - i]?=some v) (λ i h=>IsRev h I t ((items.size:Int) - 1 - i)/\IsTup h t items) where
  sub:=λ b hb=>by rw [List.mem_singleton.mp hb];exact List.mem_cons_self
  frame:=λ _ _ _ st hk=>⟨hk I (by simp) _ st.1,let ⟨o,ho,r⟩:=st.2;⟨o,hk t (by simp) _ ho,r⟩⟩
  item:=λ i s Q E hi st hQ=>by
    have st1:IsRev s.heap I t ((items.size - 1 - i:Nat):Int):=by rw [show ((items.size - 1 - i:Nat):Int)=(items.size:Int) - 1 - i by omega];exact st.1
    refine nextT st1 st.2 (x:=items[items.size - 1 - i]) (by simp<;>omega) (by omega) λ h' tk hit' hs'=>?_
    rw [show ((items.size - 1 - i:Nat):Int) - 1=(items.size:Int) - 1 - ((i+1:Nat):Int) by omega] at hit'
    exact hQ _ h' tk (by simp<;>omega) ⟨hit',st.2.extBut hs'.extBut hne⟩ λ b o hb e=>hs'.extBut b o (λ z=>hb (List.mem_singleton.mpr z)) e
  done:=λ s Q E st hQ=>endT hh st.1 (by omega) λ h' he=>hQ h' s.toks λ b o hb e=>he b o (λ z=>hb (List.mem_singleton.mpr z)) e
  self:=λ i s Q E st h=>iterT st.1 h
def r6q (prog:Program) (w:World) (A:Around) (I:Addr) (St:Nat->Shared->Prop):Prop:=
  ∀ (s:Shared) (Q:Bool->Shared->Prop) (E:Value->Shared->Prop),St 0 s->(∀ b tk,s.toks<=tk->Q b { s with toks:=tk })->wpAny (model prog w) A (Builtin.List.listLengthHint (.ref I)) Q E s
structure It (prog:Program) (w:World) (A:Around) (I:Addr) (fp wr:List Addr) (n:Nat) (P:Nat->Value->Prop) (St:Nat->Shared->Prop):Prop where
  walk:WalksS prog w A I fp wr (λ a b=>b=a) n P St
  ty:∃ T,(Value.type T==Value.type "list")=false/\(Value.type T==Value.type "tuple")=false/\∀ i s,St i s->s.TypeIs (.ref I) T
  hint:r6q prog w A I St
  mem:I∈fp
  few:n<=sizeLine
section
variable {prog:Program} {w:World} {A:Around} {E:Value->Shared->Prop} {s:Shared} {R:Result->Shared->Prop} {I S:Addr} {fp wr:List Addr} {n:Nat} {P:Nat->Value->Prop} {St:Nat->Shared->Prop}
abbrev listAt (acc:Array Value) (c:Nat):Obj:={ cls:=.type "list", dict:=none,data:=.seq acc c,slots:=#[] }
theorem zHq (J:It prog w A.in1 I fp wr n P St) (res:Value) (c₀:Nat) (hst:St 0 s) (hSf:S ∉ fp) (hS:s.heap.get? S=some (listAt #[] c₀))
    (hR:∀ s' acc c,Moved (S::wr) (λ a b=>b=a) s s'->s'.heap.get? S=some (listAt acc c)->ItemsOf P acc n->R (.ok (.ret res)) s') :
    wpAny (model prog w) A.in1 (Builtin.List.listExtendWith (.ref S) (.ref I) res)
      (λ fin s'=>match fin with | .done f=>R (.ok f) s' | .again c'=>c'.quiet=true/\codeAny (model prog w) A c' R s') (λ e s'=>R (.error e) s') s:=by
  obtain ⟨T,t1,t2,hT⟩:=J.ty
  have W:=J.walk
  have h1:Builtin.List.listSameRef (.ref S) (.ref I)=false:=by
    have:S≠I:=λ e=>hSf (e ▸ J.mem)
    simp [Builtin.List.listSameRef,this]
  unfold Builtin.List.listExtendWith
  refine wpAny_bind (wpAny_typeOf (hT 0 _ hst) ?_)
  rw [h1,t1,t2,Bool.or_false,Bool.or_false,if_neg Bool.false_ne_true]
  refine wpAny_bind (W.self 0 _ _ _ hst (wpAny_bind (wpAny_holding (J.hint _ _ _ hst λ b tk htk=>?_))))
  have go:∀ (h':Heap) (c:Nat),(∀ b o,b≠S->s.heap.get? b=some o->h'.get? b=some o)->h'.get? S=some (listAt #[] c) →
      codeAny (model prog w) A (.builtin "list.extend.loop" ⟨[.ref S,.ref I,res],[]⟩) R { s with heap:=h',toks:=tk }:=λ h' c kk e=>
    codeAny_extend_loopS W J.few _ hSf _ n 0 _ _ _ rfl (Nat.zero_le _) (W.frame 0 s h' tk hst htk λ b hb o e=>kk b o (λ z=>hSf (z ▸ hb)) e) e (ItemsOf.nil P) λ s' acc c' hm hS' hacc=>
      hR s' acc c' (Moved.trans (s':={ s with heap:=h',toks:=tk }) W.gtrans ⟨λ b o hb e=>kk b o (λ z=>hb (by rw [z];exact List.mem_cons_self)) e,rfl,rfl,rfl,htk⟩ hm) hS' hacc
  refine wpAny_ite_split (λ _=>wpAny_bind (wpAny_rule (wpAny_bind ?_))) (λ _=>wpAny_pure ⟨plainId_quiet F.plain_extend_loop _,go _ _ (λ _ _ _ e=>e) hS⟩)
  refine (show wpAny (model prog w) A.in1 (updateSeq S (·.push .none) >>= λ _=>updateSeq S (·.pop)) _ _ _ from wpAny_bind (wpAny_updateSeq hS rfl ?_))
  have e2:=Heap.get?_update_self (Obj.mapSeq (·.push Value.none)) hS rfl
  refine wpAny_updateSeq (hz:=by seq_fits) e2 rfl (wpAny_pure ⟨plainId_quiet F.plain_extend_loop _,go _ _ (λ b o hb e=>?_) (Heap.get?_update_self (Obj.mapSeq (·.pop)) e2 rfl)⟩)
  exact (Heap.get?_update_other _ _ (Ne.symm hb)).trans ((Heap.get?_update_other _ _ (Ne.symm hb)).trans e)
theorem listOf {Q:Value->Shared->Prop} (J:It prog w A.in1.in1 I fp wr n P St) (hst:St 0 s) (hfp:∀ b∈fp,b < s.heap.objs.size)
    (hQ:∀ s' acc c,Moved (s.heap.objs.size::wr) (λ a b=>b=a) { s with heap:=s.heap.push (listAt #[] 0) } s'->s'.heap.get? s.heap.objs.size=some (listAt acc c)->ItemsOf P acc n->Q (.ref s.heap.objs.size) s') :
    wpAny (model prog w) A (call (.type "list") [.ref I]) Q E s:=by
  have hSf:s.heap.objs.size ∉ fp:=λ hm=>Nat.lt_irrefl _ (hfp _ hm)
  refine callType_codes (Q₁:=λ obj s₁=>obj=.ref s.heap.objs.size/\s₁={ s with heap:=s.heap.push (listAt #[] 0) }) F.called_list (F.typeCall_list_1 _) F.entry_list_init (code_list_new _ ⟨rfl,rfl⟩) ?_
  rintro obj s₁ ⟨rfl,rfl⟩
  have hS:(s.heap.push (listAt #[] 0)).get? s.heap.objs.size=some (listAt #[] 0):=Heap.get?_push_size _ rfl
  refine ⟨⟨_,hS,rfl⟩,F.args_list_init_2 _ _,?_⟩
  refine (show wpAny (model prog w) A.in1.in1 (Builtin.List.listItems (.ref s.heap.objs.size) >>= λ old=>Builtin.List.listUpdate (.ref s.heap.objs.size) (λ _=>#[]) >>= λ _=>letGo old.toList.reverse >>= λ _=>Builtin.List.listExtendWith (.ref s.heap.objs.size) (.ref I) .none) _ _ _ from wpAny_bind ?_)
  unfold Builtin.List.listItems
  refine wpAny_bind (wpAny_seqItems hS rfl (wpAny_pure ?_))
  refine (show wpAny (model prog w) A.in1.in1 (updateSeq s.heap.objs.size (λ _=>#[]) >>= λ _=>letGo (#[]:Array Value).toList.reverse >>= λ _=>Builtin.List.listExtendWith (.ref s.heap.objs.size) (.ref I) .none) _ _ _ from wpAny_bind (wpAny_updateSeq hS rfl (wpAny_bind (wpAny_letGo ?_))))
  have kk:∀ b o,b≠s.heap.objs.size->(s.heap.push (listAt #[] 0)).get? b=some o->((s.heap.push (listAt #[] 0)).update s.heap.objs.size (Obj.mapSeq (λ _=>(#[]:Array Value)))).get? b=some o:=λ b o hb e=>(Heap.get?_update_other _ _ (Ne.symm hb)).trans e
  refine zHq (A:=A.in1) J .none _ (J.walk.frame 0 s _ s.toks hst (Nat.le_refl _) λ b hb o e=>kk b o (λ z=>hSf (z ▸ hb)) (Heap.get?_push_of_some _ e)) hSf (Heap.get?_update_self (Obj.mapSeq (λ _=>(#[]:Array Value))) hS rfl) λ s' acc c hm hS' hacc=>⟨rfl,hQ s' acc c ?_ hS' hacc⟩
  exact Moved.trans (s':={ s with heap:=(s.heap.push (listAt #[] 0)).update s.heap.objs.size (Obj.mapSeq (λ _=>(#[]:Array Value))) }) J.walk.gtrans ⟨λ b o hb e=>kk b o (λ z=>hb (by rw [z];exact List.mem_cons_self)) e,rfl,rfl,rfl,Nat.le_refl _⟩ hm
theorem x3q {l:Addr} {k:Nat->Int} {U:Nat->Shared->Prop}:r6q prog w A I (λ i s=>i<=n/\s.heap.IsRevIter I l (k i)/\U i s):=by
  intro s Q E st h
  have hT:s.TypeIs (.ref I) "list_reverseiterator":=st.2.1.typeIs
  unfold Builtin.List.listLengthHint
  refine wpAny_bind (wpAny_specialOf hT wNq ?_)
  refine (show wpAny (model prog w) A (specialOf (Value.ref I) (Str.ofString "__length_hint__") >>= _) _ _ _ from wpAny_bind (wpAny_specialOf hT z4q ?_))
  (generalize hid:("list_reverseiterator.__length_hint__" : String)=id0;(fail_if_success (clear hid id0));wp_delta;rw [show splitId id0=some ("list_reverseiterator", "__length_hint__") from by subst hid;decide +kernel];subst hid)
  exact wpAny_bind (wpAny_isInstance (b:=true) hT (by rw [isSubtype_type];kernel_rfl) (wpAny_pure (h _ _ (Nat.le_refl _))))
theorem uRq {t:Addr} {items:Array Value} (hz:items.size<=sizeLine):r6q prog w A I (λ i s=>IsRev s.heap I t ((items.size:Int) - 1 - i)/\IsTup s.heap t items):=by
  intro s Q E st h
  have hT:s.TypeIs (.ref I) "reversed":=⟨_,st.1,rfl⟩
  have hl:=sizeLine_eq
  unfold Builtin.List.listLengthHint
  refine wpAny_bind (wpAny_specialOf hT aB4q ?_)
  refine (show wpAny (model prog w) A (specialOf (Value.ref I) (Str.ofString "__length_hint__") >>= _) _ _ _ from wpAny_bind (wpAny_specialOf hT sHint.lookup ?_))
  (generalize hid:("reversed.__length_hint__" : String)=id0;(fail_if_success (clear hid id0));wp_delta;rw [show splitId id0=some ("reversed", "__length_hint__") from by subst hid;decide +kernel];subst hid)
  refine wpAny_bind (wpAny_isInstance (b:=true) hT (by rw [isSubtype_type];kernel_rfl) ?_)
  rw [if_neg (by decide)]
  refine wpAny_ite_split (λ hab=>absurd hab (by decide +kernel)) (λ _=>wpAny_bind (wpAny_rule (wpAny_bind (wpAny_of_eq (sHint.bind _) ?_))))
  refine (show wpAny (model prog w) A ((call (.builtin "reversed.__length_hint__") [.ref I]).attempt >>= _) _ _ _ from wpAny_bind (wpAny_attempt (z1q (items:=items) st.1 st.2 (by omega) (by omega) λ u tk htk=>?_)))
  dsimp only
  have ha:∀ (n:Int) (u:Tok),asInt? (Value.int n u)=pure (some n):=λ _ _=>rfl
  have h1:Builtin.List.listFitsIndex (items.size:Int)=true:=by
    unfold Builtin.List.listFitsIndex
    simp only [Bool.and_eq_true,decide_eq_true_eq]
    omega
  have h2:Builtin.List.listTooLong ((items.size:Int)).toNat=false:=by simp [Builtin.List.listTooLong,sizeLine];omega
  rw [ha,pure_bind]
  dsimp only
  rw [h1,h2,if_neg (by decide),if_neg (by omega),if_neg (by decide)]
  exact wpAny_pure (h _ _ htk)
end
theorem moved_eq {wr:List Addr} {s s':Shared} (hm:Moved wr (λ a b=>b=a) s s'):s'={ s with heap:=s'.heap,toks:=s'.toks }:=by
  obtain ⟨h',g',d',tk',os'⟩:=s'
  cases (show g'=s.gens from hm.gens)
  cases (show d'=s.drawn from hm.drawn)
  cases (show os'=s.os from hm.os)
  rfl
theorem back {its:List Value} {acc:Array Value} (h:ItemsOf (λ i v=>its.toArray[its.toArray.size - 1 - i]?=some v) acc its.toArray.size):acc.toList=its.reverse:=by
  obtain ⟨hs0,hp⟩:=h
  have hs:acc.size=its.length:=by simpa using hs0
  apply List.ext_getElem?
  intro i
  by_cases hi:i < its.length
  . have h1:i < acc.size:=by omega
    have e:=hp i acc[i] (by simp [h1])
    rw [List.getElem?_reverse hi,Array.getElem?_toList,Array.getElem?_eq_getElem h1,<- e]
    simp
  . rw [List.getElem?_eq_none (by rw [Array.length_toList];omega),List.getElem?_eq_none (by rw [List.length_reverse];omega)]
theorem itT {prog:Program} {w:World} {A:Around} {I t:Addr} {items:Array Value} (hh:A.handled=none) (hne:t≠I) (hz:items.size<=sizeLine) :
    It prog w A I [I,t] [I] items.size (λ i v=>items[items.size - 1 - i]?=some v) (λ i s=>IsRev s.heap I t ((items.size:Int) - 1 - i)/\IsTup s.heap t items) where
  walk:=(z8q hh I t hne items (by have:=sizeLine_eq;omega)).toS
  ty:=⟨"reversed", by decide,by decide,λ _ _ st=>⟨_,st.1,rfl⟩⟩
  hint:=uRq hz
  mem:=by simp
  few:=hz
theorem itL {prog:Program} {w:World} {A:Around} {I l:Addr} {items:Array Value} (hh:A.handled=none) (hne:l≠I) (hz:items.size<=sizeLine) :
    It prog w A I [I,l] [I] items.size (λ i v=>items[items.size - 1 - i]?=some v) (λ i s=>i<=items.size/\s.heap.IsRevIter I l ((items.size:Int) - 1 - (i:Int))/\s.heap.IsList l items) where
  walk:=(Walks.listRev hh I l hne items).toS
  ty:=⟨"list_reverseiterator", by decide,by decide,λ _ _ st=>st.2.1.typeIs⟩
  hint:=x3q (k:=λ i=>(items.size:Int) - 1 - (i:Int)) (U:=λ _ s=>s.heap.IsList l items)
  mem:=by simp
  few:=hz
end KRv
namespace L2
open PySem PySem.Spec PyProof.Rows
section
variable {X:Cx} {e:Expr} {te:TE} {p p2 pos pos2:Pos}
def RevT (X:Cx) (pins:List (Addr × Obj)) (σ:St) (R:Addr->List V->Hp->Prop) (v:Value) (s:Shared):Prop:=
  ∃ (a it:Addr) (xs:List V) (its:List Value) (H:Hp),v=.ref it/\Inv X pins σ H s/\KRv.IsRev s.heap it a ((its.toArray.size:Int) - 1)/\IsTup s.heap a its.toArray/\a≠it/\Vals xs its/\its.toArray.size<=sizeLine/\SqT X.K H a xs/\iTq X pins H it/\R a xs H
def RevL (X:Cx) (pins:List (Addr × Obj)) (σ:St) (R:Addr->List V->Hp->Prop) (v:Value) (s:Shared):Prop:=
  ∃ (a it:Addr) (xs:List V) (its:List Value) (H:Hp),v=.ref it/\Inv X pins σ H s/\s.heap.IsRevIter it a ((its.toArray.size:Int) - 1)/\s.heap.IsList a its.toArray/\a≠it/\Vals xs its/\its.toArray.size<=sizeLine/\SqL X.K H a xs/\iTq X pins H it/\R a xs H
theorem mRq {pins:List (Addr × Obj)} {s:Shared} {σ:St} {H:Hp} {R:Addr->List V->Hp->Prop} (hg:Gl X "reversed") (hm:X.mg "reversed" = none) (he:PE X e te) (hs:aOq e=true) (I:Inv X pins σ H s)
    (h:te σ H λ x H1=>∃ a xs,x=.ref a/\SqT X.K H1 a xs/\R a xs H1):wpAny (model X.prog X.w) X.A (eval (.Call (.Name "reversed" p2) [e] [] pos2) X.env) (RevT X pins σ R) X.xe s:=by
  refine wpAny_Call_Name_kw (cMq I hg hm PyProof.Rows.boot_reversed ?_)
  refine PyProof.Rows.callWith_type1 ?_ (aBq hs) rfl
  rw [aBq hs]
  show wpAny _ _ (spliced ((false,eval e X.env)::backTo pos2 (starEach [] X.env))) _ _ s
  refine Calls.spliced_cons (thn (he pins s σ H _ I h) λ u s1 ⟨x,H1,I1,r1,a,xs,ex,hq,q⟩=>Calls.spliced_nil ?_)
  subst ex
  cases r1
  obtain ⟨its,rv,pl,hz⟩:=I1.tuple hq
  have hl:=rv.length
  have h63:=dGq
  refine KRv.callT pl (by rw [List.size_toArray];omega) λ tk=>?_
  exact ⟨a,s1.heap.objs.size,xs,its,H1,rfl,I1.kept λ b o e=>Heap.get?_push_of_some _ e,Heap.get?_push_size _ rfl,pl.push _,Nat.ne_of_lt pl.lt,rv,by rw [List.size_toArray];omega,hq,I1.fpOk (Nat.le_refl _) (I1.hok.fresh (Nat.le_refl _)),q⟩
theorem rHq {pins:List (Addr × Obj)} {s:Shared} {σ:St} {H:Hp} {R:Addr->List V->Hp->Prop} (hg:Gl X "reversed") (hm:X.mg "reversed" = none) (he:PE X e te) (hs:aOq e=true) (I:Inv X pins σ H s)
    (h:te σ H λ x H1=>∃ a xs,x=.ref a/\SqL X.K H1 a xs/\R a xs H1):wpAny (model X.prog X.w) X.A (eval (.Call (.Name "reversed" p2) [e] [] pos2) X.env) (RevL X pins σ R) X.xe s:=by
  refine wpAny_Call_Name_kw (cMq I hg hm PyProof.Rows.boot_reversed ?_)
  refine PyProof.Rows.callWith_type1 ?_ (aBq hs) rfl
  rw [aBq hs]
  show wpAny _ _ (spliced ((false,eval e X.env)::backTo pos2 (starEach [] X.env))) _ _ s
  refine Calls.spliced_cons (thn (he pins s σ H _ I h) λ u s1 ⟨x,H1,I1,r1,a,xs,ex,hq,q⟩=>Calls.spliced_nil ?_)
  subst ex
  cases r1
  obtain ⟨its,rv,pl,hz⟩:=I1.list hq
  have hl:=rv.length
  have hlt:a < s1.heap.objs.size:=by obtain ⟨o,ho,_⟩:=pl.isList;exact Heap.lt_size ho
  refine call_reversed_list pl.isList ?_
  exact ⟨a,s1.heap.objs.size,xs,its,H1,rfl,I1.kept (t':=s1.toks) λ b o e=>Heap.get?_push_of_some _ e,⟨_,Heap.get?_push_size _ rfl,rfl,rfl⟩,let ⟨o,ho,r⟩:=pl.isList;⟨o,Heap.get?_push_of_some _ ho,r⟩,Nat.ne_of_lt hlt,rv,by rw [List.size_toArray];omega,hq,I1.fpOk (Nat.le_refl _) (I1.hok.fresh (Nat.le_refl _)),q⟩
theorem oIq {pins:List (Addr × Obj)} {σ:St} {H:Hp} {s s':Shared} {it:Addr} {acc:Array Value} {c:Nat} {ys:List V} {Q:VK} (I:Inv X pins σ H s) (fp:iTq X pins H it) (hit:it < s.heap.objs.size)
    (hm:Moved (s.heap.objs.size::[it]) (λ a b=>b=a) { s with heap:=s.heap.push (KRv.listAt #[] 0) } s') (hS:s'.heap.get? s.heap.objs.size=some (KRv.listAt acc c))
    (rv:Vals ys acc.toList) (hz:ys.length<=sizeLine) (q:∀ l,H l=none->Q (.ref l) (upd H l (.lst ys))):EP X pins σ Q (.ref s.heap.objs.size) s':=by
  have I2:Inv X pins σ (upd H s.heap.objs.size (.lst ys)) { s with heap:=s.heap.push { cls:=.type "list", dict:=none,data:=.seq acc c,slots:=#[] } }:=
    I.laid (t':=s.toks) (λ b o e=>Heap.get?_push_of_some _ e) (Nat.le_refl _) (show ObjOk X.prog X.w _ _ _ (.lst ys) from ⟨hz,acc.toList,c,rv,by simpa using Heap.get?_push_size s.heap (o:={ cls:=.type "list", dict:=none,data:=.seq acc c,slots:=#[] }) rfl⟩)
  obtain ⟨f0,f1,f2,f3,f4,f5⟩:=fp
  have I3:=I2.turned (h':=s'.heap) (t':=s'.toks) (it:=it) (λ b o hb e=>?_) (by rw [aQq (Nat.ne_of_lt hit)];exact f0) f1 f3 f4 f5
  . rw [KRv.moved_eq hm]
    exact ⟨.ref s.heap.objs.size,_,I3,rfl,q _ (I.hok.fresh (Nat.le_refl _))⟩
  . rcases Heap.get?_push_cases e with ⟨z1,z2⟩ | e
    . rw [z1,z2];exact hS
    . refine hm.heap b o (λ z=>?_) (Heap.get?_push_of_some _ e)
      simp only [List.mem_cons,List.not_mem_nil,or_false] at z
      rcases z with z | z
      . rw [z] at e;exact absurd (Heap.lt_size e) (Nat.lt_irrefl _)
      . exact hb z
def xOq (K:PySem.W.Frag) (te:TE):TE:=λ σ H Q=>te σ H λ x H1=>∃ a xs,x=.ref a/\SqT K H1 a xs/\∀ l,H1 l=none->Q (.ref l) (upd H1 l (.lst xs.reverse))
def qUq (K:PySem.W.Frag) (te:TE):TE:=λ σ H Q=>te σ H λ x H1=>∃ a xs,x=.ref a/\SqL K H1 a xs/\∀ l,H1 l=none->Q (.ref l) (upd H1 l (.lst xs.reverse))
theorem oQq (hc:X.calm=true) (hgl:Gl X "list") (hml:X.mg "list" = none) (hg:Gl X "reversed") (hm:X.mg "reversed" = none) (he:PE X e te) (hs:aOq e=true) :
    PE X (.Call (.Name "list" p) [.Call (.Name "reversed" p2) [e] [] pos2] [] pos) (xOq X.K te):=by
  intro pins s σ H Q I h
  refine wpAny_Call_Name_kw (cMq I hgl hml PyProof.Rows.boot_list ?_)
  refine PyProof.Rows.callWith_type1 ?_ (aBq rfl) rfl
  rw [aBq rfl]
  show wpAny _ _ (spliced ((false,eval (.Call (.Name "reversed" p2) [e] [] pos2) X.env)::backTo pos (starEach [] X.env))) _ _ s
  refine Calls.spliced_cons (thn (mRq (R:=λ _ xs H1=>∀ l,H1 l=none->Q (.ref l) (upd H1 l (.lst xs.reverse))) hg hm he hs I h) λ v s1 h1=>Calls.spliced_nil ?_)
  obtain ⟨a,it,xs,its,H1,rfl,I1,hit,ht,hne,rv,hz,_,fp,q⟩:=h1
  have hi:=Heap.lt_size hit
  have hl:=rv.length
  refine KRv.listOf (KRv.itT (prog:=X.prog) (w:=X.w) (A:=X.A.in1.in1) (I:=it) (t:=a) (items:=its.toArray) (I.ok.hd hc) hne hz) ⟨by simpa using hit,ht⟩ (λ b hb=>?_) (λ s' acc c' hm' hS hacc=>?_)
  . simp only [List.mem_cons,List.not_mem_nil,or_false] at hb
    rcases hb with rfl | rfl
    . exact hi
    . exact ht.lt
  . exact oIq I1 fp hi hm' hS (by rw [KRv.back hacc];exact rv.reverse) (by rw [List.length_reverse];rw [List.size_toArray] at hz;omega) q
theorem fEq (hc:X.calm=true) (hgl:Gl X "list") (hml:X.mg "list" = none) (hg:Gl X "reversed") (hm:X.mg "reversed" = none) (he:PE X e te) (hs:aOq e=true) :
    PE X (.Call (.Name "list" p) [.Call (.Name "reversed" p2) [e] [] pos2] [] pos) (qUq X.K te):=by
  intro pins s σ H Q I h
  refine wpAny_Call_Name_kw (cMq I hgl hml PyProof.Rows.boot_list ?_)
  refine PyProof.Rows.callWith_type1 ?_ (aBq rfl) rfl
  rw [aBq rfl]
  show wpAny _ _ (spliced ((false,eval (.Call (.Name "reversed" p2) [e] [] pos2) X.env)::backTo pos (starEach [] X.env))) _ _ s
  refine Calls.spliced_cons (thn (rHq (R:=λ _ xs H1=>∀ l,H1 l=none->Q (.ref l) (upd H1 l (.lst xs.reverse))) hg hm he hs I h) λ v s1 h1=>Calls.spliced_nil ?_)
  obtain ⟨a,it,xs,its,H1,rfl,I1,hit,ht,hne,rv,hz,_,fp,q⟩:=h1
  have hi:it < s1.heap.objs.size:=by obtain ⟨o,ho,_⟩:=hit;exact Heap.lt_size ho
  have hl:=rv.length
  refine KRv.listOf (KRv.itL (prog:=X.prog) (w:=X.w) (A:=X.A.in1.in1) (I:=it) (l:=a) (items:=its.toArray) (I.ok.hd hc) hne hz) ⟨Nat.zero_le _,by simpa using hit,ht⟩ (λ b hb=>?_) (λ s' acc c' hm' hS hacc=>?_)
  . simp only [List.mem_cons,List.not_mem_nil,or_false] at hb
    rcases hb with rfl | rfl
    . exact hi
    . obtain ⟨o,ho,_⟩:=ht;exact Heap.lt_size ho
  . exact oIq I1 fp hi hm' hS (by rw [KRv.back hacc];exact rv.reverse) (by rw [List.length_reverse];rw [List.size_toArray] at hz;omega) q
theorem n6q:∀ (bs:List Bool),(List.range bs.length).all (λ i=>bs.getD i true)=bs.all id:=by
  intro bs
  rw [Bool.eq_iff_iff,List.all_eq_true,List.all_eq_true]
  constructor
  . intro h x hx
    obtain ⟨i,hi,e⟩:=List.getElem_of_mem hx
    have:=h i (List.mem_range.mpr hi)
    rw [List.getD_eq_getElem?_getD,List.getElem?_eq_getElem hi,Option.getD_some,e] at this
    exact this
  . intro h i hi
    have hi':=List.mem_range.mp hi
    rw [List.getD_eq_getElem?_getD,List.getElem?_eq_getElem hi',Option.getD_some]
    exact h _ (List.getElem_mem hi')
def aB3q (K:PySem.W.Frag):List V->Hp->VK->Prop:=λ xs H Q=>∃ (p:Addr) (bs:List Bool),xs=[.ref p]/\SqL K H p (bs.map V.bl)/\Q (.bl (bs.all id)) H
theorem nXq (hc:X.calm=true):CallR X (.builtin "all") (aB3q X.K):=by
  intro pins s σ H xs us Q I r h
  obtain ⟨p,bs,rfl,hp,hQ⟩:=h
  obtain ⟨u,rfl,ru⟩:=r.one
  cases ru
  obtain ⟨its,rv,pl,hz⟩:=I.list hp
  have hlen:=rv.length
  rw [List.length_map] at hlen
  have hlt:p < s.heap.objs.size:=by obtain ⟨o,ho,_⟩:=pl.isList;exact Heap.lt_size ho
  refine call_all_walk (wpAny_pyIter_list pl.isList ?_)
  refine ⟨s.heap.objs.size,[s.heap.objs.size,p],[s.heap.objs.size],its.toArray.size,_,_,λ i=>bs.getD i true,rfl,Walks.list (A:=X.A.in1) (I.ok.hd hc) _ p (Nat.ne_of_lt hlt) its.toArray,⟨⟨_,Heap.get?_push_size _ rfl,rfl,rfl⟩,let ⟨o,ho,r⟩:=pl.isList;⟨o,Heap.get?_push_of_some _ ho,r⟩⟩,?_,λ h' tk kk=>?_⟩
  . intro i v s' Q' E' hv hq
    have hi:i < its.length:=by
      have:=(Array.getElem?_eq_some_iff.mp hv).1
      simpa using this
    obtain ⟨v1,e1,e2⟩:=rv.get (i:=i) (x:=V.bl bs[i]) (by rw [List.getElem?_map,List.getElem?_eq_getElem (by omega)];rfl)
    have e3:its[i]?=some v:=by simpa using hv
    rw [e1] at e3
    cases e3
    have e4:v=Value.bool bs[i]:=e2
    subst e4
    refine wpAny_truthy_bool ?_
    have e5:bs.getD i true=bs[i]:=by rw [List.getD_eq_getElem?_getD,List.getElem?_eq_getElem (by omega)];rfl
    rw [<- e5]
    exact hq
  . refine ⟨.bl (bs.all id),H,I.kept λ b o e=>kk b o ?_ (Heap.get?_push_of_some _ e),?_,hQ⟩
    . simp only [List.mem_cons,List.not_mem_nil,or_false]
      exact Nat.ne_of_lt (Heap.lt_size e)
    . show Value.bool _=Value.bool _
      rw [List.size_toArray,<- hlen,n6q]
end
section
variable {X:Cx} {e:Expr} {te:TE} {p p2 pos pos2:Pos}
theorem fBq (hgl:Gl X "list") (hml:X.mg "list" = none) (hg:Gl X "reversed") (hm:X.mg "reversed" = none) (he:JE X e te) (hc:X.calm=true:=by rfl) (hs:aOq e=true:=by rfl) :
    JE X (.Call (.Name "list" p) [.Call (.Name "reversed" p2) [e] [] pos2] [] pos) (qUq X.K te):=⟨fEq hc hgl hml hg hm he.run hs⟩
end
end L2
namespace KZp
open PySem PyProof.Rows
section
variable {prog:Program} {w:World} {A:Around} {E:Value->Shared->Prop} {s:Shared}
theorem oneT {it t:Addr} {i:Nat} {items:Array Value} {x:Value} {Q:Value->Shared->Prop} (hit:s.heap.IsTupleIter it t i) (ht:s.heap.IsTuple t items) (hx:items[i]?=some x)
    (hQ:∀ h',h'.IsTupleIter it t (i+1)->Heap.SameBut it s.heap h'->Q x { s with heap:=h' }):wpAny (model prog w) A (Builtin.SmallTypes.nextOf (.ref it)) Q E s:=by
  obtain ⟨o,ho,hc,hd⟩:=id hit
  obtain ⟨ol,hol,_,nl,hdl⟩:=ht
  unfold Builtin.SmallTypes.nextOf
  refine wpAny_bind (wpAny_callSpecial?_slot hit.typeIs F.slot_tuple_iterator_next (wpAny_call_entry F.slot_tuple_iterator_next hit.typeIs F.entry_tuple_iterator_next ?_ (F.args_tuple_iterator_next_1 _)))
  refine (show wpAny (model prog w) A.in1 (field (.ref it) 0 >>= _) _ _ s from wpAny_bind (wpAny_field ho hd (x:=.ref t) rfl ?_))
  refine (show wpAny (model prog w) A.in1 (if (Value.ref t==Value.none)=true then _ else _) _ _ s from ?_)
  rw [if_neg (show ¬ ((Value.ref t==Value.none)=true) from Bool.false_ne_true)]
  refine (show wpAny (model prog w) A.in1 (field (.ref it) 1 >>= _) _ _ s from wpAny_bind (wpAny_field ho hd (x:=.int i 0) rfl ?_))
  refine (show wpAny (model prog w) A.in1 (seqItems? (.ref t) >>= _) _ _ s from wpAny_bind (wpAny_seqItems hol hdl ?_))
  simp only [Int.toNat_natCast,hx]
  refine wpAny_bind (wpAny_setField ho hd (by simp) (wpAny_pure ⟨x,rfl,wpAny_pure (hQ _ ⟨_,Heap.get?_update_self _ ho (Obj.isFreed_of_fields (Obj.data_mapFields hd _)),(Obj.cls_mapFields ..).trans hc,?_⟩ (Heap.SameBut.update ..))⟩))
  rw [Obj.data_mapFields hd]
  simp [rawInt]
theorem aD1q {it t:Addr} {i:Nat} {items:Array Value} {Q:Value->Shared->Prop} (hh:A.handled=none) (hit:s.heap.IsTupleIter it t i) (ht:s.heap.IsTuple t items) (hx:items[i]?=none)
    (hE:∀ h' e,Heap.ExtBut it s.heap h'->Shared.TypeIs { s with heap:=h' } (.ref e) "StopIteration"->E (.ref e) { s with heap:=h' }):wpAny (model prog w) A (Builtin.SmallTypes.nextOf (.ref it)) Q E s:=by
  obtain ⟨o,ho,hc,hd⟩:=id hit
  obtain ⟨ol,hol,_,nl,hdl⟩:=ht
  unfold Builtin.SmallTypes.nextOf
  refine wpAny_bind (wpAny_callSpecial?_slot hit.typeIs F.slot_tuple_iterator_next (wpAny_call_entry F.slot_tuple_iterator_next hit.typeIs F.entry_tuple_iterator_next ?_ (F.args_tuple_iterator_next_1 _)))
  refine (show wpAny (model prog w) A.in1 (field (.ref it) 0 >>= _) _ _ s from wpAny_bind (wpAny_field ho hd (x:=.ref t) rfl ?_))
  refine (show wpAny (model prog w) A.in1 (if (Value.ref t==Value.none)=true then _ else _) _ _ s from ?_)
  rw [if_neg (show ¬ ((Value.ref t==Value.none)=true) from Bool.false_ne_true)]
  refine (show wpAny (model prog w) A.in1 (field (.ref it) 1 >>= _) _ _ s from wpAny_bind (wpAny_field ho hd (x:=.int i 0) rfl ?_))
  refine (show wpAny (model prog w) A.in1 (seqItems? (.ref t) >>= _) _ _ s from wpAny_bind (wpAny_seqItems hol hdl ?_))
  simp only [Int.toNat_natCast,hx]
  refine wpAny_bind (wpAny_rule (wpAny_bind (wpAny_setField ho hd (by simp) ?_)))
  exact KRv.stops (A:=A.in1) hh λ h' e kk hs=>hE _ e (λ b o' hb e'=>kk b o' ((Heap.SameBut.update ..).extBut b o' hb e')) hs
structure St (z TI TO i1 i2 l1 l2:Addr) (f0:Value) (i:Nat) (h:Heap):Prop where
  zip:IsZip h z TI TO f0
  ti:IsPair h TI (.ref i1) (.ref i2)
  to:∃ a b,IsPair h TO a b
  it1:h.IsTupleIter i1 l1 i
  it2:h.IsTupleIter i2 l2 i
variable {z TI TO i1 i2 l1 l2:Addr} {i:Nat} {xs ys:Array Value}
theorem nextZ {x y:Value} {Q:Option Value->Shared->Prop} (D:ZipApart z TI TO i1 i2 l1 l2) (st:St z TI TO i1 i2 l1 l2 .none i s.heap) (hl1:s.heap.IsTuple l1 xs) (hl2:s.heap.IsTuple l2 ys) (hx:xs[i]?=some x) (hy:ys[i]?=some y)
    (hQ:∀ h',St z TI TO i1 i2 l1 l2 (rawInt s.heap.objs.size) (i+1) h'->IsPair h' s.heap.objs.size x y->(∀ c o,c≠z->c≠TO->c≠i1->c≠i2->s.heap.get? c=some o->h'.get? c=some o)->Q (some (.ref s.heap.objs.size)) { s with heap:=h' }) :
    wpAny (model prog w) A (pyNext (.ref z)) Q E s:=by
  obtain ⟨hz,hTI,⟨a,b,hTO⟩,h1,h2⟩:=st
  have hT:s.TypeIs (.ref z) "zip":=⟨_,hz,rfl⟩
  unfold pyNext
  refine wpAny_bind (wpAny_attempt (wpAny_callSpecial?_slot hT F.slot_zip_next (wpAny_call_entry F.slot_zip_next hT F.entry_zip_next ?_ (F.args_zip_next_1 _))))
  refine (show wpAny (model prog w) A.in1 (field (.ref z) 2 >>= _) _ _ _ from wpAny_bind (wpAny_field hz rfl (x:=.bool false) rfl ?_))
  refine (show wpAny (model prog w) A.in1 (field (.ref z) 3 >>= _) _ _ _ from wpAny_bind (wpAny_field hz rfl (x:=.ref TI) rfl (wpAny_bind (wpAny_seqItems hTI rfl ?_))))
  refine (show wpAny (model prog w) A.in1 (Builtin.SmallTypes.ownedTupleIsFree (.ref z) >>= _) _ _ _ from wpAny_bind ?_)
  unfold Builtin.SmallTypes.ownedTupleIsFree
  refine wpAny_bind (wpAny_field hz rfl (x:=.none) rfl (wpAny_pure ?_))
  simp only [if_true]
  refine wpAny_bind (wpAny_rule (wpAny_bind (wpAny_field hz rfl (x:=.ref TO) rfl (wpAny_bind (wpAny_setField_rec hz (by simp) λ g1 hz1 k1=>wpAny_bind ?_)))))
  replace hz1:IsZip g1 z TI TO .ellipsis:=hz1
  simp only [List.zipIdx_cons,List.zipIdx_nil,List.forIn_cons,List.forIn_nil]
  refine wpAny_bind (wpAny_bind (wpAny_onRaise ?_))
  refine (show wpAny (model prog w) A.in1 (Builtin.SmallTypes.nextOf (.ref i1) >>= _) _ _ _ from wpAny_bind (oneT (h1.extBut k1.extBut D.i1z) (hl1.extBut k1.extBut D.l1z) hx λ g2 j1 k2=>wpAny_pure ?_))
  have hTO2:IsPair g2 TO a b:=k2.extBut _ _ D.TOi1 (k1.extBut _ _ D.TOz hTO)
  refine wpAny_bind (wpAny_seqItems hTO2 rfl (wpAny_bind (wpAny_updateSeq_pair hTO2 λ g3 hTO3 k3=>wpAny_bind (wpAny_letGo (wpAny_pure ?_)))))
  replace hTO3:IsPair g3 TO x b:=hTO3
  refine wpAny_bind (wpAny_bind (wpAny_onRaise ?_))
  refine (show wpAny (model prog w) A.in1 (Builtin.SmallTypes.nextOf (.ref i2) >>= _) _ _ _ from wpAny_bind (oneT (((h2.extBut k1.extBut D.i2z).extBut k2.extBut D.i12.symm).extBut k3.extBut D.TOi2.symm) (((hl2.extBut k1.extBut D.l2z).extBut k2.extBut D.l2i1).extBut k3.extBut D.l2TO) hy λ g4 j2 k4=>wpAny_pure ?_))
  have hTO4:IsPair g4 TO x b:=k4.extBut _ _ D.TOi2 hTO3
  refine wpAny_bind (wpAny_seqItems hTO4 rfl (wpAny_bind (wpAny_updateSeq_pair hTO4 λ g5 hTO5 k5=>wpAny_bind (wpAny_letGo (wpAny_pure (wpAny_pure ?_))))))
  replace hTO5:IsPair g5 TO x y:=hTO5
  refine wpAny_bind (wpAny_seqItems hTO5 rfl (wpAny_bind (wpAny_newTuple ?_)))
  have hsz:g5.objs.size=s.heap.objs.size:=by rw [k5.1,k4.1,k3.1,k2.1,k1.1]
  have hz5:IsZip g5 z TI TO .ellipsis:=k5.extBut _ _ D.TOz.symm (k4.extBut _ _ D.i2z.symm (k3.extBut _ _ D.TOz.symm (k2.extBut _ _ D.i1z.symm hz1)))
  have keep:∀ c o,c≠z->c≠TO->c≠i1->c≠i2->s.heap.get? c=some o->g5.get? c=some o:=λ c o c1 c2 c3 c4 e=>k5.extBut _ _ c2 (k4.extBut _ _ c4 (k3.extBut _ _ c2 (k2.extBut _ _ c3 (k1.extBut _ _ c1 e))))
  have J1:g5.IsTupleIter i1 l1 (i+1):=((j1.extBut k3.extBut D.TOi1.symm).extBut k4.extBut D.i12).extBut k5.extBut D.TOi1.symm
  have J2:g5.IsTupleIter i2 l2 (i+1):=j2.extBut k5.extBut D.TOi2.symm
  refine (show wpAny (model prog w) A.in1 (Builtin.SmallTypes.ownedTupleHandOut (.ref z) (.ref g5.objs.size) >>= _) _ _ _ from wpAny_bind ?_)
  unfold Builtin.SmallTypes.ownedTupleHandOut
  have hz6:IsZip (g5.push { cls:=.type "tuple", data:=.seq #[x,y] }) z TI TO .ellipsis:=Heap.get?_push_of_some _ hz5
  refine wpAny_bind (wpAny_setField_rec hz6 (by simp) λ g7 hz7 k7=>?_)
  replace hz7:IsZip g7 z TI TO (rawInt g5.objs.size):=hz7
  refine wpAny_setField_rec hz7 (by simp) λ g8 hz8 k8=>?_
  replace hz8:IsZip g8 z TI TO (rawInt g5.objs.size):=hz8
  have up:∀ c o,c≠z->g5.get? c=some o->g8.get? c=some o:=λ c o c1 e=>k8.extBut _ _ c1 (k7.extBut _ _ c1 (Heap.get?_push_of_some _ e))
  have hzl:g5.objs.size≠z:=Nat.ne_of_gt (Heap.lt_size hz5)
  have hT8:IsPair g8 g5.objs.size x y:=k8.extBut _ _ hzl (k7.extBut _ _ hzl (Heap.get?_push_size _ rfl))
  rw [hsz] at hz8 hT8
  refine wpAny_pure ⟨_,rfl,wpAny_pure ?_⟩
  rw [hsz]
  exact hQ g8 ⟨hz8,up _ _ D.TIz (keep _ _ D.TIz D.TITO D.TIi1 D.TIi2 hTI),⟨x,y,up _ _ D.TOz hTO5⟩,let ⟨o,ho,r⟩:=J1;⟨o,up _ _ D.i1z ho,r⟩,let ⟨o,ho,r⟩:=J2;⟨o,up _ _ D.i2z ho,r⟩⟩ hT8 λ c o c1 c2 c3 c4 e=>up c o c1 (keep c o c1 c2 c3 c4 e)
theorem endZ {Q:Option Value->Shared->Prop} (hh:A.handled=none) (D:ZipApart z TI TO i1 i2 l1 l2) (st:St z TI TO i1 i2 l1 l2 .none i s.heap) (hl1:s.heap.IsTuple l1 xs) (hx:xs[i]?=none)
    (hQ:∀ h',(∀ c o,c≠z->c≠TO->c≠i1->c≠i2->s.heap.get? c=some o->h'.get? c=some o)->Q none { s with heap:=h' }):wpAny (model prog w) A (pyNext (.ref z)) Q E s:=by
  obtain ⟨hz,hTI,⟨a,b,hTO⟩,h1,h2⟩:=st
  have hT:s.TypeIs (.ref z) "zip":=⟨_,hz,rfl⟩
  unfold pyNext
  refine wpAny_bind (wpAny_attempt (wpAny_callSpecial?_slot hT F.slot_zip_next (wpAny_call_entry F.slot_zip_next hT F.entry_zip_next ?_ (F.args_zip_next_1 _))))
  refine (show wpAny (model prog w) A.in1 (field (.ref z) 2 >>= _) _ _ _ from wpAny_bind (wpAny_field hz rfl (x:=.bool false) rfl ?_))
  refine (show wpAny (model prog w) A.in1 (field (.ref z) 3 >>= _) _ _ _ from wpAny_bind (wpAny_field hz rfl (x:=.ref TI) rfl (wpAny_bind (wpAny_seqItems hTI rfl ?_))))
  refine (show wpAny (model prog w) A.in1 (Builtin.SmallTypes.ownedTupleIsFree (.ref z) >>= _) _ _ _ from wpAny_bind ?_)
  unfold Builtin.SmallTypes.ownedTupleIsFree
  refine wpAny_bind (wpAny_field hz rfl (x:=.none) rfl (wpAny_pure ?_))
  simp only [if_true]
  refine wpAny_bind (wpAny_rule (wpAny_bind (wpAny_field hz rfl (x:=.ref TO) rfl (wpAny_bind (wpAny_setField_rec hz (by simp) λ g1 hz1 k1=>wpAny_bind ?_)))))
  replace hz1:IsZip g1 z TI TO .ellipsis:=hz1
  simp only [List.zipIdx_cons,List.zipIdx_nil,List.forIn_cons,List.forIn_nil]
  refine wpAny_bind (wpAny_bind (wpAny_onRaise ?_))
  refine (show wpAny (model prog w) A.in1 (Builtin.SmallTypes.nextOf (.ref i1) >>= _) _ _ _ from wpAny_bind (aD1q (A:=A.in1) hh (h1.extBut k1.extBut D.i1z) (hl1.extBut k1.extBut D.l1z) hx λ g2 e k2 he=>?_))
  obtain ⟨oe,hoe,hce⟩:=he
  have hz2:IsZip g2 z TI TO .ellipsis:=k2 _ _ D.i1z.symm hz1
  have hez:e≠z:=λ q=>by
    subst q
    have q2:some _=some oe:=Eq.trans (Eq.symm hz2) hoe
    cases q2
    simp at hce
  refine wpAny_setField_rec hz2 (by simp) λ g3 _ k3=>?_
  refine wpAny_bind (wpAny_isInstance (T:="StopIteration") (b:=true) ⟨oe,k3.extBut _ _ hez hoe,hce⟩ isSubtype_stop (wpAny_pure (hQ _ λ c o c1 _ c3 _ q=>?_)))
  exact k3.extBut _ _ c1 (k2 _ _ c3 (k1.extBut _ _ c1 q))
end
abbrev g1 (h:Heap) (l1:Addr):Heap:=h.push { cls:=.type "tuple_iterator", data:=.fields #[.ref l1,.int 0 0] }
abbrev g2 (h:Heap) (l1 l2:Addr):Heap:=(g1 h l1).push { cls:=.type "tuple_iterator", data:=.fields #[.ref l2,.int 0 0] }
abbrev g3 (h:Heap) (l1 l2:Addr):Heap:=(g2 h l1 l2).push { cls:=.type "tuple", data:=.seq #[.ref h.objs.size,.ref (g1 h l1).objs.size] }
abbrev g4 (h:Heap) (l1 l2:Addr):Heap:=(g3 h l1 l2).push { cls:=.type "tuple", data:=.seq #[.none,.none] }
abbrev g5 (h:Heap) (l1 l2:Addr):Heap:=(g4 h l1 l2).push { cls:=.type "zip", data:=.fields #[.none,.bool false,.bool false,.ref (g2 h l1 l2).objs.size,.ref (g3 h l1 l2).objs.size] }
theorem newZ (l1 l2:Addr) (xs ys:Array Value) :
    Meets (Builtin.«zip.__new__» ⟨[.type "zip", .ref l1,.ref l2],[]⟩) (λ _ R s=>s.heap.IsTuple l1 xs/\s.heap.IsTuple l2 ys/\R (.ok (.ret (.ref (g4 s.heap l1 l2).objs.size))) { s with heap:=g5 s.heap l1 l2 }):=
  .of_wp λ prog w A R s h=>by
    obtain ⟨hp,g,d,tk,os⟩:=s
    obtain ⟨hl1,hl2,h⟩:=h
    have hsub:=sub_zip
    have hL1:Heap.IsTuple (Shared.heap ⟨hp,g,d,tk,os⟩) l1 xs:=hl1
    have hL2:Heap.IsTuple (Shared.heap ⟨g1 hp l1,g,d,tk,os⟩) l2 ys:=Heap.IsTuple.push hl2 _
    wp_walk using wpAny_pyIter_tuple hL1,wpAny_pyIter_tuple hL2
    exact ⟨_,rfl,h⟩
theorem callZ {prog:Program} {w:World} {A:Around} {E:Value->Shared->Prop} {s:Shared} {l1 l2:Addr} {xs ys:Array Value} {Q:Value->Shared->Prop} (hl1:s.heap.IsTuple l1 xs) (hl2:s.heap.IsTuple l2 ys)
    (h:∀ h',St (s.heap.objs.size+4) (s.heap.objs.size+2) (s.heap.objs.size+3) s.heap.objs.size (s.heap.objs.size+1) l1 l2 .none 0 h'->(∀ c o,s.heap.get? c=some o->h'.get? c=some o)->Q (.ref (s.heap.objs.size+4)) { s with heap:=h' }) :
    wpAny (model prog w) A (call (.type "zip") [.ref l1,.ref l2]) Q E s:=by
  refine callType_new F.called_zip (by decide) (F.typeCall_zip_2 _ _) (F.newCall_zip_2 _ _) (λ obj=>F.args_object_init_3 obj _ _) F.entry_zip_new (newZ l1 l2 xs ys) ⟨hl1,hl2,?_⟩
  have z1:(g1 s.heap l1).objs.size=s.heap.objs.size+1:=Heap.size_push ..
  have z2:(g2 s.heap l1 l2).objs.size=s.heap.objs.size+2:=by rw [Heap.size_push,z1]
  have z3:(g3 s.heap l1 l2).objs.size=s.heap.objs.size+3:=by rw [Heap.size_push,z2]
  have z4:(g4 s.heap l1 l2).objs.size=s.heap.objs.size+4:=by rw [Heap.size_push,z3]
  have e5:(g5 s.heap l1 l2).get? (g4 s.heap l1 l2).objs.size=some _:=Heap.get?_push_size _ rfl
  have e4:(g5 s.heap l1 l2).get? (g3 s.heap l1 l2).objs.size=some _:=Heap.get?_push_of_some _ (Heap.get?_push_size _ rfl)
  have e3:(g5 s.heap l1 l2).get? (g2 s.heap l1 l2).objs.size=some _:=Heap.get?_push_of_some _ (Heap.get?_push_of_some _ (Heap.get?_push_size _ rfl))
  have e2:(g5 s.heap l1 l2).get? (g1 s.heap l1).objs.size=some _:=Heap.get?_push_of_some _ (Heap.get?_push_of_some _ (Heap.get?_push_of_some _ (Heap.get?_push_size _ rfl)))
  have e1:(g5 s.heap l1 l2).get? s.heap.objs.size=some _:=Heap.get?_push_of_some _ (Heap.get?_push_of_some _ (Heap.get?_push_of_some _ (Heap.get?_push_of_some _ (Heap.get?_push_size _ rfl))))
  rw [z2,z3,z4] at e5
  rw [z1,z2] at e3
  rw [z3] at e4
  rw [z1] at e2
  show _/\_
  rw [z4]
  exact ⟨⟨_,e5,rfl⟩,h _ ⟨e5,e3,⟨_,_,e4⟩,⟨_,e1,rfl,rfl⟩,⟨_,e2,rfl,rfl⟩⟩ λ c o x=>Heap.get?_push_of_some _ (Heap.get?_push_of_some _ (Heap.get?_push_of_some _ (Heap.get?_push_of_some _ (Heap.get?_push_of_some _ x))))⟩
end KZp
namespace L2
open PySem PySem.Spec PyProof.Rows
theorem Inv.turnedL {X:Cx} {pins:List (Addr × Obj)} {σ:St} {H:Hp} {s:Shared} {h':Heap} {t':Nat} {fp:List Addr} (I:Inv X pins σ H s) (hf:∀ b∈fp,iTq X pins H b) (k:∀ b o,b ∉ fp->s.heap.get? b=some o->h'.get? b=some o):Inv X pins σ H { s with heap:=h',toks:=t' }:=by
  have nit:∀ b u,H b=some u->b ∉ fp:=λ b u e z=>by rw [(hf b z).1] at e;cases e
  refine I.step (g':=s.gens) (d':=s.drawn) (ch:=fp) (λ b hb=>?_) (λ b o _ _ hc e _=>k b o hc e) (λ b o _ _ hc e _=>⟨o.slots,k b o hc e⟩) (λ _ _ _ _ n=>n)
    (λ b o hc e=>⟨o,k b o hc e⟩) (λ _ _ e=>e) (λ _ _ _ e=>e) (λ b ps e=>⟨#[],by rw [e];simp⟩) (λ m hm=>?_) (λ b u e=>?_) I.bare
  . obtain ⟨f0,f1,f2,f3,f4,f5⟩:=hf b hb
    exact ⟨f3,f1,f4,f5⟩
  . obtain ⟨o,es,ep,ho,r⟩:=hm
    exact ⟨o,es,ep,k _ o (λ z=>(hf _ z).2.1 rfl) ho,r⟩
  . refine (I.hok b u e).stay (λ c v hc q=>k c v ?_ q) (λ _ q=>q) λ _ _ q=>q
    rcases hc with z | z
    . rw [z];exact nit b u e
    . exact nit c _ z
theorem apart (n a b:Nat) (h1:a < n) (h2:b < n):ZipApart (n+4) (n+2) (n+3) n (n+1) a b:=by
  constructor<;>(intro e;have e':(@Eq Nat _ _):=e;omega)
def Itz (K:PySem.W.Frag) (a b:Addr):It:=
  ⟨λ i H=>∃ xs ys x y,SqT K H a xs/\SqT K H b ys/\xs[i]?=some x/\ys[i]?=some y,λ i H v H'=>∃ T x y,v=.ref T/\H T=none/\H'=upd H T (.tup [x,y])/\(∀ xs,SqT K H a xs->xs[i]?=some x)/\∀ ys,SqT K H b ys->ys[i]?=some y,λ i H=>∃ xs,SqT K H a xs/\xs.length<=i⟩
theorem pHq {P:Program} {w:World} {K:PySem.W.Frag} {es:List Expr} {k:Nat} {pos:Pos} {z TI TO i1 i2 l1 l2:Addr} (D:ZipApart z TI TO i1 i2 l1 l2) :
    Turn P w K (.Tuple es k pos) (Itz K l1 l2) [z,TI,TO,i1,i2] z (λ i h=>KZp.St z TI TO i1 i2 l1 l2 .none i h) where
  mem:=by simp
  obj:=λ i h st b hb=>by
    simp only [List.mem_cons,List.not_mem_nil,or_false] at hb
    obtain ⟨a1,a2,⟨p,q,a3⟩,⟨o4,a4,_,d4⟩,⟨o5,a5,_,d5⟩⟩:=st
    rcases hb with rfl | rfl | rfl | rfl | rfl
    . exact ⟨_,a1,λ v e=>by cases (show Data.fields _=Data.cell v from e)⟩
    . exact ⟨_,a2,λ v e=>by cases (show Data.seq _ _=Data.cell v from e)⟩
    . exact ⟨_,a3,λ v e=>by cases (show Data.seq _ _=Data.cell v from e)⟩
    . exact ⟨_,a4,λ v e=>by rw [d4] at e;cases e⟩
    . exact ⟨_,a5,λ v e=>by rw [d5] at e;cases e⟩
  keep:=λ i h h' st kk=>by
    obtain ⟨a1,a2,⟨p,q,a3⟩,⟨o4,a4,r4⟩,⟨o5,a5,r5⟩⟩:=st
    exact ⟨kk _ (by simp) _ a1,kk _ (by simp) _ a2,⟨p,q,kk _ (by simp) _ a3⟩,⟨o4,kk _ (by simp) _ a4,r4⟩,⟨o5,kk _ (by simp) _ a5,r5⟩⟩
  item:=by
    intro X hP hw hK hc i pins s σ H E I hf st hg
    subst hP hw hK
    obtain ⟨xs,ys,x,y,hq1,hq2,hx,hy⟩:=hg
    obtain ⟨its1,rv1,p1,_⟩:=I.tuple hq1
    obtain ⟨its2,rv2,p2,_⟩:=I.tuple hq2
    obtain ⟨u1,hu1,ru1⟩:=rv1.get hx
    obtain ⟨u2,hu2,ru2⟩:=rv2.get hy
    refine KZp.nextZ D st (show s.heap.IsTuple l1 its1.toArray from p1) (show s.heap.IsTuple l2 its2.toArray from p2) (x:=u1) (y:=u2) (by simpa using hu1) (by simpa using hu2) λ h' st' hT kk=>?_
    refine ⟨_,rfl,wpAny_letOwnedTupleGo_zip st'.zip λ h2 hz2 k2=>?_⟩
    have kk2:∀ b o,b ∉ [z,TI,TO,i1,i2]->s.heap.get? b=some o->h2.get? b=some o:=λ b o hb e=>by
      simp only [List.mem_cons,List.not_mem_nil,or_false,not_or] at hb
      exact k2.extBut _ _ hb.1 (kk b o hb.1 hb.2.2.1 hb.2.2.2.1 hb.2.2.2.2 e)
    have I1:Inv X pins σ (upd H s.heap.objs.size (.tup [x,y])) { s with heap:=s.heap.push { cls:=.type "tuple", data:=.seq #[u1,u2] } }:=
      I.laid (t':=s.toks) (λ b o e=>Heap.get?_push_of_some _ e) (Nat.le_refl _) (show ObjOk X.prog X.w _ _ _ (.tup [x,y]) from ⟨by show 2<=sizeLine;decide,[u1,u2],.cons ru1 (.cons ru2 .nil),IsTup.new _ _⟩)
    have hzT:s.heap.objs.size≠z:=Nat.ne_of_gt (Heap.lt_size st.zip)
    have lts:∀ b∈[z,TI,TO,i1,i2],b < s.heap.objs.size:=λ b hb=>by
      obtain ⟨a1,a2,⟨p,q,a3⟩,⟨o4,a4,_⟩,⟨o5,a5,_⟩⟩:=st
      simp only [List.mem_cons,List.not_mem_nil,or_false] at hb
      rcases hb with rfl | rfl | rfl | rfl | rfl
      . exact Heap.lt_size a1
      . exact Heap.lt_size a2
      . exact Heap.lt_size a3
      . exact Heap.lt_size a4
      . exact Heap.lt_size a5
    have I2:Inv X pins σ (upd H s.heap.objs.size (.tup [x,y])) { s with heap:=h2 }:=
      Inv.turnedL (s:={ s with heap:=s.heap.push { cls:=.type "tuple", data:=.seq #[u1,u2] } }) (h':=h2) (t':=s.toks) (fp:=[z,TI,TO,i1,i2]) I1 (λ b hb=>by
        obtain ⟨f0,fr⟩:=hf b hb
        exact ⟨by rw [aQq (Nat.ne_of_lt (lts b hb))];exact f0,fr⟩) (λ b o hb e=>by
        rcases Heap.get?_push_cases e with ⟨e1,e2⟩ | e
        . rw [e1,e2];exact k2.extBut _ _ hzT hT
        . exact kk2 b o hb e)
    refine ⟨.ref s.heap.objs.size,_,I2,rfl,⟨_,x,y,rfl,I.hok.fresh (Nat.le_refl _),rfl,λ xs' h=>by rw [I.tuple_inj h hq1];exact hx,λ ys' h=>by rw [I.tuple_inj h hq2];exact hy⟩,?_,λ b hb=>by rw [aQq (Nat.ne_of_lt (lts b hb))];exact (hf b hb).1⟩
    obtain ⟨a1,a2,⟨p,q,a3⟩,⟨o4,a4,r4⟩,⟨o5,a5,r5⟩⟩:=st'
    exact ⟨hz2,k2.extBut _ _ D.TIz a2,⟨p,q,k2.extBut _ _ D.TOz a3⟩,⟨o4,k2.extBut _ _ D.i1z a4,r4⟩,⟨o5,k2.extBut _ _ D.i2z a5,r5⟩⟩
  done:=by
    intro X hP hw hK hc i pins s σ H E I hf st hg
    subst hP hw hK
    obtain ⟨xs,hq1,hx⟩:=hg
    obtain ⟨its1,rv1,p1,_⟩:=I.tuple hq1
    have hl:=rv1.length
    refine KZp.endZ (I.ok.hd hc) D st (show s.heap.IsTuple l1 its1.toArray from p1) (by simp;omega) λ h' kk=>⟨rfl,?_⟩
    exact I.turnedL (t':=s.toks) (fp:=[z,TI,TO,i1,i2]) hf λ b o hb e=>by
      simp only [List.mem_cons,List.not_mem_nil,or_false,not_or] at hb
      exact kk b o hb.1 hb.2.2.1 hb.2.2.2.1 hb.2.2.2.2 e
  self:=λ _ _ _ _ _ st h=>wpAny_pyIter_zip st.zip h
section
variable {X:Cx}
def iZip (K:PySem.W.Frag) (t:TA):TI:=λ σ H R=>t σ H λ vs H1=>∃ a b,vs=[.ref a,.ref b]/\(∃ xs,SqT K H1 a xs)/\(∃ ys,SqT K H1 b ys)/\R (Itz K a b) H1
theorem u5q {es:List Expr} {k:Nat} {tp:Pos} {a b:Expr} {t:TA} {p pos:Pos} (hg:Gl X "zip") (hm:X.mg "zip" = none) (ha:PA X [a,b] t) (h1:aOq a=true) (h2:aOq b=true):PI X (.Tuple es k tp) (.Call (.Name "zip" p) [a,b] [] pos) (iZip X.K t):=by
  intro pins s σ H R I h
  have hs:starEach [a,b] X.env=(false,eval a X.env)::starEach [b] X.env:=aBq h1
  have hp:(backTo pos (starEach [b] X.env)).any (·.1)=false:=by rw [aBq h2];rfl
  refine Call_ (cMq I hg hm PyProof.Rows.boot_zip (PyProof.Rows.callWith_type1 (thn (ha pos pins s σ H _ I h) λ us s1 ⟨vs,H1,I1,r1,l1,l2,ev,⟨xs,q1⟩,⟨ys,q2⟩,q⟩=>?_) hs hp))
  subst ev
  cases r1 with
  | cons r rr=>
    cases rr with
    | cons r' rr=>
      cases rr
      cases r
      cases r'
      obtain ⟨its1,rv1,p1,_⟩:=I1.tuple q1
      obtain ⟨its2,rv2,p2,_⟩:=I1.tuple q2
      refine KZp.callZ (show s1.heap.IsTuple l1 its1.toArray from p1) (show s1.heap.IsTuple l2 its2.toArray from p2) λ h' st kk=>wpAny_pyIter_zip st.zip ?_
      have b1:=p1.lt
      have b2:=p2.lt
      have D:ZipApart (s1.heap.objs.size+4) (s1.heap.objs.size+2) (s1.heap.objs.size+3) s1.heap.objs.size (s1.heap.objs.size+1) l1 l2:=apart _ _ _ b1 b2
      refine ⟨s1.heap.objs.size+4,_,_,_,H1,rfl,I1.kept (t':=s1.toks) kk,pHq D,st,λ b hb=>?_,q⟩
      have hb':s1.heap.objs.size<=b:=by
        simp only [List.mem_cons,List.not_mem_nil,or_false] at hb
        rcases hb with e | e | e | e | e<;>(rw [e];first | exact Nat.le_refl _ | exact Nat.le_add_right _ _)
      exact I1.fpOk hb' (I1.hok.fresh hb')
theorem x2q {es:List Expr} {k:Nat} {tp:Pos} {a b:Expr} {t:TA} {p pos:Pos} (hg:Gl X "zip") (hm:X.mg "zip" = none) (ha:JA X [a,b] t) (h1:aOq a=true:=by rfl) (h2:aOq b=true:=by rfl):JI X (.Tuple es k tp) (.Call (.Name "zip" p) [a,b] [] pos) (iZip X.K t):=⟨u5q hg hm ha.run h1 h2⟩
end
def fzn (o:Obj):HO:=.frz o (.ext λ _=>True)
section
variable {P:Program} {w:World} {H H':Hp} {h h':Heap} {as:List Addr}
end
structure CloAt (H:Hp) (f:Addr) (name qual:Str) (st:Stmt) (cl:List (Str × Addr)) (fvs:List V):Prop where
  fn:∃ (oc:Value) (od:Option Addr) (doc pm cdv ct:Value) (sl:Array (Option Value)),H f=some (fzn ⟨oc,od,.func (PySem.W.fnX name qual (cIq st) (bMq st) (aAq st) cl .none .none doc pm none cdv ct),sl⟩) ∧
    ∃ c o vs t,cdv=.ref c/\H c=some (fzn o)/\o.data=.fields vs/\vs[1]?=some (.str qual t)
  cells:∀ (i:Nat) (x:Str) (c:Addr),cl[i]?=some (x,c)->∃ v u o,fvs[i]?=some v/\RelV v u/\H c=some (fzn o)/\o.data=.cell (some u)
  len:cl.length=fvs.length
  nda:(cl.map (·.2)).Nodup
section
variable {P:Program} {w:World} {K:PySem.W.Frag} {mg:Str->Option Value} {base:Heap} {k:Nat} {name qual:Str} {st:Stmt} {fr:List Str} {fvs:List V} {N ps:List Str} {sp:Sp}
end
section
variable {X:Cx} {k j:Nat} {name qual:Str} {st:Stmt} {fr:List Str} {fvs:List V} {ps:List Str} {x:Str} {sp:Sp} {p pos:Pos} {e:Expr} {es:List Expr} {t:TA}
end
def clOf (env:Env) (fr:List Str):List (Str × Addr):=fr.map λ x=>(x,(env.cells.lookup x).getD 0)
structure MadeAt (env:Env) (H:Hp) (f:Addr) (name qual:Str) (st:Stmt) (fr:List Str):Prop where
  fn:∃ (oc:Value) (od:Option Addr) (doc pm cdv ct:Value) (sl:Array (Option Value)),H f=some (fzn ⟨oc,od,.func (PySem.W.fnX name qual (cIq st) (bMq st) (aAq st) (clOf env fr) .none .none doc pm none cdv ct),sl⟩) ∧
    ∃ c o vs t,cdv=.ref c/\H c=some (fzn o)/\o.data=.fields vs/\vs[1]?=some (.str qual t)
section
variable {X:Cx} {pins:List (Addr × Obj)} {σ:St} {H H2:Hp} {s s':Shared} {as:List Addr}
end
section
variable {X:Cx} {k j:Nat} {g:Addr} {fd:FuncData} {name qual:Str} {st:Stmt} {fr:List Str} {ix:List Nat} {ps:List Str} {x:Str} {sp:Sp} {p pos:Pos} {e:Expr} {es:List Expr} {t:TA}
end
def Tab (H:Hp) (T:Addr) (pos:Pos) (qual:Str):Prop:=∃ ps,H T=some (.tbl ps)/\TriplesOk ps.toList/\(codeAmong pos ps.toList=none\/∃ c o vs t,codeAmong pos ps.toList=some (.ref c)/\H c=some (fzn o)/\o.data=.fields vs/\vs[1]?=some (.str qual t))
section
variable {P:Program} {w:World} {H:Hp} {h h':Heap} {T c:Addr} {ps mo:Array Value} {oc:Obj} {fs ex:List Addr}
end
section
variable {X:Cx} {i:Nat} {T c:Addr} {name:Str} {params:Arguments} {body:List Stmt} {scope:Scope} {pos:Pos} {fr:List Str}
end
section
variable {P:Program} {w:World} {K:PySem.W.Frag} {mg mb:Str->Option Value} {k:Nat} {fa a:Addr} {fd:FuncData} {x:Str} {sp:Sp} {s₁:Shared} {vs:List Value} {ns:List Int} {tabs:List (Addr × Addr)}
end
end L2
namespace L3
open PySem PySem.Spec L2
inductive D where
  | non | bl (b:Bool) | int (i:Int) | str (x:Str) | ref (a:Addr) | ty (n:String) | tup (ds:List D) | frl (ds:List D)
def FrL (K:PySem.W.Frag) (H:Hp) (a:Addr) (xs:List V):Prop:=
  (∃ o,H a=some (.frz o (.lst xs)))\/∃ (o:Obj) (its:Array Value) (n:Nat),K.lookup a=some o/\o.cls=.type "list"/\o.dict=none/\o.data=.seq its n/\its.size<=sizeLine/\Vals xs its.toList
theorem FrL.sq {K:PySem.W.Frag} {H:Hp} {a:Addr} {xs:List V} (h:FrL K H a xs):SqL K H a xs:=by
  rcases h with h | h
  . exact .inl (.inr h)
  . exact .inr h
mutual
def Abs (K:PySem.W.Frag) (H:Hp):D->V->Prop
  | .non,v=>v=.non
  | .bl b,v=>v=.bl b
  | .int i,v=>v=.int i
  | .str x,v=>v=.str x
  | .ref a,v=>v=.ref a
  | .ty n,v=>v=.ty n
  | .tup ds,v=>∃ a vs,v=.ref a/\SqT K H a vs/\AbsL K H ds vs
  | .frl ds,v=>∃ a vs,v=.ref a/\FrL K H a vs/\AbsL K H ds vs
def AbsL (K:PySem.W.Frag) (H:Hp):List D->List V->Prop
  | [],vs=>vs=[]
  | d::ds,vs=>∃ v r,vs=v::r/\Abs K H d v/\AbsL K H ds r
end
structure Mono (K:PySem.W.Frag) (H H':Hp):Prop where
  tp:∀ a xs,SqT K H a xs->SqT K H' a xs
  fr:∀ a xs,FrL K H a xs->FrL K H' a xs
  fz:∀ a o,H a=some (fzn o)->H' a=some (fzn o)
section
variable {K:PySem.W.Frag} {H H':Hp}
mutual
theorem Abs.mono (h:Mono K H H'):∀ {d:D} {v:V},Abs K H d v->Abs K H' d v
  | .non,_,r=>r
  | .bl _,_,r=>r
  | .int _,_,r=>r
  | .str _,_,r=>r
  | .ref _,_,r=>r
  | .ty _,_,r=>r
  | .tup _,_,⟨a,vs,e,q,l⟩=>⟨a,vs,e,h.tp a vs q,AbsL.mono h l⟩
  | .frl _,_,⟨a,vs,e,q,l⟩=>⟨a,vs,e,h.fr a vs q,AbsL.mono h l⟩
theorem AbsL.mono (h:Mono K H H'):∀ {ds:List D} {vs:List V},AbsL K H ds vs->AbsL K H' ds vs
  | [],_,r=>r
  | _::_,_,⟨v,r,e,q,l⟩=>⟨v,r,e,Abs.mono h q,AbsL.mono h l⟩
end
theorem AbsL.len:∀ {ds:List D} {vs:List V},AbsL K H ds vs->vs.length=ds.length
  | [],_,r=>by cases r;rfl
  | _::_,_,⟨v,r,e,_,l⟩=>by subst e;simp [l.len]
theorem AbsL.append:∀ {ds es:List D} {vs us:List V},AbsL K H ds vs->AbsL K H es us->AbsL K H (ds++es) (vs++us)
  | [],_,_,_,r,s=>by cases r;exact s
  | _::_,_,_,_,⟨v,r,e,q,l⟩,s=>by subst e;exact ⟨v,_,rfl,q,l.append s⟩
theorem AbsL.one {d:D} {v:V} (h:Abs K H d v):AbsL K H [d] [v]:=⟨v,[],rfl,h,rfl⟩
theorem AbsL.get:∀ {ds:List D} {vs:List V} {i:Nat} {d:D},AbsL K H ds vs->ds[i]?=some d->∃ v,vs[i]?=some v/\Abs K H d v
  | [],_,_,_,_,e=>by simp at e
  | _::_,_,0,_,⟨v,r,e',q,l⟩,e=>by simp at e;subst e e';exact ⟨v,rfl,q⟩
  | _::_,_,i+1,d,⟨v,r,e',q,l⟩,e=>by
    subst e'
    obtain ⟨u,h1,h2⟩:=AbsL.get (i:=i) (d:=d) l (by simpa using e)
    exact ⟨u,by simpa using h1,h2⟩
theorem AbsL.take:∀ {ds:List D} {vs:List V} (n:Nat),AbsL K H ds vs->AbsL K H (ds.take n) (vs.take n)
  | _,_,0,_=>by simp [AbsL]
  | [],_,n+1,r=>by cases r;simp [AbsL]
  | _::_,_,n+1,⟨v,r,e,q,l⟩=>by subst e;exact ⟨v,_,rfl,q,l.take n⟩
theorem AbsL.drop:∀ {ds:List D} {vs:List V} (n:Nat),AbsL K H ds vs->AbsL K H (ds.drop n) (vs.drop n)
  | _,_,0,r=>r
  | [],_,n+1,r=>by cases r;simp [AbsL]
  | _::_,_,n+1,⟨v,r,e,q,l⟩=>by subst e;exact l.drop n
theorem AbsL.reverse:∀ {ds:List D} {vs:List V},AbsL K H ds vs->AbsL K H ds.reverse vs.reverse
  | [],_,r=>by cases r;simp [AbsL]
  | _::_,_,⟨v,r,e,q,l⟩=>by subst e;rw [List.reverse_cons,List.reverse_cons];exact l.reverse.append (.one q)
theorem AbsL.set {d:D} {v:V} (h:Abs K H d v):∀ {ds:List D} {vs:List V} (i:Nat),AbsL K H ds vs->AbsL K H (ds.set i d) (vs.set i v)
  | [],_,_,r=>by cases r;simp [AbsL]
  | _::_,_,0,⟨u,r,e,q,l⟩=>by subst e;exact ⟨v,r,rfl,h,l⟩
  | _::_,_,i+1,⟨u,r,e,q,l⟩=>by subst e;exact ⟨u,_,rfl,q,l.set h i⟩
theorem AbsL.of_ints:∀ (ns:List Int),AbsL K H (ns.map D.int) (ns.map V.int)
  | []=>rfl
  | n::ns=>⟨_,_,rfl,rfl,AbsL.of_ints ns⟩
end
def cut {α:Type} (xs:List α) (lo hi:Option Int):List α:=(xs.drop (HT.sIx xs.length 0 lo)).take (HT.sIx xs.length xs.length hi - HT.sIx xs.length 0 lo)
theorem AbsL.cut {K:PySem.W.Frag} {H:Hp} {ds:List D} {vs:List V} (h:AbsL K H ds vs) (lo hi:Option Int):AbsL K H (L3.cut ds lo hi) (lKq vs lo hi):=by
  have e:=h.len
  rw [L3.cut,lKq,e]
  exact (h.drop _).take _
inductive DO where
  | lst (ds:List D)
  | ins (C:Addr) (fs:List (Str × D))
  | dK (kvs:List (Key × D))
  | dT (kvs:List (List Key × D))
  | frT (kvs:List (List Key × D))
  | tab (pos:Pos) (qual:Str) | made (env:Env) (name qual:Str) (st:Stmt) (fr:List Str) | clo (name qual:Str) (st:Stmt) (fr:List Str) (vals:List D)
abbrev DV:=Addr->Option DO
abbrev DSt:=List (Option D)
def up (G:DV) (a:Addr) (o:DO):DV:=λ b=>if b=a then some o else G b
theorem a4q {G:DV} {a:Addr} {o:DO}:up G a o a=some o:=by unfold up;rw [if_pos rfl]
theorem aMq {G:DV} {a b:Addr} {o:DO} (h:b≠a):up G a o b=G b:=by unfold up;rw [if_neg h]
theorem bTq {G:DV} {a:Addr} {o u:DO}:up (up G a o) a u=up G a u:=by funext b;unfold up;split<;>rfl
theorem h4q {G:DV} {a b:Addr} {o u:DO} (h:a≠b):up (up G a o) b u=up (up G b u) a o:=by
  funext c;unfold up;split<;>split<;>simp_all
theorem r2q {G:DV} {a:Addr} {o:DO} (h:G a=some o):up G a o=G:=by
  funext b;unfold up;split
  . next e=>rw [e,h]
  . rfl
def yBq {κ:Type} (K:PySem.W.Frag) (H:Hp) (fs:List (κ × D)) (gs:List (κ × V)):Prop:=fs.map (·.1)=gs.map (·.1)/\AbsL K H (fs.map (·.2)) (gs.map (·.2))
def BearO (K:PySem.W.Frag) (H:Hp) (a:Addr):DO->Prop
  | .lst ds=>∃ vs,H a=some (.lst vs)/\AbsL K H ds vs
  | .ins C fs=>∃ dx gs,H a=some (.ins C dx gs)/\yBq K H fs gs
  | .dK kvs=>∃ gs,H a=some (.dK gs)/\yBq K H kvs gs
  | .dT kvs=>∃ gs,H a=some (.dT gs)/\yBq K H kvs gs
  | .frT kvs=>∃ o gs,H a=some (.frz o (.dT gs))/\yBq K H kvs gs
  | .tab pos qual=>Tab H a pos qual
  | .made env name qual st fr=>MadeAt env H a name qual st fr
  | .clo name qual st fr vals=>∃ cl fvs,CloAt H a name qual st cl fvs/\cl.map (·.1)=fr/\AbsL K H vals fvs
def Vw (K:PySem.W.Frag) (G:DV) (H:Hp):Prop:=∀ a o,G a=some o->BearO K H a o
theorem BearO.some {K:PySem.W.Frag} {H:Hp} {a:Addr} {o:DO} (h:BearO K H a o):∃ u,H a=.some u:=by
  cases o with
  | lst ds=>obtain ⟨_,e,_⟩:=h;exact ⟨_,e⟩
  | ins C fs=>obtain ⟨_,_,e,_⟩:=h;exact ⟨_,e⟩
  | dK kvs=>obtain ⟨_,e,_⟩:=h;exact ⟨_,e⟩
  | dT kvs=>obtain ⟨_,e,_⟩:=h;exact ⟨_,e⟩
  | frT kvs=>obtain ⟨_,_,e,_⟩:=h;exact ⟨_,e⟩
  | tab pos qual=>obtain ⟨_,e,_⟩:=h;exact ⟨_,e⟩
  | made env name qual st fr=>obtain ⟨_,_,_,_,_,_,_,e,_⟩:=h.fn;exact ⟨_,e⟩
  | clo name qual st fr vals=>obtain ⟨_,_,h,_⟩:=h;obtain ⟨_,_,_,_,_,_,_,e,_⟩:=h.fn;exact ⟨_,e⟩
theorem Vw.none {K:PySem.W.Frag} {G:DV} {H:Hp} (h:Vw K G H) {a:Addr} (e:H a=.none):G a=.none:=by
  cases q:G a with
  | none=>rfl
  | some o=>obtain ⟨u,z⟩:=(h a o q).some;rw [e] at z;cases z
theorem BearO.mono {K:PySem.W.Frag} {H H':Hp} {a:Addr} {o:DO} (ht:Mono K H H') (e:H' a=H a) (h:BearO K H a o):BearO K H' a o:=by
  cases o with
  | lst ds=>obtain ⟨vs,q,l⟩:=h;exact ⟨vs,by rw [e];exact q,l.mono ht⟩
  | ins C fs=>obtain ⟨dx,gs,q,l⟩:=h;exact ⟨dx,gs,by rw [e];exact q,l.1,l.2.mono ht⟩
  | dK kvs=>obtain ⟨gs,q,l⟩:=h;exact ⟨gs,by rw [e];exact q,l.1,l.2.mono ht⟩
  | dT kvs=>obtain ⟨gs,q,l⟩:=h;exact ⟨gs,by rw [e];exact q,l.1,l.2.mono ht⟩
  | frT kvs=>obtain ⟨o,gs,q,l⟩:=h;exact ⟨o,gs,by rw [e];exact q,l.1,l.2.mono ht⟩
  | tab pos qual=>
    obtain ⟨ps,h1,h2,h3⟩:=h
    refine ⟨ps,by rw [e];exact h1,h2,?_⟩
    rcases h3 with h3 | ⟨c,o,vs,t,h3,h4,h5⟩
    . exact .inl h3
    . exact .inr ⟨c,o,vs,t,h3,ht.fz _ _ h4,h5⟩
  | made env name qual st fr=>
    obtain ⟨oc,od,doc,pm,cdv,ct,sl,h1,c,o,vs,t,h2,h3,h4⟩:=h.fn
    exact ⟨oc,od,doc,pm,cdv,ct,sl,ht.fz _ _ h1,c,o,vs,t,h2,ht.fz _ _ h3,h4⟩
  | clo name qual st fr vals=>
    obtain ⟨cl,fvs,C,h1,h2⟩:=h
    obtain ⟨oc,od,doc,pm,cdv,ct,sl,h3,c,o,vs,t,h4,h5,h6⟩:=C.fn
    exact ⟨cl,fvs,⟨⟨oc,od,doc,pm,cdv,ct,sl,ht.fz _ _ h3,c,o,vs,t,h4,ht.fz _ _ h5,h6⟩,λ i x c hi=>let ⟨v,u,o,z1,z2,z3,z4⟩:=C.cells i x c hi;⟨v,u,o,z1,z2,ht.fz _ _ z3,z4⟩,C.len,C.nda⟩,h1,h2.mono ht⟩
structure Go (K:PySem.W.Frag) (G:DV) (H:Hp) (G':DV) (H':Hp):Prop where
  tup:Mono K H H'
  dom:∀ a o,H a=some o->∃ o',H' a=some o'
  same:∀ a o,H a=some o->G a=none->H' a=some o
  new:∀ a o,H a=some o->G a=none->G' a=none
  vw:Vw K G' H'
section
variable {K:PySem.W.Frag} {G G1 G2 G':DV} {H H1 H2 H':Hp}
theorem Go.refl (v:Vw K G H):Go K G H G H:=⟨⟨λ _ _ h=>h,λ _ _ h=>h,λ _ _ h=>h⟩,λ _ o e=>⟨o,e⟩,λ _ _ e _=>e,λ _ _ _ e=>e,v⟩
theorem Go.trans (a:Go K G H G1 H1) (b:Go K G1 H1 G2 H2):Go K G H G2 H2:=
  ⟨⟨λ x xs h=>b.tup.tp x xs (a.tup.tp x xs h),λ x xs h=>b.tup.fr x xs (a.tup.fr x xs h),λ x o h=>b.tup.fz x o (a.tup.fz x o h)⟩,λ x o e=>let ⟨o',e'⟩:=a.dom x o e;b.dom x o' e',λ x o e n=>b.same x o (a.same x o e n) (a.new x o e n),
   λ x o e n=>b.new x o (a.same x o e n) (a.new x o e n),b.vw⟩
def Sub (G G':DV):Prop:=∀ a o,G a=some o->G' a=some o
theorem Sub.refl (G:DV):Sub G G:=λ _ _ e=>e
theorem Sub.trans {G G1 G2:DV} (a:Sub G G1) (b:Sub G1 G2):Sub G G2:=λ x o e=>b x o (a x o e)
theorem Sub.none {G G':DV} (h:Sub G G') {a:Addr} (e:G' a=.none):G a=.none:=by
  cases q:G a with
  | none=>rfl
  | some o=>rw [h a o q] at e;cases e
theorem Vw.sub (v:Vw K G' H) (h:Sub G G'):Vw K G H:=λ a o e=>v a o (h a o e)
theorem Go.sub (g:Go K G H G1 H1) (h:Sub G2 G1):Go K G H G2 H1:=⟨g.tup,g.dom,g.same,λ x o e n=>h.none (g.new x o e n),g.vw.sub h⟩
theorem tSq {a p:Addr} {o:HO} {xs:List V} (hp:∀ ys,¬ Rd H p (.tup ys)) (h:SqT K H a xs):SqT K (upd H p o) a xs:=by
  rcases h with h | h
  . have ne:a≠p:=by rintro rfl;exact hp _ h
    refine .inl ?_
    unfold Rd at h ⊢
    rw [aQq ne];exact h
  . exact .inr h
theorem sAq {p:Addr} {ys:List V} (h:H p=none):¬ Rd H p (.tup ys):=by
  rintro (e | ⟨o,e⟩)<;>rw [h] at e<;>cases e
theorem x5q {p:Addr} {xs ys:List V} (h:H p=some (.lst xs)):¬ Rd H p (.tup ys):=by
  rintro (e | ⟨o,e⟩)<;>rw [h] at e<;>cases e
theorem k5q {p:Addr} {o:HO} (hp:∀ ys,¬ Rd H p (.tup ys)) (hl:∀ o ys,H p≠some (.frz o ys)):Mono K H (upd H p o) where
  tp:=λ _ _ q=>tSq hp q
  fr:=λ a xs q=>by
    rcases q with ⟨z,q⟩ | q
    . exact .inl ⟨z,by rw [aQq (by rintro rfl;exact hl _ _ q)];exact q⟩
    . exact .inr q
  fz:=λ a u q=>by rw [aQq (by rintro rfl;exact hl _ _ q)];exact q
theorem dCq {p:Addr} {o:HO} (h:H p=none):Mono K H (upd H p o):=k5q (λ _=>sAq h) λ _ _ e=>by rw [h] at e;cases e
theorem bPq {p:Addr} {o:HO} {xs:List V} (h:H p=some (.lst xs)):Mono K H (upd H p o):=k5q (λ _=>x5q h) λ _ _ e=>by rw [h] at e;cases e
theorem Go.newT (v:Vw K G H) {p:Addr} {o:HO} (h:H p=none):Go K G H G (upd H p o) where
  tup:=dCq h
  dom:=λ a u e=>⟨u,by rw [aQq (aVq e h)];exact e⟩
  same:=λ a u e _=>by rw [aQq (aVq e h)];exact e
  new:=λ _ _ _ e=>e
  vw:=λ a u e=>(v a u e).mono (dCq h) (aQq (by rintro rfl;obtain ⟨z,q⟩:=(v _ _ e).some;rw [h] at q;cases q))
theorem Go.newL (v:Vw K G H) {p:Addr} {ds:List D} {vs:List V} (h:H p=none) (r:AbsL K H ds vs):Go K G H (up G p (.lst ds)) (upd H p (.lst vs)) where
  tup:=dCq h
  dom:=λ a u e=>⟨u,by rw [aQq (aVq e h)];exact e⟩
  same:=λ a u e _=>by rw [aQq (aVq e h)];exact e
  new:=λ a u e n=>by rw [aMq (aVq e h)];exact n
  vw:=λ a u e=>by
    by_cases c:a=p
    . subst c;rw [a4q] at e;cases e
      exact ⟨vs,b3q,r.mono (dCq h)⟩
    . rw [aMq c] at e
      exact (v a u e).mono (dCq h) (aQq c)
theorem Go.setL (v:Vw K G H) {p:Addr} {ds0 ds:List D} {vs:List V} (h:G p=some (.lst ds0)) (r:AbsL K H ds vs):Go K G H (up G p (.lst ds)) (upd H p (.lst vs)):=by
  obtain ⟨us,hp,_⟩:=v p _ h
  exact {
    tup:=bPq hp
    dom:=λ a u e=>by
      by_cases c:a=p
      . subst c;exact ⟨_,b3q⟩
      . exact ⟨u,by rw [aQq c];exact e⟩
    same:=λ a u e n=>by
      have c:a≠p:=by rintro rfl;rw [h] at n;cases n
      rw [aQq c];exact e
    new:=λ a u e n=>by
      have c:a≠p:=by rintro rfl;rw [h] at n;cases n
      rw [aMq c];exact n
    vw:=λ a u e=>by
      by_cases c:a=p
      . subst c;rw [a4q] at e;cases e
        exact ⟨vs,b3q,r.mono (bPq hp)⟩
      . rw [aMq c] at e
        exact (v a u e).mono (bPq hp) (aQq c) }
theorem Go.grow (v:Vw K G H) (h:Same H H'):Go K G H G H':=by
  have ht:Mono K H H':=⟨λ b xs q=>by
    rcases q with q | q
    . rcases q with q | ⟨o,q⟩
      . exact .inl (.inl (h _ _ q))
      . exact .inl (.inr ⟨o,h _ _ q⟩)
    . exact .inr q,λ b xs q=>by
    rcases q with ⟨o,q⟩ | q
    . exact .inl ⟨o,h _ _ q⟩
    . exact .inr q,λ b o q=>h _ _ q⟩
  exact ⟨ht,λ a o e=>⟨o,h a o e⟩,λ a o e _=>h a o e,λ _ _ _ e=>e,λ a u e=>by
    obtain ⟨z,q⟩:=(v a u e).some
    exact (v a u e).mono ht (by rw [q];exact h _ _ q)⟩
end
structure Bears (K:PySem.W.Frag) (ρ:DSt) (G:DV) (σ:St) (H:Hp):Prop where
  len:ρ.length=σ.length
  st:∀ (i:Nat) (d:D),ρ[i]?=some (some d)->∃ v,σ[i]?=some (some v)/\Abs K H d v
  vw:Vw K G H
theorem Bears.go {K:PySem.W.Frag} {ρ:DSt} {G G':DV} {σ:St} {H H':Hp} (b:Bears K ρ G σ H) (g:Go K G H G' H'):Bears K ρ G' σ H':=
  ⟨b.len,λ i d e=>let ⟨v,h1,h2⟩:=b.st i d e;⟨v,h1,h2.mono g.tup⟩,g.vw⟩
theorem Bears.set {K:PySem.W.Frag} {ρ:DSt} {G:DV} {σ:St} {H:Hp} {d:D} {v:V} (b:Bears K ρ G σ H) (h:Abs K H d v) (i:Nat):Bears K (ρ.set i (some d)) G (σ.set i (some v)) H where
  len:=by simp [b.len]
  vw:=b.vw
  st:=λ j e he=>by
    by_cases c:j=i
    . subst c
      rw [List.getElem?_set] at he ⊢
      have l:=b.len
      simp only [if_true] at he ⊢
      split at he
      . next q=>rw [if_pos (by omega)];simp at he;subst he;exact ⟨v,rfl,h⟩
      . cases he
    . rw [List.getElem?_set_ne (by omega)] at he ⊢
      exact b.st j e he
def StSub (ρ ρ':DSt):Prop:=ρ.length=ρ'.length/\∀ (i:Nat) (d:D),ρ[i]?=some (some d)->ρ'[i]?=some (some d)
theorem StSub.refl (ρ:DSt):StSub ρ ρ:=⟨rfl,λ _ _ e=>e⟩
theorem Bears.weak {K:PySem.W.Frag} {ρ ρ':DSt} {G G':DV} {σ:St} {H:Hp} (b:Bears K ρ' G' σ H) (s:StSub ρ ρ') (g:Sub G G'):Bears K ρ G σ H:=
  ⟨s.1.trans b.len,λ i d e=>b.st i d (s.2 i d e),b.vw.sub g⟩
abbrev DK:=D->DV->Prop
abbrev DTE:=DSt->DV->DK->Prop
abbrev DTT:=DSt->DV->(Bool->DV->Prop)->Prop
abbrev DTA:=DSt->DV->(List D->DV->Prop)->Prop
abbrev DTO:=DSt->DV->(Option Int->DV->Prop)->Prop
structure DEnds where
  nx:DSt->DV->Prop
  rt:DK
  bk:DSt->DV->Prop:=λ _ _=>False
  ct:DSt->DV->Prop:=λ _ _=>False
abbrev DTS:=DEnds->DSt->DV->Prop
abbrev Fin (K:PySem.W.Frag) (G:DV) (H:Hp) (DQ:DK) (Q:VK):Prop:=∀ d G' v H',Go K G H G' H'->Abs K H' d v->DQ d G'->Q v H'
abbrev FinB (K:PySem.W.Frag) (G:DV) (H:Hp) (DQ:Bool->DV->Prop) (Q:Bool->Hp->Prop):Prop:=∀ b G' H',Go K G H G' H'->DQ b G'->Q b H'
abbrev FinO (K:PySem.W.Frag) (G:DV) (H:Hp) (DQ:Option Int->DV->Prop) (Q:Option Int->Hp->Prop):Prop:=∀ b G' H',Go K G H G' H'->DQ b G'->Q b H'
abbrev FinL (K:PySem.W.Frag) (n:Nat) (G:DV) (H:Hp) (DQ:List D->DV->Prop) (Q:List V->Hp->Prop):Prop:=∀ ds G' vs H',Go K G H G' H'->AbsL K H' ds vs->ds.length=n->DQ ds G'->Q vs H'
structure AE (X:Cx) (e:Expr) (t:DTE):Prop where
  run:∃ tc:TE,JE X e tc/\∀ ρ G DQ σ H Q,Bears X.K ρ G σ H->t ρ G DQ->Fin X.K G H DQ Q->tc σ H Q
structure AT (X:Cx) (e:Expr) (t:DTT):Prop where
  run:∃ tc:TT,JT X e tc/\∀ ρ G DQ σ H Q,Bears X.K ρ G σ H->t ρ G DQ->FinB X.K G H DQ Q->tc σ H Q
structure AW (X:Cx) (e:Expr) (t:DTT):Prop where
  run:∃ tc:TT,JW X e tc/\∀ ρ G DQ σ H Q,Bears X.K ρ G σ H->t ρ G DQ->FinB X.K G H DQ Q->tc σ H Q
structure AA (X:Cx) (es:List Expr) (t:DTA):Prop where
  run:∃ tc:TA,JA X es tc/\∀ ρ G DQ σ H Q,Bears X.K ρ G σ H->t ρ G DQ->FinL X.K es.length G H DQ Q->tc σ H Q
structure AO (X:Cx) (e:Option Expr) (t:DTO):Prop where
  run:∃ tc:TO,JO X e tc/\∀ ρ G DQ σ H Q,Bears X.K ρ G σ H->t ρ G DQ->FinO X.K G H DQ Q->tc σ H Q
structure EndsOk (K:PySem.W.Frag) (G:DV) (H:Hp) (DD:DEnds) (Dc:Ends):Prop where
  nx:∀ ρ G' σ H',Go K G H G' H'->Bears K ρ G' σ H'->DD.nx ρ G'->Dc.nx σ H'
  rt:Fin K G H DD.rt Dc.rt
  bk:∀ ρ G' σ H',Go K G H G' H'->Bears K ρ G' σ H'->DD.bk ρ G'->Dc.bk σ H'
  ct:∀ ρ G' σ H',Go K G H G' H'->Bears K ρ G' σ H'->DD.ct ρ G'->Dc.ct σ H'
structure AS (X:Cx) (st:Stmt) (t:DTS):Prop where
  run:∃ tc:TS,JS X st tc/\∀ DD Dc ρ G σ H,Bears X.K ρ G σ H->t DD ρ G->EndsOk X.K G H DD Dc->tc Dc σ H
structure AB (X:Cx) (st:List Stmt) (t:DTS):Prop where
  run:∃ tc:TS,JB X st tc/\∀ DD Dc ρ G σ H,Bears X.K ρ G σ H->t DD ρ G->EndsOk X.K G H DD Dc->tc Dc σ H
abbrev DTG:=D->DSt->DV->(DSt->DV->Prop)->Prop
abbrev lLq:=List D->DSt->DV->(DSt->DV->Prop)->Prop
abbrev zCq (K:PySem.W.Frag) (G:DV) (H:Hp) (DQ:DSt->DV->Prop) (Q:St->Hp->Prop):Prop:=∀ ρ G' σ H',Go K G H G' H'->Bears K ρ G' σ H'->DQ ρ G'->Q σ H'
structure AG (X:Cx) (tg:Expr) (t:DTG):Prop where
  run:∃ tc:TG,JG X tg tc/\∀ d v ρ G DQ σ H Q,Bears X.K ρ G σ H->Abs X.K H d v->t d ρ G DQ->zCq X.K G H DQ Q->tc v σ H Q
structure AGs (X:Cx) (tgs:List Expr) (t:lLq):Prop where
  run:∃ tc:TGs,JGs X tgs tc/\∀ ds vs ρ G DQ σ H Q,Bears X.K ρ G σ H->AbsL X.K H ds vs->t ds ρ G DQ->zCq X.K G H DQ Q->tc vs σ H Q
abbrev DR1:=D->DV->DK->Prop
abbrev DR2:=D->D->DV->DK->Prop
abbrev DRL:=List D->DV->DK->Prop
structure AOp (X:Cx) (f:Value->Value->Sem Value) (r:DR2):Prop where
  run:∃ rc:R2,JOp X f rc/\∀ x y vx vy G H DQ Q,Vw X.K G H->Abs X.K H x vx->Abs X.K H y vy->r x y G DQ->Fin X.K G H DQ Q->rc vx vy H Q
structure AUn (X:Cx) (f:Value->Sem Value) (r:DR1):Prop where
  run:∃ rc:V->Hp->VK->Prop,JUn X f rc/\∀ x vx G H DQ Q,Vw X.K G H->Abs X.K H x vx->r x G DQ->Fin X.K G H DQ Q->rc vx H Q
structure ACall (X:Cx) (f:Value) (r:DRL):Prop where
  run:∃ rc:List V->Hp->VK->Prop,JCall X f rc/\∀ xs vs G H DQ Q,Vw X.K G H->AbsL X.K H xs vs->r xs G DQ->Fin X.K G H DQ Q->rc vs H Q
structure AIx (X:Cx) (r:DR2):Prop where
  run:∃ rc:R2,JIx X rc/\∀ x y vx vy G H DQ Q,Vw X.K G H->Abs X.K H x vx->Abs X.K H y vy->r x y G DQ->Fin X.K G H DQ Q->rc vx vy H Q
structure ASl (X:Cx) (r:D->Option Int->Option Int->DV->DK->Prop):Prop where
  run:∃ rc,JSl X rc/\∀ x vx lo hi G H DQ Q,Vw X.K G H->Abs X.K H x vx->r x lo hi G DQ->Fin X.K G H DQ Q->rc vx lo hi H Q
theorem Fin.after {K:PySem.W.Frag} {G G1:DV} {H H1:Hp} {DQ:DK} {Q:VK} (F:Fin K G H DQ Q) (g:Go K G H G1 H1):Fin K G1 H1 DQ Q:=λ d G' v H' g' a q=>F d G' v H' (g.trans g') a q
theorem EndsOk.after {K:PySem.W.Frag} {G G1:DV} {H H1:Hp} {DD:DEnds} {Dc:Ends} (F:EndsOk K G H DD Dc) (g:Go K G H G1 H1):EndsOk K G1 H1 DD Dc:=
  ⟨λ ρ G' σ H' g' b q=>F.nx ρ G' σ H' (g.trans g') b q,λ d G' v H' g' a q=>F.rt d G' v H' (g.trans g') a q,λ ρ G' σ H' g' b q=>F.bk ρ G' σ H' (g.trans g') b q,λ ρ G' σ H' g' b q=>F.ct ρ G' σ H' (g.trans g') b q⟩
end L3
namespace L3
open PySem PySem.Spec L2
section
variable {X:Cx} {a b c e o i:Expr} {es:List Expr} {ta tb te to ti:DTE} {t:DTA} {pos p apos cpos:Pos}
abbrev dC (d:D):DTE:=λ _ G Q=>Q d G
abbrev dVar (k:Nat):DTE:=λ ρ G Q=>match ρ[k]? with
  | some (some d)=>Q d G
  | _=>False
theorem w3q {v:V} {d:D} (h:JE X e (tC v)) (r:∀ H,Abs X.K H d v):AE X e (dC d):=⟨_,h,λ ρ G DQ σ H Q B q F=>F d G v H (.refl B.vw) (r H) q⟩
theorem a3q {n:Int} {j}:AE X (.Constant (.int n) j pos) (dC (.int n)):=w3q vSq λ _=>rfl
theorem jMq {n:Bool} {j}:AE X (.Constant (.bool n) j pos) (dC (.bl n)):=w3q zWq λ _=>rfl
theorem a8q {x:Str} {j}:AE X (.Constant (.str x) j pos) (dC (.str x)):=w3q xXq λ _=>rfl
theorem a1q (k:Nat) {x:Str} (hN:X.N[k]?=some x:=by rfl) (hv:Vis X.env.scope x:=by first | exact Or.inl rfl | exact Or.inr (Or.inl rfl) | exact Or.inr (Or.inr rfl)) (hd:(x==("__debug__" : Str))=false:=by decide)
    (hcd:(x==("__classdict__" : Str))=false:=by decide):AE X (.Name x pos) (dVar k):=⟨_,jv k hN hv hd hcd,λ ρ G DQ σ H Q B q F=>by
  unfold dVar at q
  split at q
  . next d h=>
    obtain ⟨v,h1,h2⟩:=B.st k d h
    exact ⟨v,h1,F d G v H (.refl B.vw) h2 q⟩
  . exact q.elim⟩
theorem bHq {x:Str} {n:String} (hg:Gl X x) (hm:X.mg x=none) (hv:bootBuiltins x=some (.type n)) (hn:x≠"__name__":=by decide) (hd:(x==("__debug__" : Str))=false:=by decide):AE X (.Name x pos) (dC (.ty n)):=
  w3q (sVq (v:=.ty n) hg hm hv rfl hn hd) λ _=>rfl
theorem e4q {x:Str} {v:V} {u:Value} {d:D} (hg:Gl X x) (hm:X.mg x=some u) (r:RelV v u) (ha:∀ H,Abs X.K H d v) (hd:(x==("__debug__" : Str))=false:=by decide):AE X (.Name x pos) (dC d):=w3q (sSq hg hm r hd) ha
abbrev dNil:DTA:=λ _ G Q=>Q [] G
abbrev aA6q (ta:DTE) (tr:DTA):DTA:=λ ρ G Q=>ta ρ G λ x G1=>tr ρ G1 λ xs G2=>Q (x::xs) G2
theorem a2q:AA X [] dNil:=⟨_,u6q,λ ρ G DQ σ H Q B q F=>F [] G [] H (.refl B.vw) rfl rfl q⟩
theorem a0q (ha:AE X e te) (hr:AA X es t) (hs:aOq e=true:=by rfl):AA X (e::es) (aA6q te t):=by
  obtain ⟨ca,ja,ra⟩:=ha.run
  obtain ⟨cr,jr,rr⟩:=hr.run
  refine ⟨_,t7q ja jr hs,λ ρ G DQ σ H Q B q F=>?_⟩
  refine ra ρ G _ σ H _ B q λ x G1 v H1 g1 ax q1=>rr ρ G1 _ σ H1 _ (B.go g1) q1 λ xs G2 vs H2 g2 axs hl q2=>?_
  exact F (x::xs) G2 (v::vs) H2 (g1.trans g2) ⟨v,vs,rfl,ax.mono g2.tup,axs⟩ (by simp [hl]) q2
abbrev dTup (t:DTA):DTE:=λ ρ G Q=>t ρ G λ ds G1=>Q (.tup ds) G1
abbrev dLst (t:DTA):DTE:=λ ρ G Q=>t ρ G λ ds G1=>∀ p,G1 p=none->Q (.ref p) (up G1 p (.lst ds))
theorem jGq {n:Nat} (h:Nat.ble n 1000=true):n<=sizeLine:=by
  have:=Nat.le_of_ble_eq_true h
  rw [sizeLine_eq];omega
theorem bBq {x1} (h:AA X es t) (hl:Nat.ble es.length 1000=true:=by rfl):AE X (.Tuple es x1 pos) (dTup t):=by
  obtain ⟨ca,ja,ra⟩:=h.run
  refine ⟨_,wSq ja,λ ρ G DQ σ H Q B q F=>ra ρ G _ σ H _ B q λ ds G1 vs H1 g1 al hn q1=>⟨by rw [al.len,hn];exact jGq hl,λ p hp=>?_⟩⟩
  have g2:=Go.newT (o:=.tup vs) g1.vw hp
  exact F (.tup ds) G1 _ _ (g1.trans g2) ⟨p,vs,rfl,.of b3q,al.mono g2.tup⟩ q1
theorem bFq (h:AA X es t) (hl:Nat.ble es.length 1000=true:=by rfl):AE X (.List es pos) (dLst t):=by
  obtain ⟨ca,ja,ra⟩:=h.run
  refine ⟨_,qIq ja,λ ρ G DQ σ H Q B q F=>ra ρ G _ σ H _ B q λ ds G1 vs H1 g1 al hn q1=>⟨by rw [al.len,hn];exact jGq hl,λ p hp=>?_⟩⟩
  exact F (.ref p) _ _ _ (g1.trans (Go.newL g1.vw hp al)) rfl (q1 p (g1.vw.none hp))
def atN (ds:List D):Int->Option D
  | .ofNat k=>ds[k]?
  | .negSucc k=>atI ds (.negSucc k)
theorem qJq (ds:List D) (i:Int):atN ds i=atI ds i:=by
  cases i with
  | negSucc k=>rfl
  | ofNat k=>
    show ds[k]?=atI ds (k:Int)
    by_cases h:k < ds.length
    . rw [List.getElem?_eq_getElem h]
      exact (cPq (List.getElem?_eq_getElem h)).symm
    . rw [List.getElem?_eq_none (by omega)]
      unfold atI ixN
      rw [if_pos (by omega),if_neg (by omega)];rfl
def atD (ds:List D) (i:Int) (G:DV) (Q:DK):Prop:=match atN ds i with
  | some d=>Q d G
  | none=>False
theorem kVq {ds:List D} {i:Int} {G:DV} {Q:DK} {d:D} (h:atI ds i=some d) (q:Q d G):atD ds i G Q:=by unfold atD;rw [qJq,h];exact q
@[irreducible] def onL (G:DV) (l:Addr) (k:List D->Prop):Prop:=match G l with
  | some (.lst ds)=>k ds
  | _=>False
@[irreducible] def onM (G:DV) (l:Addr) (k:List D->Prop):Prop:=match G l with
  | some (.lst ds)=>k ds
  | _=>False
theorem a7q {G:DV} {l:Addr} {k:List D->Prop} {ds:List D} (h:G l=some (.lst ds)) (q:k ds):onL G l k:=by unfold onL;rw [h];exact q
theorem aJq {G:DV} {l:Addr} {k:List D->Prop} {ds:List D} (h:G l=some (.lst ds)) (q:k ds):onM G l k:=by unfold onM;rw [h];exact q
theorem b4q {K:PySem.W.Frag} {G:DV} {H:Hp} {l:Addr} {k:List D->Prop} (v:Vw K G H) (h:onL G l k):∃ ds vs,k ds/\SqL K H l vs/\AbsL K H ds vs:=by
  unfold onL at h
  split at h
  . next ds e=>obtain ⟨vs,z,r⟩:=v _ _ e;exact ⟨ds,vs,h,.of z,r⟩
  . exact h.elim
theorem cGq {K:PySem.W.Frag} {G:DV} {H:Hp} {l:Addr} {k:List D->Prop} (v:Vw K G H) (h:onM G l k):∃ ds vs,k ds/\G l=some (.lst ds)/\H l=some (.lst vs)/\AbsL K H ds vs:=by
  unfold onM at h
  split at h
  . next ds e=>obtain ⟨vs,z,r⟩:=v _ _ e;exact ⟨ds,vs,h,e,z,r⟩
  . exact h.elim
abbrev dOp (r:DR2) (ta tb:DTE):DTE:=λ ρ G Q=>ta ρ G λ x G1=>tb ρ G1 λ y G2=>r x y G2 Q
abbrev dUn (r:DR1) (ta:DTE):DTE:=λ ρ G Q=>ta ρ G λ x G1=>r x G1 Q
theorem aUq {op:Operator} {r:DR2} (ho:AOp X (binaryOp op) r) (ha:AE X a ta) (hb:AE X b tb):AE X (.BinOp a op b pos) (dOp r ta tb):=by
  obtain ⟨ca,ja,ra⟩:=ha.run
  obtain ⟨cb,jb,rb⟩:=hb.run
  obtain ⟨co,jo,ro⟩:=ho.run
  refine ⟨_,zRq jo ja jb,λ ρ G DQ σ H Q B q F=>?_⟩
  exact ra ρ G _ σ H _ B q λ x G1 v H1 g1 ax q1=>rb ρ G1 _ σ H1 _ (B.go g1) q1 λ y G2 u H2 g2 ay q2=>ro x y v u G2 H2 DQ Q g2.vw (ax.mono g2.tup) ay q2 (F.after (g1.trans g2))
theorem c0q {op:CmpOp} {r:DR2} (ho:AOp X (compareOp op) r) (ha:AE X a ta) (hb:AE X b tb) (hm:behindInMarks op b=false):AE X (.Compare a [op] [b] pos) (dOp r ta tb):=by
  obtain ⟨ca,ja,ra⟩:=ha.run
  obtain ⟨cb,jb,rb⟩:=hb.run
  obtain ⟨co,jo,ro⟩:=ho.run
  refine ⟨_,t9q jo ja jb hm,λ ρ G DQ σ H Q B q F=>?_⟩
  exact ra ρ G _ σ H _ B q λ x G1 v H1 g1 ax q1=>rb ρ G1 _ σ H1 _ (B.go g1) q1 λ y G2 u H2 g2 ay q2=>ro x y v u G2 H2 DQ Q g2.vw (ax.mono g2.tup) ay q2 (F.after (g1.trans g2))
theorem hMq {op:UnaryOp} {r:DR1} (ho:AUn X (unaryOp op) r) (ha:AE X a ta):AE X (.UnaryOp op a pos) (dUn r ta):=by
  obtain ⟨ca,ja,ra⟩:=ha.run
  obtain ⟨co,jo,ro⟩:=ho.run
  refine ⟨_,aA9q jo ja,λ ρ G DQ σ H Q B q F=>?_⟩
  exact ra ρ G _ σ H _ B q λ x G1 v H1 g1 ax q1=>ro x v G1 H1 DQ Q g1.vw ax q1 (F.after g1)
theorem aLq {r:DR2} (hr:AIx X r) (ha:AE X a ta) (hb:AE X b tb) (hs:gNq b):AE X (.Subscript a b pos) (dOp r ta tb):=by
  obtain ⟨ca,ja,ra⟩:=ha.run
  obtain ⟨cb,jb,rb⟩:=hb.run
  obtain ⟨co,jo,ro⟩:=hr.run
  refine ⟨_,v3q jo ja jb hs,λ ρ G DQ σ H Q B q F=>?_⟩
  exact ra ρ G _ σ H _ B q λ x G1 v H1 g1 ax q1=>rb ρ G1 _ σ H1 _ (B.go g1) q1 λ y G2 u H2 g2 ay q2=>ro x y v u G2 H2 DQ Q g2.vw (ax.mono g2.tup) ay q2 (F.after (g1.trans g2))
def Br (c:Bool) (A B:Prop):Prop:=(c=true->A)/\(c=false->B)
abbrev blD (x:D) (k:Bool->Prop):Prop:=match x with
  | .bl c=>k c
  | _=>False
theorem gPq {K:PySem.W.Frag} {H:Hp} {x:D} {v:V} {k:Bool->Prop} (h:blD x k) (r:Abs K H x v):∃ c,v=.bl c/\x=.bl c/\k c:=by
  unfold blD at h
  split at h
  . exact ⟨_,r,rfl,h⟩
  . exact h.elim
abbrev yPq (ta tb:DTE):DTE:=λ ρ G Q=>ta ρ G λ x G1=>blD x λ c=>Br c (tb ρ G1 Q) (Q (.bl false) G1)
abbrev dOrV (ta tb:DTE):DTE:=λ ρ G Q=>ta ρ G λ x G1=>blD x λ c=>Br c (Q (.bl true) G1) (tb ρ G1 Q)
abbrev zEq (ta:DTE):DTE:=λ ρ G Q=>ta ρ G λ x G1=>blD x λ c=>Q (.bl (!c)) G1
theorem dJq {op} (h:AE X a ta):AE X (.BoolOp op [a] pos) ta:=by
  obtain ⟨ca,ja,ra⟩:=h.run
  exact ⟨_,wKq ja,ra⟩
theorem cOq {rest:List Expr} (ha:AE X a ta) (hb:AE X (.BoolOp .And (b::rest) pos) tb):AE X (.BoolOp .And (a::b::rest) pos) (yPq ta tb):=by
  obtain ⟨ca,ja,ra⟩:=ha.run
  obtain ⟨cb,jb,rb⟩:=hb.run
  refine ⟨_,y5q ja jb,λ ρ G DQ σ H Q B q F=>ra ρ G _ σ H _ B q λ x G1 v H1 g1 ax q1=>?_⟩
  obtain ⟨c,e1,e2,q2⟩:=gPq q1 ax
  refine ⟨c,e1,?_⟩
  cases c with
  | true=>exact rb ρ G1 _ σ H1 _ (B.go g1) (q2.1 rfl) (F.after g1)
  | false=>exact F (.bl false) _ _ _ g1 rfl (q2.2 rfl)
theorem zXq {rest:List Expr} (ha:AE X a ta) (hb:AE X (.BoolOp .Or (b::rest) pos) tb):AE X (.BoolOp .Or (a::b::rest) pos) (dOrV ta tb):=by
  obtain ⟨ca,ja,ra⟩:=ha.run
  obtain ⟨cb,jb,rb⟩:=hb.run
  refine ⟨_,zVq ja jb,λ ρ G DQ σ H Q B q F=>ra ρ G _ σ H _ B q λ x G1 v H1 g1 ax q1=>?_⟩
  obtain ⟨c,e1,e2,q2⟩:=gPq q1 ax
  refine ⟨c,e1,?_⟩
  cases c with
  | false=>exact rb ρ G1 _ σ H1 _ (B.go g1) (q2.2 rfl) (F.after g1)
  | true=>exact F (.bl true) _ _ _ g1 rfl (q2.1 rfl)
theorem nGq (ha:AE X a ta):AE X (.UnaryOp .Not a pos) (zEq ta):=by
  obtain ⟨ca,ja,ra⟩:=ha.run
  refine ⟨_,vZq ja,λ ρ G DQ σ H Q B q F=>ra ρ G _ σ H _ B q λ x G1 v H1 g1 ax q1=>?_⟩
  obtain ⟨c,e1,e2,q2⟩:=gPq q1 ax
  exact ⟨c,e1,F (.bl (!c)) _ _ _ g1 rfl q2⟩
abbrev dIf (tc:DTT) (ta tb:DTE):DTE:=λ ρ G Q=>tc ρ G λ c G1=>Br c (ta ρ G1 Q) (tb ρ G1 Q)
theorem pGq {tc:DTT} (hc:AT X c tc) (ha:AE X a ta) (hb:AE X b tb):AE X (.IfExp c a b pos) (dIf tc ta tb):=by
  obtain ⟨cc,jc,rc⟩:=hc.run
  obtain ⟨ca,ja,ra⟩:=ha.run
  obtain ⟨cb,jb,rb⟩:=hb.run
  refine ⟨_,p4q jc ja jb,λ ρ G DQ σ H Q B q F=>rc ρ G _ σ H _ B q λ c G1 H1 g1 q1=>?_⟩
  cases c with
  | true=>exact ra ρ G1 _ σ H1 _ (B.go g1) (q1.1 rfl) (F.after g1)
  | false=>exact rb ρ G1 _ σ H1 _ (B.go g1) (q1.2 rfl) (F.after g1)
abbrev u9q (t:DTE):DTT:=λ ρ G Q=>t ρ G λ x G1=>blD x λ c=>Q c G1
theorem aEq {op:CmpOp} {r:DR2} (ho:AOp X (compareOp op) r) (ha:AE X a ta) (hb:AE X b tb) (hm:behindInMarks op b=false):AT X (.Compare a [op] [b] pos) (u9q (dOp r ta tb)):=by
  obtain ⟨ca,ja,ra⟩:=ha.run
  obtain ⟨cb,jb,rb⟩:=hb.run
  obtain ⟨co,jo,ro⟩:=ho.run
  refine ⟨_,rDq jo ja jb hm,λ ρ G DQ σ H Q B q F=>?_⟩
  refine ra ρ G _ σ H _ B q λ x G1 v H1 g1 ax q1=>rb ρ G1 _ σ H1 _ (B.go g1) q1 λ y G2 u H2 g2 ay q2=>ro x y v u G2 H2 _ _ g2.vw (ax.mono g2.tup) ay q2 λ z G3 w H3 g3 az q3=>?_
  obtain ⟨c,e1,e2,q4⟩:=gPq q3 az
  exact ⟨c,e1,F c G3 H3 ((g1.trans g2).trans g3) q4⟩
abbrev dNot (tc:DTT):DTT:=λ ρ G Q=>tc ρ G λ c G1=>Q (!c) G1
abbrev dAnd (tc td:DTT):DTT:=λ ρ G Q=>tc ρ G λ c G1=>Br c (td ρ G1 Q) (Q false G1)
abbrev dOr (tc td:DTT):DTT:=λ ρ G Q=>tc ρ G λ c G1=>Br c (Q true G1) (td ρ G1 Q)
theorem eAq {tc:DTT} (ha:AT X a tc):AT X (.UnaryOp .Not a pos) (dNot tc):=by
  obtain ⟨ca,ja,ra⟩:=ha.run
  exact ⟨_,wXq ja,λ ρ G DQ σ H Q B q F=>ra ρ G _ σ H _ B q λ c G1 H1 g1 q1=>F _ _ _ g1 q1⟩
theorem c2q {tc:DTT} (ha:AT X a tc):AW X (.BoolOp .And [a] pos) tc:=by
  obtain ⟨ca,ja,ra⟩:=ha.run
  exact ⟨_,rIq ja,ra⟩
theorem d8q {tc:DTT} (ha:AT X a tc):AW X (.BoolOp .Or [a] pos) tc:=by
  obtain ⟨ca,ja,ra⟩:=ha.run
  exact ⟨_,xKq ja,ra⟩
theorem d0q {tc td:DTT} {rest:List Expr} (ha:AT X a tc) (hb:AW X (.BoolOp .And (b::rest) pos) td):AW X (.BoolOp .And (a::b::rest) pos) (dAnd tc td):=by
  obtain ⟨ca,ja,ra⟩:=ha.run
  obtain ⟨cb,jb,rb⟩:=hb.run
  refine ⟨_,wCq ja jb,λ ρ G DQ σ H Q B q F=>ra ρ G _ σ H _ B q λ c G1 H1 g1 q1=>?_⟩
  cases c with
  | true=>exact rb ρ G1 _ σ H1 _ (B.go g1) (q1.1 rfl) λ c G' H' g'=>F c G' H' (g1.trans g')
  | false=>exact F _ _ _ g1 (q1.2 rfl)
theorem fOq {tc td:DTT} {rest:List Expr} (ha:AT X a tc) (hb:AW X (.BoolOp .Or (b::rest) pos) td):AW X (.BoolOp .Or (a::b::rest) pos) (dOr tc td):=by
  obtain ⟨ca,ja,ra⟩:=ha.run
  obtain ⟨cb,jb,rb⟩:=hb.run
  refine ⟨_,z2q ja jb,λ ρ G DQ σ H Q B q F=>ra ρ G _ σ H _ B q λ c G1 H1 g1 q1=>?_⟩
  cases c with
  | false=>exact rb ρ G1 _ σ H1 _ (B.go g1) (q1.2 rfl) λ c G' H' g'=>F c G' H' (g1.trans g')
  | true=>exact F _ _ _ g1 (q1.1 rfl)
theorem AW.at {tc:DTT} (h:AW X e tc):AT X e tc:=by
  obtain ⟨ca,ja,ra⟩:=h.run
  exact ⟨_,ja.pt,ra⟩
def truD (x:D) (G:DV) (k:Bool->Prop):Prop:=match x with
  | .non=>k false
  | .bl b=>k b
  | .int i=>k (i !=0)
  | .str y=>y.length<=sizeLine/\k ((y.length:Int) !=0)
  | .tup ds=>k (!ds.isEmpty)
  | .ref p=>onL G p λ ds=>k (!ds.isEmpty)
  | _=>False
theorem AbsL.isEmpty {K:PySem.W.Frag} {H:Hp} {ds:List D} {vs:List V} (h:AbsL K H ds vs):vs.isEmpty=ds.isEmpty:=by
  have:=h.len
  cases ds<;>cases vs<;>simp_all
abbrev uPq (t:DTE):DTT:=λ ρ G Q=>t ρ G λ x G1=>truD x G1 λ c=>Q c G1
theorem b2q (ha:AE X a ta) (he:∀ whole,isTrue a X.env whole=(do let v ← whole;standAt a.pos;holding [v] (truthy v)):=by intro _;rfl):AT X a (uPq ta):=by
  obtain ⟨ca,ja,ra⟩:=ha.run
  refine ⟨_,oUq ja he,λ ρ G DQ σ H Q B q F=>ra ρ G _ σ H _ B q λ x G1 v H1 g1 ax q1=>?_⟩
  cases x with
  | non=>cases ax;exact ⟨_,rfl,F _ _ _ g1 q1⟩
  | bl b=>cases ax;exact ⟨_,rfl,F _ _ _ g1 q1⟩
  | int i=>cases ax;exact ⟨_,rfl,F _ _ _ g1 q1⟩
  | str y=>cases ax;exact ⟨_,⟨q1.1,rfl⟩,F _ _ _ g1 q1.2⟩
  | ref l=>
    cases ax
    obtain ⟨ds,vs,k,s,r⟩:=b4q g1.vw q1
    exact ⟨_,.inl ⟨vs,s,rfl⟩,by rw [r.isEmpty];exact F _ _ _ g1 k⟩
  | tup ds=>
    obtain ⟨l,vs,rfl,s,r⟩:=ax
    exact ⟨_,.inr (.inl ⟨vs,s,rfl⟩),by rw [r.isEmpty];exact F _ _ _ g1 q1⟩
  | ty n=>exact (show False from q1).elim
  | frl ds=>exact (show False from q1).elim
abbrev sXq:DTO:=λ _ G Q=>Q none G
abbrev zQq (t:DTE):DTO:=λ ρ G Q=>t ρ G λ x G1=>match x with
  | .int i=>Q (some i) G1
  | _=>False
theorem dXq:AO X none sXq:=⟨_,sQq,λ ρ G DQ σ H Q B q F=>F none G H (.refl B.vw) q⟩
theorem bIq (h:AE X e te):AO X (some e) (zQq te):=by
  obtain ⟨ca,ja,ra⟩:=h.run
  refine ⟨_,tGq ja,λ ρ G DQ σ H Q B q F=>ra ρ G _ σ H _ B q λ x G1 v H1 g1 ax q1=>?_⟩
  split at q1
  . next i=>exact ⟨i,ax,F _ _ _ g1 q1⟩
  . exact q1.elim
abbrev dSl (r:D->Option Int->Option Int->DV->DK->Prop) (te:DTE) (tl th:DTO):DTE:=λ ρ G Q=>te ρ G λ x G1=>tl ρ G1 λ l G2=>th ρ G2 λ u G3=>r x l u G3 Q
theorem cJq {r:D->Option Int->Option Int->DV->DK->Prop} {lo hi:Option Expr} {tl th:DTO} {p2:Pos} (hr:ASl X r) (he:AE X e te) (hl:AO X lo tl) (hu:AO X hi th):AE X (.Subscript e (.Slice lo hi none p2) pos) (dSl r te tl th):=by
  obtain ⟨ce,je,re⟩:=he.run
  obtain ⟨cl,jl,rl⟩:=hl.run
  obtain ⟨cu,ju,ru⟩:=hu.run
  obtain ⟨cr,jr,rr⟩:=hr.run
  refine ⟨_,pDq jr je jl ju,λ ρ G DQ σ H Q B q F=>re ρ G _ σ H _ B q λ x G1 v H1 g1 ax q1=>rl ρ G1 _ σ H1 _ (B.go g1) q1 λ l G2 H2 g2 q2=>ru ρ G2 _ σ H2 _ ((B.go g1).go g2) q2 λ u G3 H3 g3 q3=>?_⟩
  exact rr x v l u G3 H3 DQ Q g3.vw ((ax.mono g2.tup).mono g3.tup) q3 (F.after ((g1.trans g2).trans g3))
abbrev zBq:DTS:=λ D ρ G=>D.nx ρ G
abbrev dSeq (t u:DTS):DTS:=λ D ρ G=>t { D with nx:=u D } ρ G
abbrev zYq (te:DTE):DTS:=λ D ρ G=>te ρ G λ _ G1=>D.nx ρ G1
abbrev dRet (te:DTE):DTS:=λ D ρ G=>te ρ G D.rt
abbrev dIfS (c:DTT) (t u:DTS):DTS:=λ D ρ G=>c ρ G λ b G1=>Br b (t D ρ G1) (u D ρ G1)
theorem aHq:AB X [] zBq:=⟨_,v5q,λ DD Dc ρ G σ H B q F=>F.nx ρ G σ H (.refl B.vw) B q⟩
theorem a5q {st:Stmt} {rest:List Stmt} {ts us:DTS} (h1:AS X st ts) (h2:AB X rest us):AB X (st::rest) (dSeq ts us):=by
  obtain ⟨c1,j1,r1⟩:=h1.run
  obtain ⟨c2,j2,r2⟩:=h2.run
  refine ⟨_,tLq j1 j2,λ DD Dc ρ G σ H B q F=>r1 _ _ ρ G σ H B q ⟨λ ρ' G' σ' H' g b q=>r2 DD Dc ρ' G' σ' H' b q (F.after g),F.rt,F.bk,F.ct⟩⟩
theorem a6q {st:Stmt} {ts:DTS} (h1:AS X st ts):AB X [st] ts:=by
  obtain ⟨c1,j1,r1⟩:=h1.run
  exact ⟨_,vJq j1,r1⟩
theorem b5q (he:AE X e te) (hs:swapsWith e none pos.line X.env=pure false:=by rfl):AS X (.Expr e pos) (zYq te):=by
  obtain ⟨c1,j1,r1⟩:=he.run
  exact ⟨_,tWq j1 hs,λ DD Dc ρ G σ H B q F=>r1 ρ G _ σ H _ B q λ d G' v H' g _ q=>F.nx ρ G' σ H' g (B.go g) q⟩
theorem aFq (he:AE X e te):AS X (.Return (some e) pos) (dRet te):=by
  obtain ⟨c1,j1,r1⟩:=he.run
  exact ⟨_,vGq j1,λ DD Dc ρ G σ H B q F=>r1 ρ G _ σ H _ B q F.rt⟩
theorem aNq {ss us:List Stmt} {tc:DTT} {ts tu:DTS} (hc:AT X c tc) (ha:AB X ss ts) (hb:AB X us tu):AS X (.If c ss us pos) (dIfS tc ts tu):=by
  obtain ⟨cc,jc,rc⟩:=hc.run
  obtain ⟨ca,ja,ra⟩:=ha.run
  obtain ⟨cb,jb,rb⟩:=hb.run
  refine ⟨_,aA2q jc ja jb,λ DD Dc ρ G σ H B q F=>rc ρ G _ σ H _ B q λ c G1 H1 g1 q1=>?_⟩
  cases c with
  | true=>exact ra DD Dc ρ G1 σ H1 (B.go g1) (q1.1 rfl) (F.after g1)
  | false=>exact rb DD Dc ρ G1 σ H1 (B.go g1) (q1.2 rfl) (F.after g1)
abbrev i5q (k:Nat):DTG:=λ d ρ G Q=>Q (ρ.set k (some d)) G
abbrev rQq:lLq:=λ ds ρ G Q=>match ds with
  | []=>Q ρ G
  | _=>False
abbrev nQq (t:DTG) (u:lLq):lLq:=λ ds ρ G Q=>match ds with
  | d::r=>t d ρ G λ ρ' G'=>u r ρ' G' Q
  | []=>False
abbrev wVq (t:lLq):DTG:=λ d ρ G Q=>match d with
  | .tup ds=>t ds ρ G Q
  | _=>False
theorem b8q {k:Nat} {x:Str} (hN:X.N.Nodup) (hi:X.N[k]?=some x) (hx:Loc X.env.scope x) (hf:X.fn x=true\/X.env.scope.names.lookup x=some .local:=by first | exact .inl rfl | exact .inr rfl | assumption):AG X (.Name x pos) (i5q k):=
  ⟨_,tEq hN hi hx hf,λ d v ρ G DQ σ H Q B a q F=>F _ G _ H (.refl B.vw) (B.set a k) q⟩
abbrev zUq (te:DTE) (g:DTG):DTS:=λ D ρ G=>te ρ G λ x G1=>g x ρ G1 D.nx
theorem lYq {tg:Expr} {g:DTG} (he:AE X e te) (hg:AG X tg g) (hs:swapsWithSole [tg] e pos.line X.env=pure false:=by rfl) (hw:swappedStores [tg] e X.env=pure none:=by rfl) (h1:(assignEach [tg] X.env).map (·.2)=[assign tg X.env]:=by rfl):AS X (.Assign [tg] e pos) (zUq te g):=by
  obtain ⟨c1,j1,r1⟩:=he.run
  obtain ⟨c2,j2,r2⟩:=hg.run
  exact ⟨_,xZq j1 j2 hs hw h1,λ DD Dc ρ G σ H B q F=>r1 ρ G _ σ H _ B q λ d G1 v H1 g1 a q1=>r2 d v ρ G1 _ σ H1 _ (B.go g1) a q1 λ ρ' G' σ' H' g' b q'=>F.nx ρ' G' σ' H' (g1.trans g') b q'⟩
theorem aPq {k:Nat} {x:Str} {pos':Pos} (hN:X.N.Nodup) (hi:X.N[k]?=some x) (hx:Loc X.env.scope x) (he:AE X e te) (hs:swapsWith e (some (.Name x pos')) pos.line X.env=pure false:=by rfl) (hf:X.fn x=true\/X.env.scope.names.lookup x=some .local:=by first | exact .inl rfl | exact .inr rfl | assumption) :
    AS X (.Assign [.Name x pos'] e pos) (zUq te (i5q k)):=by
  obtain ⟨c1,j1,r1⟩:=he.run
  exact ⟨_,uBq hN hi hx j1 hs hf,λ DD Dc ρ G σ H B q F=>r1 ρ G _ σ H _ B q λ d G1 v H1 g1 a q1=>F.nx _ G1 _ H1 g1 ((B.go g1).set a k) q1⟩
theorem iUq:AGs X [] rQq:=⟨_,rPq,λ ds vs ρ G DQ σ H Q B a q F=>by
  cases ds with
  | nil=>cases a;exact ⟨rfl,F ρ G σ H (.refl B.vw) B q⟩
  | cons d r=>exact (show False from q).elim⟩
theorem cWq {tg:DTG} {u:lLq} (h1:AG X e tg) (h2:AGs X es u) (hs:(assignEach (e::es) X.env).map (·.2)=assign e X.env::(assignEach es X.env).map (·.2):=by rfl):AGs X (e::es) (nQq tg u):=by
  obtain ⟨c1,j1,r1⟩:=h1.run
  obtain ⟨c2,j2,r2⟩:=h2.run
  refine ⟨_,oRq j1 j2 hs,λ ds vs ρ G DQ σ H Q B a q F=>?_⟩
  cases ds with
  | nil=>exact (show False from q).elim
  | cons d r=>
    obtain ⟨v,us,rfl,ad,ar⟩:=a
    exact ⟨v,us,rfl,r1 d v ρ G _ σ H _ B ad q λ ρ' G' σ' H' g b q'=>r2 r us ρ' G' _ σ' H' _ b (ar.mono g.tup) q' λ ρ2 G2 σ2 H2 g2 b2 q2=>F ρ2 G2 σ2 H2 (g.trans g2) b2 q2⟩
theorem nYq {k n:Nat} {tg:lLq} (hc:X.calm=true) (h:AGs X es tg) (hl:es.length=n:=by rfl) (hn:(assignEach es X.env).length=n:=by rfl) (hst:(assignEach es X.env).findIdx? (·.1)=none:=by rfl)
    (hlen:∀ ds ρ G Q,tg ds ρ G Q->ds.length=n:=by intro ds ρ G Q h;match ds,h with | [],h=>(first | rfl | exact (show False from h).elim) | [_],h=>(first | rfl | exact (show False from h).elim) | [_,_],h=>(first | rfl | exact (show False from h).elim) | [_,_,_],h=>(first | rfl | exact (show False from h).elim) | _::_::_::_::_,h=>exact (show False from h).elim):AG X (.Tuple es k pos) (wVq tg):=by
  obtain ⟨c1,j1,r1⟩:=h.run
  refine ⟨_,x4q (n:=n) hc j1 hn hst,λ d v ρ G DQ σ H Q B a q F=>?_⟩
  cases d with
  | tup ds=>
    obtain ⟨l,vs,rfl,s,r⟩:=a
    exact ⟨l,vs,rfl,s,by rw [r.len];exact hlen _ _ _ _ q,r1 ds vs ρ G DQ σ H Q B r q F⟩
  | _=>exact (show False from q).elim
end
end L3
namespace L3
open PySem PySem.Spec L2
section
variable {X:Cx}
def addD:DR2:=λ x y G Q=>match x,y with
  | .int i,.int j=>Q (.int (i+j)) G
  | .str i,.str j=>i.length+j.length<=sizeLine/\Q (.str (i++j)) G
  | .tup xs,.tup ys=>xs.length+ys.length<=sizeLine/\Q (.tup (xs++ys)) G
  | .ref l,.ref m=>onM G l λ xs=>onM G m λ ys=>xs.length+ys.length<=sizeLine/\∀ p,G p=none->Q (.ref p) (up G p (.lst (xs++ys)))
  | _,_=>False
theorem aYq:AOp X (binaryOp .Add) addD:=by
  refine ⟨_,⟨op_add.or (op_add_str.or (op_catW.or uMq))⟩,λ x y vx vy G H DQ Q v ax ay r F=>?_⟩
  cases x with
  | int i=>
    cases y with
    | int j=>cases ax;cases ay;exact .inl ⟨i,j,rfl,rfl,F (.int (i+j)) G _ H (.refl v) rfl r⟩
    | _=>exact (show False from r).elim
  | str i=>
    cases y with
    | str j=>cases ax;cases ay;exact .inr (.inl ⟨i,j,rfl,rfl,r.1,F (.str (i++j)) G _ H (.refl v) rfl r.2⟩)
    | _=>exact (show False from r).elim
  | tup xs=>
    cases y with
    | tup ys=>
      obtain ⟨l,vs,rfl,s1,r1⟩:=ax
      obtain ⟨m,us,rfl,s2,r2⟩:=ay
      have l1:=r1.len
      have l2:=r2.len
      refine .inr (.inr (.inl ⟨l,m,vs,us,rfl,rfl,s1,s2,by rw [l1,l2];exact r.1,λ e=>?_,λ e e2=>?_,λ e e2 p hp=>?_⟩))
      . subst e
        have e':xs=[]:=by cases xs<;>simp_all
        subst e'
        exact F (.tup ys) G _ H (.refl v) ⟨m,us,rfl,s2,r2⟩ (by simpa using r.2)
      . subst e2
        have e':ys=[]:=by cases ys<;>simp_all
        subst e'
        exact F (.tup xs) G _ H (.refl v) ⟨l,vs,rfl,s1,r1⟩ (by simpa using r.2)
      . have g:=Go.newT (o:=.tup (vs++us)) v hp
        exact F (.tup (xs++ys)) G _ _ g ⟨p,_,rfl,.of b3q,(r1.append r2).mono g.tup⟩ r.2
    | _=>exact (show False from r).elim
  | ref l=>
    cases y with
    | ref m=>
      cases ax;cases ay
      obtain ⟨xs,vs,k1,e1,h1,r1⟩:=cGq v r
      obtain ⟨ys,us,k2,e2,h2,r2⟩:=cGq v k1
      have l1:=r1.len
      have l2:=r2.len
      exact .inr (.inr (.inr ⟨l,m,vs,us,rfl,rfl,h1,h2,by rw [l1,l2];exact k2.1,λ p hp=>F (.ref p) _ _ _ (Go.newL v hp (r1.append r2)) rfl (k2.2 p (v.none hp))⟩))
    | _=>exact (show False from r).elim
  | _=>exact (show False from r).elim
def w5q (C:Int->Int->Prop) (g:Int->Int->D):DR2:=λ x y G Q=>match x,y with
  | .int i,.int j=>C i j/\Q (g i j) G
  | _,_=>False
def jAq (g:Int->Int->D):DR2:=λ x y G Q=>match x,y with
  | .int i,.int j=>Q (g i j) G
  | _,_=>False
theorem q0q {f:Value->Value->Sem Value} {C:Int->Int->Prop} {g:Int->Int->Int} (h:OpR X f (rI C λ i j=>.int (g i j))):AOp X f (w5q C λ i j=>.int (g i j)):=by
  refine ⟨_,⟨h⟩,λ x y vx vy G H DQ Q v ax ay r F=>?_⟩
  cases x with
  | int i=>
    cases y with
    | int j=>cases ax;cases ay;exact ⟨i,j,rfl,rfl,r.1,F (.int (g i j)) G _ H (.refl v) rfl r.2⟩
    | _=>exact (show False from r).elim
  | _=>exact (show False from r).elim
theorem xYq {f:Value->Value->Sem Value} {g:Int->Int->Int} (h:OpR X f (rI0 λ i j=>.int (g i j))):AOp X f (jAq λ i j=>.int (g i j)):=by
  refine ⟨_,⟨h⟩,λ x y vx vy G H DQ Q v ax ay r F=>?_⟩
  cases x with
  | int i=>
    cases y with
    | int j=>cases ax;cases ay;exact ⟨i,j,rfl,rfl,F (.int (g i j)) G _ H (.refl v) rfl r⟩
    | _=>exact (show False from r).elim
  | _=>exact (show False from r).elim
theorem kEq {f:Value->Value->Sem Value} {g:Int->Int->Bool} (h:OpR X f (rI0 λ i j=>.bl (g i j))):AOp X f (jAq λ i j=>.bl (g i j)):=by
  refine ⟨_,⟨h⟩,λ x y vx vy G H DQ Q v ax ay r F=>?_⟩
  cases x with
  | int i=>
    cases y with
    | int j=>cases ax;cases ay;exact ⟨i,j,rfl,rfl,F (.bl (g i j)) G _ H (.refl v) rfl r⟩
    | _=>exact (show False from r).elim
  | _=>exact (show False from r).elim
theorem c5q:AOp X (binaryOp .Sub) (jAq λ i j=>.int (i - j)):=xYq xLq
theorem cQq:AOp X (binaryOp .Mult) (w5q CMul λ i j=>.int (i * j)):=q0q xFq
theorem kBq:AOp X (binaryOp .FloorDiv) (w5q (λ _ j=>0 < j/\j < 2 ^ 64) λ i j=>.int (i / j)):=q0q pEq
theorem cAq:AOp X (binaryOp .Mod) (w5q (λ _ j=>0 < j) λ i j=>.int (i % j)):=q0q vVq
theorem tQq:AOp X (binaryOp .Pow) (w5q CPow λ i j=>.int (i ^ j.toNat)):=q0q uTq
theorem d1q:AOp X (compareOp .Lt) (jAq λ i j=>.bl (decide (i < j))):=kEq aB8q
theorem qAq:AOp X (compareOp .LtE) (jAq λ i j=>.bl (decide (i<=j))):=kEq aA5q
theorem e6q:AOp X (compareOp .Gt) (jAq λ i j=>.bl (decide (j < i))):=kEq yWq
theorem x1q:AOp X (compareOp .GtE) (jAq λ i j=>.bl (decide (j<=i))):=kEq yLq
def negD:DR1:=λ x G Q=>match x with
  | .int i=>Q (.int (-i)) G
  | _=>False
theorem cHq:AUn X (unaryOp .USub) negD:=by
  refine ⟨_,⟨xEq⟩,λ x vx G H DQ Q v ax r F=>?_⟩
  cases x with
  | int i=>cases ax;exact ⟨i,rfl,F (.int (-i)) G _ H (.refl v) rfl r⟩
  | _=>exact (show False from r).elim
def aJ0q:D->Bool
  | .non=>true
  | _=>false
theorem hCq {K:PySem.W.Frag} {H:Hp} {ds:List D} {vs:List V} {i:Int} {d:D} (r:AbsL K H ds vs) (h:atI ds i=some d):∃ v,atI vs i=some v/\Abs K H d v:=by
  unfold atI at h ⊢
  rw [r.len]
  cases e:ixN ds.length i with
  | none=>rw [e] at h;cases h
  | some j=>
    rw [e] at h
    exact r.get h
theorem hDq {ds:List D} {i:Int} {G:DV} {Q:DK} (h:atD ds i G Q):∃ d,atI ds i=some d/\Q d G:=by
  unfold atD at h
  rw [qJq] at h
  split at h
  . next d e=>exact ⟨d,e,h⟩
  . exact h.elim
def ixD:DR2:=λ x y G Q=>match x,y with
  | .tup ds,.int i=>atD ds i G Q
  | .ref l,.int i=>onL G l λ ds=>atD ds i G Q
  | .frl ds,.int i=>atD ds i G Q
  | .str z,.int i=>z.length<=sizeLine/\∃ c,atI z.cps.toList i=some c/\Q (.str ⟨#[c]⟩) G
  | _,_=>False
theorem uEq {ds:List D} {i:Int} {G:DV} {Q:DK} {d:D} (h:atI ds i=some d) (q:Q d G):ixD (.tup ds) (.int i) G Q:=kVq h q
theorem q6q {ds:List D} {i:Int} {G:DV} {Q:DK} {d:D} (h:atI ds i=some d) (q:Q d G):ixD (.frl ds) (.int i) G Q:=kVq h q
theorem bEq {l:Addr} {ds:List D} {i:Int} {G:DV} {Q:DK} {d:D} (hl:G l=some (.lst ds)) (h:atI ds i=some d) (q:Q d G):ixD (.ref l) (.int i) G Q:=a7q hl (kVq h q)
theorem aix:AIx X ixD:=by
  refine ⟨_,⟨r0q⟩,λ x y vx vy G H DQ Q v ax ay r F=>?_⟩
  cases x with
  | tup ds=>
    cases y with
    | int i=>
      cases ay
      obtain ⟨l,vs,rfl,s,rl⟩:=ax
      obtain ⟨d,hd,q⟩:=hDq r
      obtain ⟨u,hu,ad⟩:=hCq rl hd
      exact .inr (.inl ⟨l,vs,i,u,rfl,rfl,s,hu,F d G u H (.refl v) ad q⟩)
    | _=>exact (show False from r).elim
  | ref l=>
    cases y with
    | int i=>
      cases ax;cases ay
      obtain ⟨ds,vs,k,s,rl⟩:=b4q v r
      obtain ⟨d,hd,q⟩:=hDq k
      obtain ⟨u,hu,ad⟩:=hCq rl hd
      exact .inl ⟨l,vs,i,u,rfl,rfl,s,hu,F d G u H (.refl v) ad q⟩
    | _=>exact (show False from r).elim
  | frl ds=>
    cases y with
    | int i=>
      cases ay
      obtain ⟨l,vs,rfl,s,rl⟩:=ax
      obtain ⟨d,hd,q⟩:=hDq r
      obtain ⟨u,hu,ad⟩:=hCq rl hd
      exact .inl ⟨l,vs,i,u,rfl,rfl,s.sq,hu,F d G u H (.refl v) ad q⟩
    | _=>exact (show False from r).elim
  | str z=>
    cases y with
    | int i=>
      cases ax;cases ay
      obtain ⟨hz,c,hc,q⟩:=r
      exact .inr (.inr ⟨z,i,c,rfl,rfl,hz,hc,F (.str ⟨#[c]⟩) G _ H (.refl v) rfl q⟩)
    | _=>exact (show False from r).elim
  | _=>exact (show False from r).elim
def slD:D->Option Int->Option Int->DV->DK->Prop:=λ x lo hi G Q=>match x with
  | .tup ds=>Q (.tup (cut ds lo hi)) G
  | .ref l=>onL G l λ ds=>∀ p,G p=none->Q (.ref p) (up G p (.lst (cut ds lo hi)))
  | .frl ds=>∀ p,G p=none->Q (.ref p) (up G p (.lst (cut ds lo hi)))
  | _=>False
theorem asl:ASl X slD:=by
  refine ⟨_,⟨sl_tupU.or sZq⟩,λ x vx lo hi G H DQ Q v ax r F=>?_⟩
  cases x with
  | tup ds=>
    obtain ⟨l,vs,rfl,s,rl⟩:=ax
    refine .inl ⟨l,vs,rfl,s,λ t H2 sm st=>?_⟩
    have g:=Go.grow v sm
    exact F (.tup (cut ds lo hi)) G _ _ g ⟨t,_,rfl,st,(rl.cut lo hi).mono g.tup⟩ r
  | ref l=>
    cases ax
    obtain ⟨ds,vs,k,s,rl⟩:=b4q v r
    exact .inr ⟨l,vs,rfl,s,λ p hp=>F (.ref p) _ _ _ (Go.newL v hp (rl.cut lo hi)) rfl (k p (v.none hp))⟩
  | frl ds=>
    obtain ⟨l,vs,rfl,s,rl⟩:=ax
    exact .inr ⟨l,vs,rfl,s.sq,λ p hp=>F (.ref p) _ _ _ (Go.newL v hp (rl.cut lo hi)) rfl (r p (v.none hp))⟩
  | _=>exact (show False from r).elim
def d7q:D->Bool
  | .non=>true
  | .bl _=>true
  | .int _=>true
  | .str _=>true
  | _=>false
def toV:D->V
  | .non=>.non
  | .bl b=>.bl b
  | .int i=>.int i
  | .str x=>.str x
  | _=>.non
theorem o1q {K:PySem.W.Frag} {H:Hp} {d:D} {v:V} (a:Abs K H d v) (h:d7q d=true):v=toV d/\fNq v=true:=by
  cases d with
  | non=>cases a;exact ⟨rfl,rfl⟩
  | bl b=>cases a;exact ⟨rfl,rfl⟩
  | int b=>cases a;exact ⟨rfl,rfl⟩
  | str b=>cases a;exact ⟨rfl,rfl⟩
  | _=>exact absurd h (by simp [d7q])
theorem zZq {K:PySem.W.Frag} {H:Hp}:∀ {ds:List D} {vs:List V},AbsL K H ds vs->ds.all d7q=true->vs=ds.map toV/\vs.all fNq=true
  | [],_,r,_=>by cases r;exact ⟨rfl,rfl⟩
  | _::_,_,⟨v,r,e,q,l⟩,h=>by
    subst e
    rw [List.all_cons,Bool.and_eq_true] at h
    obtain ⟨h1,h2⟩:=o1q q h.1
    obtain ⟨h3,h4⟩:=zZq l h.2
    exact ⟨by rw [List.map_cons,<- h1,<- h3],by rw [List.all_cons,h2,h4];rfl⟩
def eqF:D->D->Bool
  | .non,.non=>true
  | .bl a,.bl b=>a==b
  | .bl a,.int b=>(if a then 1 else 0)==b
  | .int a,.bl b=>a==(if b then 1 else 0)
  | .int a,.int b=>a==b
  | .str a,.str b=>a==b
  | _,_=>false
theorem yMq {x y:D} (hx:d7q x=true) (hy:d7q y=true):eqV (toV x) (toV y)=eqF x y:=by
  cases x<;>cases y<;>first | rfl | (simp [d7q] at hx;done) | (simp [d7q] at hy;done)
def inL (x:D) (ds:List D):Bool:=ds.any λ y=>eqF y x
theorem rZq {x:D} (hx:d7q x=true):∀ {ds:List D},ds.all d7q=true->inV (toV x) (ds.map toV)=inL x ds
  | [],_=>rfl
  | d::ds,h=>by
    rw [List.all_cons,Bool.and_eq_true] at h
    have ih:=rZq hx h.2
    unfold inV inL at *
    rw [List.map_cons,List.any_cons,List.any_cons,ih,yMq h.1 hx]
def inD (neg:Bool):DR2:=λ x y G Q=>match y with
  | .tup ds=>d7q x=true/\ds.all d7q=true/\Q (.bl (neg ^^ inL x ds)) G
  | .ref l=>onL G l λ ds=>d7q x=true/\ds.all d7q=true/\Q (.bl (neg ^^ inL x ds)) G
  | .str j=>(match x with
      | .str i=>Q (.bl (neg ^^ !(Builtin.Str.occurrences j i 0 j.length 1).isEmpty)) G
      | _=>False)
  | _=>False
theorem iJq:AOp X (compareOp .In) (inD false):=by
  refine ⟨_,⟨op_in_seq.or mVq⟩,λ x y vx vy G H DQ Q v ax ay r F=>?_⟩
  cases y with
  | tup ds=>
    obtain ⟨h1,h2,q⟩:=r
    obtain ⟨l,vs,rfl,s,rl⟩:=ay
    obtain ⟨e1,f1⟩:=o1q ax h1
    obtain ⟨e2,f2⟩:=zZq rl h2
    refine .inl ⟨l,vs,rfl,.inr s,f1,f2,?_⟩
    rw [e1,e2,rZq h1 h2]
    exact F (.bl _) G _ H (.refl v) rfl (by simpa using q)
  | ref l=>
    cases ay
    obtain ⟨ds,vs,⟨h1,h2,q⟩,s,rl⟩:=b4q v r
    obtain ⟨e1,f1⟩:=o1q ax h1
    obtain ⟨e2,f2⟩:=zZq rl h2
    refine .inl ⟨l,vs,rfl,.inl s,f1,f2,?_⟩
    rw [e1,e2,rZq h1 h2]
    exact F (.bl _) G _ H (.refl v) rfl (by simpa using q)
  | str j=>
    cases x with
    | str i=>cases ax;cases ay;exact .inr ⟨i,j,rfl,rfl,F (.bl _) G _ H (.refl v) rfl (by simpa [inD] using r)⟩
    | _=>exact (show False from r).elim
  | _=>exact (show False from r).elim
variable {e o:Expr} {es:List Expr} {te to:DTE} {t:DTA} {pos p apos cpos:Pos}
abbrev dCB (r:DRL) (t:DTA):DTE:=λ ρ G Q=>t ρ G λ ds G1=>r ds G1 Q
theorem a9q {x:Str} {id:String} {r:DRL} (hc:ACall X (.builtin id) r) (hg:Gl X x) (hm:X.mg x=none) (hv:bootBuiltins x=some (.builtin id)) (ha:AA X (e::es) t) (hn:x≠"__name__":=by decide) (hdb:(x==("__debug__" : Str))=false:=by decide)
    (hs:(e::es).all aOq=true:=by rfl):AE X (.Call (.Name x p) (e::es) [] pos) (dCB r t):=by
  obtain ⟨ca,ja,ra⟩:=ha.run
  obtain ⟨cc,jc,rc⟩:=hc.run
  exact ⟨_,pBq jc hg hm hv ja hn hdb hs,λ ρ G DQ σ H Q B q F=>ra ρ G _ σ H _ B q λ ds G1 vs H1 g1 al _ q1=>rc ds vs G1 H1 DQ Q g1.vw al q1 (F.after g1)⟩
theorem bKq {x:Str} {T:String} {r:DRL} (hc:ACall X (.type T) r) (hg:Gl X x) (hm:X.mg x=none) (hv:bootBuiltins x=some (.type T)) (ha:AA X (e::es) t) (hn:x≠"__name__":=by decide) (hdb:(x==("__debug__" : Str))=false:=by decide)
    (hs:(e::es).all aOq=true:=by rfl):AE X (.Call (.Name x p) (e::es) [] pos) (dCB r t):=by
  obtain ⟨ca,ja,ra⟩:=ha.run
  obtain ⟨cc,jc,rc⟩:=hc.run
  exact ⟨_,m1q jc hg hm hv ja hn hdb hs,λ ρ G DQ σ H Q B q F=>ra ρ G _ σ H _ B q λ ds G1 vs H1 g1 al _ q1=>rc ds vs G1 H1 DQ Q g1.vw al q1 (F.after g1)⟩
abbrev oPq (r:D->DV->DK->Prop):DRL:=λ xs G Q=>match xs with
  | [x]=>r x G Q
  | _=>False
abbrev x9q (r:D->D->DV->DK->Prop):DRL:=λ xs G Q=>match xs with
  | [x,y]=>r x y G Q
  | _=>False
theorem bXq {K:PySem.W.Frag} {H:Hp} {r:D->DV->DK->Prop} {xs:List D} {vs:List V} {G:DV} {Q:DK} (h:oPq r xs G Q) (a:AbsL K H xs vs):∃ x v,xs=[x]/\vs=[v]/\Abs K H x v/\r x G Q:=by
  unfold oPq at h
  split at h
  . obtain ⟨v,r,rfl,q,l⟩:=a;cases l;exact ⟨_,v,rfl,rfl,q,h⟩
  . exact h.elim
theorem hBq {K:PySem.W.Frag} {H:Hp} {r:D->D->DV->DK->Prop} {xs:List D} {vs:List V} {G:DV} {Q:DK} (h:x9q r xs G Q) (a:AbsL K H xs vs):∃ x y v u,xs=[x,y]/\vs=[v,u]/\Abs K H x v/\Abs K H y u/\r x y G Q:=by
  unfold x9q at h
  split at h
  . obtain ⟨v,r,rfl,q,u,r2,rfl,q2,l⟩:=a;cases l;exact ⟨_,_,v,u,rfl,rfl,q,q2,h⟩
  . exact h.elim
def lenD:D->DV->DK->Prop:=λ x G Q=>match x with
  | .tup ds=>Q (.int ds.length) G
  | .ref l=>onL G l λ ds=>Q (.int ds.length) G
  | .frl ds=>Q (.int ds.length) G
  | .str z=>z.length<=sizeLine/\Q (.int z.length) G
  | _=>False
theorem aGq:ACall X (.builtin "len") (oPq lenD):=by
  refine ⟨_,⟨call_len_seq.or iDq⟩,λ xs vs G H DQ Q v a r F=>?_⟩
  obtain ⟨x,u,rfl,rfl,ax,r⟩:=bXq r a
  cases x with
  | tup ds=>
    obtain ⟨l,ws,rfl,s,rl⟩:=ax
    exact .inl ⟨l,ws,rfl,.inr s,by rw [rl.len];exact F (.int ds.length) G _ H (.refl v) rfl r⟩
  | ref l=>
    cases ax
    obtain ⟨ds,ws,k,s,rl⟩:=b4q v r
    exact .inl ⟨l,ws,rfl,.inl s,by rw [rl.len];exact F (.int ds.length) G _ H (.refl v) rfl k⟩
  | frl ds=>
    obtain ⟨l,ws,rfl,s,rl⟩:=ax
    exact .inl ⟨l,ws,rfl,.inl s.sq,by rw [rl.len];exact F (.int ds.length) G _ H (.refl v) rfl r⟩
  | str z=>cases ax;exact .inr ⟨z,rfl,r.1,F (.int z.length) G _ H (.refl v) rfl r.2⟩
  | _=>exact (show False from r).elim
def intD:D->DV->DK->Prop:=λ x G Q=>match x with
  | .int i=>Q (.int i) G
  | .bl k=>Q (.int (if k then 1 else 0)) G
  | _=>False
theorem mPq:ACall X (.type "int") (oPq intD):=by
  refine ⟨_,⟨nPq⟩,λ xs vs G H DQ Q v a r F=>?_⟩
  obtain ⟨x,u,rfl,rfl,ax,r⟩:=bXq r a
  cases x with
  | int i=>cases ax;exact .inl ⟨i,rfl,F (.int i) G _ H (.refl v) rfl r⟩
  | bl k=>cases ax;exact .inr ⟨k,rfl,F (.int (if k then 1 else 0)) G _ H (.refl v) rfl r⟩
  | _=>exact (show False from r).elim
def wTq (g:Int->Int->Int):D->D->DV->DK->Prop:=λ x y G Q=>match x,y with
  | .int i,.int j=>Q (.int (g i j)) G
  | _,_=>False
theorem o9q (hc:X.calm=true):ACall X (.builtin "max") (x9q (wTq λ i j=>if j > i then j else i)):=by
  refine ⟨_,⟨mIq hc⟩,λ xs vs G H DQ Q v a r F=>?_⟩
  obtain ⟨x,y,u,w,rfl,rfl,ax,ay,r⟩:=hBq r a
  cases x with
  | int i=>
    cases y with
    | int j=>cases ax;cases ay;exact ⟨i,j,rfl,F (.int (if j > i then j else i)) G _ H (.refl v) rfl r⟩
    | _=>exact (show False from r).elim
  | _=>exact (show False from r).elim
theorem i4q (hc:X.calm=true):ACall X (.builtin "min") (x9q (wTq λ i j=>if j < i then j else i)):=by
  refine ⟨_,⟨oJq hc⟩,λ xs vs G H DQ Q v a r F=>?_⟩
  obtain ⟨x,y,u,w,rfl,rfl,ax,ay,r⟩:=hBq r a
  cases x with
  | int i=>
    cases y with
    | int j=>cases ax;cases ay;exact ⟨i,j,rfl,F (.int (if j < i then j else i)) G _ H (.refl v) rfl r⟩
    | _=>exact (show False from r).elim
  | _=>exact (show False from r).elim
def tupD:D->DV->DK->Prop:=λ x G Q=>match x with
  | .tup ds=>Q (.tup ds) G
  | .ref l=>onL G l λ ds=>Q (.tup ds) G
  | _=>False
theorem cKq:ACall X (.type "tuple") (oPq tupD):=by
  refine ⟨_,⟨h9q⟩,λ xs vs G H DQ Q v a r F=>?_⟩
  obtain ⟨x,u,rfl,rfl,ax,r⟩:=bXq r a
  cases x with
  | tup ds=>
    obtain ⟨l,ws,rfl,s,rl⟩:=ax
    exact ⟨l,ws,rfl,.inr ⟨s,F (.tup ds) G _ H (.refl v) ⟨l,ws,rfl,s,rl⟩ r⟩⟩
  | ref l=>
    cases ax
    obtain ⟨ds,ws,k,s,rl⟩:=b4q v r
    refine ⟨l,ws,rfl,.inl ⟨s,λ p hp=>?_⟩⟩
    have g:=Go.newT (o:=.tup ws) v hp
    exact F (.tup ds) G _ _ g ⟨p,ws,rfl,.of b3q,rl.mono g.tup⟩ k
  | _=>exact (show False from r).elim
end
end L3
namespace L2
open PySem PySem.Spec PyProof.Rows
def iSeq (K:PySem.W.Frag) (tl:TE):TI:=λ σ H R=>tl σ H λ x H1=>∃ a,x=.ref a/\(((∃ xs,SqL K H1 a xs)/\R (Itl K a) H1)\/((∃ xs,SqT K H1 a xs)/\R (Itt K a) H1))
theorem wZq {X:Cx} {tg l:Expr} {tl:TE} (hl:PE X l tl):PI X tg l (iSeq X.K tl):=by
  intro pins s σ H R I h
  refine thn (hl pins s σ H _ I h) λ v s1 ⟨x,H1,I1,r1,q1⟩=>?_
  obtain ⟨a,e,q1⟩:=q1
  subst e
  cases r1
  rcases q1 with ⟨⟨xs,hq⟩,q⟩ | ⟨⟨xs,hq⟩,q⟩
  . obtain ⟨its,rv,p,hz⟩:=I1.list hq
    refine wpAny_pyIter_list p.isList ?_
    refine ⟨s1.heap.objs.size,[s1.heap.objs.size],_,_,H1,rfl,I1.kept (t':=s1.toks) λ b o e=>Heap.get?_push_of_some _ e,n3q a _,⟨_,Heap.get?_push_size _ rfl,rfl,rfl⟩,λ b hb=>?_,q⟩
    have e:b=s1.heap.objs.size:=by simpa using hb
    subst e
    exact I1.fpOk (Nat.le_refl _) (I1.hok.fresh (Nat.le_refl _))
  . obtain ⟨its,rv,p,hz⟩:=I1.tuple hq
    refine wpAny_pyIter_tuple (show s1.heap.IsTuple a its.toArray from p) ?_
    refine ⟨s1.heap.objs.size,[s1.heap.objs.size],_,_,H1,rfl,I1.kept (t':=s1.toks) λ b o e=>Heap.get?_push_of_some _ e,l3q a _,⟨_,Heap.get?_push_size _ rfl,rfl,rfl⟩,λ b hb=>?_,q⟩
    have e:b=s1.heap.objs.size:=by simpa using hb
    subst e
    exact I1.fpOk (Nat.le_refl _) (I1.hok.fresh (Nat.le_refl _))
end L2
namespace L3
open PySem PySem.Spec L2
section
variable {X:Cx} {a b c e o i tg iter:Expr} {es:List Expr} {ta tb te to ti:DTE} {t:DTA} {pos p apos cpos:Pos}
structure DIt where
  items:List D
  held:DV->Prop
abbrev DTI:=DSt->DV->(DIt->DV->Prop)->Prop
def ItOk (K:PySem.W.Frag) (J:DIt) (Jc:It) (G:DV) (H:Hp):Prop:=∀ G1 H1,Go K G H G1 H1->J.held G1 →
  (∀ (i:Nat) (d:D),J.items[i]?=some d->Jc.go i H1/\∀ x H',Jc.yld i H1 x H'->Go K G1 H1 G1 H'/\Abs K H' d x)/\∀ i,J.items.length<=i->Jc.stop i H1
structure AI (X:Cx) (tg iter:Expr) (wi:DTI):Prop where
  run:∃ wc:TI,JI X tg iter wc/\∀ ρ G DR σ H R,Bears X.K ρ G σ H->wi ρ G DR->(∀ J Jc G' H',Go X.K G H G' H'->ItOk X.K J Jc G' H'->DR J G'->R Jc H')->wc σ H R
@[irreducible] def uIq (G:DV) (l:Addr) (k:DIt->Prop):Prop:=match G l with
  | some (.lst ds)=>k ⟨ds,λ G=>G l=some (.lst ds)⟩
  | _=>False
abbrev aC8q (ta:DTE):DTI:=λ ρ G R=>ta ρ G λ x G1=>match x with
  | .tup ds=>R ⟨ds,λ _=>True⟩ G1
  | .ref l=>uIq G1 l λ J=>R J G1
  | .frl ds=>R ⟨ds,λ _=>True⟩ G1
  | _=>False
theorem j3q {G:DV} {l:Addr} {k:DIt->Prop} {ds:List D} (h:G l=some (.lst ds)) (q:k ⟨ds,λ G=>G l=some (.lst ds)⟩):uIq G l k:=by unfold uIq;rw [h];exact q
theorem uHq {K:PySem.W.Frag} {ds:List D} {vs:List V} {l:Addr} {G1:DV} {H1:Hp} (v:Vw K G1 H1) (s:SqT K H1 l vs) (r:AbsL K H1 ds vs) :
    (∀ (i:Nat) (d:D),ds[i]?=some d->(Itt K l).go i H1/\∀ x H',(Itt K l).yld i H1 x H'->Go K G1 H1 G1 H'/\Abs K H' d x)/\∀ i,ds.length<=i->(Itt K l).stop i H1:=by
  refine ⟨λ i d hd=>?_,λ i hi=>⟨vs,s,by rw [r.len];exact hi⟩⟩
  obtain ⟨w,hw,aw⟩:=r.get hd
  refine ⟨⟨vs,w,s,hw⟩,λ x H' y=>?_⟩
  obtain ⟨rfl,y⟩:=y
  have z:=y vs s
  rw [hw] at z
  cases z
  exact ⟨.refl v,aw⟩
theorem mNq {K:PySem.W.Frag} {ds:List D} {vs:List V} {l:Addr} {G1:DV} {H1:Hp} (v:Vw K G1 H1) (s:SqL K H1 l vs) (r:AbsL K H1 ds vs) :
    (∀ (i:Nat) (d:D),ds[i]?=some d->(Itl K l).go i H1/\∀ x H',(Itl K l).yld i H1 x H'->Go K G1 H1 G1 H'/\Abs K H' d x)/\∀ i,ds.length<=i->(Itl K l).stop i H1:=by
  refine ⟨λ i d hd=>?_,λ i hi=>⟨vs,s,by rw [r.len];exact hi⟩⟩
  obtain ⟨w,hw,aw⟩:=r.get hd
  refine ⟨⟨vs,w,s,hw⟩,λ x H' y=>?_⟩
  obtain ⟨rfl,y⟩:=y
  have z:=y vs s
  rw [hw] at z
  cases z
  exact ⟨.refl v,aw⟩
theorem vNq {tc:TE} (hl:JE X a tc):JI X tg a (iSeq X.K tc):=⟨wZq hl.run⟩
theorem g0q (ha:AE X a ta):AI X tg a (aC8q ta):=by
  obtain ⟨ca,ja,ra⟩:=ha.run
  refine ⟨_,vNq ja,λ ρ G DR σ H R B q F=>ra ρ G _ σ H _ B q λ x G1 v H1 g1 ax q1=>?_⟩
  cases x with
  | tup ds=>
    obtain ⟨l,vs,rfl,s,r⟩:=ax
    exact ⟨l,rfl,.inr ⟨⟨vs,s⟩,F ⟨ds,λ _=>True⟩ _ G1 H1 g1 (λ G2 H2 g2 _=>uHq g2.vw (g2.tup.tp _ _ s) (r.mono g2.tup)) q1⟩⟩
  | ref l=>
    cases ax
    refine ⟨l,rfl,.inl ?_⟩
    replace q1:uIq G1 l λ J=>DR J G1:=q1
    unfold uIq at q1
    split at q1
    . next ds hd=>
      obtain ⟨vs,z,r⟩:=g1.vw _ _ hd
      refine ⟨⟨vs,.of z⟩,F ⟨ds,λ G=>G l=some (.lst ds)⟩ _ G1 H1 g1 (λ G2 H2 g2 h2=>?_) q1⟩
      obtain ⟨us,z2,r2⟩:=g2.vw _ _ h2
      exact mNq g2.vw (.of z2) r2
    . exact q1.elim
  | frl ds=>
    obtain ⟨l,vs,rfl,s,r⟩:=ax
    exact ⟨l,rfl,.inl ⟨⟨vs,s.sq⟩,F ⟨ds,λ _=>True⟩ _ G1 H1 g1 (λ G2 H2 g2 _=>mNq g2.vw (g2.tup.fr _ _ s).sq (r.mono g2.tup)) q1⟩⟩
  | _=>exact (show False from q1).elim
def bYq (lo:Int) (n:Nat):List D:=(List.range n).map λ(i:Nat)=>D.int (lo+(i:Int))
theorem dVq {lo:Int} {n i:Nat} {d:D} (h:(bYq lo n)[i]?=some d):i < n/\d=.int (lo+i):=by
  unfold bYq at h
  rw [List.getElem?_map] at h
  by_cases c:i < n
  . rw [List.getElem?_range c] at h
    simp at h
    exact ⟨c,h.symm⟩
  . rw [List.getElem?_eq_none (by simpa using c)] at h
    cases h
theorem bJq {lo:Int} {n:Nat}:(bYq lo n).length=n:=by simp [bYq]
@[irreducible] def onR (r:List D->Option (Int × Nat)) (ds:List D) (k:Int->Nat->Prop):Prop:=match r ds with
  | some (lo,n)=>k lo n
  | none=>False
abbrev nFq (r:List D->Option (Int × Nat)) (t:DTA):DTI:=λ ρ G R=>t ρ G λ ds G1=>onR r ds λ lo n=>R ⟨bYq lo n,λ _=>True⟩ G1
def fMq (i:Int):Bool:=decide (-(2 ^ 62)<=i)&&decide (i < 2 ^ 62)
def v7q:List D->Option (Int × Nat)
  | [.int j]=>if fMq j=true then some (0,j.toNat) else none
  | _=>none
def u7q:List D->Option (Int × Nat)
  | [.int i,.int j]=>if fMq i=true/\fMq j=true then some (i,(j - i).toNat) else none
  | _=>none
theorem small62_iff {i:Int}:fMq i=true ↔ -(2 ^ 62)<=i/\i < 2 ^ 62:=by unfold fMq;simp
theorem qRq {K:PySem.W.Frag} {lo:Int} {n:Nat} {G1:DV} {H1:Hp} (v:Vw K G1 H1) :
    (∀ (i:Nat) (d:D),(bYq lo n)[i]?=some d->(Itr lo n).go i H1/\∀ x H',(Itr lo n).yld i H1 x H'->Go K G1 H1 G1 H'/\Abs K H' d x)/\∀ i,(bYq lo n).length<=i->(Itr lo n).stop i H1:=by
  refine ⟨λ i d hd=>?_,λ i hi=>by rw [bJq] at hi;exact hi⟩
  obtain ⟨h1,rfl⟩:=dVq hd
  refine ⟨h1,λ x H' y=>?_⟩
  obtain ⟨rfl,rfl⟩:=y
  exact ⟨.refl v,rfl⟩
theorem pUq {ds:List D} {lo:Int} {n:Nat} (h:v7q ds=some (lo,n)):∃ j,ds=[.int j]/\(-(2 ^ 62)<=j/\j < 2 ^ 62)/\lo=0/\n=j.toNat:=by
  unfold v7q at h
  split at h
  . next j=>
    split at h
    . next c=>cases h;exact ⟨j,rfl,small62_iff.mp c,rfl,rfl⟩
    . cases h
  . cases h
theorem pWq {ds:List D} {lo:Int} {n:Nat} (h:u7q ds=some (lo,n)):∃ j,ds=[.int lo,.int j]/\(-(2 ^ 62)<=lo/\lo < 2 ^ 62/\-(2 ^ 62)<=j/\j < 2 ^ 62)/\n=(j - lo).toNat:=by
  unfold u7q at h
  split at h
  . next i j=>
    split at h
    . next c=>
      cases h
      have c1:=small62_iff.mp c.1
      have c2:=small62_iff.mp c.2
      exact ⟨j,rfl,⟨c1.1,c1.2,c2.1,c2.2⟩,rfl⟩
    . cases h
  . cases h
theorem hGq {j:Int} {k:Int->Nat->Prop} (h:-(2 ^ 62)<=j/\j < 2 ^ 62) (q:k 0 j.toNat):onR v7q [.int j] k:=by
  have e:v7q [.int j]=some (0,j.toNat):=if_pos (small62_iff.mpr h)
  unfold onR;rw [e];exact q
theorem rUq {i j:Int} {k:Int->Nat->Prop} (h1:-(2 ^ 62)<=i/\i < 2 ^ 62) (h2:-(2 ^ 62)<=j/\j < 2 ^ 62) (q:k i (j - i).toNat):onR u7q [.int i,.int j] k:=by
  have e:u7q [.int i,.int j]=some (i,(j - i).toNat):=if_pos ⟨small62_iff.mpr h1,small62_iff.mpr h2⟩
  unfold onR;rw [e];exact q
theorem eRq {r:List D->Option (Int × Nat)} {ds:List D} {R:DIt->DV->Prop} {G:DV} (h:onR r ds λ lo n=>R ⟨bYq lo n,λ _=>True⟩ G):∃ lo n,r ds=some (lo,n)/\R ⟨bYq lo n,λ _=>True⟩ G:=by
  unfold onR at h
  split at h
  . next lo n e=>exact ⟨lo,n,e,h⟩
  . exact h.elim
theorem dPq (hg:Gl X "range") (hm:X.mg "range" = none) (ha:AA X [a] t) (hs:aOq a=true:=by rfl):AI X tg (.Call (.Name "range" p) [a] [] pos) (nFq v7q t):=by
  obtain ⟨ca,ja,ra⟩:=ha.run
  refine ⟨_,o3q hg hm ja hs,λ ρ G DR σ H R B q F=>ra ρ G _ σ H _ B q λ ds G1 vs H1 g1 al hl q1=>?_⟩
  obtain ⟨lo,n,e,q2⟩:=eRq q1
  obtain ⟨j,rfl,c,rfl,rfl⟩:=pUq e
  obtain ⟨v,r,rfl,av,l⟩:=al
  cases l;cases av
  exact ⟨j,rfl,c.1,c.2,F _ _ G1 H1 g1 (λ G2 H2 g2 _=>qRq g2.vw) q2⟩
theorem mLq (hg:Gl X "range") (hm:X.mg "range" = none) (ha:AA X [a,b] t) (h1:aOq a=true:=by rfl) (h2:aOq b=true:=by rfl):AI X tg (.Call (.Name "range" p) [a,b] [] pos) (nFq u7q t):=by
  obtain ⟨ca,ja,ra⟩:=ha.run
  refine ⟨_,o2q hg hm ja h1 h2,λ ρ G DR σ H R B q F=>ra ρ G _ σ H _ B q λ ds G1 vs H1 g1 al hl q1=>?_⟩
  obtain ⟨lo,n,e,q2⟩:=eRq q1
  obtain ⟨j,rfl,c,rfl⟩:=pWq e
  obtain ⟨v,r,rfl,av,u,r2,rfl,au,l⟩:=al
  cases l;cases av;cases au
  exact ⟨lo,j,rfl,c,F _ _ G1 H1 g1 (λ G2 H2 g2 _=>qRq g2.vw) q2⟩
def Wk (P:DSt->DV->Prop):DSt->DV->Prop:=λ ρ G=>∃ ρ' G',StSub ρ' ρ/\Sub G' G/\P ρ' G'
theorem Wk.of {P:DSt->DV->Prop} {ρ:DSt} {G:DV} (h:P ρ G):Wk P ρ G:=⟨ρ,G,.refl _,.refl _,h⟩
abbrev dFor (wi:DTI) (g:DTG) (tb:DTS):DTS:=λ DD ρ G=>wi ρ G λ J G1=>∃ P:Nat->DSt->DV->Prop,P 0 ρ G1/\(∀ i ρ G,i<=J.items.length->P i ρ G->J.held G) ∧
  (∀ (i:Nat) (d:D) (ρ:DSt) (G:DV),J.items[i]?=some d->P i ρ G->g d ρ G λ ρ' G'=>tb { DD with nx:=Wk (P (i+1)),ct:=Wk (P (i+1)),bk:=DD.nx } ρ' G')/\∀ ρ G,P J.items.length ρ G->DD.nx ρ G
theorem e8q {body:List Stmt} {wi:DTI} {g:DTG} {tb:DTS} (hp:PassesOwn (model X.prog X.w) X.A X.env X.xe) (hc:X.calm=true) (hi:AI X tg iter wi) (hg:AG X tg g) (hb:AB X body tb) (hs:∀ x,foldedSetIterable iter X.env x=pure x:=by intro _;rfl) :
    AS X (.For tg iter body [] pos) (dFor wi g tb):=by
  obtain ⟨ci,ji,ri⟩:=hi.run
  obtain ⟨cg,jg,rg⟩:=hg.run
  obtain ⟨cb,jb,rb⟩:=hb.run
  refine ⟨_,uCq hp hc ji jg jb hs,λ DD Dc ρ G σ H B q F=>ri ρ G _ σ H _ B q λ J Jc G1 H1 g1 ok q1=>?_⟩
  obtain ⟨P,p0,held,turn,done⟩:=q1
  refine ⟨λ i m σ' H'=>m=J.items.length - i/\i<=J.items.length/\∃ ρ' G',P i ρ' G'/\Bears X.K ρ' G' σ' H'/\Go X.K G1 H1 G' H',⟨_,rfl,Nat.zero_le _,ρ,G1,p0,B.go g1,.refl g1.vw⟩,?_⟩
  rintro i m σ2 H2 ⟨rfl,hi,ρ2,G2,p2,b2,g2⟩
  have k2:=ok G2 H2 g2 (held i ρ2 G2 hi p2)
  by_cases hlt:i < J.items.length
  . have hd:J.items[i]?=some J.items[i]:=by simp [hlt]
    obtain ⟨go,yl⟩:=k2.1 i _ hd
    refine .inr ⟨go,λ σ' H'=>∃ ρ' G',P (i+1) ρ' G'/\Bears X.K ρ' G' σ' H'/\Go X.K G1 H1 G' H',λ σ' H' ⟨ρ',G',z1,z2,z3⟩=>⟨J.items.length - (i+1),by omega,rfl,hlt,ρ',G',z1,z2,z3⟩,λ x H' y=>?_⟩
    obtain ⟨g3,ax⟩:=yl x H' y
    refine rg _ x ρ2 G2 _ σ2 H' _ (b2.go g3) ax (turn i _ ρ2 G2 hd p2) λ ρ4 G4 σ4 H4 g4 b4 q4=>?_
    have gg:=(g2.trans g3).trans g4
    have again:∀ ρ' G' σ' H',Go X.K G4 H4 G' H'->Bears X.K ρ' G' σ' H'->Wk (P (i+1)) ρ' G'->∃ ρ' G',P (i+1) ρ' G'/\Bears X.K ρ' G' σ' H'/\Go X.K G1 H1 G' H':=λ ρ' G' σ' H' g' b' ⟨ρ5,G5,s1,s2,w⟩=>
      ⟨ρ5,G5,w,b'.weak s1 s2,(gg.trans g').sub s2⟩
    exact rb _ _ ρ4 G4 σ4 H4 b4 q4 ⟨λ ρ' G' σ' H' g' b' w=>again ρ' G' σ' H' g' b' w,(F.after ((g1.trans gg))).rt,λ ρ' G' σ' H' g' b' w=>F.nx ρ' G' σ' H' ((g1.trans gg).trans g') b' w,λ ρ' G' σ' H' g' b' w=>again ρ' G' σ' H' g' b' w⟩
  . have e:i=J.items.length:=by omega
    subst e
    exact .inl ⟨k2.2 _ (Nat.le_refl _),F.nx ρ2 G2 σ2 H2 (g1.trans g2) b2 (done ρ2 G2 p2)⟩
abbrev v8q (tc:DTT) (tb:DTS):DTS:=λ DD ρ G=>∃ W:Nat->DSt->DV->Prop,(∃ m,W m ρ G)/\∀ m ρ G,W m ρ G →
  tc ρ G λ b G1=>Br b (tb { DD with nx:=Wk λ ρ' G'=>∃ m',m' < m/\W m' ρ' G',ct:=Wk λ ρ' G'=>∃ m',m' < m/\W m' ρ' G',bk:=DD.nx } ρ G1) (DD.nx ρ G1)
theorem gOq {body:List Stmt} {tc:DTT} {tb:DTS} (hp:PassesOwn (model X.prog X.w) X.A X.env X.xe) (hc:AT X c tc) (hb:AB X body tb):AS X (.While c body [] pos) (v8q tc tb):=by
  obtain ⟨cc,jc,rc⟩:=hc.run
  obtain ⟨cb,jb,rb⟩:=hb.run
  refine ⟨_,oTq hp jc jb,λ DD Dc ρ G σ H B q F=>?_⟩
  obtain ⟨W,⟨m0,w0⟩,turn⟩:=q
  refine ⟨λ m σ' H'=>∃ ρ' G',W m ρ' G'/\Bears X.K ρ' G' σ' H'/\Go X.K G H G' H',⟨m0,ρ,G,w0,B,.refl B.vw⟩,?_⟩
  rintro m σ2 H2 ⟨ρ2,G2,w2,b2,g2⟩
  refine rc ρ2 G2 _ σ2 H2 _ b2 (turn m ρ2 G2 w2) λ k G3 H3 g3 q3=>?_
  cases k with
  | true=>
    refine ⟨λ σ' H'=>∃ m',m' < m/\∃ ρ' G',W m' ρ' G'/\Bears X.K ρ' G' σ' H'/\Go X.K G H G' H',λ σ' H' ⟨m',z,ρ',G',z1,z2,z3⟩=>⟨m',z,ρ',G',z1,z2,z3⟩,?_⟩
    have gg:=g2.trans g3
    have again:∀ ρ' G' σ' H',Go X.K G3 H3 G' H'->Bears X.K ρ' G' σ' H'->Wk (λ ρ' G'=>∃ m',m' < m/\W m' ρ' G') ρ' G'->∃ m',m' < m/\∃ ρ' G',W m' ρ' G'/\Bears X.K ρ' G' σ' H'/\Go X.K G H G' H':=λ ρ' G' σ' H' g' b' ⟨ρ5,G5,s1,s2,m',hm,w⟩=>
      ⟨m',hm,ρ5,G5,w,b'.weak s1 s2,(gg.trans g').sub s2⟩
    exact rb _ _ ρ2 G3 σ2 H3 (b2.go g3) (q3.1 rfl) ⟨λ ρ' G' σ' H' g' b' w=>again ρ' G' σ' H' g' b' w,(F.after gg).rt,λ ρ' G' σ' H' g' b' w=>F.nx ρ' G' σ' H' (gg.trans g') b' w,λ ρ' G' σ' H' g' b' w=>again ρ' G' σ' H' g' b' w⟩
  | false=>exact F.nx ρ2 G3 σ2 H3 (g2.trans g3) (b2.go g3) (q3.2 rfl)
end
end L3
namespace L2
open PySem PySem.Spec PyProof.Rows
theorem JE.imp {X:Cx} {e:Expr} {t t':TE} (h:JE X e t) (i:∀ σ H Q,t' σ H Q->t σ H Q):JE X e t':=⟨λ pins s σ H Q I q=>h.run pins s σ H Q I (i σ H Q q)⟩
theorem JG.imp {X:Cx} {e:Expr} {t t':TG} (h:JG X e t) (i:∀ v σ H Q,t' v σ H Q->t v σ H Q):JG X e t':=⟨λ pins s σ H x v Q I r q=>h.run pins s σ H x v Q I r (i _ _ _ _ q)⟩
end L2
namespace L3
open PySem PySem.Spec L2
section
variable {X:Cx} {a b c e o i tg iter elt ct:Expr} {es:List Expr} {ta tb te to ti:DTE} {t:DTA} {pos p apos cpos:Pos}
abbrev yDq (K:PySem.W.Frag) (tc:TE) (t:DTE):Prop:=∀ ρ G DQ σ H Q,Bears K ρ G σ H->t ρ G DQ->Fin K G H DQ Q->tc σ H Q
abbrev zPq (K:PySem.W.Frag) (tc:TG) (t:DTG):Prop:=∀ d v ρ G DQ σ H Q,Bears K ρ G σ H->Abs K H d v->t d ρ G DQ->zCq K G H DQ Q->tc v σ H Q
theorem AE.uni {ι:Type} {cx:ι->Cx} {K:PySem.W.Frag} (hK:∀ z,(cx z).K=K) (h:∀ z,AE (cx z) e te):∃ tc:TE,(∀ z,JE (cx z) e tc)/\yDq K tc te:=by
  have h':∀ z,∃ tc,JE (cx z) e tc/\yDq K tc te:=λ z=>by
    have q:=(h z).run
    rw [hK z] at q
    exact q
  exact ⟨λ σ H Q=>∀ z,Classical.choose (h' z) σ H Q,λ z=>(Classical.choose_spec (h' z)).1.imp λ σ H Q q=>q z,λ ρ G DQ σ H Q B q F z=>(Classical.choose_spec (h' z)).2 ρ G DQ σ H Q B q F⟩
theorem AG.uni {ι:Type} {cx:ι->Cx} {K:PySem.W.Frag} {te:DTG} (hK:∀ z,(cx z).K=K) (h:∀ z,AG (cx z) e te):∃ tc:TG,(∀ z,JG (cx z) e tc)/\zPq K tc te:=by
  have h':∀ z,∃ tc,JG (cx z) e tc/\zPq K tc te:=λ z=>by
    have q:=(h z).run
    rw [hK z] at q
    exact q
  exact ⟨λ v σ H Q=>∀ z,Classical.choose (h' z) v σ H Q,λ z=>(Classical.choose_spec (h' z)).1.imp λ v σ H Q q=>q z,λ d v ρ G DQ σ H Q B ad q F z=>(Classical.choose_spec (h' z)).2 d v ρ G DQ σ H Q B ad q F⟩
def f7q (nt:Nat) (cap:List Nat) (ρ:DSt):DSt:=List.replicate nt none++cap.map λ i=>(ρ[i]?).join
theorem iLq {nt:Nat} {cap:List Nat} {ρ:DSt} {i:Nat} {d:D} (h:(f7q nt cap ρ)[i]?=some (some d)):nt<=i:=by
  by_cases c:nt<=i
  . exact c
  . unfold f7q at h
    rw [List.getElem?_append_left (by simpa using c),List.getElem?_replicate] at h
    rw [if_pos (by omega)] at h
    cases h
theorem Bears.comp {K:PySem.W.Frag} {ρ:DSt} {G:DV} {σ:St} {H:Hp} (B:Bears K ρ G σ H) (nt:Nat) (cap:List Nat):Bears K (f7q nt cap ρ) G (dEq nt cap σ) H:=by
  refine ⟨by simp [f7q,dEq],λ i d h=>?_,B.vw⟩
  have hi:=iLq h
  unfold f7q at h
  unfold dEq
  rw [List.getElem?_append_right (by simpa using hi)] at h ⊢
  rw [List.length_replicate,List.getElem?_map] at h ⊢
  cases e:cap[i - nt]? with
  | none=>rw [e] at h;cases h
  | some k=>
    rw [e] at h
    have h':(ρ[k]?).join=some d:=by simpa using h
    have h2:ρ[k]?=some (some d):=by
      cases q:ρ[k]? with
      | none=>rw [q] at h';cases h'
      | some z=>rw [q] at h';cases z with
        | none=>cases h'
        | some y=>simp at h';rw [h']
    obtain ⟨v,h3,h4⟩:=B.st k d h2
    exact ⟨v,by simp [h3],h4⟩
def l1q (nt:Nat) (g:DTG):Prop:=∀ d ρ G Q,g d ρ G Q->g d ρ G λ ρ' G'=>Q ρ' G'/\ρ'.length=ρ.length/\∀ i,nt<=i->ρ'[i]?=ρ[i]?
def kLq (nt:Nat) (g:lLq):Prop:=∀ d ρ G Q,g d ρ G Q->g d ρ G λ ρ' G'=>Q ρ' G'/\ρ'.length=ρ.length/\∀ i,nt<=i->ρ'[i]?=ρ[i]?
theorem bDq {nt k:Nat} (h:k < nt):l1q nt (i5q k):=λ d ρ G Q q=>⟨q,by simp,λ i hi=>List.getElem?_set_ne (by omega)⟩
theorem lJq {nt:Nat}:kLq nt rQq:=λ ds ρ G Q q=>by
  cases ds with
  | nil=>exact ⟨q,rfl,λ _ _=>rfl⟩
  | cons _ _=>exact (show False from q).elim
def MonG (g:DTG):Prop:=∀ d ρ G Q Q',(∀ ρ' G',Q ρ' G'->Q' ρ' G')->g d ρ G Q->g d ρ G Q'
def q2q (g:lLq):Prop:=∀ d ρ G Q Q',(∀ ρ' G',Q ρ' G'->Q' ρ' G')->g d ρ G Q->g d ρ G Q'
theorem h6q {k:Nat}:MonG (i5q k):=λ _ _ _ _ _ i q=>i _ _ q
theorem jXq:q2q rQq:=λ ds ρ G Q Q' i q=>by
  cases ds with
  | nil=>exact i _ _ q
  | cons _ _=>exact (show False from q).elim
theorem nEq {g:DTG} {u:lLq} (h1:MonG g) (h2:q2q u):q2q (nQq g u):=λ ds ρ G Q Q' i q=>by
  cases ds with
  | nil=>exact (show False from q).elim
  | cons d r=>exact h1 d ρ G _ _ (λ ρ' G' z=>h2 r ρ' G' _ _ i z) q
theorem f4q {nt:Nat} {g:DTG} {u:lLq} (m1:MonG g) (m2:q2q u) (h1:l1q nt g) (h2:kLq nt u):kLq nt (nQq g u):=λ ds ρ G Q q=>by
  cases ds with
  | nil=>exact (show False from q).elim
  | cons d r=>exact m1 d ρ G _ _ (λ ρ' G' ⟨z,z1,z2⟩=>m2 r ρ' G' _ _ (λ ρ2 G2 ⟨y,y1,y2⟩=>⟨y,y1.trans z1,λ i hi=>(y2 i hi).trans (z2 i hi)⟩) (h2 r ρ' G' Q z)) (h1 d ρ G _ q)
theorem m6q {nt:Nat} {u:lLq} (h:kLq nt u):l1q nt (wVq u):=λ d ρ G Q q=>by
  cases d with
  | tup ds=>exact h ds ρ G Q q
  | _=>exact (show False from q).elim
def WkV (P:DV->Prop):DV->Prop:=λ G=>∃ G',Sub G' G/\P G'
theorem WkV.of {P:DV->Prop} {G:DV} (h:P G):WkV P G:=⟨G,.refl _,h⟩
@[irreducible] def jQq (g:DTG) (te:DTE) (nt:Nat) (cap:List Nat) (ρ:DSt) (Q:DK) (J:DIt) (G1:DV):Prop:=J.items.length < sizeLine/\∃ P:Nat->List D->DV->Prop,P 0 [] G1/\(∀ i ds G,i<=J.items.length->P i ds G->J.held G) ∧
  (∀ (i:Nat) (d:D) (ds:List D) (G:DV),J.items[i]?=some d->P i ds G->g d (f7q nt cap ρ) G λ ρ3 G3=>te ρ3 G3 λ y G4=>WkV (P (i+1) (ds++[y])) G4)/\∀ ds G,P J.items.length ds G->∀ p,G p=none->Q (.ref p) (up G p (.lst ds))
abbrev r3q (wi:DTI) (g:DTG) (te:DTE) (nt:Nat) (cap:List Nat):DTE:=λ ρ G Q=>wi ρ G (jQq g te nt cap ρ Q)
theorem jSq {g:DTG} {te:DTE} {nt:Nat} {cap:List Nat} {ρ:DSt} {Q:DK} {J:DIt} {G1:DV} (P:Nat->List D->DV->Prop) (hz:J.items.length < sizeLine) (h0:P 0 [] G1) (held:∀ i ds G,i<=J.items.length->P i ds G->J.held G)
    (turn:∀ (i:Nat) (d:D) (ds:List D) (G:DV),J.items[i]?=some d->P i ds G->g d (f7q nt cap ρ) G λ ρ3 G3=>te ρ3 G3 λ y G4=>WkV (P (i+1) (ds++[y])) G4) (done:∀ ds G,P J.items.length ds G->∀ p,G p=none->Q (.ref p) (up G p (.lst ds))):jQq g te nt cap ρ Q J G1:=by
  unfold jQq;exact ⟨hz,P,h0,held,turn,done⟩
theorem dLq {α:Type} {J:DIt} {G1:DV} {g:DTG} {te:DTE} {nt:Nat} {cap:List Nat} {ρ:DSt} {Q:DK} (xs:List α) (en fn:α->D) (he:J.items=xs.map en) (hz:xs.length < sizeLine) (held:J.held G1)
    (turn:∀ x∈xs,∀ R:DK,R (fn x) G1->g (en x) (f7q nt cap ρ) G1 λ ρ3 G3=>te ρ3 G3 R) (q:∀ p,G1 p=none->Q (.ref p) (up G1 p (.lst (xs.map fn)))) :
    jQq g te nt cap ρ Q J G1:=by
  unfold jQq
  refine ⟨by rw [he,List.length_map];exact hz,λ i ds G=>G=G1/\ds=(xs.take i).map fn,⟨rfl,rfl⟩,λ i ds G _ h=>h.1 ▸ held,?_,?_⟩
  . rintro i d ds G hd ⟨rfl,rfl⟩
    rw [he,List.getElem?_map] at hd
    cases e:xs[i]? with
    | none=>rw [e] at hd;cases hd
    | some x=>
      rw [e] at hd
      cases hd
      refine turn x (List.mem_of_getElem? e) _ (WkV.of ⟨rfl,?_⟩)
      rw [List.take_add_one,e,List.map_append];rfl
  . rintro ds G ⟨rfl,rfl⟩ p hp
    rw [he,List.length_map,List.take_length]
    exact q p hp
theorem Vw.priv {K:PySem.W.Frag} {G:DV} {H:Hp} {acc:Addr} {ys zs:List V} (v:Vw K G H) (h:H acc=some (.lst ys)) (n:G acc=Option.none):Vw K G (upd H acc (.lst zs)):=λ a o e=>
  (v a o e).mono (bPq h) (aQq (by rintro rfl;rw [n] at e;cases e))
theorem Go.priv {K:PySem.W.Frag} {G G':DV} {H H':Hp} {acc:Addr} {ys zs:List V} (g:Go K G H G' H') (h0:H acc=none) (h:H' acc=some (.lst ys)) (n:G' acc=none):Go K G H G' (upd H' acc (.lst zs)) where
  tup:=⟨λ a xs q=>(bPq h).tp a xs (g.tup.tp a xs q),λ a xs q=>(bPq h).fr a xs (g.tup.fr a xs q),λ a o q=>(bPq (K:=K) h).fz a o (g.tup.fz a o q)⟩
  dom:=λ a o e=>by
    obtain ⟨o',e'⟩:=g.dom a o e
    exact ⟨o',by rw [aQq (aVq e h0)];exact e'⟩
  same:=λ a o e z=>by rw [aQq (aVq e h0)];exact g.same a o e z
  new:=g.new
  vw:=g.vw.priv h n
theorem Bears.priv {K:PySem.W.Frag} {ρ:DSt} {G:DV} {σ:St} {H:Hp} {acc:Addr} {ys zs:List V} (B:Bears K ρ G σ H) (h:H acc=some (.lst ys)) (n:G acc=none):Bears K ρ G σ (upd H acc (.lst zs)):=
  ⟨B.len,λ i d e=>let ⟨v,h1,h2⟩:=B.st i d e;⟨v,h1,h2.mono (bPq h)⟩,B.vw.priv h n⟩
theorem Go.held {K:PySem.W.Frag} {G G':DV} {H H':Hp} {acc:Addr} {ds:List D} {ys:List V} (g:Go K G H G' H') (h0:H acc=none) (h:H' acc=some (.lst ys)) (r:AbsL K H' ds ys):Go K G H (up G' acc (.lst ds)) H' where
  tup:=g.tup
  dom:=g.dom
  same:=g.same
  new:=λ a o e z=>by rw [aMq (aVq e h0)];exact g.new a o e z
  vw:=λ a o e=>by
    by_cases c:a=acc
    . subst c;rw [a4q] at e;cases e;exact ⟨ys,h,r⟩
    . rw [aMq c] at e;exact g.vw a o e
theorem iIq {K:PySem.W.Frag} {ci:TI} {cg:TG} {ce:TE} {wi:DTI} {g:DTG} {te:DTE} {nt:Nat} {cap:List Nat} (hk:l1q nt g)
    (ri:∀ ρ G DR σ H R,Bears K ρ G σ H->wi ρ G DR->(∀ J Jc G' H',Go K G H G' H'->ItOk K J Jc G' H'->DR J G'->R Jc H')->ci σ H R) (rg:zPq K cg g) (re:yDq K ce te):yDq K (m9q ci cg ce nt cap) (r3q wi g te nt cap):=by
  intro ρ G DQ σ H Q B q F
  refine ri ρ G _ σ H _ B q λ J Jc G1 H1 g1 ok q1=>?_
  unfold jQq at q1
  obtain ⟨hsz,P,p0,held,turn,done⟩:=q1
  intro acc hacc
  have n1:=g1.vw.none hacc
  have gN:=Go.newT (o:=.lst []) g1.vw hacc
  refine ⟨λ i m ys σ' H'=>m=J.items.length - i/\i<=J.items.length/\∃ ds G',P i ds G'/\AbsL K H' ds ys/\ds.length<=i/\Bears K (f7q nt cap ρ) G' σ' H'/\Go K G1 H1 G' H'/\G' acc=none/\H' acc=some (.lst ys),
    ⟨_,rfl,Nat.zero_le _,[],G1,p0,rfl,Nat.le_refl _,((B.go g1).comp nt cap).go gN,gN,n1,b3q⟩,?_⟩
  rintro i m ys σ2 H2 ⟨rfl,hi,ds,G2,p2,r2,l2,b2,g2,n2,h2⟩
  have k2:=ok G2 H2 g2 (held i ds G2 hi p2)
  by_cases hlt:i < J.items.length
  . have hd:J.items[i]?=some J.items[i]:=by simp [hlt]
    obtain ⟨go,yl⟩:=k2.1 i _ hd
    refine .inr ⟨go,λ x H' y=>?_⟩
    obtain ⟨g3,ax⟩:=yl x H' y
    refine rg _ x _ G2 _ σ2 H' _ (b2.go g3) ax (hk _ _ _ _ (turn i _ ds G2 hd p2)) λ ρ4 G4 σ4 H4 g4 b4 ⟨q4,hl4,hs4⟩=>?_
    refine re ρ4 G4 _ σ4 H4 _ b4 q4 λ z G5 u H5 g5 az q5=>?_
    obtain ⟨G6,s6,p6⟩:=q5
    have gg:=(g3.trans g4).trans g5
    have h5:=gg.same acc _ h2 n2
    have n5:=gg.new acc _ h2 n2
    have n6:=s6.none n5
    have b5:Bears K (f7q nt cap ρ) G6 σ4 H5:=(b4.go g5).weak ⟨hl4.symm,λ j d e=>by rw [hs4 j (iLq e)];exact e⟩ s6
    refine ⟨h5,by rw [r2.len];omega,J.items.length - (i+1),by omega,rfl,hlt,ds++[z],G6,p6,((r2.mono gg.tup).append (.one az)).mono (bPq h5),by simp;omega,b5.priv h5 n6,(((g2.trans gg).sub s6)).priv hacc h5 n6,n6,b3q⟩
  . have e:i=J.items.length:=by omega
    subst e
    refine .inl ⟨k2.2 _ (Nat.le_refl _),F (.ref acc) (up G2 acc (.lst ds)) _ _ ((g1.trans g2).held ?_ h2 r2) rfl (done ds G2 p2 acc n2)⟩
    cases z:H acc with
    | none=>rfl
    | some o=>obtain ⟨o',e'⟩:=g1.dom acc o z;rw [hacc] at e';cases e'
theorem gSq {scope:Scope} {N':List Str} {nt:Nat} {cap:List Nat} {wi:DTI} {g:DTG} (hc:X.calm=true) (ok:CompOk X scope N' nt cap) (hk:l1q nt g) (hi:AI X tg iter wi) (hg:∀ C ex s H,AG (aZq X scope N' C ex s H) tg g) (he:∀ C ex s H,AE (aZq X scope N' C ex s H) elt te)
    (hs:∀ x,foldedSetIterable iter X.env x=pure x:=by intro _;rfl):AE X (.ListComp elt [⟨tg,iter,[],0⟩] scope pos) (r3q wi g te nt cap):=by
  obtain ⟨ci,ji,ri⟩:=hi.run
  obtain ⟨cg,jg,rg⟩:=AG.uni (ι:=Addr × List Addr × Shared × Hp) (cx:=λ z=>aZq X scope N' z.1 z.2.1 z.2.2.1 z.2.2.2) (K:=X.K) (λ _=>rfl) λ z=>hg _ _ _ _
  obtain ⟨ce,je,re⟩:=AE.uni (ι:=Addr × List Addr × Shared × Hp) (cx:=λ z=>aZq X scope N' z.1 z.2.1 z.2.2.1 z.2.2.2) (K:=X.K) (λ _=>rfl) λ z=>he _ _ _ _
  exact ⟨_,rAq hc ok ji (λ C ex s H=>jg (C,ex,s,H)) (λ C ex s H=>je (C,ex,s,H)) hs,iIq hk ri rg re⟩
theorem cVq {scope:Scope} {N':List Str} {nt:Nat} {cap:List Nat} {wi:DTI} {g:DTG} {y:Str} {py spos:Pos} {k:Nat} (hc:X.calm=true) (hN:X.N.Nodup) (hy:X.N[k]?=some y) (hl:Loc X.env.scope y) (ok:CompOk X scope N' nt cap) (hk:l1q nt g) (hi:AI X tg iter wi) (hg:∀ C ex s H,AG (aZq X scope N' C ex s H) tg g) (he:∀ C ex s H,AE (aZq X scope N' C ex s H) elt te)
    (hs:∀ x,foldedSetIterable iter X.env x=pure x:=by intro _;rfl) (hsw:swapsWith (.ListComp elt [⟨tg,iter,[],0⟩] scope pos) (some (.Name y py)) spos.line X.env=pure true:=by rfl) (hf:X.fn y=true\/X.env.scope.names.lookup y=some .local:=by first | exact .inl rfl | exact .inr rfl | assumption) :
    AS X (.Assign [.Name y py] (.ListComp elt [⟨tg,iter,[],0⟩] scope pos) spos) (zUq (r3q wi g te nt cap) (i5q k)):=by
  obtain ⟨ci,ji,ri⟩:=hi.run
  obtain ⟨cg,jg,rg⟩:=AG.uni (ι:=Addr × List Addr × Shared × Hp) (cx:=λ z=>aZq X scope N' z.1 z.2.1 z.2.2.1 z.2.2.2) (K:=X.K) (λ _=>rfl) λ z=>hg _ _ _ _
  obtain ⟨ce,je,re⟩:=AE.uni (ι:=Addr × List Addr × Shared × Hp) (cx:=λ z=>aZq X scope N' z.1 z.2.1 z.2.2.1 z.2.2.2) (K:=X.K) (λ _=>rfl) λ z=>he _ _ _ _
  exact ⟨_,l2q hc hN hy hl ok ji (λ C ex s H=>jg (C,ex,s,H)) (λ C ex s H=>je (C,ex,s,H)) hs hsw hf,λ DD Dc ρ G σ H B q F=>iIq hk ri rg re ρ G _ σ H _ B q λ d G1 v H1 g1 a q1=>F.nx _ G1 _ H1 g1 ((B.go g1).set a k) q1⟩
structure AMt (X:Cx) (T id:String) (ty:D->DV->Prop) (r:D->List D->DV->DK->Prop):Prop where
  run:∃ rc:V->List V->Hp->VK->Prop,JMt X id rc/\(∀ x v G H,Vw X.K G H->Abs X.K H x v->ty x G->tyV X.K T v H) ∧
    ∀ x xs vx vs G H DQ Q,Vw X.K G H->Abs X.K H x vx->AbsL X.K H xs vs->r x xs G DQ->Fin X.K G H DQ Q->rc vx vs H Q
abbrev dBM (ty:D->DV->Prop) (r:D->List D->DV->DK->Prop) (to:DTE) (t:DTA):DTE:=λ ρ G Q=>to ρ G λ x G1=>ty x G1/\t ρ G1 λ xs G2=>r x xs G2 Q
abbrev dBM0 (ty:D->DV->Prop) (r:D->List D->DV->DK->Prop) (to:DTE):DTE:=λ ρ G Q=>to ρ G λ x G1=>ty x G1/\r x [] G1 Q
theorem bVq {name:Str} {T id:String} {ty:D->DV->Prop} {r:D->List D->DV->DK->Prop} (pa:PlainAttrs T) (slot:Slot T name id) (hty:typeOf (.builtin id)=pure (.type "method_descriptor")) (hm:AMt X T id ty r) (ho:AE X o to) (ha:AA X [e] t)
    (hbase:attributeBase o name X.env (eval o X.env)=eval o X.env:=by rfl) (hline:(apos.endLine==cpos.line)=true:=by rfl) (hs:aOq e=true:=by rfl):AE X (.Call (.Attribute o name apos) [e] [] cpos) (dBM ty r to t):=by
  obtain ⟨co,jo,ro⟩:=ho.run
  obtain ⟨ca,ja,ra⟩:=ha.run
  obtain ⟨cm,jm,hy,rm⟩:=hm.run
  refine ⟨_,aB5q pa slot hty jm jo ja hbase hline hs,λ ρ G DQ σ H Q B q F=>ro ρ G _ σ H _ B q λ x G1 v H1 g1 ax ⟨h1,q1⟩=>⟨hy x v G1 H1 g1.vw ax h1,?_⟩⟩
  exact ra ρ G1 _ σ H1 _ (B.go g1) q1 λ xs G2 vs H2 g2 al _ q2=>rm x xs v vs G2 H2 DQ Q g2.vw (ax.mono g2.tup) al q2 (F.after (g1.trans g2))
theorem fQq {name:Str} {T id:String} {ty:D->DV->Prop} {r:D->List D->DV->DK->Prop} (pa:PlainAttrs T) (slot:Slot T name id) (hty:typeOf (.builtin id)=pure (.type "method_descriptor")) (hm:AMt X T id ty r) (ho:AE X o to)
    (hbase:attributeBase o name X.env (eval o X.env)=eval o X.env:=by rfl) (hline:(apos.endLine==cpos.line)=true:=by rfl):AE X (.Call (.Attribute o name apos) [] [] cpos) (dBM0 ty r to):=by
  obtain ⟨co,jo,ro⟩:=ho.run
  obtain ⟨cm,jm,hy,rm⟩:=hm.run
  exact ⟨_,x6q pa slot hty jm jo hbase hline,λ ρ G DQ σ H Q B q F=>ro ρ G _ σ H _ B q λ x G1 v H1 g1 ax ⟨h1,q1⟩=>⟨hy x v G1 H1 g1.vw ax h1,rm x [] v [] G1 H1 DQ Q g1.vw ax rfl q1 (F.after g1)⟩⟩
def nTq:D->DV->Prop:=λ x G=>match x with
  | .ref l=>onL G l λ _=>True
  | _=>False
theorem eMq {K:PySem.W.Frag} {x:D} {v:V} {G:DV} {H:Hp} (w:Vw K G H) (ax:Abs K H x v) (h:nTq x G):tyV K "list" v H:=by
  cases x with
  | ref l=>cases ax;obtain ⟨ds,vs,_,s,_⟩:=b4q w h;exact .inl ⟨rfl,vs,s⟩
  | _=>exact (show False from h).elim
def appD:D->List D->DV->DK->Prop:=λ x xs G Q=>match x,xs with
  | .ref l,[y]=>onM G l λ ds=>ds.length < sizeLine/\Q .non (up G l (.lst (ds++[y])))
  | _,_=>False
theorem aSq:AMt X "list" "list.append" nTq appD:=by
  refine ⟨_,⟨fGq⟩,λ x v G H w ax h=>eMq w ax h,λ x xs vx vs G H DQ Q v ax al r F=>?_⟩
  unfold appD at r
  split at r
  . next l y=>
    cases ax
    obtain ⟨u,us,rfl,au,z⟩:=al
    cases z
    obtain ⟨ds,ws,k,e1,h1,r1⟩:=cGq v r
    exact ⟨l,ws,u,rfl,rfl,h1,by rw [r1.len];exact k.1,F .non _ _ _ (Go.setL v e1 (r1.append (.one au))) rfl k.2⟩
  . exact r.elim
def extD:D->List D->DV->DK->Prop:=λ x xs G Q=>match x,xs with
  | .ref l,[.tup es]=>onM G l λ ds=>ds.length+es.length<=sizeLine/\Q .non (up G l (.lst (ds++es)))
  | .ref l,[.ref m]=>onM G l λ ds=>onM G m λ es=>ds.length+es.length<=sizeLine/\Q .non (up G l (.lst (ds++es)))
  | _,_=>False
theorem JMt.or {id:String} {r r':V->List V->Hp->VK->Prop} (h:JMt X id r) (h':JMt X id r'):JMt X id (λ x xs H Q=>r x xs H Q\/r' x xs H Q):=⟨h.run.or h'.run⟩
theorem e0q:AMt X "list" "list.extend" nTq extD:=by
  refine ⟨_,JMt.or ⟨tMq⟩ ⟨lPq⟩,λ x v G H w ax h=>eMq w ax h,λ x xs vx vs G H DQ Q v ax al r F=>?_⟩
  unfold extD at r
  split at r
  . next l es'=>
    cases ax
    obtain ⟨u,us,rfl,⟨m,zs,rfl,s,rz⟩,z⟩:=al
    cases z
    obtain ⟨ds,ws,k,e1,h1,r1⟩:=cGq v r
    exact .inl ⟨l,m,ws,zs,rfl,rfl,h1,s,by rw [r1.len,rz.len];exact k.1,F .non _ _ _ (Go.setL v e1 (r1.append rz)) rfl k.2⟩
  . next l m=>
    cases ax
    obtain ⟨u,us,rfl,au,z⟩:=al
    cases z;cases au
    obtain ⟨ds,ws,k,e1,h1,r1⟩:=cGq v r
    obtain ⟨es',zs,k2,e2,h2,r2⟩:=cGq v k
    exact .inr ⟨l,m,ws,zs,rfl,rfl,h1,h2,by rw [r1.len,r2.len];exact k2.1,F .non _ _ _ (Go.setL v e1 (r1.append r2)) rfl k2.2⟩
  . exact r.elim
def popD:D->List D->DV->DK->Prop:=λ x xs G Q=>match x,xs with
  | .ref l,[]=>onM G l λ ds=>∃ es d,ds=es++[d]/\Q d (up G l (.lst es))
  | _,_=>False
theorem h1q:AMt X "list" "list.pop" nTq popD:=by
  refine ⟨_,⟨y2q⟩,λ x v G H w ax h=>eMq w ax h,λ x xs vx vs G H DQ Q v ax al r F=>?_⟩
  unfold popD at r
  split at r
  . next l=>
    cases ax;cases al
    obtain ⟨ds,ws,⟨es',d,rfl,k⟩,e1,h1,r1⟩:=cGq v r
    have hl:=r1.len
    have hd:(es'++[d])[es'.length]?=some d:=by simp
    obtain ⟨u,hu,au⟩:=r1.get hd
    have e:ws.length - 1=es'.length:=by rw [hl];simp
    have r2:AbsL X.K H es' ws.dropLast:=by
      have z:=r1.take es'.length
      rw [List.take_left] at z
      rw [List.dropLast_eq_take,e];exact z
    have g:=Go.setL v e1 r2
    exact ⟨l,ws,u,rfl,rfl,h1,by rw [e];exact hu,F d _ _ _ g (au.mono g.tup) k⟩
  . exact r.elim
abbrev DSp:=List D->DV->DK->Prop
def aWq (K:PySem.W.Frag) (dsp:DSp):Sp:=λ vs H Q _=>∃ ds G DQ,AbsL K H ds vs/\Vw K G H/\dsp ds G DQ/\Fin K G H DQ Q
abbrev v0q (dsp:DSp) (t:DTA):DTE:=λ ρ G Q=>t ρ G λ ds G1=>dsp ds G1 Q
theorem aDq {k j:Nat} {x:Str} {ps:List Str} {dsp:DSp} (Gt:Got X.prog X.w X.K X.mg X.base k x ps (aWq X.K dsp)) (hr:Room j X.A) (hk:k<=j) (hg:Gl X x) (ha:AA X (e::es) t) (hdb:(x==("__debug__" : Str))=false:=by decide)
    (hs:(e::es).all aOq=true:=by rfl):AE X (.Call (.Name x p) (e::es) [] pos) (v0q dsp t):=by
  obtain ⟨ca,ja,ra⟩:=ha.run
  exact ⟨_,aC5q Gt hr hk hg ja hdb hs,λ ρ G DQ σ H Q B q F=>ra ρ G _ σ H _ B q λ ds G1 vs H1 g1 al _ q1=>⟨ds,G1,DQ,by rw [List.append_nil];exact al,g1.vw,q1,F.after g1⟩⟩
abbrev uLq (k:Nat) (f:Addr) (dsp:DSp) (t:DTA):DTE:=λ ρ G Q=>ρ[k]?=some (some (.ref f))/\v0q dsp t ρ G Q
theorem yXq (n:Nat) {k j:Nat} {f:Addr} {x:Str} {dsp:DSp} (Gt:FnV X.prog X.w X.K X.mg X.base k f (aWq X.K dsp)) (hr:Room j X.A) (hk:k<=j) (ha:AA X (e::es) t) (hN:X.N[n]?=some x:=by rfl) (hv:Vis X.env.scope x:=by first | exact Or.inl rfl | exact Or.inr (Or.inl rfl) | exact Or.inr (Or.inr rfl))
    (hd:(x==("__debug__" : Str))=false:=by decide) (hcd:(x==("__classdict__" : Str))=false:=by decide) (hs:(e::es).all aOq=true:=by rfl):AE X (.Call (.Name x p) (e::es) [] pos) (uLq n f dsp t):=by
  obtain ⟨ca,ja,ra⟩:=ha.run
  refine ⟨_,aC6q n Gt hr hk ja hN hv hd hcd hs,λ ρ G DQ σ H Q B q F=>?_⟩
  obtain ⟨q0,q⟩:=q
  obtain ⟨v,h1,h2⟩:=B.st n _ q0
  cases h2
  exact ⟨h1,ra ρ G _ σ H _ B q λ ds G1 vs H1 g1 al _ q1=>⟨ds,G1,DQ,by rw [List.append_nil];exact al,g1.vw,q1,F.after g1⟩⟩
def Dr (DQ:DK):DK:=λ d G=>∃ G',Sub G' G/\DQ d G'
theorem Dr.of {DQ:DK} {d:D} {G:DV} (h:DQ d G):Dr DQ d G:=⟨G,.refl _,h⟩
def i0q (N:List Str) (ds:List D):DSt:=ds.map some++List.replicate (N.length - ds.length) none
theorem jDq {K:PySem.W.Frag} {N:List Str} {ds:List D} {vs:List V} {G:DV} {H:Hp} (r:AbsL K H ds vs) (v:Vw K G H):Bears K (i0q N ds) G (L2.e2q N vs) H:=by
  have hl:=r.len
  refine ⟨by simp [i0q,L2.e2q,hl],λ i d h=>?_,v⟩
  unfold i0q at h
  unfold L2.e2q
  by_cases c:i < ds.length
  . rw [List.getElem?_append_left (by simpa using c),List.getElem?_map] at h
    rw [List.getElem?_append_left (by simpa [hl] using c),List.getElem?_map]
    cases e:ds[i]? with
    | none=>rw [e] at h;cases h
    | some z=>
      rw [e] at h
      simp at h
      subst h
      obtain ⟨u,h1,h2⟩:=r.get e
      exact ⟨u,by rw [h1];rfl,h2⟩
  . rw [List.getElem?_append_right (by simpa using c),List.getElem?_replicate] at h
    split at h<;>cases h
theorem okD {P:Program} {w:World} {K:PySem.W.Frag} {mg:Str->Option Value} {base:Heap} {x qual:Str} {st:Stmt} {f:Addr} {fd:FuncData} {N ps:List Str} {k:Nat} {dsp:DSp} (F:Fun K x qual st f fd) (S:FnScope N ps (aAq st)) (len:∀ ds G DQ,dsp ds G DQ->ds.length=ps.length)
    (hbody:∀ (cdv:Value) (A:Around) (outer:List Env) (s:Shared) (H:Hp) (E:XK),Room k (A.deeper (PyProof.Rows.envOfC qual (aAq st) s.heap.objs.size f cdv))->∀ (ds:List D) (G:DV) (DQ:DK),dsp ds G DQ →
      ∃ t,AB (qNq CX0 P w K mg base N qual (aAq st) f cdv A outer s H E).nox (bMq st) t/\t { nx:=λ _ G'=>Dr DQ .non G',rt:=Dr DQ } (i0q N ds) G):FnOk P w K mg base CX0 (k+1) f fd ps (aWq K dsp):=by
  refine F.okJ S (λ vs H Q E h=>?_) (λ cdv A outer s H vs Q E hr h=>?_)
  . obtain ⟨ds,G,DQ,r,_,h,_⟩:=h
    rw [r.len];exact len ds G DQ h
  . obtain ⟨ds,G,DQ,r,v,h,Fn⟩:=h
    obtain ⟨t,⟨tc,j,imp⟩,q⟩:=hbody cdv A outer s H E hr ds G DQ h
    refine ⟨tc,j,imp _ _ (i0q N ds) G (L2.e2q N vs) H (jDq r v) q ⟨λ ρ' G' σ' H' g b ⟨G2,s2,q2⟩=>Fn .non G2 .non H' (g.sub s2) rfl q2,λ d G' v H' g a ⟨G2,s2,q2⟩=>Fn d G2 v H' (g.sub s2) a q2,λ _ _ _ _ _ _ z=>z.elim,λ _ _ _ _ _ _ z=>z.elim⟩⟩
end
end L3
namespace L3
open PySem PySem.Spec L2
mutual
def eqD:D->D->Bool
  | .non,.non=>true
  | .bl a,.bl b=>a==b
  | .bl a,.int b=>(if a then 1 else 0)==b
  | .int a,.bl b=>a==(if b then 1 else 0)
  | .int a,.int b=>a==b
  | .str a,.str b=>a==b
  | .tup xs,.tup ys=>cNq xs ys
  | _,_=>false
def cNq:List D->List D->Bool
  | [],[]=>true
  | x::xs,y::ys=>eqD x y&&cNq xs ys
  | _,_=>false
end
mutual
def D.data:D->Bool
  | .ref _=>false
  | .ty _=>false
  | .frl _=>false
  | .tup ds=>aTq ds
  | _=>true
def aTq:List D->Bool
  | []=>true
  | d::ds=>d.data&&aTq ds
end
mutual
def D.dp:D->Nat
  | .tup ds=>1+bNq ds
  | _=>0
def bNq:List D->Nat
  | []=>0
  | d::ds=>max d.dp (bNq ds)
end
def eqJ (ds es:List D) (j:Nat):Bool:=match ds[j]?,es[j]? with
  | some d,some e=>eqD d e
  | _,_=>false
theorem c8q:∀ (ds es:List D),((List.range (min ds.length es.length)).all (eqJ ds es)&&ds.length==es.length)=cNq ds es
  | [],[]=>by simp [cNq]
  | [],e::es=>by simp [cNq]
  | d::ds,[]=>by simp [cNq]
  | d::ds,e::es=>by
    rw [cNq,<- c8q ds es,List.length_cons,List.length_cons,Nat.succ_min_succ,List.range_succ_eq_map,List.all_cons,List.all_map]
    have h1:eqJ (d::ds) (e::es) 0=eqD d e:=rfl
    have h2:(eqJ (d::ds) (e::es) ∘ Nat.succ)=eqJ ds es:=by funext j;simp [eqJ]
    rw [h1,h2,Bool.and_assoc]
    congr 2
    rw [Bool.eq_iff_iff];simp
section
variable {X:Cx} {pins:List (Addr × Obj)} {σ:L2.St} {H:Hp} {s:Shared}
mutual
theorem sFq (I:Inv X pins σ H s):∀ {d e:D} {v:V},d.data=true->e.data=true->Abs X.K H d v->Abs X.K H e v->d=e
  | .non,e,v,_,h,a,b=>by
    cases a
    cases e<;>first | rfl | (cases b;done) | (obtain ⟨_,_,z,_⟩:=b;cases z)
  | .bl _,e,v,_,h,a,b=>by
    cases a
    cases e<;>first | (cases b;rfl) | (cases b;done) | (obtain ⟨_,_,z,_⟩:=b;cases z)
  | .int _,e,v,_,h,a,b=>by
    cases a
    cases e<;>first | (cases b;rfl) | (cases b;done) | (obtain ⟨_,_,z,_⟩:=b;cases z)
  | .str _,e,v,_,h,a,b=>by
    cases a
    cases e<;>first | (cases b;rfl) | (cases b;done) | (obtain ⟨_,_,z,_⟩:=b;cases z)
  | .ref _,_,_,h,_,_,_=>by simp [D.data] at h
  | .ty _,_,_,h,_,_,_=>by simp [D.data] at h
  | .frl _,_,_,h,_,_,_=>by simp [D.data] at h
  | .tup ds,e,v,h0,h,a,b=>by
    obtain ⟨l,vs,rfl,s1,r1⟩:=a
    cases e with
    | tup es=>
      obtain ⟨m,us,z,s2,r2⟩:=b
      cases z
      have e:=I.tuple_inj s1 s2
      subst e
      rw [gWq I (by simpa [D.data] using h0) (by simpa [D.data] using h) r1 r2]
    | ref m=>simp [D.data] at h
    | frl m=>simp [D.data] at h
    | _=>cases b
theorem gWq (I:Inv X pins σ H s):∀ {ds es:List D} {vs:List V},aTq ds=true->aTq es=true->AbsL X.K H ds vs->AbsL X.K H es vs->ds=es
  | [],[],_,_,_,_,_=>rfl
  | [],e::es,_,_,_,a,b=>by cases a;obtain ⟨_,_,z,_⟩:=b;cases z
  | d::ds,[],_,_,_,a,b=>by cases b;obtain ⟨_,_,z,_⟩:=a;cases z
  | d::ds,e::es,vs,h1,h2,⟨v,r,e1,a1,l1⟩,⟨u,q,e2,a2,l2⟩=>by
    subst e1
    cases e2
    simp only [aTq,Bool.and_eq_true] at h1 h2
    rw [sFq I h1.1 h2.1 a1 a2,gWq I h1.2 h2.2 l1 l2]
end
mutual
theorem bZq:∀ {d:D},d.data=true->eqD d d=true
  | .non,_=>rfl
  | .bl _,_=>by simp [eqD]
  | .int _,_=>by simp [eqD]
  | .str _,_=>by simp [eqD]
  | .ref _,h=>by simp [D.data] at h
  | .ty _,h=>by simp [D.data] at h
  | .frl _,h=>by simp [D.data] at h
  | .tup ds,h=>by rw [eqD];exact fKq (by simpa [D.data] using h)
theorem fKq:∀ {ds:List D},aTq ds=true->cNq ds ds=true
  | [],_=>rfl
  | d::ds,h=>by
    simp only [aTq,Bool.and_eq_true] at h
    rw [cNq,bZq h.1,fKq h.2];rfl
end
mutual
theorem rMq (I:Inv X pins σ H s):∀ (d e:D) (A:Around) (x y:V) (u v:Value),d.data=true->e.data=true->Abs X.K H d x->Abs X.K H e y->RelV x u->RelV y v->A.units+d.dp < cLine->SeqAt.EqAt A s u v (eqD d e)
  | .tup ds,e,A,x,y,u,v,hd,he,ax,ay,ru,rv,hu=>by
    obtain ⟨a,vs,rfl,s1,r1⟩:=ax
    cases ru
    obtain ⟨its,rr,t1,_⟩:=I.tuple s1
    have hu0:A.units < cLine:=by omega
    cases e with
    | non=>cases ay;cases rv;exact SeqAt.EqAt.tuple_none t1 hu0
    | bl b=>cases ay;cases rv;exact SeqAt.EqAt.tuple_bool b t1 hu0
    | int b=>cases ay;obtain ⟨t,rfl⟩:=rv;exact SeqAt.EqAt.tuple_int b t t1 hu0
    | str b=>cases ay;obtain ⟨t,rfl⟩:=rv;exact SeqAt.EqAt.tuple_str b t t1 hu0
    | ref b=>simp [D.data] at he
    | ty b=>simp [D.data] at he
    | frl b=>simp [D.data] at he
    | tup es=>
      obtain ⟨b,us,rfl,s2,r2⟩:=ay
      cases rv
      by_cases hab:a=b
      . subst hab
        have e1:=I.tuple_inj s1 s2
        subst e1
        have e2:=gWq I (by simpa [D.data] using hd) (by simpa [D.data] using he) r1 r2
        subst e2
        rw [bZq hd]
        exact SeqAt.EqAt.same _
      . obtain ⟨its2,rr2,t2,_⟩:=I.tuple s2
        have l1:=rr.length
        have l2:=rr2.length
        have l3:=r1.len
        have l4:=r2.len
        simp only [D.dp] at hu
        have z:=SeqAt.RcAt.tuples (A:=A) (e:=eqJ ds es) t1 t2 hu0 (λ j h1 h2=>by
          have q:=dQq I ds es A.in1 vs us its its2 (by simpa [D.data] using hd) (by simpa [D.data] using he) r1 r2 rr rr2 (by show A.units+1+bNq ds < cLine;omega) j (by simpa using h1) (by simpa using h2)
          simpa using q)
        have ez:((List.range (min its.toArray.size its2.toArray.size)).all (eqJ ds es)&&its.toArray.size==its2.toArray.size)=eqD (.tup ds) (.tup es):=by
          rw [List.size_toArray,List.size_toArray,<- l1,<- l2,l3,l4,c8q];rfl
        rw [ez] at z
        exact SeqAt.EqAt.of_refs hab z
  | .ref _,_,_,_,_,_,_,hd,_,_,_,_,_,_=>by simp [D.data] at hd
  | .ty _,_,_,_,_,_,_,hd,_,_,_,_,_,_=>by simp [D.data] at hd
  | .frl _,_,_,_,_,_,_,hd,_,_,_,_,_,_=>by simp [D.data] at hd
  | .non,e,A,x,y,u,v,hd,he,ax,ay,ru,rv,hu=>by
    cases ax;cases ru
    have hu0:A.units < cLine:=by omega
    cases e with
    | non=>cases ay;cases rv;exact SeqAt.EqAt.same _
    | bl b=>cases ay;cases rv;exact SeqAt.EqAt.none_bool b
    | int b=>cases ay;obtain ⟨t,rfl⟩:=rv;exact SeqAt.EqAt.none_int b t
    | str b=>cases ay;obtain ⟨t,rfl⟩:=rv;exact SeqAt.EqAt.none_str b t
    | ref b=>simp [D.data] at he
    | ty b=>simp [D.data] at he
    | frl b=>simp [D.data] at he
    | tup es=>obtain ⟨b,us,rfl,s2,r2⟩:=ay;cases rv;obtain ⟨its2,rr2,t2,_⟩:=I.tuple s2;exact SeqAt.EqAt.none_tuple t2 hu0
  | .bl a,e,A,x,y,u,v,hd,he,ax,ay,ru,rv,hu=>by
    cases ax;cases ru
    have hu0:A.units < cLine:=by omega
    cases e with
    | non=>cases ay;cases rv;exact SeqAt.EqAt.bool_none a
    | bl b=>cases ay;cases rv;exact SeqAt.EqAt.bool_bool a b
    | int b=>cases ay;obtain ⟨t,rfl⟩:=rv;exact SeqAt.EqAt.bool_int a b t
    | str b=>cases ay;obtain ⟨t,rfl⟩:=rv;exact SeqAt.EqAt.bool_str a b t
    | ref b=>simp [D.data] at he
    | ty b=>simp [D.data] at he
    | frl b=>simp [D.data] at he
    | tup es=>obtain ⟨b,us,rfl,s2,r2⟩:=ay;cases rv;obtain ⟨its2,rr2,t2,_⟩:=I.tuple s2;exact SeqAt.EqAt.bool_tuple a t2 hu0
  | .int a,e,A,x,y,u,v,hd,he,ax,ay,ru,rv,hu=>by
    cases ax;obtain ⟨t',rfl⟩:=ru
    have hu0:A.units < cLine:=by omega
    cases e with
    | non=>cases ay;cases rv;exact SeqAt.EqAt.int_none a t'
    | bl b=>cases ay;cases rv;exact SeqAt.EqAt.int_bool a t' b
    | int b=>cases ay;obtain ⟨t,rfl⟩:=rv;exact SeqAt.EqAt.int_int a t' b t
    | str b=>cases ay;obtain ⟨t,rfl⟩:=rv;exact SeqAt.EqAt.int_str a t' b t
    | ref b=>simp [D.data] at he
    | ty b=>simp [D.data] at he
    | frl b=>simp [D.data] at he
    | tup es=>obtain ⟨b,us,rfl,s2,r2⟩:=ay;cases rv;obtain ⟨its2,rr2,t2,_⟩:=I.tuple s2;exact SeqAt.EqAt.int_tuple a t' t2 hu0
  | .str a,e,A,x,y,u,v,hd,he,ax,ay,ru,rv,hu=>by
    cases ax;obtain ⟨t',rfl⟩:=ru
    have hu0:A.units < cLine:=by omega
    cases e with
    | non=>cases ay;cases rv;exact SeqAt.EqAt.str_none a t'
    | bl b=>cases ay;cases rv;exact SeqAt.EqAt.str_bool a t' b
    | int b=>cases ay;obtain ⟨t,rfl⟩:=rv;exact SeqAt.EqAt.str_int a t' b t
    | str b=>cases ay;obtain ⟨t,rfl⟩:=rv;exact SeqAt.EqAt.str_str a t' b t
    | ref b=>simp [D.data] at he
    | ty b=>simp [D.data] at he
    | frl b=>simp [D.data] at he
    | tup es=>obtain ⟨b,us,rfl,s2,r2⟩:=ay;cases rv;obtain ⟨its2,rr2,t2,_⟩:=I.tuple s2;exact SeqAt.EqAt.str_tuple a t' t2 hu0
theorem dQq (I:Inv X pins σ H s):∀ (ds es:List D) (A:Around) (vs us:List V) (its its2:List Value),aTq ds=true->aTq es=true->AbsL X.K H ds vs->AbsL X.K H es us->Vals vs its->Vals us its2->A.units+bNq ds < cLine →
    ∀ j (h1:j < its.length) (h2:j < its2.length),SeqAt.EqAt A s its[j] its2[j] (eqJ ds es j)
  | [],es,A,vs,us,its,its2,_,_,e,e',rr,rr2,_,j,h1,h2=>by
    rw [show vs=[] from e] at rr
    cases rr
    exact absurd h1 (by simp)
  | d::ds,[],A,vs,us,its,its2,_,_,e,e',rr,rr2,_,j,h1,h2=>by
    rw [show us=[] from e'] at rr2
    cases rr2
    exact absurd h2 (by simp)
  | d::ds,e0::es,A,vs,us,its,its2,hd,he,⟨v,r,e,q,t⟩,⟨v',r',e',q',t'⟩,rr,rr2,hu,j,h1,h2=>by
    subst e e'
    cases rr with
    | cons r1 rt=>
      cases rr2 with
      | cons r2 rt2=>
        simp only [bNq] at hu
        simp only [aTq,Bool.and_eq_true] at hd he
        cases j with
        | zero=>exact rMq I d e0 A _ _ _ _ hd.1 he.1 q q' r1 r2 (by omega)
        | succ j=>
          have z:=dQq I ds es A _ _ _ _ hd.2 he.2 t t' rt rt2 (by omega) j (by simpa using h1) (by simpa using h2)
          simpa [eqJ] using z
end
theorem z6q (I:Inv X pins σ H s) (d e:D) (A:Around) (x y:V) (u v:Value) (hd:d.data=true) (he:e.data=true) (ax:Abs X.K H d x) (ay:Abs X.K H e y) (ru:RelV x u) (rv:RelV y v) (hu:A.units+d.dp < cLine):SeqAt.RcAt A s u v (eqD d e):=by
  have hu0:A.units < cLine:=by omega
  cases d with
  | tup ds=>
    obtain ⟨a,vs,rfl,s1,r1⟩:=ax
    cases ru
    obtain ⟨its,rr,t1,_⟩:=I.tuple s1
    cases e with
    | non=>cases ay;cases rv;exact SeqAt.RcAt.tuple_none t1 hu0
    | bl b=>cases ay;cases rv;exact SeqAt.RcAt.tuple_bool b t1 hu0
    | int b=>cases ay;obtain ⟨t,rfl⟩:=rv;exact SeqAt.RcAt.tuple_int b t t1 hu0
    | str b=>cases ay;obtain ⟨t,rfl⟩:=rv;exact SeqAt.RcAt.tuple_str b t t1 hu0
    | ref b=>simp [D.data] at he
    | ty b=>simp [D.data] at he
    | frl b=>simp [D.data] at he
    | tup es=>
      obtain ⟨b,us,rfl,s2,r2⟩:=ay
      cases rv
      obtain ⟨its2,rr2,t2,_⟩:=I.tuple s2
      have l1:=rr.length
      have l2:=rr2.length
      have l3:=r1.len
      have l4:=r2.len
      simp only [D.dp] at hu
      have z:=SeqAt.RcAt.tuples (A:=A) (e:=eqJ ds es) t1 t2 hu0 (λ j h1 h2=>by
        have q:=dQq I ds es A.in1 vs us its its2 (by simpa [D.data] using hd) (by simpa [D.data] using he) r1 r2 rr rr2 (by show A.units+1+bNq ds < cLine;omega) j (by simpa using h1) (by simpa using h2)
        simpa using q)
      have ez:((List.range (min its.toArray.size its2.toArray.size)).all (eqJ ds es)&&its.toArray.size==its2.toArray.size)=eqD (.tup ds) (.tup es):=by
        rw [List.size_toArray,List.size_toArray,<- l1,<- l2,l3,l4,c8q];rfl
      rw [ez] at z
      exact z
  | ref a=>simp [D.data] at hd
  | ty a=>simp [D.data] at hd
  | frl a=>simp [D.data] at hd
  | non=>
    cases ax;cases ru
    cases e with
    | non=>cases ay;cases rv;exact SeqAt.RcAt.none_none
    | bl b=>cases ay;cases rv;exact SeqAt.RcAt.none_bool b
    | int b=>cases ay;obtain ⟨t,rfl⟩:=rv;exact SeqAt.RcAt.none_int b t
    | str b=>cases ay;obtain ⟨t,rfl⟩:=rv;exact SeqAt.RcAt.none_str b t
    | ref b=>simp [D.data] at he
    | ty b=>simp [D.data] at he
    | frl b=>simp [D.data] at he
    | tup es=>obtain ⟨b,us,rfl,s2,r2⟩:=ay;cases rv;obtain ⟨its2,rr2,t2,_⟩:=I.tuple s2;exact SeqAt.RcAt.none_tuple t2 hu0
  | bl a=>
    cases ax;cases ru
    cases e with
    | non=>cases ay;cases rv;exact SeqAt.RcAt.bool_none a
    | bl b=>cases ay;cases rv;exact SeqAt.RcAt.bool_bool a b
    | int b=>cases ay;obtain ⟨t,rfl⟩:=rv;exact SeqAt.RcAt.bool_int a b t
    | str b=>cases ay;obtain ⟨t,rfl⟩:=rv;exact SeqAt.RcAt.bool_str a b t
    | ref b=>simp [D.data] at he
    | ty b=>simp [D.data] at he
    | frl b=>simp [D.data] at he
    | tup es=>obtain ⟨b,us,rfl,s2,r2⟩:=ay;cases rv;obtain ⟨its2,rr2,t2,_⟩:=I.tuple s2;exact SeqAt.RcAt.bool_tuple a t2 hu0
  | int a=>
    cases ax;obtain ⟨t',rfl⟩:=ru
    cases e with
    | non=>cases ay;cases rv;exact SeqAt.RcAt.int_none a t'
    | bl b=>cases ay;cases rv;exact SeqAt.RcAt.int_bool a t' b
    | int b=>cases ay;obtain ⟨t,rfl⟩:=rv;exact SeqAt.RcAt.int_int a t' b t
    | str b=>cases ay;obtain ⟨t,rfl⟩:=rv;exact SeqAt.RcAt.int_str a t' b t
    | ref b=>simp [D.data] at he
    | ty b=>simp [D.data] at he
    | frl b=>simp [D.data] at he
    | tup es=>obtain ⟨b,us,rfl,s2,r2⟩:=ay;cases rv;obtain ⟨its2,rr2,t2,_⟩:=I.tuple s2;exact SeqAt.RcAt.int_tuple a t' t2 hu0
  | str a=>
    cases ax;obtain ⟨t',rfl⟩:=ru
    cases e with
    | non=>cases ay;cases rv;exact SeqAt.RcAt.str_none a t'
    | bl b=>cases ay;cases rv;exact SeqAt.RcAt.str_bool a t' b
    | int b=>cases ay;obtain ⟨t,rfl⟩:=rv;exact SeqAt.RcAt.str_int a t' b t
    | str b=>cases ay;obtain ⟨t,rfl⟩:=rv;exact SeqAt.RcAt.str_str a t' b t
    | ref b=>simp [D.data] at he
    | ty b=>simp [D.data] at he
    | frl b=>simp [D.data] at he
    | tup es=>obtain ⟨b,us,rfl,s2,r2⟩:=ay;cases rv;obtain ⟨its2,rr2,t2,_⟩:=I.tuple s2;exact SeqAt.RcAt.str_tuple a t' t2 hu0
end
end L3
namespace L3
open PySem PySem.Spec L2
section
variable {X:Cx} {pins:List (Addr × Obj)} {σ:L2.St} {H:Hp} {s:Shared}
theorem zGq (I:Inv X pins σ H s) (d e:D) (A:Around) (x y:V) (u v:Value) (hd:d.data=true) (he:e.data=true) (ax:Abs X.K H d x) (ay:Abs X.K H e y) (ru:RelV x u) (rv:RelV y v) (hu:A.units+d.dp < cLine):SeqAt.RcNeAt A s u v (!eqD d e):=by
  have hu0:A.units < cLine:=by omega
  cases d with
  | tup ds=>
    obtain ⟨a,vs,rfl,s1,r1⟩:=ax
    cases ru
    obtain ⟨its,rr,t1,_⟩:=I.tuple s1
    cases e with
    | non=>cases ay;cases rv;exact SeqAt.RcNeAt.tuple_none t1 hu0
    | bl b=>cases ay;cases rv;exact SeqAt.RcNeAt.tuple_bool b t1 hu0
    | int b=>cases ay;obtain ⟨t,rfl⟩:=rv;exact SeqAt.RcNeAt.tuple_int b t t1 hu0
    | str b=>cases ay;obtain ⟨t,rfl⟩:=rv;exact SeqAt.RcNeAt.tuple_str b t t1 hu0
    | ref b=>simp [D.data] at he
    | ty b=>simp [D.data] at he
    | frl b=>simp [D.data] at he
    | tup es=>
      obtain ⟨b,us,rfl,s2,r2⟩:=ay
      cases rv
      obtain ⟨its2,rr2,t2,_⟩:=I.tuple s2
      have l1:=rr.length
      have l2:=rr2.length
      have l3:=r1.len
      have l4:=r2.len
      simp only [D.dp] at hu
      have z:=SeqAt.RcNeAt.tuples (A:=A) (e:=eqJ ds es) t1 t2 hu0 (λ j h1 h2=>by
        have q:=dQq I ds es A.in1 vs us its its2 (by simpa [D.data] using hd) (by simpa [D.data] using he) r1 r2 rr rr2 (by show A.units+1+bNq ds < cLine;omega) j (by simpa using h1) (by simpa using h2)
        simpa using q)
      have ez:((List.range (min its.toArray.size its2.toArray.size)).all (eqJ ds es)&&its.toArray.size==its2.toArray.size)=eqD (.tup ds) (.tup es):=by
        rw [List.size_toArray,List.size_toArray,<- l1,<- l2,l3,l4,c8q];rfl
      rw [ez] at z
      exact z
  | ref a=>simp [D.data] at hd
  | ty a=>simp [D.data] at hd
  | frl a=>simp [D.data] at hd
  | non=>
    cases ax;cases ru
    cases e with
    | non=>cases ay;cases rv;exact SeqAt.RcNeAt.none_none
    | bl b=>cases ay;cases rv;exact SeqAt.RcNeAt.none_bool b
    | int b=>cases ay;obtain ⟨t,rfl⟩:=rv;exact SeqAt.RcNeAt.none_int b t
    | str b=>cases ay;obtain ⟨t,rfl⟩:=rv;exact SeqAt.RcNeAt.none_str b t
    | ref b=>simp [D.data] at he
    | ty b=>simp [D.data] at he
    | frl b=>simp [D.data] at he
    | tup es=>obtain ⟨b,us,rfl,s2,r2⟩:=ay;cases rv;obtain ⟨its2,rr2,t2,_⟩:=I.tuple s2;exact SeqAt.RcNeAt.none_tuple t2 hu0
  | bl a=>
    cases ax;cases ru
    cases e with
    | non=>cases ay;cases rv;exact SeqAt.RcNeAt.bool_none a
    | bl b=>cases ay;cases rv;exact SeqAt.RcNeAt.bool_bool a b
    | int b=>cases ay;obtain ⟨t,rfl⟩:=rv;exact SeqAt.RcNeAt.bool_int a b t
    | str b=>cases ay;obtain ⟨t,rfl⟩:=rv;exact SeqAt.RcNeAt.bool_str a b t
    | ref b=>simp [D.data] at he
    | ty b=>simp [D.data] at he
    | frl b=>simp [D.data] at he
    | tup es=>obtain ⟨b,us,rfl,s2,r2⟩:=ay;cases rv;obtain ⟨its2,rr2,t2,_⟩:=I.tuple s2;exact SeqAt.RcNeAt.bool_tuple a t2 hu0
  | int a=>
    cases ax;obtain ⟨t',rfl⟩:=ru
    cases e with
    | non=>cases ay;cases rv;exact SeqAt.RcNeAt.int_none a t'
    | bl b=>cases ay;cases rv;exact SeqAt.RcNeAt.int_bool a t' b
    | int b=>cases ay;obtain ⟨t,rfl⟩:=rv;exact SeqAt.RcNeAt.int_int a t' b t
    | str b=>cases ay;obtain ⟨t,rfl⟩:=rv;exact SeqAt.RcNeAt.int_str a t' b t
    | ref b=>simp [D.data] at he
    | ty b=>simp [D.data] at he
    | frl b=>simp [D.data] at he
    | tup es=>obtain ⟨b,us,rfl,s2,r2⟩:=ay;cases rv;obtain ⟨its2,rr2,t2,_⟩:=I.tuple s2;exact SeqAt.RcNeAt.int_tuple a t' t2 hu0
  | str a=>
    cases ax;obtain ⟨t',rfl⟩:=ru
    cases e with
    | non=>cases ay;cases rv;exact SeqAt.RcNeAt.str_none a t'
    | bl b=>cases ay;cases rv;exact SeqAt.RcNeAt.str_bool a t' b
    | int b=>cases ay;obtain ⟨t,rfl⟩:=rv;exact SeqAt.RcNeAt.str_int a t' b t
    | str b=>cases ay;obtain ⟨t,rfl⟩:=rv;exact SeqAt.RcNeAt.str_str a t' b t
    | ref b=>simp [D.data] at he
    | ty b=>simp [D.data] at he
    | frl b=>simp [D.data] at he
    | tup es=>obtain ⟨b,us,rfl,s2,r2⟩:=ay;cases rv;obtain ⟨its2,rr2,t2,_⟩:=I.tuple s2;exact SeqAt.RcNeAt.str_tuple a t' t2 hu0
end
end L3
namespace L3
open PySem PySem.Spec L2
section
variable {X:Cx} {a b c e o i tg iter:Expr} {es:List Expr} {ta tb te to ti tc:DTE} {t:DTA} {pos p apos cpos:Pos}
theorem aKq {A:Around} {k:Nat} (hr:Room k A):A.units+200 < cLine:=by have:=hr.un;omega
def yAq (K:PySem.W.Frag) (f:Bool->Bool):R2:=λ x y H Q=>∃ d e,Abs K H d x/\Abs K H e y/\d.data=true/\e.data=true/\d.dp<=150/\Q (.bl (f (eqD d e))) H
def tOq (K:PySem.W.Frag) (f:Bool->Bool):R2:=λ x y H Q=>∃ l m vs us ds es,x=.ref l/\y=.ref m/\SqL K H l vs/\SqL K H m us/\AbsL K H ds vs/\AbsL K H es us/\aTq ds=true/\aTq es=true/\bNq ds<=150/\Q (.bl (f (cNq ds es))) H
theorem uUq (hu:X.A.units+200 < cLine):OpR X (compareOp .Eq) (yAq X.K id):=by
  intro pins s σ H x y v u Q I rx ry h
  obtain ⟨d,e,ax,ay,hd,he,hz,q⟩:=h
  exact z6q I d e X.A x y v u hd he ax ay rx ry (by omega) X.prog X.w X.xe _ ⟨.bl _,H,I,rfl,q⟩
theorem wLq (hu:X.A.units+200 < cLine):OpR X (compareOp .NotEq) (yAq X.K (!·)):=by
  intro pins s σ H x y v u Q I rx ry h
  obtain ⟨d,e,ax,ay,hd,he,hz,q⟩:=h
  exact zGq I d e X.A x y v u hd he ax ay rx ry (by omega) X.prog X.w X.xe _ ⟨.bl _,H,I,rfl,q⟩
theorem eIq:∀ {ds es:List D},ds.length≠es.length->cNq ds es=false
  | [],[],h=>absurd rfl h
  | [],_::_,_=>rfl
  | _::_,[],_=>rfl
  | d::ds,e::es,h=>by rw [cNq,eIq (by simpa using h),Bool.and_false]
theorem h8q {ds es:List D} (h:ds.length=es.length):(List.range ds.length).all (eqJ ds es)=cNq ds es:=by
  rw [<- c8q,<- h,Nat.min_self];simp
theorem sUq (hu:X.A.units+200 < cLine):OpR X (compareOp .Eq) (tOq X.K id):=by
  intro pins s σ H x y v u Q I rx ry h
  obtain ⟨l,m,vs,us,ds,es,rfl,rfl,s1,s2,r1,r2,hd,he,hz,q⟩:=h
  cases rx;cases ry
  obtain ⟨its,rr,t1,_⟩:=I.list s1
  obtain ⟨its2,rr2,t2,_⟩:=I.list s2
  have l1:=rr.length
  have l2:=rr2.length
  have l3:=r1.len
  have l4:=r2.len
  by_cases hl:ds.length=es.length
  . refine SeqAt.RcAt.lists (e:=eqJ ds es) t1.isList t2.isList (by rw [List.size_toArray,List.size_toArray];omega) (by omega) (λ j h1 h2=>?_) X.prog X.w X.xe _ ⟨.bl _,H,I,?_,q⟩
    . have q:=dQq I ds es X.A.in1 vs us its its2 hd he r1 r2 rr rr2 (by show X.A.units+1+bNq ds < cLine;omega) j (by simpa using h1) (by simpa using h2)
      simpa using q
    . show Value.bool _=Value.bool _
      rw [List.size_toArray,<- l1,l3,h8q hl];rfl
  . refine SeqAt.RcAt.lists_lengths t1.isList t2.isList (by rw [List.size_toArray,List.size_toArray];simp;omega) (by omega) X.prog X.w X.xe _ ⟨.bl _,H,I,?_,q⟩
    rw [eIq hl];rfl
theorem sKq (hu:X.A.units+200 < cLine):OpR X (compareOp .NotEq) (tOq X.K (!·)):=by
  intro pins s σ H x y v u Q I rx ry h
  obtain ⟨l,m,vs,us,ds,es,rfl,rfl,s1,s2,r1,r2,hd,he,hz,q⟩:=h
  cases rx;cases ry
  obtain ⟨its,rr,t1,_⟩:=I.list s1
  obtain ⟨its2,rr2,t2,_⟩:=I.list s2
  have l1:=rr.length
  have l2:=rr2.length
  have l3:=r1.len
  have l4:=r2.len
  by_cases hl:ds.length=es.length
  . refine SeqAt.RcNeAt.lists (e:=eqJ ds es) t1.isList t2.isList (by rw [List.size_toArray,List.size_toArray];omega) (by omega) (λ j h1 h2=>?_) X.prog X.w X.xe _ ⟨.bl _,H,I,?_,q⟩
    . have q:=dQq I ds es X.A.in1 vs us its its2 hd he r1 r2 rr rr2 (by show X.A.units+1+bNq ds < cLine;omega) j (by simpa using h1) (by simpa using h2)
      simpa using q
    . show Value.bool _=Value.bool _
      rw [List.size_toArray,<- l1,l3,h8q hl]
  . refine SeqAt.RcNeAt.lists_lengths t1.isList t2.isList (by rw [List.size_toArray,List.size_toArray];simp;omega) (by omega) X.prog X.w X.xe _ ⟨.bl _,H,I,?_,q⟩
    rw [eIq hl];rfl
def eqR (f:Bool->Bool):DR2:=λ x y G Q=>match x,y with
  | .int i,.int j=>Q (.bl (f (i==j))) G
  | .str i,.str j=>Q (.bl (f (i==j))) G
  | .tup _,.str _=>Q (.bl (f false)) G
  | .str _,.tup _=>Q (.bl (f false)) G
  | .ref l,.ref m=>onL G l λ ds=>onL G m λ es=>aTq ds=true/\aTq es=true/\bNq ds<=150/\Q (.bl (f (cNq ds es))) G
  | x,y=>x.data=true/\y.data=true/\x.dp<=150/\Q (.bl (f (eqD x y))) G
def rTS (K:PySem.W.Frag) (f:Bool->Bool):R2:=λ x y H Q=>(∃ a vs z,x=.ref a/\SqT K H a vs/\y=.str z/\Q (.bl (f false)) H)\/∃ a vs z,y=.ref a/\SqT K H a vs/\x=.str z/\Q (.bl (f false)) H
theorem rYq (hu:X.A.units+200 < cLine):OpR X (compareOp .Eq) (rTS X.K id):=by
  intro pins s σ H x y v u Q I rx ry h
  rcases h with ⟨a,vs,z,rfl,sq,rfl,q⟩ | ⟨a,vs,z,rfl,sq,rfl,q⟩
  . cases rx;obtain ⟨t,rfl⟩:=ry
    obtain ⟨its,rr,t1,_⟩:=I.tuple sq
    exact SeqAt.RcAt.tuple_str z t t1 (by omega) X.prog X.w X.xe _ ⟨.bl false,H,I,rfl,q⟩
  . cases ry;obtain ⟨t,rfl⟩:=rx
    obtain ⟨its,rr,t1,_⟩:=I.tuple sq
    exact SeqAt.RcAt.str_tuple z t t1 (by omega) X.prog X.w X.xe _ ⟨.bl false,H,I,rfl,q⟩
theorem rTq (hu:X.A.units+200 < cLine):OpR X (compareOp .NotEq) (rTS X.K (!·)):=by
  intro pins s σ H x y v u Q I rx ry h
  rcases h with ⟨a,vs,z,rfl,sq,rfl,q⟩ | ⟨a,vs,z,rfl,sq,rfl,q⟩
  . cases rx;obtain ⟨t,rfl⟩:=ry
    obtain ⟨its,rr,t1,_⟩:=I.tuple sq
    exact SeqAt.RcNeAt.tuple_str z t t1 (by omega) X.prog X.w X.xe _ ⟨.bl true,H,I,rfl,q⟩
  . cases ry;obtain ⟨t,rfl⟩:=rx
    obtain ⟨its,rr,t1,_⟩:=I.tuple sq
    exact SeqAt.RcNeAt.str_tuple z t t1 (by omega) X.prog X.w X.xe _ ⟨.bl true,H,I,rfl,q⟩
theorem qCq {f:Bool->Bool} {op:CmpOp} (h1:OpR X (compareOp op) (yAq X.K f)) (h2:OpR X (compareOp op) (tOq X.K f)) (h3:OpR X (compareOp op) (rTS X.K f)):AOp X (compareOp op) (eqR f):=by
  refine ⟨_,⟨h1.or (h2.or h3)⟩,λ x y vx vy G H DQ Q v ax ay r F=>?_⟩
  have fin:∀ b:Bool,DQ (.bl b) G->Q (.bl b) H:=λ b q=>F (.bl b) G _ H (.refl v) rfl q
  have gen:x.data=true/\y.data=true/\x.dp<=150/\DQ (.bl (f (eqD x y))) G->yAq X.K f vx vy H Q:=λ⟨z1,z2,z3,z4⟩=>⟨x,y,ax,ay,z1,z2,z3,fin _ z4⟩
  unfold eqR at r
  split at r
  . exact .inl (gen ⟨rfl,rfl,Nat.zero_le _,r⟩)
  . exact .inl (gen ⟨rfl,rfl,Nat.zero_le _,r⟩)
  . obtain ⟨l,vs,rfl,s1,_⟩:=ax
    cases ay
    exact .inr (.inr (.inl ⟨l,vs,_,rfl,s1,rfl,fin _ r⟩))
  . obtain ⟨l,vs,rfl,s1,_⟩:=ay
    cases ax
    exact .inr (.inr (.inr ⟨l,vs,_,rfl,s1,rfl,fin _ r⟩))
  . cases ax;cases ay
    obtain ⟨ds,vs,k1,s1,r1⟩:=b4q v r
    obtain ⟨es,us,⟨z1,z2,z3,k2⟩,s2,r2⟩:=b4q v k1
    exact .inr (.inl ⟨_,_,vs,us,ds,es,rfl,rfl,s1,s2,r1,r2,z1,z2,z3,fin _ k2⟩)
  . exact .inl (gen r)
theorem aIq (hu:X.A.units+200 < cLine):AOp X (compareOp .Eq) (eqR id):=qCq (uUq hu) (sUq hu) (rYq hu)
theorem gHq (hu:X.A.units+200 < cLine):AOp X (compareOp .NotEq) (eqR (!·)):=qCq (wLq hu) (sKq hu) (rTq hu)
abbrev y7q (t:DTE):DTE:=λ ρ G Q=>t ρ G λ d G'=>∃ G2,Sub G2 G'/\Q d G2
theorem bSq (h:AE X e te):AE X e (y7q te):=by
  obtain ⟨ca,ja,ra⟩:=h.run
  exact ⟨_,ja,λ ρ G DQ σ H Q B q F=>ra ρ G _ σ H _ B q λ d G' v H' g a ⟨G2,s2,q2⟩=>F d G2 v H' (g.sub s2) a q2⟩
@[irreducible] def atS (ds:List D) (i:Int) (G:DV) (Q:DK):Prop:=atD ds i G Q
theorem kDq {ds:List D} {i:Int} {G:DV} {Q:DK} (h:atD ds i G Q):atS ds i G Q:=by unfold atS;exact h
abbrev dIxD (t:DTA) (tb:DTE):DTE:=λ ρ G Q=>t ρ G λ ds G1=>tb ρ G1 λ y G2=>match y with
  | .int i=>atS ds i G2 Q
  | _=>False
theorem c7q {lp:Pos} (h:AA X es t) (hb:AE X b tb) (hs:gNq b) (hl:Nat.ble es.length 1000=true:=by rfl):AE X (.Subscript (.List es lp) b pos) (dIxD t tb):=by
  obtain ⟨ca,ja,ra⟩:=h.run
  obtain ⟨cb,jb,rb⟩:=hb.run
  refine ⟨_,v3q ⟨r0q⟩ (qIq ja) jb hs,λ ρ G DQ σ H Q B q F=>ra ρ G _ σ H _ B q λ ds G1 vs H1 g1 al hn q1=>⟨by rw [al.len,hn];exact jGq hl,λ p hp=>?_⟩⟩
  have g2:=Go.newT (o:=.lst vs) g1.vw hp
  have n1:=g1.vw.none hp
  refine rb ρ G1 _ σ _ _ ((B.go g1).go g2) q1 λ y G3 u H3 g3 ay q3=>?_
  have h3:=g3.same p _ b3q n1
  split at q3
  . next i=>
    cases ay
    unfold atS at q3
    obtain ⟨d,hd,q4⟩:=hDq q3
    obtain ⟨w,hw,aw⟩:=hCq ((al.mono g2.tup).mono g3.tup) hd
    exact .inl ⟨p,vs,i,w,rfl,rfl,.of h3,hw,F d G3 w H3 ((g1.trans g2).trans g3) aw q4⟩
  . exact q3.elim
def lVq (sc:Scope) (N:List Str) (scope:Scope) (N':List Str) (nt:Nat) (cap:List Nat):Bool:=
  scope.names.all (λ y=>y.2 !=.cell)&&scope.names.all (λ y=>y.2 !=.local||scope.names.lookup y.1==some .local) &&
  scope.names.all (λ y=>y.2 !=.free||(sc.names.lookup y.1==some .cell||sc.names.lookup y.1==some .free))&&N'.length==nt+cap.length &&
  (List.range cap.length).all λ j=>match cap[j]?,N'[nt+j]? with
    | some i,some x=>N[i]?==some x&&scope.names.lookup x==some .free
    | _,_=>true
theorem CompOk.of {scope:Scope} {N':List Str} {nt:Nat} {cap:List Nat} (hk:scope.kind=.function) (h:lVq X.env.scope X.N scope N' nt cap=true):CompOk X scope N' nt cap:=by
  unfold lVq at h
  simp only [Bool.and_eq_true,List.all_eq_true] at h
  obtain ⟨⟨⟨⟨h1,h2⟩,h3⟩,h4⟩,h5⟩:=h
  refine ⟨hk,λ y hy=>by simpa using h1 y hy,λ y hy e=>?_,λ y hy e=>?_,by simpa using h4,λ j i x hj hx=>?_⟩
  . have z:=h2 y hy
    rw [e] at z
    simpa using z
  . have z:=h3 y hy
    rw [e] at z
    simpa using z
  . have lt:j < cap.length:=by
      rcases Nat.lt_or_ge j cap.length with z | z
      . exact z
      . rw [List.getElem?_eq_none z] at hj;cases hj
    have z:=h5 j (List.mem_range.mpr lt)
    rw [hj,hx] at z
    simpa using z
abbrev yVq (to ti:DTE):DTG:=λ d ρ G Q=>to ρ G λ x G1=>ti ρ G1 λ y G2=>match x,y with
  | .ref l,.int k=>onM G2 l λ ds=>∃ j,ixN ds.length k=some j/\Q ρ (up G2 l (.lst (ds.set j d)))
  | _,_=>False
theorem mAq (ho:AE X o to) (hi:AE X i ti) (ha:∀ v,assign (.Subscript o i pos) X.env v=(do
      let ov ← holding [v] (eval o X.env)
      let iv ← holding [v,ov] (eval i X.env)
      standAt pos
      holding [v,ov,iv] (setItem ov iv v)
      release [v,ov,iv] []):=by intro _;rfl):AG X (.Subscript o i pos) (yVq to ti):=by
  obtain ⟨co,jo,ro⟩:=ho.run
  obtain ⟨ci,ji,ri⟩:=hi.run
  refine ⟨_,wPq jo ji ⟨pIq⟩ ha,λ d v ρ G DQ σ H Q B ad q F=>ro ρ G _ σ H _ B q λ x G1 vx H1 g1 ax q1=>ri ρ G1 _ σ H1 _ (B.go g1) q1 λ y G2 vy H2 g2 ay q2=>?_⟩
  split at q2
  . next l k=>
    cases ax;cases ay
    obtain ⟨ds,vs,⟨j,hj,q3⟩,e1,h1,r1⟩:=cGq g2.vw q2
    have ad2:=(ad.mono g1.tup).mono g2.tup
    have g3:=Go.setL g2.vw e1 (r1.set ad2 j)
    have gg:=(g1.trans g2).trans g3
    exact ⟨l,vs,k,j,rfl,rfl,h1,by rw [r1.len];exact hj,F ρ _ σ _ gg (B.go gg) q3⟩
  . exact q2.elim
abbrev yGq (te:DTE):DTE:=λ ρ G Q=>te ρ G λ x G1=>match x with
  | .tup ds=>∀ p,G1 p=none->Q (.ref p) (up G1 p (.lst ds.reverse))
  | _=>False
abbrev mTq (te:DTE):DTE:=λ ρ G Q=>te ρ G λ x G1=>match x with
  | .ref l=>onL G1 l λ ds=>∀ p,G1 p=none->Q (.ref p) (up G1 p (.lst ds.reverse))
  | _=>False
theorem eZq (hgl:Gl X "list") (hml:X.mg "list" = none) (hg:Gl X "reversed") (hm:X.mg "reversed" = none) (he:AE X e te) (hc:X.calm=true:=by rfl) (hs:aOq e=true:=by rfl):AE X (.Call (.Name "list" p) [.Call (.Name "reversed" apos) [e] [] cpos] [] pos) (mTq te):=by
  obtain ⟨ce,je,re⟩:=he.run
  refine ⟨_,fBq hgl hml hg hm je hc hs,λ ρ G DQ σ H Q B q F=>re ρ G _ σ H _ B q λ x G1 v H1 g1 ax q1=>?_⟩
  split at q1
  . next l=>
    cases ax
    obtain ⟨ds,vs,k,s,r⟩:=b4q g1.vw q1
    exact ⟨l,vs,rfl,s,λ p hp=>F (.ref p) _ _ _ (g1.trans (Go.newL g1.vw hp r.reverse)) rfl (k p (g1.vw.none hp))⟩
  . exact q1.elim
def d3q:List D->Option (List Bool)
  | []=>some []
  | .bl i::r=>(d3q r).map (i::·)
  | _::_=>none
theorem fLq {K:PySem.W.Frag} {H:Hp}:∀ {ds:List D} {bs:List Bool} {vs:List V},d3q ds=some bs->AbsL K H ds vs->vs=bs.map V.bl
  | [],bs,vs,h,r=>by cases h;exact r
  | d::ds,bs,vs,h,⟨v,q,e,av,l⟩=>by
    cases d with
    | bl i=>
      simp only [d3q,Option.map_eq_some_iff] at h
      obtain ⟨ms,h1,rfl⟩:=h
      subst e
      cases av
      rw [fLq h1 l];rfl
    | _=>simp [d3q] at h
theorem cLq:∀ bs:List Bool,d3q (bs.map D.bl)=some bs
  | []=>rfl
  | b::bs=>by simp [d3q,cLq bs]
def allD:D->DV->DK->Prop:=λ x G Q=>match x with
  | .ref l=>onL G l λ ds=>∃ bs,d3q ds=some bs/\Q (.bl (bs.all id)) G
  | _=>False
theorem eVq (hc:X.calm=true):ACall X (.builtin "all") (oPq allD):=by
  refine ⟨_,⟨nXq hc⟩,λ xs vs G H DQ Q v a r F=>?_⟩
  obtain ⟨x,u,rfl,rfl,ax,r⟩:=bXq r a
  cases x with
  | ref l=>
    cases ax
    obtain ⟨ds,ws,⟨bs,e,k⟩,s,rl⟩:=b4q v r
    rw [fLq e rl] at s
    exact ⟨l,bs,rfl,s,F (.bl (bs.all id)) G _ H (.refl v) rfl k⟩
  | _=>exact (show False from r).elim
def tyN (x:D) (G:DV) (k:String->Prop):Prop:=match x with
  | .non=>k "NoneType"
  | .bl _=>k "bool"
  | .int _=>k "int"
  | .str _=>k "str"
  | .tup _=>k "tuple"
  | .ref l=>onL G l λ _=>k "list"
  | _=>False
def yNq (t T:String):Option Bool:=
  if (t = "NoneType"\/t = "bool"\/t = "int"\/t = "str"\/t = "tuple"\/t = "list")/\(T = "bool"\/T = "int"\/T = "str"\/T = "tuple"\/T = "list") then some (decide (t=T)||(decide (t = "bool")&&decide (T = "int"))) else none
theorem cYq {K:PySem.W.Frag} {t T:String} {b:Bool} (h:yNq t T=some b):PySem.W.kitOne K (.type t) (.type T)=some b:=by
  unfold yNq at h
  split at h
  . next c=>
    obtain ⟨c1,c2⟩:=c
    rcases c1 with rfl | rfl | rfl | rfl | rfl | rfl<;>rcases c2 with rfl | rfl | rfl | rfl | rfl<;>(simp at h;subst h;first | rfl | exact kit_other rfl (by decide))
  . cases h
def rIsI (K:PySem.W.Frag):List V->Hp->VK->Prop:=λ xs H Q=>∃ x T t b,xs=[x,.ty T]/\((TyOf K H x (.type t))\/(t = "tuple"/\∃ a vs,x=.ref a/\SqT K H a vs)\/(t = "list"/\∃ a vs,x=.ref a/\SqL K H a vs))/\PySem.W.kitOne K (.type t) (.type T)=some b/\Q (.bl b) H
theorem mDq:CallR X (.builtin "isinstance") (rIsI X.K):=by
  intro pins s σ H xs us Q I r h
  obtain ⟨x,T,t,b,rfl,ty,hk,hQ⟩:=h
  obtain ⟨u,v,rfl,ru,rv⟩:=Vals.two r
  cases rv
  rcases ty with ty | ⟨rfl,a,vs,rfl,sq⟩ | ⟨rfl,a,vs,rfl,sq⟩
  . exact n2q I ru ty hk λ tk=>⟨.bl b,H,I.tok tk,rfl,hQ⟩
  . cases ru
    obtain ⟨its,_,⟨o,h1,h2,_⟩,_⟩:=I.tuple sq
    exact PySem.W.kia_one PySem.W.kitx_tuple I.kIn ⟨o,h1,h2⟩ hk (λ z=>nomatch z) λ tk=>⟨.bl b,H,I.tok tk,rfl,hQ⟩
  . cases ru
    obtain ⟨its,_,⟨o,n,h1,h2,_⟩,_⟩:=I.list sq
    exact PySem.W.kia_one PySem.W.kitx_list I.kIn ⟨o,h1,h2⟩ hk (λ z=>nomatch z) λ tk=>⟨.bl b,H,I.tok tk,rfl,hQ⟩
def isID:D->D->DV->DK->Prop:=λ x y G Q=>match y with
  | .ty T=>tyN x G λ t=>∃ b,yNq t T=some b/\Q (.bl b) G
  | _=>False
theorem b0q:ACall X (.builtin "isinstance") (x9q isID):=by
  refine ⟨_,⟨mDq⟩,λ xs vs G H DQ Q v a r F=>?_⟩
  obtain ⟨x,y,u,w,rfl,rfl,ax,ay,r⟩:=hBq r a
  cases y with
  | ty T=>
    cases ay
    cases x with
    | non=>cases ax;obtain ⟨b,hb,q⟩:=r;exact ⟨_,T,_,b,rfl,.inl .non,cYq hb,F (.bl b) G _ H (.refl v) rfl q⟩
    | bl z=>cases ax;obtain ⟨b,hb,q⟩:=r;exact ⟨_,T,_,b,rfl,.inl (.bl z),cYq hb,F (.bl b) G _ H (.refl v) rfl q⟩
    | int z=>cases ax;obtain ⟨b,hb,q⟩:=r;exact ⟨_,T,_,b,rfl,.inl (.int z),cYq hb,F (.bl b) G _ H (.refl v) rfl q⟩
    | str z=>cases ax;obtain ⟨b,hb,q⟩:=r;exact ⟨_,T,_,b,rfl,.inl (.str z),cYq hb,F (.bl b) G _ H (.refl v) rfl q⟩
    | tup ds=>obtain ⟨l,ws,rfl,s,_⟩:=ax;obtain ⟨b,hb,q⟩:=r;exact ⟨_,T,"tuple", b,rfl,.inr (.inl ⟨rfl,l,ws,rfl,s⟩),cYq hb,F (.bl b) G _ H (.refl v) rfl q⟩
    | ref l=>
      cases ax
      obtain ⟨ds,ws,⟨b,hb,q⟩,s,_⟩:=b4q v r
      exact ⟨_,T,"list", b,rfl,.inr (.inr ⟨rfl,l,ws,rfl,s⟩),cYq hb,F (.bl b) G _ H (.refl v) rfl q⟩
    | ty z=>exact (show False from r).elim
    | frl z=>exact (show False from r).elim
  | _=>exact (show False from r).elim
abbrev z9q (t:DTA):DTI:=λ ρ G R=>t ρ G λ ds G1=>match ds with
  | [.tup xs,.tup ys]=>xs.length<=ys.length/\R ⟨(xs.zip ys).map λ z=>.tup [z.1,z.2],λ _=>True⟩ G1
  | _=>False
theorem xWq {k:Nat} {tp:Pos} (hg:Gl X "zip") (hm:X.mg "zip" = none) (ha:AA X [a,b] t) (h1:aOq a=true:=by rfl) (h2:aOq b=true:=by rfl):AI X (.Tuple es k tp) (.Call (.Name "zip" p) [a,b] [] pos) (z9q t):=by
  obtain ⟨ca,ja,ra⟩:=ha.run
  refine ⟨_,x2q hg hm ja h1 h2,λ ρ G DR σ H R B q F=>ra ρ G _ σ H _ B q λ ds G1 vs H1 g1 al hl q1=>?_⟩
  split at q1
  . next xs ys=>
    obtain ⟨hle,q2⟩:=q1
    obtain ⟨v,r,rfl,⟨l,ws,rfl,s1,r1⟩,u,r2,rfl,⟨m,zs,rfl,s2,r2'⟩,z⟩:=al
    cases z
    refine ⟨l,m,rfl,⟨ws,s1⟩,⟨zs,s2⟩,F _ _ G1 H1 g1 (λ G2 H2 g2 _=>⟨λ n d hd=>?_,λ n hn=>⟨ws,g2.tup.tp _ _ s1,?_⟩⟩) q2⟩
    . rw [List.getElem?_map] at hd
      cases e:(xs.zip ys)[n]? with
      | none=>rw [e] at hd;cases hd
      | some z=>
        rw [e] at hd
        simp at hd
        subst hd
        obtain ⟨e1,e2⟩:=List.getElem?_zip_eq_some.mp e
        obtain ⟨w1,k1,a1⟩:=(r1.mono g2.tup).get e1
        obtain ⟨w2,k2,a2⟩:=(r2'.mono g2.tup).get e2
        refine ⟨⟨ws,zs,w1,w2,g2.tup.tp _ _ s1,g2.tup.tp _ _ s2,k1,k2⟩,λ x H' y=>?_⟩
        obtain ⟨T,x1,y1,rfl,hT,rfl,hx,hy⟩:=y
        have z1:=hx ws (g2.tup.tp _ _ s1)
        have z2:=hy zs (g2.tup.tp _ _ s2)
        rw [k1] at z1;rw [k2] at z2
        cases z1;cases z2
        have g3:=Go.newT (o:=.tup [w1,w2]) g2.vw hT
        exact ⟨g3,T,_,rfl,.of b3q,⟨_,_,rfl,a1.mono g3.tup,.one (a2.mono g3.tup)⟩⟩
    . have:=r1.len
      simp at hn
      omega
  . exact q1.elim
end
end L3
namespace L3
open PySem PyProof L2
open PySem.MeetsSeq
section
variable {X:Cx}
variable {e:Expr} {t:DTA} {pos apos cpos:Pos}
end
inductive Tm where
  | name (k:Nat) | whole (n:Int) | way (t:Tm) | give (t u:Tm) | pair (t u:Tm) | first (t:Tm) | second (t:Tm) | plus (t u:Tm) | look (t u v:Tm)
abbrev fed (x y:Int):DO:=.lst [.int x,.int y]
def Fd (G:DV) (a:Addr):Prop:=∃ x y,G a=some (fed x y)
theorem Fd.up {G:DV} {a:Addr} {x y:Int}:Fd (up G a (fed x y)) a:=⟨x,y,a4q⟩
theorem Fd.new {G:DV} {a l:Addr} {o:DO} (h:Fd G a) (n:G l=none):Fd (L3.up G l o) a:=by
  obtain ⟨x,y,e⟩:=h
  exact ⟨x,y,by rw [aMq (by rintro rfl;rw [n] at e;cases e)];exact e⟩
theorem Fd.ne {G:DV} {a l:Addr} (h:Fd G a) (n:G l=none):l≠a:=by
  obtain ⟨x,y,e⟩:=h
  rintro rfl
  rw [n] at e;cases e
theorem gFq {G:DV} {a l:Addr} {f o:DO} (n:up G a f l=none):up (up G a f) l o=up (up G l o) a f/\G l=none/\l≠a:=by
  have ne:l≠a:=by rintro rfl;rw [a4q] at n;cases n
  exact ⟨h4q (Ne.symm ne),by rw [aMq ne] at n;exact n,ne⟩
theorem Sub.new {G G1:DV} {p:Addr} {o:DO} (h:Sub G G1) (n:G p=Option.none):Sub G (up G1 p o):=λ b u e=>by
  rw [aMq (by rintro rfl;rw [n] at e;cases e)];exact h b u e
theorem Sub.put {G G1:DV} {a:Addr} {o:DO} (h:Sub G G1):Sub (up G a o) (up G1 a o):=λ b u e=>by
  by_cases c:b=a
  . subst c;rw [a4q] at e ⊢;exact e
  . rw [aMq c] at e ⊢;exact h b u e
def Fx (a:Addr) (G G':DV):Prop:=∃ x y,G'=up G a (fed x y)
theorem Fx.mk {a:Addr} {G:DV} {x y:Int}:Fx a G (up G a (fed x y)):=⟨x,y,rfl⟩
theorem Fx.trans {a:Addr} {G G1 G2:DV} (h:Fx a G G1) (k:Fx a G1 G2):Fx a G G2:=by
  obtain ⟨x,y,rfl⟩:=h
  obtain ⟨z,u,rfl⟩:=k
  exact ⟨z,u,bTq⟩
theorem Fx.fd {a:Addr} {G G':DV} (h:Fx a G G'):Fd G' a:=by obtain ⟨x,y,rfl⟩:=h;exact .up
theorem Fx.refl {a:Addr} {G:DV} (h:Fd G a):Fx a G G:=by obtain ⟨x,y,e⟩:=h;exact ⟨x,y,(r2q e).symm⟩
theorem Fx.other {a l:Addr} {G G':DV} (h:Fx a G G') (n:l≠a):G' l=G l:=by obtain ⟨x,y,rfl⟩:=h;exact aMq n
theorem Fx.none {a l:Addr} {G G':DV} (h:Fx a G G') (n:G' l=Option.none):G l=Option.none:=by
  obtain ⟨x,y,rfl⟩:=h
  exact (gFq (o:=fed 0 0) n).2.1
def dOq:DSp:=λ ds G Q=>match ds with
  | [.ref a,.int m]=>Fd G a/\0 < m/\m < 2 ^ 62/\∀ d G',Fx a G G'->0<=d->d < m->Q (.int d) G'
  | _=>False
def hRq:DSp:=λ ds G Q=>match ds with
  | [.frl ss,.int k]=>∃ ns:List Int,ss=ns.map D.int/\ns.length<=63/\0<=k/\k < 2 ^ 32/\∀ r x y,G r=none->Q (.ref r) (up G r (fed x y))
  | _=>False
def qHq:DSp:=λ ds _ Q=>∃ ns:List Int,ds=[.frl (ns.map D.int)]/\ns.length<=63/\∀ G',Q (.bl true) G'
abbrev kTq (K:PySem.W.Frag):Sp:=aWq K qHq
theorem y4q {K:PySem.W.Frag} {H:Hp} {a:Addr} {ns:List Int} (hl:ns.length<=63) (o:yCq H) (h:SqL K H a (ns.map V.int)):kTq K [.ref a] H (λ v _=>v=.bl true) λ _ _ _=>False:=by
  have f:FrL K H a (ns.map V.int):=by
    rcases h with (h | h) | h
    . rcases o a with z | ⟨_,_,z⟩<;>(rw [h] at z;cases z)
    . exact .inl h
    . exact .inr h
  refine ⟨[.frl (ns.map D.int)],λ _=>none,λ d _=>d=.bl true,⟨.ref a,[],rfl,⟨a,_,rfl,f,AbsL.of_ints ns⟩,rfl⟩,nofun,⟨ns,rfl,hl,λ _=>rfl⟩,λ d G' v H' g ad e=>?_⟩
  subst e
  exact ad
theorem yFq {P:Program} {w:World} {K:PySem.W.Frag} {mg:Str->Option Value} {base:Heap} {f:Addr} {fd:FuncData} {ps:List Str} {k:Nat} {dsp:DSp} (no:∀ ds G DQ,¬ dsp ds G DQ):FnOk P w K mg base CX0 k f fd ps (aWq K dsp):=
  ⟨λ vs H Q E ⟨ds,G,DQ,_,_,h,_⟩=>absurd h (no ds G DQ),λ A outer s H args us vs Q E _ _ _ _ ⟨ds,G,DQ,_,_,h,_⟩=>absurd h (no ds G DQ)⟩
theorem at2 {x y:D} {G:DV} {Q:DK} {i:Int} (h0:0<=i) (h1:i < 2) (hx:i=0->Q x G) (hy:i=1->Q y G):atS [x,y] i G Q:=by
  refine kDq ?_
  rcases (by omega:i=0\/i=1) with rfl | rfl
  . exact hx rfl
  . exact hy rfl
theorem at3 {x y z:D} {G:DV} {Q:DK} {i:Int} (h0:0<=i) (h1:i < 3) (hx:i=0->Q x G) (hy:i=1->Q y G) (hz:i=2->Q z G):atS [x,y,z] i G Q:=by
  refine kDq ?_
  rcases (by omega:i=0\/i=1\/i=2) with rfl | rfl | rfl
  . exact hx rfl
  . exact hy rfl
  . exact hz rfl
theorem at4 {x y z u:D} {G:DV} {Q:DK} {i:Int} (h0:0<=i) (h1:i < 4) (hx:i=0->Q x G) (hy:i=1->Q y G) (hz:i=2->Q z G) (hu:i=3->Q u G):atS [x,y,z,u] i G Q:=by
  refine kDq ?_
  rcases (by omega:i=0\/i=1\/i=2\/i=3) with rfl | rfl | rfl | rfl
  . exact hx rfl
  . exact hy rfl
  . exact hz rfl
  . exact hu rfl
section
variable {α:Type} {all:α->List (List Int × α)} {inn:α->List α}
theorem e5q {n:Nat} (h:n<=200000):n<=sizeLine:=by rw [sizeLine_eq];omega
theorem aXq {n:Nat} (h:n<=200000):n < sizeLine:=by rw [sizeLine_eq];omega
theorem up3 {G:DV} {p q:Addr} {x y z:DO} (h:p≠q):up (up (up G q x) p y) q z=up (up G q z) p y:=by
  rw [h4q h,bTq]
end
theorem eHq:∀ {ds:List D} {d:D},d∈ds->d.dp<=bNq ds
  | d::ds,e,m=>by
    rcases List.mem_cons.mp m with rfl | m
    . simp only [bNq];omega
    . have:=eHq m
      simp only [bNq];omega
theorem kFq {α β:Type} (f:α × α->β):∀ xs:List α,(xs.zip xs).map f=xs.map λ x=>f (x,x)
  | []=>rfl
  | x::xs=>by rw [List.zip_cons_cons,List.map_cons,List.map_cons,kFq f xs]
end L3
namespace L3
open PySem PyProof L2
section
variable {X:Cx}
variable {i:Nat} {T c:Addr} {name:Str} {params:Arguments} {body:List Stmt} {scope:Scope} {pos:Pos} {fr:List Str}
end
end L3
namespace L2
open PySem PySem.Spec PyProof.Rows
end L2
namespace L3
open PySem PyProof L2
section
variable {X:Cx} {k j:Nat} {name qual:Str} {st:Stmt} {fr:List Str} {vals:List D} {ps:List Str} {x:Str} {dsp:DSp} {p pos:Pos} {e:Expr} {es:List Expr} {t:DTA}
end
end L3
namespace L3
open PySem PyProof L2
section
variable {K:PySem.W.Frag} {H H':Hp}
end
section
variable {X:Cx} {e:Expr} {es:List Expr} {t:DTA} {p pos:Pos}
end
def FnAt (K:PySem.W.Frag) (x q:Str) (st:Stmt) (f:Addr) (cd:Value):Prop:=∃ (oc:Value) (od:Option Addr) (kV doc pm:Value) (an:Option Addr) (ct:Value) (osl:Array (Option Value)),
  K.lookup f=some ⟨oc,od,.func (PySem.W.fnOf x q (cIq st) (bMq st) (aAq st) .none kV doc pm an cd ct),osl⟩/\PySem.W.codeIn K cd q=true/\PySem.W.keepIn K (.ref f)=true
def DT (K:PySem.W.Frag) (x:Str) (st:Stmt):Prop:=∃ (f:Addr) (cd:Value),PySem.W.nsIn K mainGlobals x=some (some (.ref f))/\FnAt K x x st f cd
section
variable {K:PySem.W.Frag} {x m q:Str} {st:Stmt} {C c:Addr}
theorem DT.mk {f:Addr} {cd oc kV doc pm ct:Value} {od an:Option Addr} {osl:Array (Option Value)} (a:PySem.W.nsIn K mainGlobals x=some (some (.ref f))) (l:K.lookup f=some ⟨oc,od,.func (PySem.W.fnOf x x (cIq st) (bMq st) (aAq st) .none kV doc pm an cd ct),osl⟩) (k:PySem.W.codeIn K cd x=true) (p:PySem.W.keepIn K (.ref f)=true):DT K x st:=⟨f,cd,a,_,_,_,_,_,_,_,_,l,k,p⟩
theorem DT.ok (h:DT K x st):∃ (f:Addr) (fd:FuncData),PySem.W.nsIn K mainGlobals x=some (some (.ref f))/\Fun K x x st f fd:=
  let ⟨f,_,a,_,_,_,_,_,_,_,_,l,k,p⟩:=h;⟨f,_,a,vKq l k p⟩
end
end L3
namespace L3
open PySem PyProof L2
section
variable {K:PySem.W.Frag} {H:Hp}
end
section
variable {K:PySem.W.Frag} {G:DV} {H:Hp}
end
section
variable {X:Cx} {o e value:Expr} {es:List Expr} {f m:Str} {C:Addr} {pos pos' tpos apos p:Pos} {ta tv:DTE} {t:DTA}
end
end L3
namespace L2
open PySem PySem.Spec PyProof.Rows
section
variable {X:Cx} {e:Expr} {ta:TA} {p p2 pos pos2:Pos}
end
end L2
namespace L3
open PySem PyProof L2
section
variable {X:Cx} {e:Expr} {t:DTA} {p p2 pos pos2:Pos}
end
end L3
namespace L2
open PySem PySem.Spec PyProof.Rows
end L2
namespace L3
open PySem PyProof L2
end L3
namespace KSs
open PySem PyProof.Rows
end KSs
namespace KSs
open PySem PyProof.Rows
section
variable {prog:Program} {w:World} {A:Around} {E:Value->Shared->Prop} {s:Shared} {a:Addr} {es:Array (Int × Value)} {ep:Nat} {t:SetTable}
end
end KSs
namespace KSs
open PySem PyProof.Rows
section
variable {prog:Program} {w:World} {A:Around} {E:Value->Shared->Prop} {s:Shared}
end
end KSs
namespace KSs
open PySem PyProof.Rows
end KSs
namespace KSs
open PySem PyProof.Rows
section
variable {prog:Program} {w:World} {A:Around} {E:Value->Shared->Prop} {s:Shared} {a I T:Addr} {es:Array (Int × Value)} {ep:Nat} {t:SetTable}
end
end KSs
namespace KSs
open PySem PyProof.Rows
section
variable {prog:Program} {w:World} {A:Around} {E:Value->Shared->Prop} {s:Shared} {a I T:Addr} {es:Array (Int × Value)} {ep:Nat} {t:SetTable}
end
end KSs
namespace KSs
open PySem PyProof.Rows
section
variable {prog:Program} {w:World} {A:Around} {E:Value->Shared->Prop} {s:Shared} {a I T:Addr} {es:Array (Int × Value)} {ep:Nat} {t:SetTable}
end
end KSs
namespace KSs
open PySem PyProof.Rows
section
variable {prog:Program} {w:World} {A:Around} {E:Value->Shared->Prop} {s:Shared} {a:Addr} {es:Array (Int × Value)} {ep:Nat} {t:SetTable}
end
end KSs
namespace KSs
open PySem PyProof.Rows
section
variable {prog:Program} {w:World} {A:Around} {E:Value->Shared->Prop} {s:Shared} {a:Addr} {es:Array (Int × Value)} {ep:Nat} {t:SetTable}
end
end KSs
namespace L2
open PySem PySem.Spec PyProof.Rows
section
variable {X:Cx} {e:Expr} {te:TE} {p p2 pos pos2:Pos}
end
end L2
namespace L3
open PySem PyProof L2
section
variable {X:Cx} {e:Expr} {te:DTE} {p p2 pos pos2:Pos}
end
end L3
namespace L2
open PySem PySem.Spec PyProof.Rows
section
variable {X:Cx}
end
end L2
namespace L3
open PySem PyProof L2
section
variable {X:Cx}
end
end L3
namespace KSs
open PySem PyProof.Rows
section
variable {prog:Program} {w:World} {A:Around} {E:Value->Shared->Prop} {s:Shared} {a:Addr} {es:Array (Int × Value)} {ep:Nat} {t:SetTable}
end
end KSs
namespace KSs
open PySem PyProof.Rows
end KSs
namespace KSs
open PySem PyProof.Rows
section
variable {prog:Program} {w:World} {A:Around} {E:Value->Shared->Prop} {s:Shared} {a:Addr} {es:Array (Int × Value)} {ep:Nat} {t:SetTable}
end
end KSs
namespace KSs
open PySem PyProof.Rows
section
variable {prog:Program} {w:World} {A:Around} {E:Value->Shared->Prop} {s:Shared} {a o:Addr} {es eo:Array (Int × Value)} {ep po:Nat} {t to:SetTable}
end
end KSs
namespace KSs
open PySem PyProof.Rows
section
variable {prog:Program} {w:World} {A:Around} {E:Value->Shared->Prop} {s:Shared} {a o:Addr} {es eo:Array (Int × Value)} {ep po:Nat} {t to:SetTable}
end
end KSs
namespace L2
open PySem PySem.Spec PyProof.Rows
section
variable {X:Cx} {e e2:Expr} {te te2:TE} {p p2 p3 pos pos2 pos3 bpos:Pos}
end
end L2
namespace L3
open PySem PyProof L2
section
variable {X:Cx} {e e2:Expr} {te te2:DTE} {p p2 p3 pos pos2 pos3 bpos:Pos}
end
end L3
namespace L3
open PySem PyProof L2
section
variable {K:PySem.W.Frag} {H:Hp} {G:DV}
end
section
variable {X:Cx} {o i e value:Expr} {pos pos' tpos:Pos} {td ti tv:DTE}
end
end L3
namespace L2
open PySem PySem.Spec PyProof.Rows
section
variable {X:Cx}
end
end L2
namespace L3
open PySem PySem.Spec L2
section
variable {X:Cx} {a b c e f o i tg iter value:Expr} {x:Str} {ad C:Addr} {tab:Str->Option D} {ta tv te tf to ti:DTE} {pos pos' tpos p apos cpos:Pos}
theorem d5q {st:Stmt}:AS X st (λ _ _ _=>False):=⟨λ _ _ _=>False,⟨λ _ _ _ _ _ _ h=>h.elim⟩,λ DD Dc ρ G σ H B q F=>q.elim⟩
end
end L3
namespace L2
open PySem PySem.Spec PyProof.Rows
end L2
namespace L3
open PySem PySem.Spec L2
end L3
namespace L2
open PySem PySem.Spec PyProof.Rows
section
variable {X:Cx} {e st:Expr} {te:TE} {tk:TO} {pos p2:Pos}
theorem cTq:∀ {xs:List V} {us:List Value},Vals xs us->Vals xs.reverse us.reverse
  | _,_,.nil=>.nil
  | _,_,.cons r t=>by
    rw [List.reverse_cons,List.reverse_cons]
    exact (cTq t).append (.cons r .nil)
end
end L2
namespace L3
open PySem PySem.Spec L2
section
variable {X:Cx} {e st:Expr} {te:DTE} {tk:DTO} {pos p2:Pos}
end
end L3
namespace L2
open PySem PySem.Spec PyProof.Rows
section
variable {X:Cx}
def repS (i:Str) (n:Nat):Str:=⟨(List.replicate n i.cps.toList).flatten.toArray⟩
def rSlS:V->Option Int->Option Int->Hp->VK->Prop:=λ x lo hi H Q=>∃ z:Str,x=.str z/\z.length<=sizeLine/\Q (.str (Txt.slice z lo hi)) H
theorem uYq:SlR X rSlS:=by
  intro pins s σ H x v vl vu lo hi sl Q I rx hs pl pu h
  obtain ⟨z,rfl,hz,q⟩:=h
  obtain ⟨t,rfl⟩:=rx
  refine ⟨"str", _,F.slot_str_getitem.lookup,typeIs_str _ _ _,?_⟩
  have fin:∀ t' k,EP X pins σ Q (.str (Txt.slice z lo hi) t') { s with toks:=k }:=λ t' k=>⟨.str _,H,I.tok _,⟨_,rfl⟩,q⟩
  cases pl with
  | none=>cases pu with
    | none=>exact wpAny_getItem_str_slice (l:=none) (u:=none) (st:=none) hs rfl (post_val_or_str ⟨Nat.le_trans (Txt.slice_le z _ _) hz,fin⟩)
    | int j u=>exact wpAny_getItem_str_slice (l:=none) (u:=some (j,u)) (st:=none) hs rfl (post_val_or_str ⟨Nat.le_trans (Txt.slice_le z _ _) hz,fin⟩)
  | int i t0=>cases pu with
    | none=>exact wpAny_getItem_str_slice (l:=some (i,t0)) (u:=none) (st:=none) hs rfl (post_val_or_str ⟨Nat.le_trans (Txt.slice_le z _ _) hz,fin⟩)
    | int j u=>exact wpAny_getItem_str_slice (l:=some (i,t0)) (u:=some (j,u)) (st:=none) hs rfl (post_val_or_str ⟨Nat.le_trans (Txt.slice_le z _ _) hz,fin⟩)
end
end L2
namespace L3
open PySem PySem.Spec L2
section
variable {X:Cx}
def aI8q:DR2:=λ x y G Q=>match x,y with
  | .str z,.int n=>0<=n/\n<=1000/\z.length<=1000/\Q (.str (repS z n.toNat)) G
  | _,_=>False
def slSD:D->Option Int->Option Int->DV->DK->Prop:=λ x lo hi G Q=>match x with
  | .str z=>z.length<=sizeLine/\Q (.str (Txt.slice z lo hi)) G
  | _=>False
theorem aslS:ASl X slSD:=by
  refine ⟨_,⟨uYq⟩,λ x vx lo hi G H DQ Q v ax r F=>?_⟩
  cases x with
  | str z=>cases ax;exact ⟨z,rfl,r.1,F (.str (Txt.slice z lo hi)) G _ H (.refl v) rfl r.2⟩
  | _=>exact (show False from r).elim
def s4q:D->DV->Prop:=λ x _=>match x with
  | .str _=>True
  | _=>False
theorem k1q {K:PySem.W.Frag} {x:D} {v:V} {G:DV} {H:Hp} (ax:Abs K H x v) (h:s4q x G):tyV K "str" v H:=by
  cases x with
  | str z=>cases ax;exact rfl
  | _=>exact (show False from h).elim
end
end L3
namespace L2
open PySem PySem.Spec PyProof.Rows
section
variable {X:Cx} {tg:Expr}
theorem hLq:MtR X "str.startswith" (λ x xs H Q=>∃ z y:Str,x=.str z/\xs=[.str y]/\Q (.bl (Txt.startswith z y)) H):=by
  intro pins s σ H x xs v us Q I rx rv h
  obtain ⟨z,y,rfl,rfl,q⟩:=h
  obtain ⟨t,rfl⟩:=rx
  obtain ⟨u,rfl,ru⟩:=rv.one
  obtain ⟨t',rfl⟩:=ru
  exact PySem.SC.startswith ⟨.bl _,H,I,rfl,q⟩
theorem iAq:∀ {ys:List Str} {us:List Value},Vals (ys.map V.str) us->StrsAre us ys
  | [],_,h=>by cases h;exact .nil
  | y::ys,_,h=>by
    cases h with
    | cons r rr=>
      obtain ⟨t,rfl⟩:=r
      exact .cons _ _ (iAq rr)
theorem s2q (K:PySem.W.Frag) (hK:K=X.K):MtR X "str.join" (λ x xs H Q=>∃ (z:Str) (l:Addr) (ys:List Str),x=.str z/\xs=[.ref l]/\SqL K H l (ys.map V.str)/\z.length<=16/\(ys.map (·.length)).sum+ys.length<=1048576/\Q (.str (Txt.join z ys)) H):=by
  subst hK
  intro pins s σ H x xs v us Q I rx rv h
  obtain ⟨z,l,ys,rfl,rfl,hl,hz,hw,q⟩:=h
  obtain ⟨t,rfl⟩:=rx
  obtain ⟨u,rfl,ru⟩:=rv.one
  cases ru
  obtain ⟨its,r,p,_⟩:=I.list hl
  exact PyProof.Rows.join_listW p.isList (by simpa using iAq r) hz hw λ t' k=>⟨.str _,H,I.tok _,⟨_,rfl⟩,q⟩
def Its (z:Str):It:=⟨λ i _=>i < z.length,λ i H x H'=>H'=H/\∃ c,z.cps[i]?=some c/\x=.str ⟨#[c]⟩,λ i _=>z.length<=i⟩
theorem pXq {P:Program} {w:World} {K:PySem.W.Frag} {tg:Expr} (it:Addr) (z:Str) (t:Tok) (ty:String) (hty:ty = "str_ascii_iterator"\/ty = "str_iterator"):Turn P w K tg (Its z) [it] it (λ i h=>i<=z.length/\h.IsStrIter it ty z t i) where
  mem:=by simp
  obj:=λ i h st b hb=>by
    have e:b=it:=by simpa using hb
    subst e
    obtain ⟨_,o,e,c,d⟩:=st
    exact ⟨o,e,λ v z=>by rw [d] at z;cases z⟩
  keep:=λ i h h' st k=>⟨st.1,let ⟨o,ho,r⟩:=st.2;⟨o,k it (by simp) o ho,r⟩⟩
  item:=by
    intro X hP hw hK hc i pins s σ H E I hf st hg
    subst hP hw hK
    obtain ⟨f0,f1,f2,f3,f4,f5⟩:=hf it (by simp)
    have W:Walks X.prog X.w X.A it [it] [it] z.cps.size (SignAt z) (λ i h=>h.IsStrIter it ty z t i):=by
      rcases hty with rfl | rfl
      . exact Walks.strAscii (I.ok.hd hc) it z t
      . exact Walks.strWide (I.ok.hd hc) it z t
    refine W.item i s _ _ hg st.2 λ v h' tk hv st' kk=>?_
    obtain ⟨c,u,hc',rfl⟩:=hv
    have I1:Inv X pins σ H { s with heap:=h',toks:=tk }:=I.turned (λ b o hb e=>kk b o (by simpa using hb) e) f0 f1 f3 f4 f5
    obtain ⟨o,e,c1,d⟩:=id st'
    refine ⟨_,rfl,nZq (s:={ s with heap:=h',toks:=tk }) e c1 d (by rcases hty with rfl | rfl<;>decide) ⟨.str ⟨#[c]⟩,H,I1,⟨u,rfl⟩,⟨rfl,c,hc',rfl⟩,⟨hg,st'⟩,λ b hb=>(hf b hb).1⟩⟩
  done:=by
    intro X hP hw hK hc i pins s σ H E I hf st hg
    subst hP hw hK
    obtain ⟨f0,f1,f2,f3,f4,f5⟩:=hf it (by simp)
    have W:Walks X.prog X.w X.A it [it] [it] z.cps.size (SignAt z) (λ i h=>h.IsStrIter it ty z t i):=by
      rcases hty with rfl | rfl
      . exact Walks.strAscii (I.ok.hd hc) it z t
      . exact Walks.strWide (I.ok.hd hc) it z t
    have hi:i=z.cps.size:=Nat.le_antisymm st.1 hg
    subst hi
    exact W.done s _ _ st.2 λ h' tk kk=>⟨rfl,I.turned (λ b o hb e=>kk b o (by simpa using hb) e) f0 f1 f3 f4 f5⟩
  self:=λ _ _ _ _ _ st h=>by
    rcases hty with rfl | rfl
    . exact wpAny_pyIter_striter_ascii st.2 h
    . exact wpAny_pyIter_striter_wide st.2 h
theorem uZq {l:Expr} {tl:TE} (hl:PE X l tl):PI X tg l (λ σ H R=>tl σ H λ x H1=>∃ z,x=.str z/\R (Its z) H1):=by
  intro pins s σ H R I h
  refine thn (hl pins s σ H _ I h) λ v s1 ⟨x,H1,I1,r1,q1⟩=>?_
  obtain ⟨z,rfl,q⟩:=q1
  obtain ⟨t,rfl⟩:=r1
  have fin:∀ ty:String,(ty = "str_ascii_iterator"\/ty = "str_iterator")->PIE X pins σ tg R (.ref s1.heap.objs.size) { s1 with heap:=s1.heap.push { cls:=.type ty,data:=.fields #[.str z t,.int 0 0] } }:=λ ty hty=>by
    refine ⟨s1.heap.objs.size,[s1.heap.objs.size],_,_,H1,rfl,I1.kept (t':=s1.toks) λ b o e=>Heap.get?_push_of_some _ e,pXq _ z t ty hty,⟨Nat.zero_le _,_,Heap.get?_push_size _ rfl,rfl,rfl⟩,λ b hb=>?_,q⟩
    have e:b=s1.heap.objs.size:=by simpa using hb
    subst e
    exact I1.fpOk (Nat.le_refl _) (I1.hok.fresh (Nat.le_refl _))
  cases ha:z.cps.all (· < 128)
  . exact wpAny_pyIter_wide ha (fin _ (.inr rfl))
  . exact wpAny_pyIter_ascii ha (fin _ (.inl rfl))
end
section
variable {X:Cx} {tg:Expr}
end
section
variable {X:Cx}
end
end L2
namespace L3
open PySem PySem.Spec L2
section
variable {X:Cx} {tg a b c:Expr} {ta tb tc:DTE} {pos p:Pos}
abbrev aE6q (ad:Addr) (tab:Str->Option D):DR2:=λ x y G Q=>match x with
  | .str z=>y=.ref ad/\Q (.bl (!(tab z).isSome)) G
  | _=>False
def gDq (z:Str):List D:=z.cps.toList.map λ c=>.str ⟨#[c]⟩
abbrev aA8q (ta:DTE):DTI:=λ ρ G R=>ta ρ G λ x G1=>match x with
  | .str z=>R ⟨gDq z,λ _=>True⟩ G1
  | _=>False
theorem v9q {K:PySem.W.Frag} {z:Str} {G1:DV} {H1:Hp} (v:Vw K G1 H1) :
    (∀ (i:Nat) (d:D),(gDq z)[i]?=some d->(Its z).go i H1/\∀ x H',(Its z).yld i H1 x H'->Go K G1 H1 G1 H'/\Abs K H' d x)/\∀ i,(gDq z).length<=i->(Its z).stop i H1:=by
  refine ⟨λ i d hd=>?_,λ i hi=>?_⟩
  . unfold gDq at hd
    rw [List.getElem?_map] at hd
    cases hc:z.cps.toList[i]? with
    | none=>rw [hc] at hd;cases hd
    | some c=>
      rw [hc] at hd;cases hd
      have hi:=(List.getElem?_eq_some_iff.mp hc).1
      refine ⟨hi,λ x H' y=>?_⟩
      obtain ⟨rfl,c',e,rfl⟩:=y
      have e':z.cps.toList[i]?=some c':=by simpa using e
      rw [hc] at e';cases e'
      exact ⟨.refl v,rfl⟩
  . unfold gDq at hi
    rw [List.length_map] at hi
    exact hi
theorem vCq (ha:AE X a ta):AI X tg a (aA8q ta):=by
  obtain ⟨ca,ja,ra⟩:=ha.run
  refine ⟨_,⟨uZq ja.run⟩,λ ρ G DR σ H R B q F=>ra ρ G _ σ H _ B q λ x G1 v H1 g1 ax q1=>?_⟩
  cases x with
  | str z=>cases ax;exact ⟨z,rfl,F ⟨gDq z,λ _=>True⟩ _ G1 H1 g1 (λ G2 H2 g2 _=>v9q g2.vw) q1⟩
  | _=>exact (show False from q1).elim
abbrev uFq (r r':DR2) (ta tb tc:DTE):DTE:=λ ρ G Q=>ta ρ G λ x G1=>tb ρ G1 λ y G2=>r x y G2 λ z G3=>blD z λ k=>Br k (tc ρ G3 λ w G4=>r' y w G4 Q) (Q (.bl false) G3)
theorem pNq {op op':CmpOp} {r r':DR2} (ho:AOp X (compareOp op) r) (ho':AOp X (compareOp op') r') (ha:AE X a ta) (hb:AE X b tb) (hc:AE X c tc) (hm:lastMarks [op,op'] [b,c]=false:=by with_unfolding_all rfl):AT X (.Compare a [op,op'] [b,c] pos) (u9q (uFq r r' ta tb tc)):=by
  obtain ⟨ca,ja,ra⟩:=ha.run
  obtain ⟨cb,jb,rb⟩:=hb.run
  obtain ⟨cc,jc,rc⟩:=hc.run
  obtain ⟨co,jo,uo⟩:=ho.run
  obtain ⟨co',jo',uo'⟩:=ho'.run
  refine ⟨_,⟨p1q jo.run jo'.run ja.run jb.run jc.run hm⟩,λ ρ G DQ σ H Q B q F=>ra ρ G _ σ H _ B q λ x G1 v H1 g1 ax q1=>rb ρ G1 _ σ H1 _ (B.go g1) q1 λ y G2 u H2 g2 ay q2=>uo x y v u G2 H2 _ _ g2.vw (ax.mono g2.tup) ay q2 λ z G3 vz H3 g3 az q3=>?_⟩
  cases z with
  | bl k=>
    cases az
    refine ⟨k,rfl,?_⟩
    cases k with
    | true=>
      rw [if_pos rfl]
      refine rc ρ G3 _ σ H3 _ (((B.go g1).go g2).go g3) (q3.1 rfl) λ w G4 vw H4 g4 aw q4=>uo' y w u vw G4 H4 _ _ g4.vw ((ay.mono g3.tup).mono g4.tup) aw q4 λ z5 G5 v5 H5 g5 a5 q5=>?_
      cases z5 with
      | bl k5=>cases a5;exact ⟨k5,rfl,F k5 G5 H5 ((((g1.trans g2).trans g3).trans g4).trans g5) q5⟩
      | _=>exact (show False from q5).elim
    | false=>rw [if_neg (by decide)];exact ⟨false,rfl,F false G3 H3 ((g1.trans g2).trans g3) (q3.2 rfl)⟩
  | _=>exact (show False from q3).elim
def lNq:D->List D->DV->DK->Prop:=λ x xs G Q=>match x,xs with
  | .str z,[.str y]=>Q (.bl (Txt.startswith z y)) G
  | _,_=>False
theorem s9q {K:PySem.W.Frag} {H:Hp} {xs:List D} {vs:List V} {y:Str} (e:xs=[.str y]) (al:AbsL K H xs vs):vs=[.str y]:=by
  subst e
  obtain ⟨u,r',e,a,l⟩:=al
  subst e
  cases a
  cases (show r'=[] from l)
  rfl
theorem cZq:AMt X "str" "str.startswith" s4q lNq:=by
  refine ⟨_,⟨hLq⟩,λ x v G H _ ax h=>k1q ax h,λ x xs vx vs G H DQ Q v ax al r F=>?_⟩
  unfold lNq at r
  split at r
  . next z y=>cases ax;exact ⟨z,y,rfl,s9q rfl al,F (.bl _) G _ H (.refl v) rfl r⟩
  . exact r.elim
theorem AbsL.strs {K:PySem.W.Frag} {H:Hp} {ys:List Str}:∀ {vs:List V},AbsL K H (ys.map D.str) vs->vs=ys.map V.str:=by
  induction ys with
  | nil=>intro vs h;exact h
  | cons n ns ih=>rintro vs ⟨v,r,e,q,l⟩;subst e;rw [ih l,show v=V.str n from q];rfl
def xQq:D->List D->DV->DK->Prop:=λ x xs G Q=>match x,xs with
  | .str z,[.ref l]=>onL G l λ ds=>∃ ys:List Str,ds=ys.map D.str/\z.length<=16/\(ys.map (·.length)).sum+ys.length<=1048576/\Q (.str (Txt.join z ys)) G
  | _,_=>False
theorem kJq:AMt X "str" "str.join" s4q xQq:=by
  refine ⟨_,⟨s2q X.K rfl⟩,λ x v G H _ ax h=>k1q ax h,λ x xs vx vs G H DQ Q v ax al r F=>?_⟩
  unfold xQq at r
  split at r
  . next z l=>
    cases ax
    obtain ⟨u,r',e,a,e2⟩:=al
    subst e
    cases a
    cases (show r'=[] from e2)
    obtain ⟨ds,ws,⟨ys,rfl,h1,h2,q⟩,s,rl⟩:=b4q v r
    rw [rl.strs] at s
    exact ⟨z,l,ys,rfl,rfl,s,h1,h2,F (.str _) G _ H (.refl v) rfl q⟩
  . exact r.elim
def r5q:D->DV->DK->Prop:=λ x G Q=>match x with
  | .int i=>i.natAbs.log2 < 1920/\Q (.str (toString i)) G
  | _=>False
theorem i9q:ACall X (.type "str") (oPq r5q):=by
  refine ⟨_,⟨iEq⟩,λ xs vs G H DQ Q v a r F=>?_⟩
  obtain ⟨x,u,rfl,rfl,ax,r⟩:=bXq r a
  cases x with
  | int i=>cases ax;exact ⟨i,rfl,r.1,F (.str _) G _ H (.refl v) rfl r.2⟩
  | _=>exact (show False from r).elim
end
end L3
namespace L2
open PySem PySem.Spec PyProof.Rows
end L2
namespace L3
open PySem L2
theorem lCq {p:Prop} (c:false=true):p:=nomatch c
theorem qWq {p:Prop} (c:true=false):p:=nomatch c
section
variable {C T:Addr} {tp:Pos} {G G':DV} {lp ld:Addr} {as:List Addr} {us:List Tm} {S:Sls} {rk:Addr->Nat} {told:Addr->Bool}
end
theorem Fx.kp {a b:Addr} {G G':DV} {u:DO} (h:Fx a G G') (n:b≠a) (e:G b=some u):G' b=some u:=by rw [h.other n];exact e
section
variable {C CM:Addr} {G G':DV} {a lm p:Addr} {c:Cf}
end
section
variable (C CM:Addr)
end
section
variable {c:Cf} {p q s a b:Tm} {i j:Int} {st:List Mk} {u v:Addr}
end
abbrev figs:Str:="0123456789"
def fPq (z y:Str):Bool:=z.cps.toList.all λ c=>decide (c∈y.cps.toList)
theorem oBq (y:Str) (c:Nat):(!(Builtin.Str.occurrences y ⟨#[c]⟩ 0 y.length 1).isEmpty)=decide (c∈y.cps.toList):=by
  rw [PyProof.Rows.empty_one,Bool.not_not]
def bare (z:Str):Str:=if Txt.startswith z "-" then Txt.slice z (some 1) none else z
def gXq:DSp:=λ ds G Q=>∃ z y:Str,ds=[.str z,.str y]/\z.length<=1000/\Q (.bl (fPq z y)) G
theorem cDq (z:Str) (c:Nat):Txt.startswith z ⟨#[c]⟩=(z.cps.toList.head?==some c):=by
  obtain ⟨a⟩:=z
  obtain ⟨l⟩:=a
  unfold Txt.startswith Builtin.Str.subAt Str.length
  cases l with
  | nil=>simp
  | cons x l=>
    simp
theorem dash:(("-" : String):Str)=⟨#[45]⟩:=by decide +kernel
theorem qGq:(("0" : String):Str)=⟨#[48]⟩:=by decide +kernel
theorem rEq (z:Str):(bare z).length<=z.length:=by
  unfold bare
  split
  . exact Txt.slice_le z _ _
  . exact Nat.le_refl _
section
variable (T:Addr) (pos:Pos) (T2:Addr) (pos2:Pos)
end
end L3
namespace L3
open PySem PySem.Spec L2 PySem.SeqAt
def h3q (e c:Nat->Bool) (fin:Bool):Nat->Nat->Bool
  | 0,_=>fin
  | k+1,i=>if e i then h3q e c fin k (i+1) else c i
def LtAt (A:Around) (s:Shared) (y x:Value) (b:Bool):Prop:=
  ∀ (prog:Program) (w:World) (E:Value->Shared->Prop) (Q:Value->Shared->Prop),Q (.bool b) s->wpAny (model prog w) A (richCompare .Lt y x) Q E s
open AutoSeq1 (wpAny_loadPart') in
theorem lIq (l b:Addr) (items items2:Array Value) (n n2:Nat) (dd dd2:Option Addr) (sl sl2:Array (Option Value)) (e c:Nat->Bool) :
    Meets (Builtin.«tuple.__lt__» ⟨[.ref l,.ref b],[]⟩)
      (λ A R s=>s.heap.get? l=some { cls:=.type "tuple", dict:=dd,data:=.seq items n,slots:=sl }/\s.heap.get? b=some { cls:=.type "tuple", dict:=dd2,data:=.seq items2 n2,slots:=sl2 } ∧
        (∀ j (h1:j < items.size) (h2:j < items2.size),EqAt A.in1 s items[j] items2[j] (e j)) ∧
        (∀ j (h1:j < items.size) (h2:j < items2.size),(∀ i,i < j->e i=true)->e j=false->LtAt A.in1 s items[j] items2[j] (c j)) ∧
        R (.ok (.ret (.bool (h3q e c (decide (items.size < items2.size)) (min items.size items2.size) 0)))) s):=
  .of_wp λ prog w A R s h=>by
    obtain ⟨hp,g,d,tk,os⟩:=s;obtain ⟨hl,hb,he,hc,h⟩:=h
    have f2:=AutoSeq1.sub_tuple_tuple
    have hZ:(items.toList.zip items2.toList).length=min items.size items2.size:=by simp
    wp_walk using wpAny_loadPart' hl,wpAny_loadPart' hb,wpAny_forIn_list _ (λ rest b s'=>b.1=none/\s'=⟨hp,g,d,tk,os⟩/\∃ i,rest=(items.toList.zip items2.toList).drop i/\(∀ k,k < i->e k=true) ∧
      R (.ok (.ret (.bool (h3q e c (decide (items.size < items2.size)) (min items.size items2.size - i) i)))) ⟨hp,g,d,tk,os⟩) _
    case turn=>
      rintro ⟨y,x⟩ rest b s' ⟨hb',rfl,i,hz,hk,hR⟩
      have hlt:i < (items.toList.zip items2.toList).length:=by
        rcases Nat.lt_or_ge i (items.toList.zip items2.toList).length with h' | h'
        . exact h'
        . rw [List.drop_of_length_le h'] at hz;cases hz
      have hm:i < min items.size items2.size:=hZ ▸ hlt
      have h1:i < items.size:=Nat.lt_of_lt_of_le hm (Nat.min_le_left _ _)
      have h2:i < items2.size:=Nat.lt_of_lt_of_le hm (Nat.min_le_right _ _)
      rw [List.drop_eq_getElem_cons hlt] at hz
      injection hz with hyx hrest
      have hy:y=items[i]:=by have:=congrArg Prod.fst hyx;simpa using this
      have hx:x=items2[i]:=by have:=congrArg Prod.snd hyx;simpa using this
      subst hy hx
      rw [show min items.size items2.size - i=(min items.size items2.size - (i+1))+1 by omega,h3q] at hR
      refine wpAny_bind (he i h1 h2 prog w _ _ ?_)
      cases hy:e i with
      | true=>
        rw [hy] at hR
        wp_walk
        exact ⟨rfl,rfl,i+1,hrest,λ k hk'=>by rcases Nat.lt_succ_iff_lt_or_eq.mp hk' with z | rfl;exact hk k z;exact hy,by simpa using hR⟩
      | false=>
        rw [hy,if_neg (by decide)] at hR
        simp only [Bool.not_false,if_true]
        refine wpAny_bind (wpAny_rule (wpAny_bind (hc i h1 h2 hk hy prog w _ _ ?_)))
        wp_walk
        exact ⟨_,rfl,hR⟩
    case fin=>
      rintro ⟨b1,b2⟩ s' ⟨hb',rfl,i,hz,hk,hR⟩
      simp only at hb'
      subst hb'
      have hge:min items.size items2.size<=i:=by
        rcases Nat.lt_or_ge i (items.toList.zip items2.toList).length with h' | h'
        . rw [List.drop_eq_getElem_cons h'] at hz;cases hz
        . exact hZ ▸ h'
      rw [show min items.size items2.size - i=0 by omega,h3q] at hR
      wp_walk
      exact ⟨_,rfl,by simpa [Builtin.Tuple.tupleCompareSizes] using hR⟩
    case h=>
      exact ⟨rfl,rfl,0,rfl,by simp,by simpa using h⟩
theorem LtAt.tuples {A:Around} {s:Shared} {l b:Addr} {items items2:Array Value} {e c:Nat->Bool} (hl:s.heap.IsTuple l items) (hb:s.heap.IsTuple b items2) (hu:A.units < cLine)
    (he:∀ j (h1:j < items.size) (h2:j < items2.size),EqAt A.in1 s items[j] items2[j] (e j))
    (hc:∀ j (h1:j < items.size) (h2:j < items2.size),(∀ i,i < j->e i=true)->e j=false->LtAt A.in1 s items[j] items2[j] (c j)) :
    LtAt A s (.ref l) (.ref b) (h3q e c (decide (items.size < items2.size)) (min items.size items2.size) 0):=λ prog w E Q h=>by
  obtain ⟨⟨cls,dd,data,sl⟩,ho,hc1,n,hd⟩:=id hl
  obtain ⟨⟨cls2,dd2,data2,sl2⟩,ho2,hc2,n2,hd2⟩:=id hb
  simp only at hc1 hd hc2 hd2
  subst hc1 hd hc2 hd2
  exact richCompare_meets_room (op:=.Lt) ⟨_,ho,rfl⟩ ⟨_,ho2,rfl⟩ F.slot_tuple_lt F.entry_tuple_lt (F.args_tuple_lt_2 _ _) (lIq l b items items2 n n2 dd dd2 sl sl2 e c)
    ⟨ho,ho2,he,hc,show Value.bool _≠Value.notImplemented/\Q _ s from ⟨(λ x=>nomatch x),h⟩⟩ hu
mutual
def ltD:D->D->Option Bool
  | .int i,.int j=>some (decide (i < j))
  | .str a,.str b=>some (decide (a.cps.toList < b.cps.toList))
  | .tup ds,.tup es=>bAq ds es
  | _,_=>none
def bAq:List D->List D->Option Bool
  | [],es=>some (decide (0 < es.length))
  | _::_,[]=>some false
  | d::ds,e::es=>if eqD d e then bAq ds es else ltD d e
end
theorem g3q (e c:Nat->Bool) (fin:Bool):∀ n i,h3q e c fin n (i+1)=h3q (λ k=>e (k+1)) (λ k=>c (k+1)) fin n i
  | 0,_=>rfl
  | n+1,i=>by rw [h3q,h3q,g3q e c fin n (i+1)]
theorem kNq (d e:D) (ds es:List D):(λ k=>eqJ (d::ds) (e::es) (k+1))=eqJ ds es:=by funext j;simp [eqJ]
theorem nKq {b:Bool}:∀ {ds es:List D},bAq ds es=some b->h3q (eqJ ds es) (λ _=>b) (decide (ds.length < es.length)) (min ds.length es.length) 0=b
  | [],es,h=>by
    rw [bAq] at h
    simp only [List.length_nil,Nat.zero_min,h3q]
    exact Option.some.inj h
  | _::_,[],h=>by
    rw [bAq] at h
    simp only [List.length_nil,Nat.min_zero,h3q]
    cases h;simp
  | d::ds,e::es,h=>by
    rw [bAq] at h
    rw [List.length_cons,List.length_cons,Nat.succ_min_succ,h3q,g3q,kNq,show eqJ (d::ds) (e::es) 0=eqD d e from rfl]
    by_cases c:eqD d e=true
    . rw [if_pos c] at h ⊢
      have z:=nKq h
      simpa using z
    . rw [if_neg c]
theorem n8q {b:Bool}:∀ {ds es:List D} {j:Nat},bAq ds es=some b->j < ds.length->j < es.length->(∀ i,i < j->eqJ ds es i=true)->eqJ ds es j=false->∃ d e,ds[j]?=some d/\es[j]?=some e/\ltD d e=some b
  | [],_,_,_,h,_,_,_=>by simp at h
  | _::_,[],_,_,_,h,_,_=>by simp at h
  | d::ds,e::es,0,h,_,_,_,hj=>by
    rw [bAq,if_neg (by rw [show eqD d e=false from hj];decide)] at h
    exact ⟨d,e,rfl,rfl,h⟩
  | d::ds,e::es,j+1,h,h1,h2,hi,hj=>by
    rw [bAq,if_pos (show eqD d e=true from hi 0 (by omega))] at h
    have e1:=kNq d e ds es
    obtain ⟨d',e',g1,g2,g3⟩:=n8q (ds:=ds) (es:=es) (j:=j) h (by simpa using h1) (by simpa using h2) (λ i hlt=>by rw [<- e1];exact hi (i+1) (by omega)) (by rw [<- e1];exact hj)
    exact ⟨d',e',g1,g2,g3⟩
section
variable {X:Cx} {pins:List (Addr × Obj)} {σ:L2.St} {H:Hp} {s:Shared}
mutual
theorem w2q (I:Inv X pins σ H s):∀ (d e:D) (b:Bool) (A:Around) (x y:V) (u v:Value),d.data=true->e.data=true->Abs X.K H d x->Abs X.K H e y->RelV x u->RelV y v->A.units+d.dp < cLine->ltD d e=some b->LtAt A s u v b
  | .tup ds,e,b,A,x,y,u,v,hd,he,ax,ay,ru,rv,hu,hb=>by
    obtain ⟨es,rfl⟩:∃ es,e=.tup es:=by cases e<;>first | exact ⟨_,rfl⟩ | (simp [ltD] at hb)
    obtain ⟨a,vs,rfl,s1,r1⟩:=ax
    cases ru
    obtain ⟨its,rr,t1,_⟩:=I.tuple s1
    obtain ⟨a2,us,rfl,s2,r2⟩:=ay
    cases rv
    obtain ⟨its2,rr2,t2,_⟩:=I.tuple s2
    have l1:=rr.length
    have l2:=rr2.length
    have l3:=r1.len
    have l4:=r2.len
    rw [ltD] at hb
    simp only [D.dp] at hu
    simp only [D.data] at hd he
    have z:=LtAt.tuples (A:=A) (e:=eqJ ds es) (c:=λ _=>b) t1 t2 (by omega) (λ j h1 h2=>by
      have q:=dQq I ds es A.in1 vs us its its2 hd he r1 r2 rr rr2 (by show A.units+1+bNq ds < cLine;omega) j (by simpa using h1) (by simpa using h2)
      simpa using q) (λ j h1 h2 hi hj=>by
      have j1:j < its.length:=by simpa using h1
      have j2:j < its2.length:=by simpa using h2
      obtain ⟨d,e,g1,g2,g3⟩:=n8q hb (by omega) (by omega) hi hj
      have q:=n9q I ds es A.in1 vs us its its2 hd he r1 r2 rr rr2 (by show A.units+1+bNq ds < cLine;omega) j j1 j2 d e b g1 g2 g3
      simpa using q)
    have ez:h3q (eqJ ds es) (λ _=>b) (decide (its.toArray.size < its2.toArray.size)) (min its.toArray.size its2.toArray.size) 0=b:=by
      rw [List.size_toArray,List.size_toArray,<- l1,<- l2,l3,l4];exact nKq hb
    rw [ez] at z
    exact z
  | .int i,e,b,A,x,y,u,v,_,_,ax,ay,ru,rv,_,hb=>by
    obtain ⟨j,rfl⟩:∃ j,e=.int j:=by cases e<;>first | exact ⟨_,rfl⟩ | (simp [ltD] at hb)
    cases ax;cases ay
    obtain ⟨t,rfl⟩:=ru
    obtain ⟨t',rfl⟩:=rv
    rw [ltD] at hb;cases hb
    exact λ prog w E Q h=>PyProof.Rows.lt_int h
  | .str i,e,b,A,x,y,u,v,_,_,ax,ay,ru,rv,_,hb=>by
    obtain ⟨j,rfl⟩:∃ j,e=.str j:=by cases e<;>first | exact ⟨_,rfl⟩ | (simp [ltD] at hb)
    cases ax;cases ay
    obtain ⟨t,rfl⟩:=ru
    obtain ⟨t',rfl⟩:=rv
    rw [ltD] at hb;cases hb
    exact λ prog w E Q h=>PyProof.Rows.lt_str h
  | .non,e,b,A,x,y,u,v,_,_,_,_,_,_,_,hb=>by simp [ltD] at hb
  | .bl _,e,b,A,x,y,u,v,_,_,_,_,_,_,_,hb=>by simp [ltD] at hb
  | .ref _,e,b,A,x,y,u,v,h,_,_,_,_,_,_,_=>by simp [D.data] at h
  | .ty _,e,b,A,x,y,u,v,h,_,_,_,_,_,_,_=>by simp [D.data] at h
  | .frl _,e,b,A,x,y,u,v,h,_,_,_,_,_,_,_=>by simp [D.data] at h
theorem n9q (I:Inv X pins σ H s):∀ (ds es:List D) (A:Around) (vs us:List V) (its its2:List Value),aTq ds=true->aTq es=true->AbsL X.K H ds vs->AbsL X.K H es us->Vals vs its->Vals us its2->A.units+bNq ds < cLine →
    ∀ j (h1:j < its.length) (h2:j < its2.length) d e b,ds[j]?=some d->es[j]?=some e->ltD d e=some b->LtAt A s its[j] its2[j] b
  | [],es,A,vs,us,its,its2,_,_,_,_,_,_,_,j,h1,h2,d,e,b,g1,_,_=>by cases g1
  | _::_,[],A,vs,us,its,its2,_,_,_,_,_,_,_,j,h1,h2,d,e,b,_,g2,_=>by cases g2
  | d0::ds,e0::es,A,vs,us,its,its2,hd,he,⟨v,r,e,q,t⟩,⟨v',r',e',q',t'⟩,rr,rr2,hu,j,h1,h2,d1,e1,b,g1,g2,g3=>by
    subst e e'
    cases rr with
    | cons r1 rt=>
      cases rr2 with
      | cons r2 rt2=>
        simp only [bNq] at hu
        simp only [aTq,Bool.and_eq_true] at hd he
        cases j with
        | zero=>
          cases g1;cases g2
          exact w2q I d0 e0 b A _ _ _ _ hd.1 he.1 q q' r1 r2 (by omega) g3
        | succ j=>
          have z:=n9q I ds es A _ _ _ _ hd.2 he.2 t t' rt rt2 (by omega) j (by simpa using h1) (by simpa using h2) d1 e1 b g1 g2 g3
          simpa using z
end
end
end L3
namespace L2
open PySem PySem.W PyProof.Rows
def kGood (n:Nat) {α:Type} (P:α->Prop):KasT α->Prop
  | .ret a=>P a
  | .ask i j k=>i < n/\j < n/\∀ b,kGood n P (k b)
theorem kGood.mono {n:Nat} {α:Type} {P R:α->Prop} (h:∀ a,P a->R a):∀ {t:KasT α},kGood n P t->kGood n R t
  | .ret a,g=>h a g
  | .ask _ _ k,g=>⟨g.1,g.2.1,λ b=>kGood.mono h (g.2.2 b)⟩
theorem kGood.bind {n:Nat} {α β:Type} {P:α->Prop} {R:β->Prop} {f:α->KasT β} (h:∀ a,P a->kGood n R (f a)):∀ {t:KasT α},kGood n P t->kGood n R (t.bind f)
  | .ret a,g=>h a g
  | .ask _ _ k,g=>⟨g.1,g.2.1,λ b=>kGood.bind h (g.2.2 b)⟩
theorem kGood.wp {n:Nat} {α:Type} {P:α->Prop} {cmp:Nat->Nat->(Bool->Shared->Prop)->Shared->Prop} {G:α->Shared->Prop} {s:Shared} {lt:Nat->Nat->Bool} (hc:∀ i j C,i < n->j < n->C (lt i j) s->cmp i j C s) (hG:∀ a,P a->G a s):∀ {t:KasT α},kGood n P t->t.kasWp cmp G s
  | .ret a,g=>hG a g
  | .ask i j k,g=>hc i j _ g.1 g.2.1 (kGood.wp hc hG (g.2.2 _))
abbrev Pm (n:Nat) (p:Array Nat):Prop:=p.toList.Perm (List.range n)
theorem bOq {n:Nat} {p:Array Nat} (h:Pm n p) (hn:0 < n) (k:Nat):p.getD k 0 < n:=by
  by_cases c:k < p.size
  . have e:p.getD k 0=p[k]:=by simp [Array.getD,c]
    rw [e]
    exact List.mem_range.mp (h.mem_iff.mp (Array.mem_toList_iff.mpr (Array.getElem_mem c)))
  . rw [show p.getD k 0=0 by simp [Array.getD,c]];exact hn
theorem d2q {n:Nat} {p:Array Nat} (h:Pm n p) (i j:Nat):Pm n (kas_rev p i j):=(Array.perm_iff_toList_perm.mp (mirror_perm p i j _)).trans h
theorem r1q {n:Nat} {p:Array Nat} (h:Pm n p) (i j:Nat):Pm n (bubble p i j):=(Array.perm_iff_toList_perm.mp (bubble_perm p i j)).trans h
section
variable {n:Nat} (hn:0 < n)
include hn
theorem hHq {p:Array Nat} (h:Pm n p):∀ f m,kGood n (λ _=>True) (kas_asc p f m)
  | 0,_=>trivial
  | f+1,m=>⟨bOq h hn _,bOq h hn _,λ b=>by cases b;exact hHq h f (m+1);exact trivial⟩
theorem dSq:∀ f p m q,Pm n p->kGood n (λ r:Array Nat × Nat × Nat=>Pm n r.1) (kas_desc f p m q)
  | 0,_,_,_,h=>h
  | f+1,p,m,q,h=>⟨bOq h hn _,bOq h hn _,λ b=>by
    cases b with
    | true=>
      by_cases c:q > 0
      . simp only [if_true,if_pos c];exact dSq f _ _ _ (d2q h _ _)
      . simp only [if_true,if_neg c];exact dSq f _ _ _ h
    | false=>exact ⟨bOq h hn _,bOq h hn _,λ d=>by cases d;exact dSq f _ _ _ h;exact h⟩⟩
theorem fZq {p:Array Nat} (h:Pm n p) (m nrem:Nat):kGood n (λ r:Nat × Array Nat=>Pm n r.2) (kas_tail3 m nrem p):=by
  unfold kas_tail3
  exact kGood.bind (R:=λ r:Nat × Array Nat=>Pm n r.2) (λ _ _=>by exact d2q h 0 m) (hHq hn (d2q h 0 m) _ _)
theorem dFq {p:Array Nat} (h:Pm n p) (m nrem:Nat):kGood n (λ r:Nat × Array Nat=>Pm n r.2) (kas_descPart m nrem p):=by
  refine kGood.bind (λ r hr=>?_) (dSq hn _ _ _ _ h)
  split
  . exact fZq hn (d2q hr _ _) _ _
  . exact fZq hn hr _ _
theorem l8q {p:Array Nat} (h:Pm n p) (nrem:Nat):kGood n (λ r:Nat × Array Nat=>Pm n r.2) (kas_count nrem p):=by
  refine kGood.bind (λ m _=>?_) (hHq hn h _ _)
  split
  . exact h
  . split
    . exact ⟨bOq h hn _,bOq h hn _,λ b=>by cases b;exact dFq hn (d2q h _ _) _ _;exact h⟩
    . exact dFq hn h _ _
theorem dWq {p:Array Nat} (h:Pm n p) (k:Nat):∀ f l r,kGood n (λ _=>True) (kas_place p k f l r)
  | 0,_,_=>trivial
  | f+1,l,r=>by
    rw [kas_place]
    split
    . exact trivial
    . exact ⟨bOq h hn _,bOq h hn _,λ b=>by cases b;exact dWq h k f _ _;exact dWq h k f _ _⟩
theorem kIq:∀ f p k,Pm n p->kGood n (Pm n) (kas_bin f p k)
  | 0,_,_,h=>h
  | f+1,_,k,h=>kGood.bind (λ _ _=>kIq f _ _ (r1q h _ _)) (dWq hn h k _ _ _)
theorem mMq:kGood n (Pm n) (kas_sort n):=by
  refine kGood.bind (λ r hr=>?_) (l8q hn (p:=List.toArray (List.range n)) (by exact .refl _) n)
  split
  . exact kIq hn _ _ _ hr
  . exact hr
end
theorem sMq {vs:List Value} {p:Array Nat} (h:Pm vs.length p):(p.toList.map λ i=>vs.getD i Value.none).Perm vs:=by
  have e:(List.range vs.length).map (λ i=>vs.getD i Value.none)=vs:=by
    apply List.ext_getElem
    . simp
    . intro i h1 h2
      simp [List.getD_eq_getElem?_getD,List.getElem?_eq_getElem h2]
  have:=h.map (λ i=>vs.getD i Value.none)
  rwa [e] at this
abbrev bCq (h:Heap) (a:Addr) (vs:List Value):Heap:=((h.update a (Obj.mapSeq λ _=>#[])).push (seqObj "tuple" vs.toArray 0)).push (seqObj "list" #[] 0)
section
variable {prog:Program} {w:World} {A:Around} {E:Value->Shared->Prop} {s:Shared}
theorem h7q {a:Addr} {vs:List Value} {n:Nat} {κ:SortKind} {lt:Nat->Nat->Bool} {P:PySem.Fin->Shared->Prop} (ho:s.heap.get? a=some (seqObj "list" vs.toArray n)) (h64:vs.length < 64)
    (hk:2<=vs.length->∀ Q:SortKind->Shared->Prop,Q κ { s with heap:=bCq s.heap a vs }->wpAny (model prog w) A (keyKind' vs.toArray) Q E { s with heap:=bCq s.heap a vs })
    (hc:∀ i j C,i < vs.length->j < vs.length->C (lt i j) { s with heap:=bCq s.heap a vs }->kas_ask prog w A κ vs i j C { s with heap:=bCq s.heap a vs })
    (h:∀ out:List Value,out.Perm vs->P (.done (.ret .none)) { s with heap:=sortedHeap s.heap a vs out.toArray }) :
    wpAny (model prog w) A (Builtin.«list.sort» ⟨[.ref a],[]⟩) P E s:=by
  rw [list_sort_plain]
  have ha:a < s.heap.objs.size:=Heap.lt_size ho
  refine wpAny_bind (listItems_at ho rfl ?_)
  refine wpAny_bind (listUpdate_at ho rfl ?_ (hsz:=by rw [List.size_toArray,sizeLine_eq];omega))
  obtain ⟨e1,ho1⟩:∃ e1,(s.heap.update a (Obj.mapSeq λ _=>#[])).get? a=some (seqObj "list" #[] e1):=⟨_,get?_update_seq ho (λ _=>#[])⟩
  refine wpAny_bind (seqEpoch_at ho1 rfl ?_)
  refine wpAny_bind (wpAny_newTuple ?_)
  refine wpAny_bind (wpAny_newList ?_)
  refine wpAny_holding ?_
  have ho6:(bCq s.heap a vs).get? a=some (seqObj "list" #[] e1):=by
    rw [Heap.get?_push_ne _ _ _ (by rw [size_push',Heap.size_update];exact Nat.ne_of_lt (Nat.lt_succ_of_lt ha)),Heap.get?_push_ne _ _ _ (by rw [Heap.size_update];exact Nat.ne_of_lt ha)]
    exact ho1
  show wpAny (model prog w) A _ P E { s with heap:=bCq s.heap a vs }
  dsimp only
  have hsz:vs.toArray.size=vs.length:=by simp
  by_cases h2:vs.toArray.size < 2
  . rw [if_pos h2,if_pos h2]
    refine wpAny_bind (wpAny_pure ?_)
    rw [StateT.run_pure]
    refine wpAny_bind (wpAny_pure ?_)
    dsimp only
    refine wpAny_bind (seqEpoch_at ho6 rfl ?_)
    have eo:(arrOf (SortSt.mk' general' (vs.toArray.zip vs.toArray) #[] 7 none)).map (·.2)=vs.toArray:=by
      show (vs.toArray.zip vs.toArray).map (·.2)=vs.toArray
      apply Array.toList_inj.mp
      rw [Array.toList_map,Array.toList_zip,List.map_snd_zip (Nat.le_refl _)]
    rw [eo]
    refine wpAny_bind (listUpdate_at ho6 rfl ?_ (hsz2:=by show vs.toArray.size<=_;rw [hsz,sizeLine_eq];omega))
    simp only [bne_self_eq_false,Bool.false_eq_true,if_false]
    exact wpAny_pure (h vs (.refl _))
  . rw [if_neg h2,if_neg h2]
    have hl2:2<=vs.length:=by omega
    refine wpAny_bind (hk hl2 _ ?_)
    refine wpAny_bind (wpAny_mono (kat_run (ks:=vs) (vs:=vs) (Q:=λ st' s'=>s'={ s with heap:=bCq s.heap a vs }/\failedOf st'=none/\∃ out:List Value,out.Perm vs/\(arrOf st').map (·.2)=out.toArray) (G:=λ p s'=>s'={ s with heap:=bCq s.heap a vs }/\Pm vs.length p) rfl hl2 h64 (λ p st' s' _ har hf g=>⟨g.1,hf,_,sMq g.2,kat_snds rfl har⟩)
      (kGood.wp hc (λ p hp=>⟨rfl,hp⟩) (mMq (by omega)))) ?_ λ _ _ e=>e)
    rintro ⟨⟨⟩,st'⟩ s' ⟨rfl,hf,out,hp,eo⟩
    dsimp only at eo ⊢
    rw [eo]
    refine wpAny_bind (seqEpoch_at ho6 rfl ?_)
    refine wpAny_bind (listUpdate_at ho6 rfl ?_ (hsz2:=by show out.toArray.size<=_;rw [List.size_toArray,hp.length_eq,sizeLine_eq];omega))
    rw [hf]
    simp only [bne_self_eq_false,Bool.false_eq_true,if_false]
    exact wpAny_pure (h out hp)
end
abbrev eQq (h:Heap) (vs:List Value):Heap:=bCq (((h.push (seqObj "list" #[] 0)).update h.objs.size (Obj.mapSeq (·++vs.toArray))).push (seqObj "list" vs.toArray 0)) (h.objs.size+1) vs
section
variable {prog:Program} {w:World} {A:Around} {E:Value->Shared->Prop} {s:Shared}
theorem gBq {l:Addr} {vs:List Value} {κ:SortKind} {lt:Nat->Nat->Bool} {Q:Value->Shared->Prop} (hl:s.heap.IsList l vs.toArray) (h64:vs.length < 64)
    (hk:2<=vs.length->∀ (A:Around) (E:Value->Shared->Prop) (R:SortKind->Shared->Prop),R κ { s with heap:=eQq s.heap vs }->wpAny (model prog w) A (keyKind' vs.toArray) R E { s with heap:=eQq s.heap vs })
    (hc:∀ (A':Around) i j C,A'.units<=A.units+5->i < vs.length->j < vs.length->C (lt i j) { s with heap:=eQq s.heap vs }->kas_ask prog w A' κ vs i j C { s with heap:=eQq s.heap vs })
    (h:∀ out:List Value,out.Perm vs->Q (.ref (s.heap.objs.size+1)) { s with heap:=sortedAll s.heap vs out.toArray }) :
    wpAny (model prog w) A (call (.builtin "sorted") [.ref l]) Q E s:=by
  refine Calls.call_function_entry kind_sorted plain_sorted entry_sorted (args_sorted1 _) ?_
  unfold Builtin.«sorted»
  refine wpAny_bind (m:=checkCount "sorted" 1 1 _) (wpAny_pure ?_)
  refine wpAny_bind (collect_list hl ?_ (hsz:=by rw [sizeLine_eq];omega))
  refine wpAny_bind (wpAny_newList ?_)
  have hsz:((s.heap.push (seqObj "list" #[] 0)).update s.heap.objs.size (Obj.mapSeq (·++vs.toArray))).objs.size=s.heap.objs.size+1:=by
    rw [Heap.size_update,size_push']
  have hoL:(((s.heap.push (seqObj "list" #[] 0)).update s.heap.objs.size (Obj.mapSeq (·++vs.toArray))).push (seqObj "list" vs.toArray 0)).get? (s.heap.objs.size+1)=some (seqObj "list" vs.toArray 0):=by
    rw [<- hsz];exact Heap.get?_push_size _ rfl
  show wpAny _ _ _ _ _ { s with heap:=((s.heap.push (seqObj "list" #[] 0)).update s.heap.objs.size (Obj.mapSeq (·++vs.toArray))).push (seqObj "list" vs.toArray 0) }
  rw [hsz]
  refine wpAny_bind (wpAny_holding (wpAny_call_entry slot_list_sort ⟨_,hoL,rfl⟩ entry_list_sort (h7q (κ:=κ) (lt:=lt) hoL h64 (λ h2 R hR=>hk h2 _ _ R hR) (λ i j C hi hj hC=>hc _ i j C ?_ hi hj hC) λ out hp=>⟨_,rfl,?_⟩) (args_list_sort _)))
  . show A.units+1+1<=A.units+5
    omega
  exact wpAny_pure ⟨_,rfl,h out hp⟩
end
end L2
namespace L3
open PySem PySem.Spec PySem.W PyProof.Rows L2
section
variable {X:Cx} {pins:List (Addr × Obj)} {σ:L2.St} {H:Hp} {s:Shared}
theorem kRq (I:Inv X pins σ H s) {prog:Program} {w:World} {A:Around} {b fin r:Bool} {Q:Bool->Shared->Prop} (q:Q r s):∀ (ds es:List D) (vs us:List V) (its its2:List Value) (i:Nat),0 < i->aTq ds=true->aTq es=true->AbsL X.K H ds vs->AbsL X.K H es us->Vals vs its->Vals us its2->A.units+bNq ds < cLine->bAq ds es=some r->fin=decide (ds.length < es.length)->KatLex prog w A b fin Q (its.zip its2) i s
  | [],es,vs,us,its,its2,i,_,_,_,e,_,rr,_,_,h,hf=>by
    rw [show vs=[] from e] at rr;cases rr
    rw [bAq] at h
    have e1:fin=r:=by rw [hf];exact Option.some.inj h
    exact kat_nil (by rw [e1];exact q)
  | _::_,[],vs,us,its,its2,i,_,_,_,_,e,_,rr2,_,h,hf=>by
    rw [show us=[] from e] at rr2;cases rr2
    rw [bAq] at h
    have e1:fin=r:=by rw [hf];cases h;simp
    rw [List.zip_nil_right]
    exact kat_nil (by rw [e1];exact q)
  | d::ds,e::es,vs,us,its,its2,i,hi,hd,he,⟨v,r1,e1,q1,t1⟩,⟨v',r1',e1',q1',t1'⟩,rr,rr2,hu,h,hf=>by
    subst e1 e1'
    cases rr with
    | cons a1 rt=>
      cases rr2 with
      | cons a2 rt2=>
        simp only [bNq] at hu
        simp only [aTq,Bool.and_eq_true] at hd he
        rw [bAq] at h
        refine kat_cons (rMq I d e A _ _ _ _ hd.1 he.1 q1 q1' a1 a2 (by omega) prog w _ _ ?_)
        cases c:eqD d e with
        | true=>
          rw [if_pos c] at h
          exact kat_yes (kRq I q ds es _ _ _ _ (i+1) (by omega) hd.2 he.2 t1 t1' rt rt2 (by omega) h (by rw [hf];simp))
        | false=>
          rw [if_neg (by rw [c];decide)] at h
          refine kat_no ?_
          rw [show (b&&i==0)=false by rw [show (i==0)=false from by simp;omega];simp]
          exact kat_one _ _ (w2q I d e r A _ _ _ _ hd.1 he.1 q1 q1' a1 a2 (by omega) h prog w _ _ q)
theorem uJq (I:Inv X pins σ H s) {prog:Program} {w:World} {A:Around} {E:Value->Shared->Prop} {r:Bool} {Q:Bool->Shared->Prop} (q:Q r s) {z z2:Str} {ds es:List D} {x y:V} {u v:Value} (hd:aTq ds=true) (he:aTq es=true) (ax:Abs X.K H (.tup (.str z::ds)) x) (ay:Abs X.K H (.tup (.str z2::es)) y) (ru:RelV x u) (rv:RelV y v)
    (hu:A.units+bNq ds < cLine) (h:ltD (.tup (.str z::ds)) (.tup (.str z2::es))=some r):wpAny (model prog w) A (keyLt' (tuples' true) u v) Q E s:=by
  obtain ⟨a,vs,rfl,s1,r1⟩:=ax
  cases ru
  obtain ⟨its,rr,t1,_⟩:=I.tuple s1
  obtain ⟨a2,us,rfl,s2,r2⟩:=ay
  cases rv
  obtain ⟨its2,rr2,t2,_⟩:=I.tuple s2
  obtain ⟨o,ho,hc,n,hdt⟩:=id t1
  obtain ⟨o2,ho2,hc2,n2,hdt2⟩:=id t2
  rw [ltD,bAq] at h
  obtain ⟨v,r',e1,q1,t1'⟩:=r1
  obtain ⟨v2,r2',e2,q2,t2'⟩:=r2
  subst e1 e2
  cases q1;cases q2
  cases rr with
  | cons a1 rt=>
    cases rr2 with
    | cons a3 rt2=>
      obtain ⟨t,rfl⟩:=a1
      obtain ⟨t',rfl⟩:=a3
      have l1:=rt.length
      have l2:=rt2.length
      have l3:=t1'.len
      have l4:=t2'.len
      refine kat_lt ho hdt ho2 hdt2 ?_
      refine kat_cons (rMq I (.str z) (.str z2) A _ _ _ _ rfl rfl rfl rfl ⟨t,rfl⟩ ⟨t',rfl⟩ (by simp only [D.dp];omega) prog w _ _ ?_)
      cases c:eqD (.str z) (.str z2) with
      | true=>
        rw [if_pos c] at h
        exact kat_yes (kRq I q ds es _ _ _ _ 1 (by omega) hd he t1' t2' rt rt2 hu h (by simp;omega))
      | false=>
        rw [if_neg (by rw [c];decide),ltD] at h
        cases h
        exact kat_no (oneLt_str q)
end
def yZq (d:D):Prop:=∃ z r,d=.tup (.str z::r)/\aTq r=true/\bNq r<=150
section
variable {X:Cx} {pins:List (Addr × Obj)} {σ:L2.St} {H:Hp} {s:Shared}
theorem lOq (I:Inv X pins σ H s):∀ (ds:List D) (vs:List V) (its:List Value),(∀ d∈ds,yZq d)->AbsL X.K H ds vs->Vals vs its->∃ fs,KatTups s.heap its fs/\fs.length=its.length/\∀ v∈fs,∃ z t,v=Value.str z t
  | [],vs,its,_,e,rr=>by
    rw [show vs=[] from e] at rr;cases rr
    exact ⟨[],.nil,rfl,by simp⟩
  | d::ds,vs,its,hs,⟨v,r1,e1,q1,t1⟩,rr=>by
    subst e1
    cases rr with
    | cons a1 rt=>
      obtain ⟨fs,k1,k2,k3⟩:=lOq I ds _ _ (λ d h=>hs d (List.mem_cons_of_mem _ h)) t1 rt
      obtain ⟨z,r,rfl,-,-⟩:=hs d (List.mem_cons_self ..)
      obtain ⟨a,vs',rfl,s1,r2⟩:=q1
      cases a1
      obtain ⟨its',rr',t1',_⟩:=I.tuple s1
      obtain ⟨v2,r3,e2,q2,-⟩:=r2
      subst e2
      cases q2
      obtain ⟨o,ho,hc,n,hdt⟩:=id t1'
      cases rr' with
      | cons a2 rt2=>
        obtain ⟨t,rfl⟩:=a2
        exact ⟨_::fs,.cons ho hc hdt rfl k1,by simp [k2],λ v hv=>by
          rcases List.mem_cons.mp hv with rfl | hv
          . exact ⟨z,t,rfl⟩
          . exact k3 v hv⟩
theorem p6q (I:Inv X pins σ H s) {M:Model} {A:Around} {E:Value->Shared->Prop} {ds:List D} {vs:List V} {its:List Value} {R:SortKind->Shared->Prop} (hs:∀ d∈ds,yZq d) (ha:AbsL X.K H ds vs) (rr:Vals vs its) (hn:0 < its.length) (h:R (tuples' true) s):wpAny M A (keyKind' its.toArray) R E s:=by
  obtain ⟨fs,k1,k2,k3⟩:=lOq I ds vs its hs ha rr
  refine kat_kind (T:=.type "str") k1 (by omega) (λ v hv=>?_) rfl h
  obtain ⟨z,t,rfl⟩:=k3 v hv
  exact Looks.of_pure rfl
end
theorem iKq {h:Heap} {vs:List Value} {b:Addr} {o:Obj} (hb:h.get? b=some o):(eQq h vs).get? b=some o:=by
  have lb:b < h.objs.size:=Heap.lt_size hb
  have h1:(h.push (seqObj "list" #[] 0)).get? b=some o:=Heap.get?_push_of_some _ hb
  have h2:((h.push (seqObj "list" #[] 0)).update h.objs.size (Obj.mapSeq (·++vs.toArray))).get? b=some o:=by
    rw [Heap.get?_update_ne _ _ _ _ (Nat.ne_of_lt lb)];exact h1
  have h3:=Heap.get?_push_of_some (seqObj "list" vs.toArray 0) h2
  refine Heap.get?_push_of_some _ (Heap.get?_push_of_some _ ?_)
  rw [Heap.get?_update_ne _ _ _ _ (show b≠h.objs.size+1 from Nat.ne_of_lt (Nat.lt_succ_of_lt lb))];exact h3
section
variable {X:Cx}
end
inductive Kn where
  | is (n:Int)
  | some
  | both (a b:Kn)
namespace Kn
end Kn
def Tm.kn:Tm->Kn
  | .whole n=>.is n
  | .pair a b=>.both a.kn b.kn
  | _=>.some
def Tm.mkK:Tm->List Kn->Kn
  | .whole n,_=>.is n
  | .pair _ _,[x,y]=>.both x y
  | _,_=>.some
inductive IsK:D->Prop
  | is (n:Int):IsK (.tup [.str "is", .int n])
  | some:IsK (.tup [.str "some"])
  | both {a b:D}:IsK a->IsK b->IsK (.tup [.str "both", a,b])
  | left {a:D}:IsK a->IsK (.tup [.str "left", a])
  | right {a:D}:IsK a->IsK (.tup [.str "right", a])
  | way {ds:List D} {k:D}:(∀ d∈ds,IsK d)->IsK k->IsK (.tup [.str "way", .tup ds,k])
theorem eKq:∀ {ds:List D},(∀ d∈ds,d.data=true)->aTq ds=true
  | [],_=>rfl
  | d::ds,h=>by rw [aTq,h d (List.mem_cons_self ..),eKq λ e he=>h e (List.mem_cons_of_mem _ he)];rfl
theorem IsK.data {d:D} (h:IsK d):d.data=true:=by
  induction h with
  | is n=>rfl
  | some=>rfl
  | both _ _ h1 h2=>simp only [D.data,aTq,h1,h2];rfl
  | left _ h1=>simp only [D.data,aTq,h1];rfl
  | right _ h1=>simp only [D.data,aTq,h1];rfl
  | way _ _ h1 h2=>simp only [D.data,aTq,eKq h1,h2];rfl
theorem hSq:∀ {ds es:List D},(∀ d∈ds,∀ e∈es,(ltD d e).isSome=true)->(bAq ds es).isSome=true
  | [],_,_=>by rw [bAq];rfl
  | _::_,[],_=>by rw [bAq];rfl
  | d::ds,e::es,h=>by
    rw [bAq]
    split
    . exact hSq λ d hd e he=>h d (List.mem_cons_of_mem _ hd) e (List.mem_cons_of_mem _ he)
    . exact h d (List.mem_cons_self ..) e (List.mem_cons_self ..)
theorem d4q {z z2:Str} {ds es:List D} (h:z=z2->(bAq ds es).isSome=true):(ltD (.tup (.str z::ds)) (.tup (.str z2::es))).isSome=true:=by
  rw [ltD,bAq]
  split
  . next c=>exact h (by simpa [eqD] using c)
  . rw [ltD];rfl
theorem eOq {a b:D} {ds es:List D} (h:(ltD a b).isSome=true) (h2:(bAq ds es).isSome=true):(bAq (a::ds) (b::es)).isSome=true:=by
  rw [bAq];split
  . exact h2
  . exact h
theorem IsK.lt {d:D} (h:IsK d):∀ {e:D},IsK e->(ltD d e).isSome=true:=by
  induction h with
  | is n=>intro e he;cases he<;>refine d4q λ c=>?_<;>first | (exact absurd c (by decide)) | (exact eOq rfl rfl)
  | some=>intro e he;cases he<;>refine d4q λ c=>?_<;>first | (exact absurd c (by decide)) | rfl
  | both _ _ h1 h2=>intro e he;cases he<;>refine d4q λ c=>?_<;>first | (exact absurd c (by decide)) | exact eOq (h1 ‹_›) (eOq (h2 ‹_›) rfl)
  | left _ h1=>intro e he;cases he<;>refine d4q λ c=>?_<;>first | (exact absurd c (by decide)) | exact eOq (h1 ‹_›) rfl
  | right _ h1=>intro e he;cases he<;>refine d4q λ c=>?_<;>first | (exact absurd c (by decide)) | exact eOq (h1 ‹_›) rfl
  | way _ _ h1 h2=>
    intro e he
    cases he with
    | way g1 g2=>exact d4q λ _=>eOq (by rw [ltD];exact hSq λ d hd e he=>h1 d hd (g1 e he)) (eOq (h2 g2) rfl)
    | _=>exact d4q λ c=>absurd c (by decide)
theorem IsK.skey {d:D} (h:IsK d) (hd:d.dp<=150):yZq d:=by
  have hx:=h.data
  cases h<;>exact ⟨_,_,rfl,by simpa [D.data,aTq] using hx,by simp only [D.dp,bNq] at hd ⊢;omega⟩
def ofA (d:D):Bool:=match d with
  | .tup (.str z::_)=>z=="is"||z=="some"||z=="both"
  | _=>false
theorem IsK.head {d:D} (h:IsK d):∃ z r,d=.tup (.str z::r)/\r.length<=2:=by
  cases h<;>exact ⟨_,_,rfl,by simp⟩
theorem vRq {ds:List D} {i:Int} {G:DV} {Q:DK} (h0:0<=i) (h1:i < ds.length) (h:∀ d∈ds,Q d G):atS ds i G Q:=by
  obtain ⟨n,rfl⟩:∃ n:Nat,i=n:=⟨i.toNat,by omega⟩
  have hl:n < ds.length:=by omega
  exact kDq (kVq (d:=ds[n]) (cPq (List.getElem?_eq_getElem hl)) (h _ (List.getElem_mem hl)))
theorem gGq {α:Type} (a:Addr) (en:α->D) (P:α->Prop) {J:DIt} {G1:DV} {g:DTG} {te:DTE} {nt:Nat} {cap:List Nat} {ρ:DSt} {Q:DK} (hz:J.items.length<=1000) (held:∀ G,J.held G) (hF:Fd G1 a)
    (turn:∀ d G (R:DK),Fd G a->(∀ x G',(∃ G0,Fx a G G0/\Sub G0 G')->P x->R (en x) G')->g d (f7q nt cap ρ) G λ ρ3 G3=>te ρ3 G3 R)
    (q:∀ (xs:List α) G',xs.length=J.items.length->(∀ x∈xs,P x)->Fx a G1 G'->∀ p,G' p=none->Q (.ref p) (up G' p (.lst (xs.map en)))):jQq g te nt cap ρ Q J G1:=by
  refine jSq (λ i ds G'=>∃ xs:List α,ds=xs.map en/\xs.length=i/\(∀ x∈xs,P x)/\Fx a G1 G') (aXq (by omega)) ⟨[],rfl,rfl,by simp,.refl hF⟩ (λ _ _ _ _ _=>held _) ?_ ?_
  . rintro i d ds G' hd ⟨xs,rfl,hxl,hx,u⟩
    refine turn d G' _ u.fd λ x G2 ⟨G0,u2,s2⟩ hp=>⟨G0,s2,xs++[x],by simp,by simp [hxl],λ y hy=>?_,u.trans u2⟩
    rcases List.mem_append.mp hy with hy | hy
    . exact hx y hy
    . simp at hy;subst hy;exact hp
  . rintro ds G' ⟨xs,rfl,hxl,hx,u⟩ p hp
    exact q xs G' hxl hx u p hp
theorem h2q {n:Nat}:∀ {ds:List D},(∀ d∈ds,d.dp<=n)->bNq ds<=n
  | [],_=>Nat.zero_le _
  | d::ds,h=>by
    have h1:=h d (List.mem_cons_self ..)
    have h2:=h2q λ e he=>h e (List.mem_cons_of_mem _ he)
    rw [bNq];omega
theorem vMq (z:Str):inL (.str z) [.str "is", .str "some", .str "both"]=(z=="is"||z=="some"||z=="both"):=by
  have e:∀ a b:Str,(a==b)=(b==a):=λ a b=>by rw [Bool.eq_iff_iff,beq_iff_eq,beq_iff_eq];exact eq_comm
  simp only [inL,List.any_cons,List.any_nil,eqF,Bool.or_false]
  rw [e "is" z,e "some" z,e "both" z,Bool.or_assoc]
theorem t4q {ds:List D} {x:D} {i:Nat} {P:D->Prop} (h:∀ d∈ds,P d) (hx:P x):∀ d∈ds.set i x,P d:=λ d hd=>by
  rcases List.mem_or_eq_of_mem_set hd with h1 | rfl
  . exact h d h1
  . exact hx
theorem pJq {a:Addr} {G G1 G0 G9:DV} (h:∀ b o,b≠a->G b=some o->G1 b=some o) (u:Fx a G1 G0) (s:Sub G0 G9):∃ G0,Fx a G G0/\Sub G0 G9:=by
  obtain ⟨x,y,rfl⟩:=u
  refine ⟨_,.mk (x:=x) (y:=y),λ b o e=>?_⟩
  by_cases c:b=a
  . subst c;rw [a4q] at e;exact s _ _ (by rw [a4q];exact e)
  . rw [aMq c] at e;exact s _ _ (by rw [aMq c];exact h b o c e)
end L3
namespace L2
open PySem PySem.W PyProof.Rows
def kEv (n:Nat) (lt:Nat->Nat->Bool) {α:Type} (P:α->Prop):KasT α->Prop
  | .ret a=>P a
  | .ask i j k=>i < n/\j < n/\kEv n lt P (k (lt i j))
theorem kEv.bind {n:Nat} {lt:Nat->Nat->Bool} {α β:Type} {P:α->Prop} {R:β->Prop} {f:α->KasT β} (h:∀ a,P a->kEv n lt R (f a)):∀ {t:KasT α},kEv n lt P t->kEv n lt R (t.bind f)
  | .ret a,g=>h a g
  | .ask _ _ k,g=>⟨g.1,g.2.1,kEv.bind h g.2.2⟩
theorem kEv.mono {n:Nat} {lt:Nat->Nat->Bool} {α:Type} {P R:α->Prop} (h:∀ a,P a->R a):∀ {t:KasT α},kEv n lt P t->kEv n lt R t
  | .ret a,g=>h a g
  | .ask _ _ k,g=>⟨g.1,g.2.1,kEv.mono h g.2.2⟩
theorem kEv.wp {n:Nat} {α:Type} {P:α->Prop} {cmp:Nat->Nat->(Bool->Shared->Prop)->Shared->Prop} {G:α->Shared->Prop} {s:Shared} {lt:Nat->Nat->Bool} (hc:∀ i j C,i < n->j < n->C (lt i j) s->cmp i j C s) (hG:∀ a,P a->G a s):∀ {t:KasT α},kEv n lt P t->t.kasWp cmp G s
  | .ret a,g=>hG a g
  | .ask i j k,g=>hc i j _ g.1 g.2.1 (kEv.wp hc hG g.2.2)
structure Swo (lt:Nat->Nat->Bool):Prop where
  irr:∀ a,lt a a=false
  neg:∀ a b c,lt a b=false->lt b c=false->lt a c=false
  asy:∀ a b,lt a b=true->lt b a=false
abbrev gt (p:Array Nat) (i:Nat):Nat:=p.getD i 0
def Up' (lt:Nat->Nat->Bool) (p:Array Nat) (k:Nat):Prop:=∀ i j,i < j->j < k->lt (gt p j) (gt p i)=false
def Dn' (lt:Nat->Nat->Bool) (p:Array Nat) (k:Nat):Prop:=∀ i j,i < j->j < k->lt (gt p i) (gt p j)=false
theorem nJq {p q:Array Nat} {i j:Nat} (h:p[i]?=q[j]?):gt p i=gt q j:=by
  unfold gt;rw [Array.getD_eq_getD_getElem?,Array.getD_eq_getD_getElem?,h]
section
variable {n:Nat} (hn:0 < n) {lt:Nat->Nat->Bool} (O:Swo lt)
include hn O
theorem n7q {p:Array Nat} {m:Nat} (hm:1<=m) (h:Up' lt p m) (c:lt (gt p m) (gt p (m - 1))=false):Up' lt p (m+1):=λ i j hij hj=>by
  by_cases e:j=m
  . subst e
    by_cases e2:i=j - 1
    . subst e2;exact c
    . exact O.neg _ _ _ c (h i (j - 1) (by omega) (by omega))
  . exact h i j hij (by omega)
theorem qOq {p:Array Nat} (hp:Pm n p):∀ f m,1<=m->Up' lt p m->kEv n lt (λ r=>Up' lt p r/\m<=r/\r<=m+f) (kas_asc p f m)
  | 0,m,_,h=>⟨h,Nat.le_refl _,by omega⟩
  | f+1,m,hm,h=>by
    refine ⟨bOq hp hn _,bOq hp hn _,?_⟩
    cases c:lt (p.getD m 0) (p.getD (m - 1) 0) with
    | true=>exact ⟨h,Nat.le_refl _,by omega⟩
    | false=>exact kEv.mono (λ r ⟨h1,h2,h3⟩=>⟨h1,by omega,by omega⟩) (qOq hp f (m+1) (by omega) (n7q hn O hm h c))
theorem hOq {p:Array Nat} (hp:Pm n p) {k:Nat} (hk:Up' lt p k):∀ f l r,l<=r->r<=k->r - l<=f->(∀ i,i < l->lt (gt p k) (gt p i)=false)->(∀ i,r<=i->i < k->lt (gt p k) (gt p i)=true) →
    kEv n lt (λ m=>m<=k/\(∀ i,i < m->lt (gt p k) (gt p i)=false)/\∀ i,m<=i->i < k->lt (gt p k) (gt p i)=true) (kas_place p k f l r)
  | 0,l,r,h1,h2,h3,h4,h5=>by
    have e:l=r:=by omega
    subst e
    exact ⟨h2,h4,h5⟩
  | f+1,l,r,h1,h2,h3,h4,h5=>by
    rw [kas_place]
    split
    . next c=>
      have e:l=r:=by omega
      subst e
      exact ⟨h2,h4,h5⟩
    . next c=>
      refine ⟨bOq hp hn _,bOq hp hn _,?_⟩
      cases d:lt (p.getD k 0) (p.getD ((l+r) / 2) 0) with
      | true=>
        refine hOq hp hk f l ((l+r) / 2) (by omega) (by omega) (by omega) h4 λ i hi hik=>?_
        by_cases e:i=(l+r) / 2
        . subst e;exact d
        . have z:=hk ((l+r) / 2) i (by omega) hik
          cases w:lt (gt p k) (gt p i) with
          | true=>rfl
          | false=>exact absurd d (by rw [O.neg _ _ _ w z];decide)
      | false=>
        refine hOq hp hk f ((l+r) / 2+1) r (by omega) (by omega) (by omega) (λ i hi=>?_) h5
        by_cases e:i=(l+r) / 2
        . subst e;exact d
        . exact O.neg _ _ _ d (hk i ((l+r) / 2) (by omega) (by omega))
theorem wWq {p:Array Nat} {k m:Nat} (hs:k < p.size) (hm:m<=k) (h:Up' lt p k) (h4:∀ i,i < m->lt (gt p k) (gt p i)=false) (h5:∀ i,m<=i->i < k->lt (gt p k) (gt p i)=true):Up' lt (bubble p k (k - m)) (k+1):=by
  have e:∀ i,gt (bubble p k (k - m)) i=if i=m then gt p k else if m < i/\i<=k then gt p (i - 1) else gt p i:=λ i=>by
    have z:=getElem?_bubble hs (k - m) (by omega) i
    rw [show k - (k - m)=m by omega] at z
    by_cases c:i=m
    . rw [if_pos c] at z ⊢;exact nJq z
    . rw [if_neg c] at z ⊢
      by_cases d:m < i/\i<=k
      . rw [if_pos d] at z ⊢;exact nJq z
      . rw [if_neg d] at z ⊢;exact nJq z
  intro i j hij hj
  have low:∀ i,i < m->gt (bubble p k (k - m)) i=gt p i:=λ i hi=>by rw [e i,if_neg (by omega),if_neg (by omega)]
  have mid:gt (bubble p k (k - m)) m=gt p k:=by rw [e m,if_pos rfl]
  have high:∀ i,m < i->i<=k->gt (bubble p k (k - m)) i=gt p (i - 1):=λ i hi hk=>by rw [e i,if_neg (by omega),if_pos ⟨hi,hk⟩]
  rcases Nat.lt_trichotomy i m with c1 | c1 | c1
  . rw [low i c1]
    rcases Nat.lt_trichotomy j m with c2 | c2 | c2
    . rw [low j c2];exact h i j hij (by omega)
    . rw [c2,mid];exact h4 i c1
    . rw [high j c2 (by omega)];exact h i (j - 1) (by omega) (by omega)
  . subst c1
    rw [mid,high j hij (by omega)]
    exact O.asy _ _ (h5 (j - 1) (by omega) (by omega))
  . rw [high i c1 (by omega),high j (by omega) (by omega)]
    exact h (i - 1) (j - 1) (by omega) (by omega)
theorem q7q:∀ f (p:Array Nat) k,Pm n p->k+f=n->Up' lt p k->kEv n lt (λ q=>Pm n q/\Up' lt q n) (kas_bin f p k)
  | 0,p,k,hp,he,h=>⟨hp,by rw [<- he];exact h⟩
  | f+1,p,k,hp,he,h=>by
    refine kEv.bind (λ m ⟨h1,h2,h3⟩=>?_) (hOq hn O hp h k 0 k (by omega) (by omega) (by omega) (λ i hi=>by omega) (λ i hi hik=>by omega))
    have hsz:p.size=n:=by
      have:=hp.length_eq
      simpa using this
    exact q7q f _ (k+1) (r1q hp _ _) (by omega) (wWq hn O (by omega) h1 h h2 h3)
omit hn O in
theorem f6q {p:Array Nat} (h:Pm n p):p.size=n:=by
  have:=h.length_eq
  simpa using this
omit hn O in
theorem dHq {p:Array Nat} {i j k:Nat} (hj:j<=p.size):gt (kas_rev p i j) k=if i<=k/\k < j then gt p (i+j - 1 - k) else gt p k:=by
  have z:=getElem?_mirror_all (i:=i) hj k
  by_cases c:i<=k/\k < j
  . rw [if_pos c] at z ⊢;exact nJq z
  . rw [if_neg c] at z ⊢;exact nJq z
structure Fall (n:Nat) (lt:Nat->Nat->Bool) (p:Array Nat) (m q:Nat):Prop where
  pm:Pm n p
  dn:Dn' lt p m
  le:m<=n
  q1:q+1<=m
  al:∀ i,m - (q+1)<=i->i < m->lt (gt p (m - 1)) (gt p i)=false
omit hn in
theorem j2q {p:Array Nat} {m i:Nat} (h:Dn' lt p m) (hi:i < m):lt (gt p i) (gt p (m - 1))=false:=by
  by_cases c:i=m - 1
  . subst c;exact O.irr _
  . exact h i (m - 1) (by omega) (by omega)
omit hn in
theorem jVq {p:Array Nat} {m q:Nat} (F:Fall n lt p m q):Dn' lt (kas_rev p (m - (q+1)) m) m:=λ i j hij hj=>by
  have hs:m<=p.size:=by rw [f6q F.pm];exact F.le
  have hq:=F.q1
  rw [dHq hs,dHq hs]
  by_cases c2:m - (q+1)<=j/\j < m
  . rw [if_pos c2]
    by_cases c1:m - (q+1)<=i/\i < m
    . rw [if_pos c1]
      exact O.neg _ _ _ (j2q O F.dn (by omega)) (F.al _ (by omega) (by omega))
    . rw [if_neg c1]
      exact F.dn _ _ (by omega) (by omega)
  . rw [if_neg c2,if_neg (by omega)]
    exact F.dn i j hij hj
omit hn in
theorem hIq {p:Array Nat} {m:Nat} (h:Dn' lt p m) {x:Nat} (hx:∀ i,i < m->lt (gt p i) x=false) (e:gt p m=x):Dn' lt p (m+1):=λ i j hij hj=>by
  by_cases c:j=m
  . subst c;rw [e];exact hx i hij
  . exact h i j hij (by omega)
theorem hPq:∀ f p m q,m+f<=n->Fall n lt p m q->kEv n lt (λ r:Array Nat × Nat × Nat=>Fall n lt r.1 r.2.1 r.2.2) (kas_desc f p m q)
  | 0,p,m,q,_,F=>F
  | f+1,p,m,q,hf,F=>by
    have hq:=F.q1
    have hs:m<=p.size:=by rw [f6q F.pm];exact F.le
    refine ⟨bOq F.pm hn _,bOq F.pm hn _,?_⟩
    cases c:lt (p.getD m 0) (p.getD (m - 1) 0) with
    | true=>
      have below:∀ i,i < m->lt (gt p i) (gt p m)=false:=λ i hi=>O.neg _ _ _ (j2q O F.dn hi) (O.asy _ _ c)
      by_cases d:q > 0
      . simp only [if_true,if_pos d]
        have er:∀ i,gt (kas_rev p (m - (q+1)) m) i=if m - (q+1)<=i/\i < m then gt p (m - (q+1)+m - 1 - i) else gt p i:=λ i=>dHq hs
        refine hPq f _ (m+1) 0 (by omega) ⟨d2q F.pm _ _,hIq O (jVq O F) (x:=gt p m) (λ i hi=>?_) (by rw [er,if_neg (by omega)]),by omega,by omega,λ i h1 h2=>?_⟩
        . rw [er]
          split
          . exact below _ (by omega)
          . exact below _ hi
        . rw [show i=m+1 - 1 by omega];exact O.irr _
      . simp only [if_true,if_neg d]
        refine hPq f _ (m+1) 0 (by omega) ⟨F.pm,hIq O F.dn below rfl,by omega,by omega,λ i h1 h2=>?_⟩
        rw [show i=m+1 - 1 by omega];exact O.irr _
    | false=>
      refine ⟨bOq F.pm hn _,bOq F.pm hn _,?_⟩
      cases d:lt (p.getD (m - 1) 0) (p.getD m 0) with
      | true=>exact F
      | false=>
        refine hPq f _ (m+1) (q+1) (by omega) ⟨F.pm,hIq O F.dn (x:=gt p m) (λ i hi=>O.neg _ _ _ (j2q O F.dn hi) d) rfl,by omega,by omega,λ i h1 h2=>?_⟩
        rw [show m+1 - 1=m by omega]
        by_cases e:i=m
        . subst e;exact O.irr _
        . exact O.neg _ _ _ c (F.al i (by omega) (by omega))
omit hn in
theorem uXq {p:Array Nat} {m:Nat} (hs:m<=p.size) (h:Dn' lt p m):Up' lt (kas_rev p 0 m) m:=λ i j hij hj=>by
  rw [dHq hs,dHq hs,if_pos (by omega),if_pos (by omega)]
  exact h _ _ (by omega) (by omega)
theorem k8q {p:Array Nat} {m:Nat} (hp:Pm n p) (hm:m<=n) (h1:1<=m) (h:Dn' lt p m):kEv n lt (λ r:Nat × Array Nat=>Pm n r.2/\Up' lt r.2 r.1/\1<=r.1/\r.1<=n) (kas_tail3 m n p):=by
  unfold kas_tail3
  refine kEv.bind (P:=λ r=>Up' lt (kas_rev p 0 m) r/\m<=r/\r<=m+(n - m)) (R:=λ r:Nat × Array Nat=>Pm n r.2/\Up' lt r.2 r.1/\1<=r.1/\r.1<=n) (λ r ⟨a,b,c⟩=>?_) (qOq hn O (d2q hp 0 m) (n - m) m h1 (uXq O (by rw [f6q hp];exact hm) h))
  exact ⟨d2q hp 0 m,a,by omega,by omega⟩
theorem fHq {p:Array Nat} {m:Nat} (hp:Pm n p) (hm:m+1<=n) (h:Dn' lt p (m+1)):kEv n lt (λ r:Nat × Array Nat=>Pm n r.2/\Up' lt r.2 r.1/\1<=r.1/\r.1<=n) (kas_descPart m n p):=by
  refine kEv.bind (λ r F=>?_) (hPq hn O (n - (m+1)) p (m+1) 0 (by omega) ⟨hp,h,hm,by omega,λ i h1 h2=>by rw [show i=m+1 - 1 by omega];exact O.irr _⟩)
  have hq:=F.q1
  split
  . exact k8q hn O (d2q F.pm _ _) F.le (by omega) (jVq O F)
  . exact k8q hn O F.pm F.le (by omega) F.dn
theorem mCq {p:Array Nat} (hp:Pm n p):∀ f m,1<=m->Up' lt p m->kEv n lt (λ r=>(Up' lt p r/\m<=r/\r<=m+f)/\(r < m+f->lt (gt p r) (gt p (r - 1))=true)) (kas_asc p f m)
  | 0,m,_,h=>⟨⟨h,Nat.le_refl _,by omega⟩,λ z=>by omega⟩
  | f+1,m,hm,h=>by
    refine ⟨bOq hp hn _,bOq hp hn _,?_⟩
    cases c:lt (p.getD m 0) (p.getD (m - 1) 0) with
    | true=>exact ⟨⟨h,Nat.le_refl _,by omega⟩,λ _=>c⟩
    | false=>exact kEv.mono (λ r ⟨⟨h1,h2,h3⟩,h4⟩=>⟨⟨h1,by omega,by omega⟩,λ z=>h4 (by omega)⟩) (mCq hp f (m+1) (by omega) (n7q hn O hm h c))
theorem oXq {p:Array Nat} (hp:Pm n p):kEv n lt (λ r:Nat × Array Nat=>Pm n r.2/\Up' lt r.2 r.1/\1<=r.1/\r.1<=n) (kas_count n p):=by
  refine kEv.bind (λ m ⟨⟨h1,h2,h3⟩,h4⟩=>?_) (mCq hn O hp (n - 1) 1 (by omega) (λ i j hij hj=>by omega))
  split
  . exact ⟨hp,h1,by omega,by omega⟩
  . next c=>
    have c':m≠n:=λ e=>c (by simp [e])
    have hlast:=h4 (by omega)
    split
    . next d=>
      refine ⟨bOq hp hn _,bOq hp hn _,?_⟩
      cases w:lt (p.getD 0 0) (p.getD (m - 1) 0) with
      | true=>exact ⟨hp,h1,by omega,by omega⟩
      | false=>
        have hs:m<=p.size:=by rw [f6q hp];omega
        have up_l:∀ i,i < m->lt (gt p (m - 1)) (gt p i)=false:=λ i hi=>by
          by_cases e:i=m - 1
          . subst e;exact O.irr _
          . exact h1 i (m - 1) (by omega) (by omega)
        have up_f:∀ i,i < m->lt (gt p i) (gt p 0)=false:=λ i hi=>by
          by_cases e:i=0
          . subst e;exact O.irr _
          . exact h1 0 i (by omega) hi
        have dn0:Dn' lt (kas_rev p 0 m) m:=λ i j hij hj=>by
          rw [dHq hs,dHq hs,if_pos (by omega),if_pos (by omega)]
          exact h1 _ _ (by omega) (by omega)
        refine fHq hn O (d2q hp 0 m) (by omega) (hIq O dn0 (x:=gt p m) (λ i hi=>?_) (by rw [dHq hs,if_neg (by omega)]))
        rw [dHq hs,if_pos (by omega)]
        exact O.neg _ _ _ (O.neg _ _ _ (up_f _ (by omega)) w) (O.asy _ _ hlast)
    . next d=>
      have e:m=1:=by omega
      subst e
      refine fHq hn O hp (by omega) λ i j hij hj=>?_
      rw [show i=0 by omega,show j=1 by omega]
      exact O.asy _ _ hlast
theorem tAq:kEv n lt (λ q=>Pm n q/\Up' lt q n) (kas_sort n):=by
  refine kEv.bind (λ r ⟨h1,h2,h3,h4⟩=>?_) (oXq hn O (p:=List.toArray (List.range n)) (by exact .refl _))
  split
  . next c=>
    rw [show max r.1 1=r.1 by omega]
    exact q7q hn O (n - r.1) r.2 r.1 h1 (by omega) h2
  . next c=>
    have e:r.1=n:=by omega
    rw [e] at h2
    exact ⟨h1,h2⟩
end
end L2
namespace L2
open PySem PySem.W PyProof.Rows
theorem lGq (vs:List Value):(List.range vs.length).map (λ i=>vs.getD i Value.none)=vs:=by
  apply List.ext_getElem
  . simp
  . intro i h1 h2
    simp [List.getD_eq_getElem?_getD,List.getElem?_eq_getElem h2]
section
variable {prog:Program} {w:World} {A:Around} {E:Value->Shared->Prop} {s:Shared}
theorem hEq {a:Addr} {vs:List Value} {n:Nat} {κ:SortKind} {lt:Nat->Nat->Bool} {P:PySem.Fin->Shared->Prop} (ho:s.heap.get? a=some (seqObj "list" vs.toArray n)) (h64:vs.length < 64)
    (hk:2<=vs.length->∀ Q:SortKind->Shared->Prop,Q κ { s with heap:=bCq s.heap a vs }->wpAny (model prog w) A (keyKind' vs.toArray) Q E { s with heap:=bCq s.heap a vs })
    (hc:∀ i j C,i < vs.length->j < vs.length->C (lt i j) { s with heap:=bCq s.heap a vs }->kas_ask prog w A κ vs i j C { s with heap:=bCq s.heap a vs })
    (O:Swo lt) (h:∀ p:Array Nat,Pm vs.length p->Up' lt p vs.length->P (.done (.ret .none)) { s with heap:=sortedHeap s.heap a vs (p.toList.map λ i=>vs.getD i Value.none).toArray }) :
    wpAny (model prog w) A (Builtin.«list.sort» ⟨[.ref a],[]⟩) P E s:=by
  rw [list_sort_plain]
  have ha:a < s.heap.objs.size:=Heap.lt_size ho
  refine wpAny_bind (listItems_at ho rfl ?_)
  refine wpAny_bind (listUpdate_at ho rfl ?_ (hsz:=by rw [List.size_toArray,sizeLine_eq];omega))
  obtain ⟨e1,ho1⟩:∃ e1,(s.heap.update a (Obj.mapSeq λ _=>#[])).get? a=some (seqObj "list" #[] e1):=⟨_,get?_update_seq ho (λ _=>#[])⟩
  refine wpAny_bind (seqEpoch_at ho1 rfl ?_)
  refine wpAny_bind (wpAny_newTuple ?_)
  refine wpAny_bind (wpAny_newList ?_)
  refine wpAny_holding ?_
  have ho6:(bCq s.heap a vs).get? a=some (seqObj "list" #[] e1):=by
    rw [Heap.get?_push_ne _ _ _ (by rw [size_push',Heap.size_update];exact Nat.ne_of_lt (Nat.lt_succ_of_lt ha)),Heap.get?_push_ne _ _ _ (by rw [Heap.size_update];exact Nat.ne_of_lt ha)]
    exact ho1
  show wpAny (model prog w) A _ P E { s with heap:=bCq s.heap a vs }
  dsimp only
  have hsz:vs.toArray.size=vs.length:=by simp
  by_cases h2:vs.toArray.size < 2
  . rw [if_pos h2,if_pos h2]
    refine wpAny_bind (wpAny_pure ?_)
    rw [StateT.run_pure]
    refine wpAny_bind (wpAny_pure ?_)
    dsimp only
    refine wpAny_bind (seqEpoch_at ho6 rfl ?_)
    have eo:(arrOf (SortSt.mk' general' (vs.toArray.zip vs.toArray) #[] 7 none)).map (·.2)=vs.toArray:=by
      show (vs.toArray.zip vs.toArray).map (·.2)=vs.toArray
      apply Array.toList_inj.mp
      rw [Array.toList_map,Array.toList_zip,List.map_snd_zip (Nat.le_refl _)]
    rw [eo]
    refine wpAny_bind (listUpdate_at ho6 rfl ?_ (hsz2:=by show vs.toArray.size<=_;rw [hsz,sizeLine_eq];omega))
    simp only [bne_self_eq_false,Bool.false_eq_true,if_false]
    have z:=h (List.toArray (List.range vs.length)) (.refl _) (λ i j hij hj=>by omega)
    rw [show ((List.toArray (List.range vs.length)).toList.map λ i=>vs.getD i Value.none)=vs from lGq vs] at z
    exact wpAny_pure z
  . rw [if_neg h2,if_neg h2]
    have hl2:2<=vs.length:=by omega
    refine wpAny_bind (hk hl2 _ ?_)
    refine wpAny_bind (wpAny_mono (kat_run (ks:=vs) (vs:=vs) (Q:=λ st' s'=>s'={ s with heap:=bCq s.heap a vs }/\failedOf st'=none/\∃ p:Array Nat,Pm vs.length p/\Up' lt p vs.length/\(arrOf st').map (·.2)=(p.toList.map λ i=>vs.getD i Value.none).toArray) (G:=λ p s'=>s'={ s with heap:=bCq s.heap a vs }/\Pm vs.length p/\Up' lt p vs.length) rfl hl2 h64 (λ p st' s' _ har hf g=>⟨g.1,hf,p,g.2.1,g.2.2,kat_snds rfl har⟩)
      (kEv.wp hc (λ p hp=>⟨rfl,hp⟩) (tAq (by omega) O))) ?_ λ _ _ e=>e)
    rintro ⟨⟨⟩,st'⟩ s' ⟨rfl,hf,p,hp,hup,eo⟩
    dsimp only at eo ⊢
    rw [eo]
    refine wpAny_bind (seqEpoch_at ho6 rfl ?_)
    refine wpAny_bind (listUpdate_at ho6 rfl ?_ (hsz2:=by show (p.toList.map λ i=>vs.getD i Value.none).toArray.size<=_;rw [List.size_toArray,List.length_map,hp.length_eq,List.length_range,sizeLine_eq];omega))
    rw [hf]
    simp only [bne_self_eq_false,Bool.false_eq_true,if_false]
    exact wpAny_pure (h p hp hup)
theorem gAq {l:Addr} {vs:List Value} {κ:SortKind} {lt:Nat->Nat->Bool} {Q:Value->Shared->Prop} (hl:s.heap.IsList l vs.toArray) (h64:vs.length < 64)
    (hk:2<=vs.length->∀ (A:Around) (E:Value->Shared->Prop) (R:SortKind->Shared->Prop),R κ { s with heap:=eQq s.heap vs }->wpAny (model prog w) A (keyKind' vs.toArray) R E { s with heap:=eQq s.heap vs })
    (hc:∀ (A':Around) i j C,A'.units<=A.units+5->i < vs.length->j < vs.length->C (lt i j) { s with heap:=eQq s.heap vs }->kas_ask prog w A' κ vs i j C { s with heap:=eQq s.heap vs })
    (O:Swo lt) (h:∀ p:Array Nat,Pm vs.length p->Up' lt p vs.length->Q (.ref (s.heap.objs.size+1)) { s with heap:=sortedAll s.heap vs (p.toList.map λ i=>vs.getD i Value.none).toArray }) :
    wpAny (model prog w) A (call (.builtin "sorted") [.ref l]) Q E s:=by
  refine Calls.call_function_entry kind_sorted plain_sorted entry_sorted (args_sorted1 _) ?_
  unfold Builtin.«sorted»
  refine wpAny_bind (m:=checkCount "sorted" 1 1 _) (wpAny_pure ?_)
  refine wpAny_bind (collect_list hl ?_ (hsz:=by rw [sizeLine_eq];omega))
  refine wpAny_bind (wpAny_newList ?_)
  have hsz:((s.heap.push (seqObj "list" #[] 0)).update s.heap.objs.size (Obj.mapSeq (·++vs.toArray))).objs.size=s.heap.objs.size+1:=by
    rw [Heap.size_update,size_push']
  have hoL:(((s.heap.push (seqObj "list" #[] 0)).update s.heap.objs.size (Obj.mapSeq (·++vs.toArray))).push (seqObj "list" vs.toArray 0)).get? (s.heap.objs.size+1)=some (seqObj "list" vs.toArray 0):=by
    rw [<- hsz];exact Heap.get?_push_size _ rfl
  show wpAny _ _ _ _ _ { s with heap:=((s.heap.push (seqObj "list" #[] 0)).update s.heap.objs.size (Obj.mapSeq (·++vs.toArray))).push (seqObj "list" vs.toArray 0) }
  rw [hsz]
  refine wpAny_bind (wpAny_holding (wpAny_call_entry slot_list_sort ⟨_,hoL,rfl⟩ entry_list_sort (hEq (κ:=κ) (lt:=lt) hoL h64 (λ h2 R hR=>hk h2 _ _ R hR) (λ i j C hi hj hC=>hc _ i j C ?_ hi hj hC) O λ p hp hup=>⟨_,rfl,?_⟩) (args_list_sort _)))
  . show A.units+1+1<=A.units+5
    omega
  exact wpAny_pure ⟨_,rfl,h p hp hup⟩
end
end L2
namespace L3
open PySem L2
section
variable {S:D->Prop} (hd:∀ a,S a->a.data=true)
include hd
end
structure Std (x y:D):Prop where
  e1:eqD x y=true->x=y
  e2:eqD y x=true->x=y
  r1:eqD x x=true
  tri:x=y\/ltD x y=some true\/ltD y x=some true
theorem b6q {x y:D} {r r':List D} (h:Std x y) (t:x=y->r=r'\/bAq r r'=some true\/bAq r' r=some true):x::r=y::r'\/bAq (x::r) (y::r')=some true\/bAq (y::r') (x::r)=some true:=by
  by_cases c:x=y
  . subst c
    rcases t rfl with h1 | h1 | h1
    . exact .inl (by rw [h1])
    . exact .inr (.inl (by rw [bAq,if_pos h.r1];exact h1))
    . exact .inr (.inr (by rw [bAq,if_pos h.r1];exact h1))
  . rcases h.tri with h1 | h1 | h1
    . exact absurd h1 c
    . exact .inr (.inl (by rw [bAq,if_neg λ z=>c (h.e1 z)];exact h1))
    . exact .inr (.inr (by rw [bAq,if_neg λ z=>c (h.e2 z)];exact h1))
theorem bRq {x y z:D} {r r' r'':List D} (e1:eqD x y=true->x=y) (e2:eqD y z=true->y=z) (e3:eqD x z=true->x=z) (irr:ltD x x≠some true) (t:ltD x y=some true->ltD y z=some true->ltD x z=some true)
    (t2:x=y->y=z->bAq r r'=some true->bAq r' r''=some true->bAq r r''=some true) (a1:bAq (x::r) (y::r')=some true) (a2:bAq (y::r') (z::r'')=some true):bAq (x::r) (z::r'')=some true:=by
  rw [bAq] at a1 a2 ⊢
  by_cases c:eqD x y=true
  . have q:=e1 c
    subst q
    rw [if_pos c] at a1
    by_cases c2:eqD x z=true
    . rw [if_pos c2] at a2 ⊢;exact t2 rfl (e2 c2) a1 a2
    . rw [if_neg c2] at a2 ⊢;exact a2
  . rw [if_neg c] at a1
    by_cases c2:eqD y z=true
    . have q:=e2 c2
      subst q
      rw [if_neg c];exact a1
    . rw [if_neg c2] at a2
      have w:=t a1 a2
      rw [if_neg λ q=>by have q':=e3 q;subst q';exact irr w];exact w
theorem c3q (z z2:Str):Std (.str z) (.str z2):=by
  have e:∀ a b:Str,eqD (.str a) (.str b)=true->(D.str a)=.str b:=λ a b h=>by
    rw [eqD,beq_iff_eq] at h;rw [h]
  refine ⟨e z z2,λ h=>(e z2 z h).symm,by simp [eqD],?_⟩
  rw [ltD,ltD]
  rcases Nat.lt_trichotomy 0 0 with h | h | h
  . omega
  . by_cases c:z.cps.toList < z2.cps.toList
    . exact .inr (.inl (by simp [c]))
    . by_cases d:z2.cps.toList < z.cps.toList
      . exact .inr (.inr (by simp [d]))
      . have q:z.cps.toList=z2.cps.toList:=List.le_antisymm (List.not_lt.mp d) (List.not_lt.mp c)
        obtain ⟨⟨a⟩⟩:=z
        obtain ⟨⟨b⟩⟩:=z2
        simp at q;subst q
        exact .inl rfl
  . omega
theorem s0q {a b c:Str} (h1:ltD (.str a) (.str b)=some true) (h2:ltD (.str b) (.str c)=some true):ltD (.str a) (.str c)=some true:=by
  rw [ltD] at h1 h2 ⊢
  have z1:=of_decide_eq_true (Option.some.inj h1)
  have z2:=of_decide_eq_true (Option.some.inj h2)
  rw [decide_eq_true (List.lt_trans z1 z2)]
theorem t0q (a:Str):ltD (.str a) (.str a)≠some true:=by
  rw [ltD];simp
theorem f2q (m n:Int):Std (.int m) (.int n):=by
  have e:∀ a b:Int,eqD (.int a) (.int b)=true->(D.int a)=.int b:=λ a b h=>by
    rw [eqD,beq_iff_eq] at h;rw [h]
  refine ⟨e m n,λ h=>(e n m h).symm,by simp [eqD],?_⟩
  rw [ltD,ltD]
  rcases Int.lt_trichotomy m n with h | h | h
  . exact .inr (.inl (by simp [h]))
  . exact .inl (by rw [h])
  . exact .inr (.inr (by simp [h]))
theorem dAq:∀ {ds:List D},aTq ds=true->bAq ds ds=some false
  | [],_=>rfl
  | d::ds,h=>by
    rw [aTq,Bool.and_eq_true] at h
    rw [bAq,if_pos (bZq h.1)]
    exact dAq h.2
theorem xSq {d:D} {ds:List D} (e:d=.tup ds) (h:d.data=true):ltD d d=some false:=by
  subst e
  rw [ltD];exact dAq (by simpa [D.data] using h)
theorem IsK.irr {d:D} (h:IsK d):ltD d d=Option.some false:=by
  have z:=h.data
  cases h<;>exact xSq rfl z
theorem e1q {S:D->Prop}:∀ {ds es:List D},(∀ d∈ds,∀ e,S e->eqD d e=true->d=e)->(∀ e∈es,S e)->cNq ds es=true->ds=es
  | [],[],_,_,_=>rfl
  | [],_::_,_,_,h=>by rw [cNq] at h;cases h;all_goals simp
  | _::_,[],_,_,h=>by rw [cNq] at h;cases h;all_goals simp
  | d::ds,e::es,h1,h2,h=>by
    rw [cNq,Bool.and_eq_true] at h
    rw [h1 d (List.mem_cons_self ..) e (h2 e (List.mem_cons_self ..)) h.1,e1q (λ x hx=>h1 x (List.mem_cons_of_mem _ hx)) (λ x hx=>h2 x (List.mem_cons_of_mem _ hx)) h.2]
theorem eXq {z z2:Str} {r r':List D} (h:eqD (.tup (.str z::r)) (.tup (.str z2::r'))=true):z=z2/\cNq r r'=true:=by
  rw [eqD,cNq,Bool.and_eq_true] at h
  exact ⟨by simpa [eqD] using h.1,h.2⟩
theorem eWq {a b:D} {r r':List D} (h:cNq (a::r) (b::r')=true):eqD a b=true/\cNq r r'=true:=by
  rw [cNq,Bool.and_eq_true] at h;exact h
theorem IsK.eq1 {a:D} (h:IsK a):∀ b,IsK b->eqD a b=true->a=b:=by
  induction h with
  | is n=>
    intro b hb e;cases hb<;>obtain ⟨e1,e2⟩:=eXq e<;>first | (exact absurd e1 (by decide)) | skip
    obtain ⟨e3,-⟩:=eWq e2
    rw [(f2q _ _).e1 e3]
  | some=>intro b hb e;cases hb<;>obtain ⟨e1,e2⟩:=eXq e<;>first | (exact absurd e1 (by decide)) | rfl
  | both _ _ h1 h2=>
    intro b hb e;cases hb<;>obtain ⟨e1,e2⟩:=eXq e<;>first | (exact absurd e1 (by decide)) | skip
    obtain ⟨e3,e4⟩:=eWq e2
    rw [h1 _ ‹_› e3,h2 _ ‹_› (eWq e4).1]
  | left _ h1=>
    intro b hb e;cases hb<;>obtain ⟨e1,e2⟩:=eXq e<;>first | (exact absurd e1 (by decide)) | skip
    rw [h1 _ ‹_› (eWq e2).1]
  | right _ h1=>
    intro b hb e;cases hb<;>obtain ⟨e1,e2⟩:=eXq e<;>first | (exact absurd e1 (by decide)) | skip
    rw [h1 _ ‹_› (eWq e2).1]
  | way _ _ h1 h2=>
    intro b hb e
    cases hb with
    | way g1 g2=>
      obtain ⟨-,e2⟩:=eXq e
      obtain ⟨e3,e4⟩:=eWq e2
      rw [eqD] at e3
      rw [e1q h1 g1 e3,h2 _ g2 (eWq e4).1]
    | _=>exact absurd (eXq e).1 (by decide)
theorem IsK.std {a b:D} (h:IsK a) (hb:IsK b) (t:a=b\/ltD a b=Option.some true\/ltD b a=Option.some true):Std a b:=⟨h.eq1 b hb,λ e=>(hb.eq1 a h e).symm,bZq h.data,t⟩
theorem cSq {xs ys:List D} (h:xs=ys\/bAq xs ys=some true\/bAq ys xs=some true):D.tup xs=D.tup ys\/ltD (.tup xs) (.tup ys)=some true\/ltD (.tup ys) (.tup xs)=some true:=by
  rw [ltD,ltD]
  rcases h with h | h | h
  . exact .inl (by rw [h])
  . exact .inr (.inl h)
  . exact .inr (.inr h)
theorem kXq:∀ {ds es:List D},(∀ d∈ds,IsK d/\∀ b,IsK b->d=b\/ltD d b=some true\/ltD b d=some true)->(∀ e∈es,IsK e)->ds=es\/bAq ds es=some true\/bAq es ds=some true
  | [],[],_,_=>.inl rfl
  | [],e::es,_,_=>.inr (.inl (by rw [bAq];simp))
  | d::ds,[],_,_=>.inr (.inr (by rw [bAq];simp))
  | d::ds,e::es,h1,h2=>by
    obtain ⟨k,t⟩:=h1 d (List.mem_cons_self ..)
    have k2:=h2 e (List.mem_cons_self ..)
    exact b6q (k.std k2 (t e k2)) λ _=>kXq (λ x hx=>h1 x (List.mem_cons_of_mem _ hx)) (λ x hx=>h2 x (List.mem_cons_of_mem _ hx))
theorem IsK.tri {a:D} (h:IsK a):∀ b,IsK b->a=b\/ltD a b=Option.some true\/ltD b a=Option.some true:=by
  induction h with
  | is n=>intro b hb;cases hb<;>refine cSq (b6q (c3q _ _) λ e=>?_)<;>first | (exact absurd (D.str.inj e) (by decide)) | exact b6q (f2q _ _) λ _=>.inl rfl
  | some=>intro b hb;cases hb<;>refine cSq (b6q (c3q _ _) λ e=>?_)<;>first | (exact absurd (D.str.inj e) (by decide)) | exact .inl rfl
  | both k1 k2 h1 h2=>intro b hb;cases hb<;>refine cSq (b6q (c3q _ _) λ e=>?_)<;>first | (exact absurd (D.str.inj e) (by decide)) | exact b6q (k1.std ‹_› (h1 _ ‹_›)) λ _=>b6q (k2.std ‹_› (h2 _ ‹_›)) λ _=>.inl rfl
  | left k1 h1=>intro b hb;cases hb<;>refine cSq (b6q (c3q _ _) λ e=>?_)<;>first | (exact absurd (D.str.inj e) (by decide)) | exact b6q (k1.std ‹_› (h1 _ ‹_›)) λ _=>.inl rfl
  | right k1 h1=>intro b hb;cases hb<;>refine cSq (b6q (c3q _ _) λ e=>?_)<;>first | (exact absurd (D.str.inj e) (by decide)) | exact b6q (k1.std ‹_› (h1 _ ‹_›)) λ _=>.inl rfl
  | way k1 k2 h1 h2=>
    intro b hb
    cases hb with
    | way g1 g2=>
      refine cSq (b6q (c3q _ _) λ _=>b6q ⟨λ e=>?_,λ e=>?_,?_,cSq (kXq (λ d hd=>⟨k1 d hd,h1 d hd⟩) g1)⟩ λ _=>b6q (k2.std g2 (h2 _ g2)) λ _=>.inl rfl)
      . rw [eqD] at e;rw [e1q (λ d hd=>(k1 d hd).eq1) g1 e]
      . rw [eqD] at e;rw [e1q (λ d hd=>(g1 d hd).eq1) k1 e]
      . exact bZq (by rw [D.data];exact eKq λ d hd=>(k1 d hd).data)
    | _=>
      refine cSq (b6q (c3q _ _) λ e=>?_)
      exact absurd (D.str.inj e) (by decide)
theorem aRq {z z2 z3:Str} {r r2 r3:List D} (t2:z=z2->z2=z3->bAq r r2=some true->bAq r2 r3=some true->bAq r r3=some true) (a1:ltD (.tup (.str z::r)) (.tup (.str z2::r2))=some true) (a2:ltD (.tup (.str z2::r2)) (.tup (.str z3::r3))=some true):ltD (.tup (.str z::r)) (.tup (.str z3::r3))=some true:=by
  rw [ltD] at a1 a2 ⊢
  exact bRq (c3q _ _).e1 (c3q _ _).e1 (c3q _ _).e1 (t0q _) s0q (λ e1 e2=>t2 (D.str.inj e1) (D.str.inj e2)) a1 a2
theorem dZq {r:List D} (h:bAq [] []=some true):bAq [] r=some true:=by rw [bAq] at h;cases h
theorem kUq:∀ {ds es fs:List D},(∀ d∈ds,IsK d/\∀ b c,IsK b->IsK c->ltD d b=some true->ltD b c=some true->ltD d c=some true)->(∀ e∈es,IsK e)->(∀ f∈fs,IsK f)->bAq ds es=some true->bAq es fs=some true->bAq ds fs=some true
  | [],es,fs,_,_,_,_,h=>by
    rw [bAq]
    cases fs with
    | nil=>cases es with
      | nil=>rw [bAq] at h;exact h
      | cons _ _=>rw [bAq] at h;cases h
    | cons _ _=>simp
  | d::ds,[],fs,_,_,_,h,_=>by rw [bAq] at h;cases h
  | d::ds,e::es,[],_,_,_,_,h=>by rw [bAq] at h;cases h
  | d::ds,e::es,f::fs,h1,h2,h3,a1,a2=>by
    obtain ⟨k,t⟩:=h1 d (List.mem_cons_self ..)
    have k2:=h2 e (List.mem_cons_self ..)
    have k3:=h3 f (List.mem_cons_self ..)
    exact bRq (k.eq1 e k2) (k2.eq1 f k3) (k.eq1 f k3) (by rw [k.irr];simp) (t e f k2 k3) (λ _ _=>kUq (λ x hx=>h1 x (List.mem_cons_of_mem _ hx)) (λ x hx=>h2 x (List.mem_cons_of_mem _ hx)) λ x hx=>h3 x (List.mem_cons_of_mem _ hx)) a1 a2
theorem t8q {a:D} (h:IsK a):∀ b c,IsK b->IsK c->ltD a b=some true->ltD b c=some true->ltD a c=some true:=by
  induction h with
  | is n=>
    intro b c hb hc a1 a2
    cases hb<;>cases hc<;>refine aRq (λ e1 e2 b1 b2=>?_) a1 a2<;>first | (exact absurd e1 (by decide)) | (exact absurd e2 (by decide)) | skip
    refine bRq (f2q _ _).e1 (f2q _ _).e1 (f2q _ _).e1 (by rw [ltD];simp) (λ x y=>?_) (λ _ _ x _=>dZq x) b1 b2
    rw [ltD] at x y ⊢
    have x':=of_decide_eq_true (Option.some.inj x)
    have y':=of_decide_eq_true (Option.some.inj y)
    rw [decide_eq_true (by omega)]
  | some=>
    intro b c hb hc a1 a2
    cases hb<;>cases hc<;>refine aRq (λ e1 e2 b1 b2=>?_) a1 a2<;>first | (exact absurd e1 (by decide)) | (exact absurd e2 (by decide)) | exact dZq b1
  | both k1 k2 h1 h2=>
    intro b c hb hc a1 a2
    cases hb with
    | both g1 g2=>
      cases hc with
      | both g3 g4=>exact aRq (λ e1 e2 b1 b2=>bRq (k1.eq1 _ g1) (g1.eq1 _ g3) (k1.eq1 _ g3) (by rw [k1.irr];simp) (h1 _ _ g1 g3) (λ _ _=>bRq (k2.eq1 _ g2) (g2.eq1 _ g4) (k2.eq1 _ g4) (by rw [k2.irr];simp) (h2 _ _ g2 g4) λ _ _ x _=>dZq x) b1 b2) a1 a2
      | _=>
        refine aRq (λ e1 e2 b1 b2=>?_) a1 a2
        exact absurd e2 (by decide)
    | _=>
      cases hc<;>refine aRq (λ e1 e2 b1 b2=>?_) a1 a2<;>exact absurd e1 (by decide)
  | left k1 h1=>
    intro b c hb hc a1 a2
    cases hb with
    | left g1=>
      cases hc with
      | left g3=>exact aRq (λ e1 e2 b1 b2=>bRq (k1.eq1 _ g1) (g1.eq1 _ g3) (k1.eq1 _ g3) (by rw [k1.irr];simp) (h1 _ _ g1 g3) (λ _ _ x _=>dZq x) b1 b2) a1 a2
      | _=>
        refine aRq (λ e1 e2 b1 b2=>?_) a1 a2
        exact absurd e2 (by decide)
    | _=>
      cases hc<;>refine aRq (λ e1 e2 b1 b2=>?_) a1 a2<;>exact absurd e1 (by decide)
  | right k1 h1=>
    intro b c hb hc a1 a2
    cases hb with
    | right g1=>
      cases hc with
      | right g3=>exact aRq (λ e1 e2 b1 b2=>bRq (k1.eq1 _ g1) (g1.eq1 _ g3) (k1.eq1 _ g3) (by rw [k1.irr];simp) (h1 _ _ g1 g3) (λ _ _ x _=>dZq x) b1 b2) a1 a2
      | _=>
        refine aRq (λ e1 e2 b1 b2=>?_) a1 a2
        exact absurd e2 (by decide)
    | _=>
      cases hc<;>refine aRq (λ e1 e2 b1 b2=>?_) a1 a2<;>exact absurd e1 (by decide)
  | way k1 k2 h1 h2=>
    intro b c hb hc a1 a2
    cases hb with
    | way g1 g2=>
      cases hc with
      | way g3 g4=>
        have el:∀ {xs ys:List D},(∀ d∈xs,IsK d)->(∀ d∈ys,IsK d)->eqD (.tup xs) (.tup ys)=true->D.tup xs=.tup ys:=λ hx hy e=>by
          rw [eqD] at e;rw [e1q (λ d hd=>(hx d hd).eq1) hy e]
        refine aRq (λ e1 e2 b1 b2=>bRq (el k1 g1) (el g1 g3) (el k1 g3) ?_ (λ x y=>?_) (λ _ _=>bRq (k2.eq1 _ g2) (g2.eq1 _ g4) (k2.eq1 _ g4) (by rw [k2.irr];simp) (h2 _ _ g2 g4) λ _ _ x _=>dZq x) b1 b2) a1 a2
        . rw [ltD,dAq (eKq λ d hd=>(k1 d hd).data)];simp
        . rw [ltD] at x y ⊢
          exact kUq (λ d hd=>⟨k1 d hd,h1 d hd⟩) g1 g3 x y
      | _=>
        refine aRq (λ e1 e2 b1 b2=>?_) a1 a2
        exact absurd e2 (by decide)
    | _=>
      cases hc<;>refine aRq (λ e1 e2 b1 b2=>?_) a1 a2<;>exact absurd e1 (by decide)
theorem wRq {ds:List D} (h:∀ d∈ds,IsK d) (hn:0 < ds.length):Swo λ i j=>(ltD (ds.getD (min i (ds.length - 1)) .non) (ds.getD (min j (ds.length - 1)) .non)).getD false:=by
  have k:∀ i,IsK (ds.getD (min i (ds.length - 1)) .non):=λ i=>by
    have hi:min i (ds.length - 1) < ds.length:=by omega
    rw [List.getD_eq_getElem?_getD,List.getElem?_eq_getElem hi]
    exact h _ (List.getElem_mem hi)
  have asy:∀ {a b:D},IsK a->IsK b->ltD a b=some true->ltD b a≠some true:=λ ka kb h1 h2=>by
    have:=t8q ka _ _ kb ka h1 h2
    rw [ka.irr] at this;cases this
  have val:∀ {a b:D},IsK a->IsK b->((ltD a b).getD false=false ↔ a=b\/ltD b a=some true):=λ{a b} ka kb=>by
    obtain ⟨v,hv⟩:=Option.isSome_iff_exists.mp (ka.lt kb)
    rw [hv]
    constructor
    . intro e
      have e':v=false:=e
      subst e'
      rcases ka.tri b kb with h1 | h1 | h1
      . exact .inl h1
      . rw [hv] at h1;cases h1
      . exact .inr h1
    . rintro (rfl | h1)
      . rw [ka.irr] at hv;cases hv;rfl
      . cases v with
        | false=>rfl
        | true=>exact absurd h1 (asy ka kb hv)
  refine ⟨λ i=>?_,λ i j l h1 h2=>?_,λ i j h1=>?_⟩
  . exact (val (k i) (k i)).mpr (.inl rfl)
  . rw [val (k _) (k _)] at h1 h2 ⊢
    rcases h1 with h1 | h1
    . rw [h1];exact h2
    . rcases h2 with h2 | h2
      . rw [<- h2];exact .inr h1
      . exact .inr (t8q (k l) _ _ (k j) (k i) h2 h1)
  . rw [val (k _) (k _)]
    obtain ⟨v,hv⟩:=Option.isSome_iff_exists.mp ((k i).lt (k j))
    rw [hv] at h1
    have e:v=true:=h1
    subst e
    exact .inr hv
end L3
namespace L3
open PySem PySem.Spec PySem.W PyProof.Rows L2
theorem fIq {vs:List V} {its:List Value} (h:Vals vs its):∀ l:List Nat,(∀ i∈l,i < vs.length)->Vals (l.map λ i=>vs.getD i .non) (l.map λ i=>its.getD i Value.none)
  | [],_=>.nil
  | i::l,hl=>by
    have hi:=hl i (List.mem_cons_self ..)
    obtain ⟨u,h1,h2⟩:=h.get (List.getElem?_eq_getElem hi)
    rw [List.map_cons,List.map_cons]
    refine .cons ?_ (fIq h l λ j hj=>hl j (List.mem_cons_of_mem _ hj))
    rw [List.getD_eq_getElem?_getD,List.getD_eq_getElem?_getD,List.getElem?_eq_getElem hi,h1]
    exact h2
theorem iPq {K:PySem.W.Frag} {H:Hp} {ds:List D} {vs:List V} (h:AbsL K H ds vs):∀ l:List Nat,(∀ i∈l,i < ds.length)->AbsL K H (l.map λ i=>ds.getD i .non) (l.map λ i=>vs.getD i .non)
  | [],_=>rfl
  | i::l,hl=>by
    have hi:=hl i (List.mem_cons_self ..)
    obtain ⟨v,h1,h2⟩:=h.get (List.getElem?_eq_getElem hi)
    refine ⟨_,_,rfl,?_,iPq h l λ j hj=>hl j (List.mem_cons_of_mem _ hj)⟩
    dsimp only
    rw [List.getD_eq_getElem?_getD,List.getD_eq_getElem?_getD,List.getElem?_eq_getElem hi,h1]
    exact h2
def Srt (ds:List D):Prop:=ds.Pairwise λ a b=>ltD b a=some false
theorem zMq {ds:List D} {p:Array Nat} (h:Pm ds.length p):ds.Perm (p.toList.map λ i=>ds.getD i .non):=by
  have e:(List.range ds.length).map (λ i=>ds.getD i .non)=ds:=by
    apply List.ext_getElem
    . simp
    . intro i h1 h2
      simp [List.getD_eq_getElem?_getD,List.getElem?_eq_getElem h2]
  have:=h.map (λ i=>ds.getD i .non)
  rw [e] at this
  exact this.symm
abbrev ltI (ds:List D):Nat->Nat->Bool:=λ i j=>(ltD (ds.getD (min i (ds.length - 1)) .non) (ds.getD (min j (ds.length - 1)) .non)).getD false
theorem qSq {ds:List D} (hk:∀ d∈ds,IsK d) {p:Array Nat} (h:Pm ds.length p) (up:Up' (ltI ds) p ds.length):Srt (p.toList.map λ i=>ds.getD i .non):=by
  have hsz:=f6q h
  have kk:∀ i,i < ds.length->IsK (ds.getD i .non):=λ i hi=>by
    rw [List.getD_eq_getElem?_getD,List.getElem?_eq_getElem hi]
    exact hk _ (List.getElem_mem hi)
  unfold Srt
  rw [List.pairwise_iff_getElem]
  intro i j hi hj hij
  rw [List.length_map,Array.length_toList] at hi hj
  have z:=up i j hij (by omega)
  have gi:gt p i=p.toList[i]'(by simpa using hi):=by simp [gt,Array.getD,hi]
  have gj:gt p j=p.toList[j]'(by simpa using hj):=by simp [gt,Array.getD,hj]
  have hn:0 < ds.length:=by omega
  have li:gt p i < ds.length:=bOq h hn i
  have lj:gt p j < ds.length:=bOq h hn j
  simp only [ltI] at z
  rw [show min (gt p j) (ds.length - 1)=gt p j from Nat.min_eq_left (Nat.le_sub_one_of_lt lj),show min (gt p i) (ds.length - 1)=gt p i from Nat.min_eq_left (Nat.le_sub_one_of_lt li)] at z
  rw [List.getElem_map,List.getElem_map,<- gi,<- gj]
  obtain ⟨v,hv⟩:=Option.isSome_iff_exists.mp ((kk _ lj).lt (kk _ li))
  rw [hv] at z ⊢
  have e:v=false:=z
  rw [e]
def aB0q (K:PySem.W.Frag):List V->Hp->VK->Prop:=λ xs H Q=>∃ (l:Addr) (vs:List V) (ds:List D),xs=[.ref l]/\SqL K H l vs/\AbsL K H ds vs/\ds.length < 64/\(∀ d∈ds,IsK d/\d.dp<=150) ∧
  ∀ (ds':List D) (vs':List V),ds.Perm ds'->Srt ds'->AbsL K H ds' vs'->∀ p,H p=none->Q (.ref p) (upd H p (.lst vs'))
section
variable {X:Cx}
theorem nUq (hu:X.A.units+200 < cLine):CallR X (.builtin "sorted") (aB0q X.K):=by
  intro pins s σ H xs us Q I r h
  obtain ⟨l,vs,ds,rfl,hq,ha,hl,hs,q⟩:=h
  obtain ⟨u,rfl,rx⟩:=gJq r
  cases rx
  obtain ⟨its,rv,pl,hz⟩:=I.list hq
  have hlen:=rv.length
  have hlen2:=ha.len
  have hk:∀ d∈ds,IsK d:=λ d hd=>(hs d hd).1
  have I6:Inv X pins σ H { s with heap:=eQq s.heap its }:=I.kept (t':=s.toks) λ b o e=>iKq e
  have fin:∀ p:Array Nat,Pm its.length p->Srt (p.toList.map λ i=>ds.getD i .non)->EP X pins σ Q (.ref (s.heap.objs.size+1)) { s with heap:=sortedAll s.heap its (p.toList.map λ i=>its.getD i Value.none).toArray }:=λ p hp hsrt=>by
    have hm:∀ i∈p.toList,i < its.length:=λ i hi=>List.mem_range.mp (hp.mem_iff.mp hi)
    obtain ⟨c,hcc⟩:=sortedAll_at s.heap its (p.toList.map λ i=>its.getD i Value.none).toArray
    have z:=hp.length_eq
    rw [List.length_range] at z
    have sl:=sizeLine_eq
    have r1:=fIq rv p.toList (λ i hi=>by have:=hm i hi;omega)
    have r2:=iPq ha p.toList (λ i hi=>by have:=hm i hi;omega)
    exact ⟨.ref _,_,I.laid (t':=s.toks) (λ b o e=>sortedAll_old e) (Nat.le_succ _) (show ObjOk X.prog X.w _ _ _ (.lst (p.toList.map λ i=>vs.getD i .non)) from ⟨by rw [List.length_map];omega,_,c,r1,by simpa using hcc⟩),rfl,q _ _ (zMq (by rw [show ds.length=its.length by omega];exact hp)) hsrt r2 _ (I.hok.fresh (Nat.le_succ _))⟩
  by_cases h0:0 < ds.length
  . refine gAq (κ:=tuples' true) (lt:=ltI ds) pl.isList (by omega) (λ h2 A E R hR=>p6q I6 (λ d hd=>(hk d hd).skey (hs d hd).2) ha rv (by omega) hR) (λ A' i j C hA hi hj hC=>?_) (wRq hk h0) λ p hp hup=>fin p hp (qSq hk (by rw [show ds.length=its.length by omega];exact hp) (by rw [show ds.length=its.length by omega];exact hup))
    have ge:∀ k,k < its.length->∃ d v u,ds.getD (min k (ds.length - 1)) .non=d/\d∈ds/\Abs X.K H d v/\RelV v u/\its.getD k Value.none=u:=λ k hk'=>by
      have hk2:k < ds.length:=by omega
      obtain ⟨v,g1,g2⟩:=ha.get (List.getElem?_eq_getElem hk2)
      obtain ⟨u,g3,g4⟩:=rv.get g1
      exact ⟨ds[k],v,u,by rw [show min k (ds.length - 1)=k by omega,List.getD_eq_getElem?_getD,List.getElem?_eq_getElem hk2];rfl,List.getElem_mem hk2,g2,g4,by rw [List.getD_eq_getElem?_getD,g3];rfl⟩
    obtain ⟨d,v,u,e1,m1,a1,b1,f1⟩:=ge i hi
    obtain ⟨e,v',u',e2,m2,a2,b2,f2⟩:=ge j hj
    unfold kas_ask
    rw [f1,f2]
    simp only [ltI,e1,e2] at hC
    obtain ⟨b,hb⟩:=Option.isSome_iff_exists.mp ((hk _ m1).lt (hk _ m2))
    obtain ⟨z,r,rfl,k1,k2⟩:=(hk d m1).skey (hs d m1).2
    obtain ⟨z2,r2,rfl,k3,k4⟩:=(hk e m2).skey (hs e m2).2
    rw [hb] at hC
    exact uJq I6 hC k1 k3 a1 a2 b1 b2 (by omega) hb
  . have e0:its=[]:=List.length_eq_zero_iff.mp (by omega)
    subst e0
    refine gBq (κ:=tuples' true) (lt:=λ _ _=>false) pl.isList (by simp) (λ h2=>by simp at h2) (λ A' i j C hA hi=>by simp at hi) λ out hp=>?_
    have eo:out=[]:=List.length_eq_zero_iff.mp (by have:=hp.length_eq;simpa using this)
    subst eo
    have ed:ds=[]:=List.length_eq_zero_iff.mp (by omega)
    exact fin #[] (.refl _) (by simp [Srt])
def zDq:D->DV->DK->Prop:=λ x G Q=>match x with
  | .ref l=>onL G l λ ds=>ds.length < 64/\(∀ d∈ds,IsK d/\d.dp<=150)/\∀ ds':List D,ds.Perm ds'->Srt ds'->∀ p,G p=none->Q (.ref p) (up G p (.lst ds'))
  | _=>False
theorem cBq (hu:X.A.units+200 < cLine):ACall X (.builtin "sorted") (oPq zDq):=by
  refine ⟨_,⟨nUq hu⟩,λ xs vs G H DQ Q v a r F=>?_⟩
  obtain ⟨x,u,rfl,rfl,ax,r⟩:=bXq r a
  cases x with
  | ref l=>
    cases ax
    obtain ⟨ds,ws,⟨hl,hs,k⟩,s,rl⟩:=b4q v r
    exact ⟨l,ws,ds,rfl,s,rl,hl,hs,λ ds' vs' hp hsr ha p hp'=>F (.ref p) _ _ _ (Go.newL v hp' ha) rfl (k ds' hp hsr p (v.none hp'))⟩
  | _=>exact (show False from r).elim
end
end L3
namespace L3
open PySem PySem.Spec L2 PySem.SeqAt
open AutoSeq1 (wpAny_loadPart')
open MeetsSeq MeetsSeq2 MeetsSeq3 SeqRoads2
theorem oAq (l b:Addr) (items items2:Array Value) (n n2:Nat) (dd dd2:Option Addr) (sl sl2:Array (Option Value)) (e c:Nat->Bool) (k:Nat) :
    ∀ i:Nat,min items.size items2.size - i=k->i<=min items.size items2.size->Meets (Builtin.«list.__eq__.loop» ⟨[.ref l,.ref b,rawInt i,rawInt 0],[]⟩)
      (λ A R s=>s.heap.get? l=some { cls:=.type "list", dict:=dd,data:=.seq items n,slots:=sl }/\s.heap.get? b=some { cls:=.type "list", dict:=dd2,data:=.seq items2 n2,slots:=sl2 } ∧
        (∀ j (h1:j < items.size) (h2:j < items2.size),EqAt A.in1 s items[j] items2[j] (e j)) ∧
        (∀ j (h1:j < items.size) (h2:j < items2.size),(∀ i,i < j->e i=true)->e j=false->LtAt A.in1 s items[j] items2[j] (c j))/\(∀ j,j < i->e j=true) ∧
        R (.ok (.ret (.bool (h3q e c (decide (items.size < items2.size)) k i)))) s):=by
  induction k with
  | zero=>
    intro i hk hle prog w A R s h
    obtain ⟨hp,g,d,tk,os⟩:=s;obtain ⟨hl,hb,he,hc,hi,h⟩:=h
    wp_walk using wpAny_loadPart' hl,wpAny_loadPart' hb
    have fin:wpAny (model prog w) A.in1 (do
        let x ← Builtin.List.listItems (Value.ref l)
        let y ← Builtin.List.listItems (Value.ref b)
        ret (Value.bool (decide (x.size < y.size)))) (λ fin s'=>match fin with
          | .done f=>R (.ok f) s'
          | .again c'=>c'.quiet=true/\codeAny (model prog w) A c' R s') (λ e s'=>R (Except.error e) s') { heap:=hp,gens:=g,drawn:=d,toks:=tk,os:=os }:=by
      refine wpAny_bind (PyProof.Rows.listItems_at hl rfl (wpAny_bind (PyProof.Rows.listItems_at hb rfl ?_)))
      wp_walk
      exact h
    rcases (by omega:items.size<=i\/items2.size<=i) with q | q
    . have hi1:items[((i:Nat):Int).toNat]?=none:=by simp;omega
      rw [hi1]
      exact fin
    . have hi2:items2[((i:Nat):Int).toNat]?=none:=by simp;omega
      rw [hi2]
      cases items[((i:Nat):Int).toNat]?<;>exact fin
  | succ k ih=>
    intro i hk hle prog w A R s h
    obtain ⟨hp,g,d,tk,os⟩:=s;obtain ⟨hl,hb,he,hc,hi,h⟩:=h
    wp_walk using wpAny_loadPart' hl,wpAny_loadPart' hb
    have hlt:i < items.size:=by omega
    have hlt2:i < items2.size:=by omega
    have hi1:items[((i:Nat):Int).toNat]?=some items[i]:=by simp [hlt]
    have hi2:items2[((i:Nat):Int).toNat]?=some items2[i]:=by simp [hlt2]
    have hcc:((i:Int)+1)=((i+1:Nat):Int):=by push_cast;rfl
    rw [h3q] at h
    rw [hi1,hi2]
    refine wpAny_bind (he i hlt hlt2 prog w _ _ ?_)
    cases hb':e i with
    | true=>
      rw [hb',if_pos rfl] at h
      wp_walk
      rw [hcc]
      exact ⟨plainId_quiet plain_eq_loop _,codeAny_builtin entry_eq_loop (by
        rw [Around.under_plainId plain_eq_loop _]
        exact ih (i+1) (by omega) (by omega) prog w A R _ ⟨hl,hb,he,hc,λ j hj=>by rcases Nat.lt_succ_iff_lt_or_eq.mp hj with z | rfl;exact hi j z;exact hb',h⟩)⟩
    | false=>
      rw [hb',if_neg (by decide)] at h
      simp only [Bool.false_eq_true,if_false]
      refine wpAny_bind (PyProof.Rows.listItems_at hl rfl (wpAny_bind (PyProof.Rows.listItems_at hb rfl ?_)))
      rw [hi1,hi2]
      refine wpAny_bind (hc i hlt hlt2 hi hb' prog w _ _ ?_)
      wp_walk
      exact h
theorem mJq (l b:Addr) (items items2:Array Value) (n n2:Nat) (dd dd2:Option Addr) (sl sl2:Array (Option Value)) (e c:Nat->Bool) :
    Meets (Builtin.«list.__lt__» ⟨[.ref l,.ref b],[]⟩)
      (λ A R s=>s.heap.get? l=some { cls:=.type "list", dict:=dd,data:=.seq items n,slots:=sl }/\s.heap.get? b=some { cls:=.type "list", dict:=dd2,data:=.seq items2 n2,slots:=sl2 } ∧
        (∀ j (h1:j < items.size) (h2:j < items2.size),EqAt A.in1 s items[j] items2[j] (e j)) ∧
        (∀ j (h1:j < items.size) (h2:j < items2.size),(∀ i,i < j->e i=true)->e j=false->LtAt A.in1 s items[j] items2[j] (c j)) ∧
        R (.ok (.ret (.bool (h3q e c (decide (items.size < items2.size)) (min items.size items2.size) 0)))) s):=by
  intro prog w A R s h
  obtain ⟨hp,g,d,tk,os⟩:=s;obtain ⟨hl,hb,he,hc,h⟩:=h
  have f3:=AutoSeq1.sub_list_list
  wp_walk using wpAny_loadPart' hl,wpAny_loadPart' hb
  exact ⟨plainId_quiet plain_eq_loop _,codeAny_builtin entry_eq_loop (by
    rw [Around.under_plainId plain_eq_loop _]
    exact oAq l b items items2 n n2 dd dd2 sl sl2 e c _ 0 rfl (Nat.zero_le _) prog w A R _ ⟨hl,hb,he,hc,λ j hj=>by omega,by simpa using h⟩)⟩
open PyProof.Rows in
theorem iXq {prog:Program} {w:World} {E:Value->Shared->Prop} {A:Around} {s:Shared} {l b:Addr} {items items2:Array Value} {e c:Nat->Bool} {Q:Bool->Shared->Prop} (hl:s.heap.IsList l items) (hb:s.heap.IsList b items2) (hu:A.units < cLine)
    (he:∀ j (h1:j < items.size) (h2:j < items2.size),EqAt A.in1 s items[j] items2[j] (e j))
    (hc:∀ j (h1:j < items.size) (h2:j < items2.size),(∀ i,i < j->e i=true)->e j=false->LtAt A.in1 s items[j] items2[j] (c j))
    (h:Q (h3q e c (decide (items.size < items2.size)) (min items.size items2.size) 0) s):wpAny (model prog w) A (oneLt' true (.ref l) (.ref b)) Q E s:=by
  obtain ⟨⟨cls,dd,data,sl⟩,ho,hc1,n,hd⟩:=id hl
  obtain ⟨⟨cls2,dd2,data2,sl2⟩,ho2,hc2,n2,hd2⟩:=id hb
  simp only at hc1 hd hc2 hd2
  subst hc1 hd hc2 hd2
  rw [oneLt'_eq]
  simp only [if_true]
  refine wpAny_bind (wpAny_cRoomFor hu ?_)
  refine wpAny_bind (wpAny_callSpecialIfBound?_slot ⟨_,ho,rfl⟩ F.slot_list_lt (call_meets F.slot_list_lt ⟨_,ho,rfl⟩ F.entry_list_lt (F.args_list_lt_2 _ _) (mJq l b items items2 n n2 dd dd2 sl sl2 e c) ⟨ho,ho2,he,hc,?_⟩))
  exact wpAny_truthy_bool h
def D.isS:D->Bool
  | .str _=>true
  | _=>false
mutual
def flD:D->List D
  | .tup ds=>flT ds
  | d=>[d]
def flT:List D->List D
  | []=>[.int 0]
  | d::ds=>if d.isS then d::flC ds else .int 1::(flD d++flI ds)
def flC:List D->List D
  | []=>[]
  | d::ds=>flD d++flC ds
def flI:List D->List D
  | []=>[.int 0]
  | d::ds=>.int 1::(flD d++flI ds)
end
def Cl (a b:D):Prop:=∀ r r':List D,bAq (flD a++r) (flD b++r')=if eqD a b then bAq r r' else ltD a b
def ClC (xs ys:List D):Prop:=∀ r r':List D,bAq (flC xs++r) (flC ys++r')=if cNq xs ys then bAq r r' else bAq xs ys
theorem ClC.nil:ClC [] []:=λ r r'=>by simp [flC,cNq]
theorem ClC.cons {x y:D} {xs ys:List D} (h:Cl x y) (t:ClC xs ys):ClC (x::xs) (y::ys):=λ r r'=>by
  rw [flC,flC,List.append_assoc,List.append_assoc,h,t,cNq,bAq]
  cases eqD x y<;>simp
theorem Cl.one {x y:D} (hx:flD x=[x]) (hy:flD y=[y]):Cl x y:=λ r r'=>by
  rw [hx,hy,List.singleton_append,List.singleton_append,bAq]
theorem Cl.tup {z z':Str} {xs ys:List D} (h:z=z'->ClC xs ys):Cl (.tup (.str z::xs)) (.tup (.str z'::ys)):=λ r r'=>by
  rw [flD,flD,flT,flT,if_pos (show (D.str z).isS=true from rfl),if_pos (show (D.str z').isS=true from rfl),List.cons_append,List.cons_append,ltD,eqD,cNq]
  simp only [bAq]
  cases c:eqD (.str z) (.str z') with
  | false=>simp
  | true=>rw [if_pos rfl,h (by simpa [eqD] using c) r r'];simp
theorem qBq:∀ {xs ys:List D},(∀ x∈xs,∀ y∈ys,Cl x y)->∀ r r',bAq (flI xs++r) (flI ys++r')=if cNq xs ys then bAq r r' else bAq xs ys
  | [],[],_,r,r'=>by simp [flI,cNq,bAq,eqD]
  | [],y::ys,_,r,r'=>by simp [flI,cNq,bAq,eqD,ltD]
  | x::xs,[],_,r,r'=>by simp [flI,cNq,bAq,eqD,ltD]
  | x::xs,y::ys,h,r,r'=>by
    rw [flI,flI,List.cons_append,List.cons_append,bAq,if_pos (by simp [eqD]),List.append_assoc,List.append_assoc,h x (List.mem_cons_self ..) y (List.mem_cons_self ..),qBq (λ a ha b hb=>h a (List.mem_cons_of_mem _ ha) b (List.mem_cons_of_mem _ hb)),cNq,bAq]
    cases eqD x y<;>simp
theorem kPq {ds:List D} (h:∀ d∈ds,IsK d):flD (.tup ds)=flI ds:=by
  rw [flD]
  cases ds with
  | nil=>rw [flT,flI]
  | cons d ds=>
    rw [flT,flI]
    obtain ⟨z,r,e,_⟩:=(h d (List.mem_cons_self ..)).head
    rw [e];rfl
theorem IsK.cl {a:D} (h:IsK a):∀ {b:D},IsK b->Cl a b:=by
  induction h with
  | is n=>intro b hb;cases hb<;>refine Cl.tup λ e=>?_<;>first | (exact absurd e (by decide)) | exact .cons (.one rfl rfl) .nil
  | some=>intro b hb;cases hb<;>refine Cl.tup λ e=>?_<;>first | (exact absurd e (by decide)) | exact .nil
  | both _ _ h1 h2=>intro b hb;cases hb<;>refine Cl.tup λ e=>?_<;>first | (exact absurd e (by decide)) | exact .cons (h1 ‹_›) (.cons (h2 ‹_›) .nil)
  | left _ h1=>intro b hb;cases hb<;>refine Cl.tup λ e=>?_<;>first | (exact absurd e (by decide)) | exact .cons (h1 ‹_›) .nil
  | right _ h1=>intro b hb;cases hb<;>refine Cl.tup λ e=>?_<;>first | (exact absurd e (by decide)) | exact .cons (h1 ‹_›) .nil
  | way k1 _ h1 h2=>
    intro b hb
    cases hb with
    | way g1 g2=>
      refine Cl.tup λ _=>.cons (λ r r'=>?_) (.cons (h2 g2) .nil)
      rw [kPq k1,kPq g1,qBq λ x hx y hy=>h1 x hx (g1 y hy),eqD,ltD]
    | _=>refine Cl.tup λ e=>?_;exact absurd e (by decide)
theorem IsK.fl_lt {a b:D} (h:IsK a) (hb:IsK b):bAq (flD a) (flD b)=ltD a b:=by
  have z:=h.cl hb [] []
  rw [List.append_nil,List.append_nil] at z
  rw [z]
  cases c:eqD a b with
  | false=>rfl
  | true=>rw [h.eq1 b hb c,hb.irr];rfl
mutual
theorem bQq:∀ {d:D},d.data=true->aTq (flD d)=true
  | .tup ds,h=>by rw [flD];exact pMq (by simpa [D.data] using h)
  | .int _,_=>rfl
  | .str _,_=>rfl
  | .non,_=>rfl
  | .bl _,_=>rfl
theorem pMq:∀ {ds:List D},aTq ds=true->aTq (flT ds)=true
  | [],_=>rfl
  | d::ds,h=>by
    rw [aTq,Bool.and_eq_true] at h
    rw [flT]
    split
    . rw [aTq,h.1,jUq h.2];rfl
    . rw [aTq,dMq (bQq h.1) (k3q h.2)];rfl
theorem jUq:∀ {ds:List D},aTq ds=true->aTq (flC ds)=true
  | [],_=>rfl
  | d::ds,h=>by
    rw [aTq,Bool.and_eq_true] at h
    rw [flC];exact dMq (bQq h.1) (jUq h.2)
theorem k3q:∀ {ds:List D},aTq ds=true->aTq (flI ds)=true
  | [],_=>rfl
  | d::ds,h=>by
    rw [aTq,Bool.and_eq_true] at h
    rw [flI,aTq,dMq (bQq h.1) (k3q h.2)];rfl
theorem dMq:∀ {ds es:List D},aTq ds=true->aTq es=true->aTq (ds++es)=true
  | [],_,_,h=>h
  | d::ds,es,h1,h2=>by
    rw [aTq,Bool.and_eq_true] at h1
    rw [List.cons_append,aTq,h1.1,dMq h1.2 h2];rfl
end
theorem IsK.fl_inj {a b:D} (h:IsK a) (hb:IsK b) (e:flD a=flD b):a=b:=by
  have z:=dAq (bQq h.data)
  rcases h.tri b hb with h1 | h1 | h1
  . exact h1
  . rw [<- h.fl_lt hb,<- e,z] at h1;cases h1
  . rw [<- hb.fl_lt h,<- e,z] at h1;cases h1
def IS (d:D):Prop:=(∃ n,d=.int n)\/∃ z,d=.str z
theorem IS.eq {d e:D} (h:IS d) (g:IS e) (q:eqD d e=true):d=e:=by
  rcases h with ⟨n,rfl⟩ | ⟨z,rfl⟩<;>rcases g with ⟨m,rfl⟩ | ⟨y,rfl⟩<;>simp [eqD] at q<;>rw [q]
theorem qQq:∀ {ds:List D},(∀ d∈ds,∀ x∈flD d,IS x)->∀ x∈flI ds,IS x
  | [],_,x,hx=>by simp [flI] at hx;exact .inl ⟨_,hx⟩
  | d::ds,h,x,hx=>by
    rw [flI,List.mem_cons,List.mem_append] at hx
    rcases hx with rfl | hx | hx
    . exact .inl ⟨_,rfl⟩
    . exact h d (List.mem_cons_self ..) x hx
    . exact qQq (λ e he=>h e (List.mem_cons_of_mem _ he)) x hx
theorem q9q:∀ {ds:List D},(∀ d∈ds,∀ x∈flD d,IS x)->∀ x∈flC ds,IS x
  | [],_,x,hx=>by simp [flC] at hx
  | d::ds,h,x,hx=>by
    rw [flC,List.mem_append] at hx
    rcases hx with hx | hx
    . exact h d (List.mem_cons_self ..) x hx
    . exact q9q (λ e he=>h e (List.mem_cons_of_mem _ he)) x hx
theorem g9q {z:Str} {ds:List D} (h:∀ d∈ds,∀ x∈flD d,IS x):∀ x∈flD (.tup (.str z::ds)),IS x:=λ x hx=>by
  rw [flD,flT,if_pos (show (D.str z).isS=true from rfl),List.mem_cons] at hx
  rcases hx with rfl | hx
  . exact .inr ⟨_,rfl⟩
  . exact q9q h x hx
theorem IsK.fl_IS {a:D} (h:IsK a):∀ x∈flD a,IS x:=by
  induction h with
  | is n=>exact g9q λ d hd x hx=>by simp at hd;subst hd;simp [flD] at hx;exact .inl ⟨_,hx⟩
  | some=>exact g9q λ d hd=>by simp at hd
  | both _ _ h1 h2=>exact g9q λ d hd x hx=>by simp at hd;rcases hd with rfl | rfl;exact h1 x hx;exact h2 x hx
  | left _ h1=>exact g9q λ d hd x hx=>by simp at hd;subst hd;exact h1 x hx
  | right _ h1=>exact g9q λ d hd x hx=>by simp at hd;subst hd;exact h1 x hx
  | way k1 _ h1 h2=>
    refine g9q λ d hd x hx=>?_
    simp at hd
    rcases hd with rfl | rfl
    . rw [kPq k1] at hx;exact qQq h1 x hx
    . exact h2 x hx
theorem IS.dp:∀ {ds:List D},(∀ d∈ds,IS d)->bNq ds=0
  | [],_=>rfl
  | d::ds,h=>by
    rw [bNq,IS.dp λ e he=>h e (List.mem_cons_of_mem _ he)]
    rcases h d (List.mem_cons_self ..) with ⟨n,rfl⟩ | ⟨z,rfl⟩<;>rfl
theorem IsK.fl_eq {a b:D} (h:IsK a) (hb:IsK b):cNq (flD a) (flD b)=eqD a b:=by
  cases c:eqD a b with
  | true=>rw [h.eq1 b hb c];exact fKq (bQq hb.data)
  | false=>
    cases c2:cNq (flD a) (flD b) with
    | false=>rfl
    | true=>
      have e:=e1q (S:=IS) (λ d hd e he=>(h.fl_IS d hd).eq he) hb.fl_IS c2
      rw [h.fl_inj hb e,bZq hb.data] at c;cases c
end L3
namespace L3
open PySem PySem.Spec PySem.W PyProof.Rows L2 PySem.SeqAt
section
variable {X:Cx} {pins:List (Addr × Obj)} {σ:L2.St} {H:Hp} {s:Shared}
theorem p2q (I:Inv X pins σ H s) {prog:Program} {w:World} {A:Around} {E:Value->Shared->Prop} {ds es:List D} {l m:Addr} {vs us:List V} {b:Bool} {Q:Bool->Shared->Prop} (s1:SqL X.K H l vs) (s2:SqL X.K H m us) (r1:AbsL X.K H ds vs) (r2:AbsL X.K H es us) (hd:aTq ds=true) (he:aTq es=true) (hu:A.units+1+bNq ds < cLine) (h:bAq ds es=some b) (q:Q b s):wpAny (model prog w) A (keyLt' oneType' (.ref l) (.ref m)) Q E s:=by
  rw [keyLt'_oneType]
  obtain ⟨its,rr,t1,_⟩:=I.list s1
  obtain ⟨its2,rr2,t2,_⟩:=I.list s2
  have l1:=rr.length
  have l2:=rr2.length
  have l3:=r1.len
  have l4:=r2.len
  refine iXq (e:=eqJ ds es) (c:=λ _=>b) t1.isList t2.isList (by omega) (λ j h1 h2=>?_) (λ j h1 h2 hi hj=>?_) ?_
  . have q:=dQq I ds es A.in1 vs us its its2 hd he r1 r2 rr rr2 (by show A.units+1+bNq ds < cLine;omega) j (by simpa using h1) (by simpa using h2)
    simpa using q
  . have j1:j < its.length:=by simpa using h1
    have j2:j < its2.length:=by simpa using h2
    obtain ⟨d,e,g1,g2,g3⟩:=n8q h (by omega) (by omega) hi hj
    have q:=n9q I ds es A.in1 vs us its its2 hd he r1 r2 rr rr2 (by show A.units+1+bNq ds < cLine;omega) j j1 j2 d e b g1 g2 g3
    simpa using q
  . rw [List.size_toArray,List.size_toArray,<- l1,<- l2,l3,l4,nKq h];exact q
def FlK (K:PySem.W.Frag) (H:Hp) (z:Addr × D):Prop:=IsK z.2/\∃ us,SqL K H z.1 us/\AbsL K H (flD z.2) us
def zLq (K:PySem.W.Frag):List V->Hp->VK->Prop:=λ xs H Q=>∃ (l:Addr) (zs:List (Addr × D)),xs=[.ref l]/\SqL K H l (zs.map λ z=>V.ref z.1)/\zs.length < 64/\(∀ z∈zs,FlK K H z) ∧
  ∀ zs':List (Addr × D),zs.Perm zs'->Srt (zs'.map (·.2))->∀ p,H p=none->Q (.ref p) (upd H p (.lst (zs'.map λ z=>V.ref z.1)))
theorem dNq:∀ {zs:List (Addr × D)} {its:List Value},Vals (zs.map λ z=>V.ref z.1) its->its=zs.map λ z=>Value.ref z.1
  | [],_,h=>by cases h;rfl
  | z::zs,_,h=>by
    cases h with
    | cons h t=>cases h;rw [dNq t];rfl
theorem eLq {α β:Type} {f:α->β} {xs:List α} {i:Nat} {d:β} {x:α} (h:xs[i]?=some x):(xs.map f).getD i d=f x:=by
  rw [List.getD_eq_getElem?_getD,List.getElem?_map,h];rfl
theorem lZq (hu:X.A.units+200 < cLine):CallR X (.builtin "sorted") (zLq X.K):=by
  intro pins s σ H xs us Q I r h
  obtain ⟨l,zs,rfl,hq,hl,hz,q⟩:=h
  obtain ⟨u,rfl,rx⟩:=gJq r
  cases rx
  obtain ⟨its,rv,pl,_⟩:=I.list hq
  have eits:=dNq rv
  have hlen:its.length=zs.length:=by rw [eits,List.length_map]
  have hk:∀ d∈zs.map (·.2),IsK d:=λ d hd=>by obtain ⟨z,hz',rfl⟩:=List.mem_map.mp hd;exact (hz z hz').1
  have I6:Inv X pins σ H { s with heap:=eQq s.heap its }:=I.kept (t':=s.toks) λ b o e=>iKq e
  have fin:∀ p:Array Nat,Pm its.length p->Srt (p.toList.map λ i=>(zs.map (·.2)).getD i .non)->EP X pins σ Q (.ref (s.heap.objs.size+1)) { s with heap:=sortedAll s.heap its (p.toList.map λ i=>its.getD i Value.none).toArray }:=λ p hp hsrt=>by
    have hm:∀ i∈p.toList,i < its.length:=λ i hi=>List.mem_range.mp (hp.mem_iff.mp hi)
    obtain ⟨c,hcc⟩:=sortedAll_at s.heap its (p.toList.map λ i=>its.getD i Value.none).toArray
    have sl:=sizeLine_eq
    have zl:=hp.length_eq
    rw [List.length_range] at zl
    have gz:∀ i∈p.toList,zs[i]?=some (zs.getD i (0,.non)):=λ i hi=>by
      have hi':i < zs.length:=by have:=hm i hi;omega
      rw [List.getD_eq_getElem?_getD,List.getElem?_eq_getElem hi'];rfl
    have e1:(p.toList.map λ i=>(zs.map λ z=>V.ref z.1).getD i .non)=(p.toList.map λ i=>zs.getD i (0,.non)).map λ z=>V.ref z.1:=by
      rw [List.map_map];exact List.map_congr_left λ i hi=>eLq (gz i hi)
    have e2:(p.toList.map λ i=>(zs.map (·.2)).getD i .non)=(p.toList.map λ i=>zs.getD i (0,.non)).map (·.2):=by
      rw [List.map_map];exact List.map_congr_left λ i hi=>eLq (gz i hi)
    rw [e2] at hsrt
    have r1:=fIq rv p.toList (λ i hi=>by have:=hm i hi;rw [List.length_map];omega)
    rw [e1] at r1
    have perm:zs.Perm (p.toList.map λ i=>zs.getD i (0,.non)):=by
      have e:(List.range zs.length).map (λ i=>zs.getD i (0,.non))=zs:=by
        apply List.ext_getElem
        . simp
        . intro i h1 h2;simp [List.getD_eq_getElem?_getD,List.getElem?_eq_getElem h2]
      have hp':Pm zs.length p:=by rw [<- hlen];exact hp
      have:=hp'.map (λ i=>zs.getD i (0,D.non))
      rw [e] at this
      exact this.symm
    exact ⟨.ref _,_,I.laid (t':=s.toks) (λ b o e=>sortedAll_old e) (Nat.le_succ _) (show ObjOk X.prog X.w _ _ _ (.lst ((p.toList.map λ i=>zs.getD i (0,.non)).map λ z=>V.ref z.1)) from ⟨by rw [List.length_map,List.length_map];omega,_,c,r1,by simpa using hcc⟩),rfl,q _ perm hsrt _ (I.hok.fresh (Nat.le_succ _))⟩
  have hzl:(zs.map (·.2)).length=zs.length:=List.length_map ..
  by_cases h0:0 < zs.length
  . refine gAq (κ:=oneType') (lt:=ltI (zs.map (·.2))) pl.isList (by omega) (λ h2 A E R hR=>kas_kind (T:=.type "list") h2 (λ v hv=>?_) (by decide) (by decide) hR) (λ A' i j C hA hi hj hC=>?_) (wRq hk (by omega)) λ p hp hup=>fin p hp (qSq hk (by rw [hzl,<- hlen];exact hp) (by rw [hzl,<- hlen];exact hup))
    . rw [eits] at hv
      obtain ⟨z,hz',rfl⟩:=List.mem_map.mp hv
      obtain ⟨_,us,sq,_⟩:=hz z hz'
      obtain ⟨its',_,pl',_⟩:=I6.list sq
      obtain ⟨o,ho,hc,_⟩:=pl'.isList
      exact λ A Q E s' k q=>wpAny_typeOf (T:="list") ⟨o,k _ _ ho,hc⟩ q
    . have ge:∀ k,k < its.length->∃ z,zs[k]?=some z/\z∈zs/\(zs.map (·.2)).getD (min k ((zs.map (·.2)).length - 1)) .non=z.2/\its.getD k Value.none=.ref z.1:=λ k hk'=>by
        have hk2:k < zs.length:=by omega
        refine ⟨zs[k],List.getElem?_eq_getElem hk2,List.getElem_mem hk2,?_,?_⟩
        . rw [show min k ((zs.map (·.2)).length - 1)=k by omega];exact eLq (List.getElem?_eq_getElem hk2)
        . rw [eits];exact eLq (List.getElem?_eq_getElem hk2)
      obtain ⟨z,_,m1,e1,f1⟩:=ge i hi
      obtain ⟨y,_,m2,e2,f2⟩:=ge j hj
      unfold kas_ask
      rw [f1,f2]
      simp only [ltI,e1,e2] at hC
      obtain ⟨k1,us1,sq1,a1⟩:=hz z m1
      obtain ⟨k2,us2,sq2,a2⟩:=hz y m2
      obtain ⟨b,hb⟩:=Option.isSome_iff_exists.mp (k1.lt k2)
      rw [hb] at hC
      exact p2q I6 sq1 sq2 a1 a2 (bQq k1.data) (bQq k2.data) (by rw [IS.dp k1.fl_IS];omega) (by rw [k1.fl_lt k2];exact hb) hC
  . have e0:its=[]:=List.length_eq_zero_iff.mp (by omega)
    subst e0
    refine gBq (κ:=oneType') (lt:=λ _ _=>false) pl.isList (by simp) (λ h2=>by simp at h2) (λ A' i j C hA hi=>by simp at hi) λ out hp=>?_
    have eo:out=[]:=List.length_eq_zero_iff.mp (by have:=hp.length_eq;simpa using this)
    subst eo
    exact fin #[] (.refl _) (by simp [Srt])
def FlG (G:DV) (z:Addr × D):Prop:=IsK z.2/\G z.1=some (.lst (flD z.2))
theorem FlG.to {K:PySem.W.Frag} {G:DV} {H:Hp} {z:Addr × D} (v:Vw K G H) (h:FlG G z):FlK K H z:=by
  obtain ⟨us,e,r⟩:=v _ _ h.2
  exact ⟨h.1,us,.inl (.inl e),r⟩
def zAq:D->DV->DK->Prop:=λ x G Q=>match x with
  | .ref l=>∃ zs:List (Addr × D),G l=some (.lst (zs.map λ z=>D.ref z.1))/\zs.length < 64/\(∀ z∈zs,FlG G z)/\∀ zs':List (Addr × D),zs.Perm zs'->Srt (zs'.map (·.2))->∀ p,G p=none->Q (.ref p) (up G p (.lst (zs'.map λ z=>D.ref z.1)))
  | _=>False
theorem dKq {K:PySem.W.Frag} {H:Hp}:∀ {zs:List (Addr × D)} {vs:List V},AbsL K H (zs.map λ z=>D.ref z.1) vs->vs=zs.map λ z=>V.ref z.1
  | [],_,h=>h
  | z::zs,_,⟨v,r,e,q,l⟩=>by subst e;rw [dKq l,show v=V.ref z.1 from q];rfl
theorem fRq {K:PySem.W.Frag} {H:Hp}:∀ (zs:List (Addr × D)),AbsL K H (zs.map λ z=>D.ref z.1) (zs.map λ z=>V.ref z.1)
  | []=>rfl
  | z::zs=>⟨_,_,rfl,rfl,fRq zs⟩
theorem gTq (hu:X.A.units+200 < cLine):ACall X (.builtin "sorted") (oPq zAq):=by
  refine ⟨_,⟨lZq hu⟩,λ xs vs G H DQ Q v a r F=>?_⟩
  obtain ⟨x,u,rfl,rfl,ax,r⟩:=bXq r a
  cases x with
  | ref l=>
    cases ax
    obtain ⟨zs,e,hl,hz,k⟩:=r
    obtain ⟨ws,e1,rl⟩:=v _ _ e
    rw [dKq rl] at e1
    exact ⟨l,zs,rfl,.inl (.inl e1),hl,λ z h=>(hz z h).to v,λ zs' hp hs p hp'=>F (.ref p) _ _ _ (Go.newL v hp' (fRq zs')) rfl (k zs' hp hs p (v.none hp'))⟩
  | _=>exact (show False from r).elim
def z3q (K:PySem.W.Frag):R2:=λ x y H Q=>∃ (l m:Addr) (zs ys:List (Addr × D)),x=.ref l/\y=.ref m/\SqL K H l (zs.map λ z=>V.ref z.1)/\SqL K H m (ys.map λ z=>V.ref z.1)/\(∀ z∈zs,FlK K H z)/\(∀ z∈ys,FlK K H z)/\zs.length=ys.length/\(∀ z∈zs,∀ y∈ys,z.1=y.1->z.2=y.2) ∧
  ∀ b:Bool,(b=true ↔ zs.map (·.2)=ys.map (·.2))->Q (.bl b) H
theorem rXq (hu:X.A.units+200 < cLine):OpR X (compareOp .Eq) (z3q X.K):=by
  intro pins s σ H x y v u Q I rx ry h
  obtain ⟨l,m,zs,ys,rfl,rfl,s1,s2,hz,hy,hlen,hsame,q⟩:=h
  cases rx;cases ry
  obtain ⟨its,rr,t1,_⟩:=I.list s1
  obtain ⟨its2,rr2,t2,_⟩:=I.list s2
  have e1:=dNq rr
  have e2:=dNq rr2
  subst e1 e2
  refine SeqAt.RcAt.lists (e:=λ j=>eqD (((zs.map (·.2))[j]?).getD .non) (((ys.map (·.2))[j]?).getD .non)) t1.isList t2.isList (by simp [hlen]) (by omega) (λ j h1 h2=>?_) X.prog X.w X.xe _ ⟨.bl _,H,I,rfl,q _ ?_⟩
  . have j1:j < zs.length:=by simpa using h1
    have j2:j < ys.length:=by simpa using h2
    obtain ⟨k1,us1,sq1,a1⟩:=hz _ (List.getElem_mem j1)
    obtain ⟨k2,us2,sq2,a2⟩:=hy _ (List.getElem_mem j2)
    simp only [List.getElem?_map,List.getElem?_eq_getElem j1,List.getElem?_eq_getElem j2,Option.map_some,Option.getD_some,List.getElem_toArray,List.getElem_map]
    by_cases hne:zs[j].1=ys[j].1
    . rw [hne,hsame _ (List.getElem_mem j1) _ (List.getElem_mem j2) hne,bZq k2.data]
      exact SeqAt.EqAt.same _
    . refine SeqAt.EqAt.of_refs hne ?_
      rw [<- k1.fl_eq k2]
      obtain ⟨jts,jr,w1,_⟩:=I.list sq1
      obtain ⟨jts2,jr2,w2,_⟩:=I.list sq2
      have l1:=jr.length
      have l2:=jr2.length
      have l3:=a1.len
      have l4:=a2.len
      by_cases hl:(flD zs[j].2).length=(flD ys[j].2).length
      . have z:=SeqAt.RcAt.lists (A:=X.A.in1) (e:=eqJ (flD zs[j].2) (flD ys[j].2)) w1.isList w2.isList (by rw [List.size_toArray,List.size_toArray];omega) (by show X.A.units+1 < cLine;omega) (λ i h1 h2=>by
          have q:=dQq I (flD zs[j].2) (flD ys[j].2) X.A.in1.in1 us1 us2 jts jts2 (bQq k1.data) (bQq k2.data) a1 a2 jr jr2 (by show X.A.units+1+1+bNq _ < cLine;rw [IS.dp k1.fl_IS];omega) i (by simpa using h1) (by simpa using h2)
          simpa using q)
        rw [List.size_toArray,<- l1,l3,h8q hl] at z
        exact z
      . rw [eIq hl]
        exact SeqAt.RcAt.lists_lengths w1.isList w2.isList (by rw [List.size_toArray,List.size_toArray];simp;omega) (by show X.A.units+1 < cLine;omega)
  . rw [List.all_eq_true]
    have hs:(zs.map λ z=>Value.ref z.1).toArray.size=zs.length:=by simp
    constructor
    . intro hall
      refine List.ext_getElem (by simp [hlen]) λ i h1 h2=>?_
      rw [List.length_map] at h1 h2
      have q:=hall i (List.mem_range.mpr (by rw [hs];exact h1))
      simp only [List.getElem?_map,List.getElem?_eq_getElem h1,List.getElem?_eq_getElem h2,Option.map_some,Option.getD_some] at q
      rw [List.getElem_map,List.getElem_map]
      exact (hz _ (List.getElem_mem h1)).1.eq1 _ (hy _ (List.getElem_mem h2)).1 q
    . intro e i hi
      have h1:i < zs.length:=by rw [<- hs];exact List.mem_range.mp hi
      simp only [<- e]
      rw [List.getElem?_map,List.getElem?_eq_getElem h1]
      exact bZq (hz _ (List.getElem_mem h1)).1.data
abbrev eqLL:DR2:=λ x y G Q=>match x,y with
  | .ref l,.ref m=>∃ zs ys:List (Addr × D),G l=some (.lst (zs.map λ z=>D.ref z.1))/\G m=some (.lst (ys.map λ z=>D.ref z.1))/\(∀ z∈zs,FlG G z)/\(∀ z∈ys,FlG G z)/\zs.length=ys.length/\∀ b:Bool,(b=true ↔ zs.map (·.2)=ys.map (·.2))->Q (.bl b) G
  | _,_=>False
theorem pAq (hu:X.A.units+200 < cLine):AOp X (compareOp .Eq) eqLL:=by
  refine ⟨_,⟨rXq hu⟩,λ x y vx vy G H DQ Q v ax ay r F=>?_⟩
  cases x with
  | ref l=>
    cases y with
    | ref m=>
      cases ax;cases ay
      obtain ⟨zs,ys,e1,e2,hz,hy,hl,q⟩:=r
      obtain ⟨ws,g1,r1⟩:=v _ _ e1
      obtain ⟨ws2,g2,r2⟩:=v _ _ e2
      rw [dKq r1] at g1
      rw [dKq r2] at g2
      refine ⟨l,m,zs,ys,rfl,rfl,.inl (.inl g1),.inl (.inl g2),λ z h=>(hz z h).to v,λ z h=>(hy z h).to v,hl,λ z h1 y h2 e=>?_,λ b hb=>F (.bl b) G _ H (.refl v) rfl (q b hb)⟩
      have w1:=(hz z h1).2
      have w2:=(hy y h2).2
      rw [e,w2] at w1
      exact (hz z h1).1.fl_inj (hy y h2).1 (by simpa using w1.symm)
    | _=>exact (show False from r).elim
  | _=>exact (show False from r).elim
end
end L3
namespace L2
open PySem PySem.Spec PyProof.Rows
section
variable {X:Cx}
def rLS (K:PySem.W.Frag):R2:=λ x y H Q=>∃ a vs z,x=.ref a/\SqL K H a vs/\y=.str z/\Q (.bl false) H
theorem sBq (hu:X.A.units+200 < cLine):OpR X (compareOp .Eq) (rLS X.K):=by
  intro pins s σ H x y v u Q I rx ry h
  obtain ⟨a,vs,z,rfl,sq,rfl,q⟩:=h
  cases rx;obtain ⟨t,rfl⟩:=ry
  obtain ⟨its,rr,t1,_⟩:=I.list sq
  exact SeqAt.RcAt.list_str z t t1.isList (by omega) X.prog X.w X.xe _ ⟨.bl false,H,I,rfl,q⟩
def rInS (K:PySem.W.Frag):R2:=λ x y H Q=>∃ (p a:Addr) (zs:List Str),y=.ref p/\SqT K H p (zs.map V.str)/\x=.ref a/\((∃ vs,SqT K H a vs)\/∃ vs,SqL K H a vs)/\Q (.bl false) H
theorem i8q:∀ {zs:List Str} {its:List Value},Vals (zs.map V.str) its->∀ w∈its,∃ z t,w=Value.str z t
  | [],_,h,w,hw=>by cases h;simp at hw
  | z::zs,_,h,w,hw=>by
    cases h with
    | cons h t=>
      obtain ⟨tk,rfl⟩:=h
      rcases List.mem_cons.mp hw with rfl | hw
      . exact ⟨_,_,rfl⟩
      . exact i8q t w hw
theorem uNq (hu:X.A.units+200 < cLine):OpR X (compareOp .In) (rInS X.K):=by
  intro pins s σ H x y v u Q I rx ry h
  obtain ⟨p,a,zs,rfl,sq,rfl,hx,q⟩:=h
  cases ry;cases rx
  obtain ⟨its,r,pl,_⟩:=I.tuple sq
  refine SeqAt.in_tupleAt (λ _=>false) pl (λ w hw=>?_) ⟨.bl _,H,I,rfl,?_⟩
  . obtain ⟨z,t,rfl⟩:=i8q r w (by simpa using hw)
    rcases hx with ⟨vs,h⟩ | ⟨vs,h⟩
    . obtain ⟨its',_,pl',_⟩:=I.tuple h
      exact SeqAt.EqAt.str_tuple z t pl' (by show X.A.units+1 < cLine;omega)
    . obtain ⟨its',_,pl',_⟩:=I.list h
      exact SeqAt.EqAt.str_list z t pl'.isList (by show X.A.units+1 < cLine;omega)
  . rw [show its.toArray.any (λ _=>false)=false by simp];exact q
end
end L2
namespace L3
open PySem PySem.Spec L2
section
variable {X:Cx}
def eqX:DR2:=λ x y G Q=>match x,y with
  | .ref l,.str _=>onL G l λ _=>Q (.bl false) G
  | x,y=>eqR id x y G Q
theorem d6q (hu:X.A.units+200 < cLine):AOp X (compareOp .Eq) eqX:=by
  obtain ⟨rc,j,rr⟩:=(aIq (X:=X) hu).run
  refine ⟨_,⟨j.run.or (sBq hu)⟩,λ x y vx vy G H DQ Q v ax ay r F=>?_⟩
  unfold eqX at r
  split at r
  . cases ax;cases ay
    obtain ⟨ds,vs,k,s,rl⟩:=b4q v r
    exact .inr ⟨_,vs,_,rfl,s,rfl,F (.bl false) G _ H (.refl v) rfl k⟩
  . exact .inl (rr x y vx vy G H DQ Q v ax ay r F)
def inX:DR2:=λ x y G Q=>match y with
  | .tup ds=>∃ zs:List Str,ds=zs.map D.str/\(match x with
      | .ref l=>onL G l λ _=>Q (.bl false) G
      | .tup _=>Q (.bl false) G
      | x=>d7q x=true/\Q (.bl (inL x ds)) G)
  | _=>False
theorem oFq (zs:List Str):(zs.map D.str).all d7q=true:=by
  rw [List.all_map,List.all_eq_true];intro z _;rfl
theorem iNq {K:PySem.W.Frag} {H:Hp}:∀ {zs:List Str} {vs:List V},AbsL K H (zs.map D.str) vs->vs=zs.map V.str
  | [],_,h=>h
  | z::zs,_,⟨v,r,e,q,l⟩=>by subst e;rw [iNq l,show v=V.str z from q];rfl
theorem n1q (hu:X.A.units+200 < cLine):AOp X (compareOp .In) inX:=by
  obtain ⟨rc,j,rr⟩:=(iJq (X:=X)).run
  refine ⟨_,⟨j.run.or (uNq hu)⟩,λ x y vx vy G H DQ Q v ax ay r F=>?_⟩
  unfold inX at r
  split at r
  . obtain ⟨zs,rfl,r⟩:=r
    obtain ⟨p,ws,rfl,sq,rl⟩:=id ay
    have sq':=sq
    rw [iNq rl] at sq'
    split at r
    . cases ax
      obtain ⟨ds,vs,k,s,_⟩:=b4q v r
      exact .inr ⟨p,_,zs,rfl,sq',rfl,.inr ⟨_,s⟩,F (.bl false) G _ H (.refl v) rfl k⟩
    . obtain ⟨a,vs,rfl,s1,_⟩:=ax
      exact .inr ⟨p,a,zs,rfl,sq',rfl,.inl ⟨_,s1⟩,F (.bl false) G _ H (.refl v) rfl r⟩
    . exact .inl (rr x _ vx _ G H DQ Q v ax ay ⟨r.1,oFq zs,by simpa using r.2⟩ F)
  . exact r.elim
end
end L3
namespace L2
open PySem PySem.Spec PyProof.Rows
section
variable {prog:Program} {w:World} {A:Around} {E:Value->Shared->Prop} {s:Shared}
theorem l0q (n:Nat):Builtin.Slice.sliceAdjust none none (-1) (n:Int)=((n:Int) - 1,-1):=by
  unfold Builtin.Slice.sliceAdjust
  simp
theorem lDq (n:Nat):Builtin.Slice.slicePlaces ((n:Int) - 1) (-1) (-1)=n:=by
  unfold Builtin.Slice.slicePlaces
  simp
  try omega
theorem pSq (xs:Array Value):((List.range xs.size).filterMap λ(m:Nat)=>xs[((xs.size:Int) - 1+(m:Int) * -1).toNat]?).toArray=xs.toList.reverse.toArray:=by
  congr 1
  have e:(λ(m:Nat)=>xs[((xs.size:Int) - 1+(m:Int) * -1).toNat]?)=λ m=>xs[xs.size - 1 - m]?:=by
    funext m
    have:((xs.size:Int) - 1+(m:Int) * -1).toNat=xs.size - 1 - m:=by omega
    rw [this]
  rw [e]
  have h:=PySem.W.krv_range xs.size
  have h2:=PySem.W.krv_all xs
  have:(List.range xs.size).filterMap (λ m=>xs[xs.size - 1 - m]?)=((List.range xs.size).map λ k=>xs.size - 1 - k).filterMap (xs[·]?):=by rw [List.filterMap_map];rfl
  rw [this,h,List.filterMap_reverse,h2]
theorem e3q {t sl:Addr} {items:Array Value} {vk:Value} {Q:Value->Shared->Prop} (ht:IsTup s.heap t items) (hs:s.heap.IsSliceOf sl .none .none vk) (pk:IsPart vk (some (-1)))
    (h:Q (.ref s.heap.objs.size) { s with heap:=s.heap.push { cls:=.type "tuple", data:=.seq items.toList.reverse.toArray } })
    (hsz:items.size<=sizeLine):wpAny (model prog w) A (getItem (.ref t) (.ref sl)) Q E s:=by
  have htake:sizeOk (.seq items.toList.reverse.toArray):=by
    show items.toList.reverse.toArray.size<=sizeLine
    rw [List.size_toArray,List.length_reverse,Array.length_toList];omega
  obtain ⟨os,hos,hcs,hds⟩:=id hs
  have hTs:s.TypeIs (.ref sl) "slice":=⟨os,hos,hcs⟩
  unfold getItem
  try with_reducible refine wpAny_holding ?_
  first | refine wpAny_bind (wpAny_pure ?_) | skip
  refine wpAny_bind (wpAny_sequenceKey ht.typeIs (by decide) ?_)
  refine wpAny_bind (wpAny_callSpecial?_slot (name:=Str.ofString "__getitem__") ht.typeIs slot_tuple_getitem (wpAny_call_entry slot_tuple_getitem ht.typeIs entry_tuple_getitem ?_ (args_tuple_getitem _ _)))
  refine (show wpAny _ _ (Builtin.Tuple.tupleItemsOf (.ref t) >>= _) _ _ s from wpAny_bind (tupleItemsOf_ ht (wpAny_bind (wpAny_typeOf hTs ?_))))
  rw [if_pos (by decide)]
  have hap:∀ (Q':Int × Int × Nat->Shared->Prop) (E':Value->Shared->Prop) (A':Around),Q' ((items.size:Int) - 1,-1,items.size) s->wpAny (model prog w) A' (Builtin.Slice.sliceApplied (.ref sl) (pure (items.size:Int))) Q' E' s:=λ Q' E' A' q=>by
    unfold Builtin.Slice.sliceApplied Builtin.Slice.sliceFields
    refine wpAny_bind (wpAny_bind (wpAny_field hos hds (x:=.none) rfl (wpAny_bind (wpAny_field hos hds (x:=.none) rfl (wpAny_bind (wpAny_field hos hds (x:=vk) rfl (wpAny_pure ?_)))))))
    refine wpAny_bind (HT.slicePart_ pk ?_)
    refine (show wpAny _ _ (if ((-1:Int)==0)=true then _ else _) _ _ s from ?_)
    rw [if_neg (by decide)]
    refine wpAny_bind (HT.slicePart_ .none (wpAny_bind (HT.slicePart_ .none (wpAny_bind (wpAny_pure ?_)))))
    show wpAny _ _ (match Builtin.Slice.sliceAdjust none none (-1) (items.size:Int) with | (lo,hi)=>pure (lo,(-1:Int),Builtin.Slice.slicePlaces lo hi (-1))) _ _ s
    rw [l0q]
    show wpAny _ _ (pure ((items.size:Int) - 1,(-1:Int),Builtin.Slice.slicePlaces ((items.size:Int) - 1) (-1) (-1))) _ _ s
    rw [lDq]
    exact wpAny_pure q
  refine wpAny_bind (hap _ _ _ ?_)
  refine (show wpAny _ _ (if ((((items.size:Int) - 1)==0&&(-1:Int)==1&&items.size==items.size)=true) then _ else _) _ _ s from ?_)
  rw [if_neg (by simp),pSq]
  first
    | exact wpAny_bind (m:=Builtin.Tuple.tupleExact _) (wpAny_newObj_type (wpAny_pure ⟨_,rfl,wpAny_pure h⟩) htake)
    | exact wpAny_bind (m:=Builtin.Tuple.tupleExact _) (wpAny_newObj_type (wpAny_bind (wpAny_pure (wpAny_pure ⟨_,rfl,wpAny_pure h⟩))) htake)
    | exact wpAny_bind (wpAny_bind (m:=Builtin.Tuple.tupleExact _) (wpAny_newObj_type (wpAny_pure (wpAny_pure ⟨_,rfl,wpAny_pure h⟩)) htake))
    | exact wpAny_bind (wpAny_bind (m:=Builtin.Tuple.tupleExact _) (wpAny_newObj_type (wpAny_pure ⟨_,rfl,wpAny_pure h⟩) htake))
end
section
variable {X:Cx} {e st:Expr} {te:TE} {tk:TO} {pos p2:Pos}
def tRvT (K:PySem.W.Frag) (te:TE) (tk:TO):TE:=λ σ H Q=>te σ H λ x H1=>tk σ H1 λ k H2=>k=some (-1)/\∃ (a:Addr) (xs:List V),x=.ref a/\SqT K H2 a xs/\∀ p,H2 p=none->Q (.ref p) (upd H2 p (.tup xs.reverse))
theorem vLq (he:PE X e te) (hk:PO X (some st) tk):PE X (.Subscript e (.Slice none none (some st) p2) pos) (tRvT X.K te tk):=by
  intro pins s σ H Q I h
  refine Subscript_ (thn (he pins s σ H _ I h) λ v s1 ⟨x,H1,I1,r1,q1⟩=>?_)
  refine wpAny_Slice ?_
  rw [evalPart_none]
  refine wpAny_pure (wpAny_pure ?_)
  refine thn (hk pins s1 σ H1 _ I1 q1) λ vk s3 ⟨k,H3,I3,pk,e1,a,xs,e2,hx,q3⟩=>?_
  subst e1 e2
  cases r1
  have I4:Inv X pins σ H3 { s3 with heap:=s3.heap.push { cls:=.type "slice", data:=.fields #[.none,.none,vk] } }:=I3.kept (t':=s3.toks) λ b ob q=>Heap.get?_push_of_some _ q
  obtain ⟨its,r,ht,hz⟩:=I4.tuple hx
  have hlen:=r.length
  show wpAny (model X.prog X.w) X.A (subscriptTail e (.Slice none none (some st) p2) (.ref a) (.ref s3.heap.objs.size)) (EP X pins σ Q) X.xe { s3 with heap:=s3.heap.push { cls:=.type "slice", data:=.fields #[.none,.none,vk] } }
  refine tail_any (ops:=[.ref a,.ref s3.heap.objs.size]) ht.typeIs slot_tuple_getitem.lookup ?_ (by with_unfolding_all rfl)
  refine e3q ht (Heap.IsSliceOf.new ..) pk ?_ (by rw [List.size_toArray];omega)
  refine ⟨.ref _,_,I4.laid (t':=s3.toks) (o:=.tup xs.reverse) (λ b ob q=>Heap.get?_push_of_some _ q) (Nat.le_refl _) ?_,rfl,q3 _ (I4.hok.fresh (Nat.le_refl _))⟩
  exact ⟨by rw [List.length_reverse];exact hz,its.reverse,cTq r,IsTup.new _ _⟩
end
end L2
namespace L3
open PySem PySem.Spec L2
section
variable {X:Cx} {e st:Expr} {te:DTE} {tk:DTO} {pos p2:Pos}
abbrev dRvT (te:DTE) (tk:DTO):DTE:=λ ρ G Q=>te ρ G λ x G1=>tk ρ G1 λ k G2=>k=some (-1)/\match x with
  | .tup ds=>Q (.tup ds.reverse) G2
  | _=>False
theorem w6q (he:AE X e te) (hk:AO X (some st) tk):AE X (.Subscript e (.Slice none none (some st) p2) pos) (dRvT te tk):=by
  obtain ⟨ce,je,re⟩:=he.run
  obtain ⟨ck,jk,rk⟩:=hk.run
  refine ⟨_,⟨vLq je.run jk.run⟩,λ ρ G DQ σ H Q B q F=>re ρ G _ σ H _ B q λ x G1 v H1 g1 ax q1=>rk ρ G1 _ σ H1 _ (B.go g1) q1 λ k G2 H2 g2 ⟨e1,q2⟩=>?_⟩
  cases x with
  | tup ds=>
    obtain ⟨a,vs,rfl,s,rl⟩:=ax.mono g2.tup
    refine ⟨e1,a,vs,rfl,s,λ p hp=>?_⟩
    have g3:=Go.newT (G:=G2) (o:=.tup vs.reverse) g2.vw hp
    exact F (.tup ds.reverse) _ _ _ ((g1.trans g2).trans g3) ⟨p,vs.reverse,rfl,.inl (.inl b3q),rl.reverse.mono g3.tup⟩ q2
  | _=>exact (show False from q2).elim
end
end L3
namespace L2
open PySem PySem.Spec PyProof.Rows
def Itw (K:PySem.W.Frag) (a:Addr) (n:Nat):It:=
  ⟨λ i H=>i < n/\∃ xs,SqT K H a xs/\xs.length=n,λ i H x H'=>H'=H/\∀ xs,SqT K H a xs->xs[n - 1 - i]?=some x,λ i _=>n<=i⟩
theorem oLq {P:Program} {w:World} {K:PySem.W.Frag} {tg:Expr} (a it:Addr) (n:Nat):Turn P w K tg (Itw K a n) [it] it (λ i h=>i<=n/\KRv.IsRev h it a ((n:Int) - 1 - (i:Int))) where
  mem:=by simp
  obj:=λ i h st b hb=>by
    have e:b=it:=by simpa using hb
    subst e
    exact ⟨_,st.2,λ v z=>by cases (show Data.fields _=Data.cell v from z)⟩
  keep:=λ i h h' st k=>⟨st.1,k it (by simp) _ st.2⟩
  item:=by
    intro X hP hw hK hc i pins s σ H E I hf st hg
    subst hP hw hK
    obtain ⟨hi,xs,hq,hx⟩:=hg
    obtain ⟨_,st⟩:=st
    obtain ⟨its,rv,p,hz⟩:=I.tuple hq
    have hlt:n - 1 - i < xs.length:=by omega
    have hx':xs[n - 1 - i]?=some xs[n - 1 - i]:=List.getElem?_eq_getElem hlt
    obtain ⟨u,hu,ru⟩:=rv.get hx'
    obtain ⟨f0,f1,f2,f3,f4,f5⟩:=hf it (by simp)
    have hn:=dGq
    rw [show (n:Int) - 1 - (i:Int)=((n - 1 - i:Nat):Int) by omega] at st
    refine KRv.nextT st p (x:=u) (by simpa using hu) (by omega) λ h' tk st' sb=>?_
    have I1:Inv X pins σ H { s with heap:=h',toks:=tk }:=I.turned (λ b o hb e=>(sb.2 b hb).trans e) f0 f1 f3 f4 f5
    refine ⟨u,rfl,nZq (s:={ s with heap:=h',toks:=tk }) st' rfl rfl (by decide) ⟨_,H,I1,ru,⟨rfl,λ ys hy=>by rw [I.tuple_inj hy hq];exact hx'⟩,⟨hi,?_⟩,λ b hb=>(hf b hb).1⟩⟩
    rw [show (n:Int) - 1 - ((i+1:Nat):Int)=((n - 1 - i:Nat):Int) - 1 by omega];exact st'
  done:=by
    intro X hP hw hK hc i pins s σ H E I hf st hg
    subst hP hw hK
    have hg':n<=i:=hg
    obtain ⟨hi,st⟩:=st
    obtain ⟨f0,f1,f2,f3,f4,f5⟩:=hf it (by simp)
    exact KRv.endT (I.ok.hd hc) st (by omega) λ h' eb=>⟨rfl,I.turned (t':=s.toks) (λ b o hb e=>eb b o hb e) f0 f1 f3 f4 f5⟩
  self:=λ _ _ _ _ _ st h=>KRv.iterT st.2 h
section
variable {X:Cx}
def yYq (K:PySem.W.Frag) (tl:TE):TI:=λ σ H R=>tl σ H λ x H1=>∃ a xs,x=.ref a/\SqT K H1 a xs/\R (Itw K a xs.length) H1
theorem tDq {tg e:Expr} {tl:TE} {p pos:Pos} (hg:Gl X "reversed") (hm:X.mg "reversed" = none) (hl:PE X e tl) (hs:aOq e=true):PI X tg (.Call (.Name "reversed" p) [e] [] pos) (yYq X.K tl):=by
  intro pins s σ H R I h
  refine thn (mRq (R:=λ a xs H1=>R (Itw X.K a xs.length) H1) hg hm hl hs I h) λ v s1 h1=>?_
  obtain ⟨a,it,xs,its,H1,rfl,I1,hit,ht,hne,rv,hz,_,fp,q⟩:=h1
  have hl':=rv.length
  refine KRv.iterT hit ⟨it,[it],_,_,H1,rfl,I1,oLq a it xs.length,?_,λ b hb=>?_,q⟩
  . rw [List.size_toArray,<- hl'] at hit
    exact ⟨Nat.zero_le _,by simpa using hit⟩
  . have e:b=it:=by simpa using hb
    subst e
    exact fp
end
end L2
namespace L3
open PySem PySem.Spec L2
section
variable {X:Cx} {tg a:Expr} {ta:DTE} {p pos:Pos}
abbrev w4q (ta:DTE):DTI:=λ ρ G R=>ta ρ G λ x G1=>match x with
  | .tup ds=>R ⟨ds.reverse,λ _=>True⟩ G1
  | _=>False
theorem tBq (hg:Gl X "reversed") (hm:X.mg "reversed" = none) (ha:AE X a ta) (hs:aOq a=true:=by rfl):AI X tg (.Call (.Name "reversed" p) [a] [] pos) (w4q ta):=by
  obtain ⟨ca,ja,ra⟩:=ha.run
  refine ⟨_,⟨tDq hg hm ja.run hs⟩,λ ρ G DR σ H R B q F=>ra ρ G _ σ H _ B q λ x G1 v H1 g1 ax q1=>?_⟩
  cases x with
  | tup ds=>
    obtain ⟨l,vs,rfl,sq,r⟩:=ax
    refine ⟨l,vs,rfl,sq,F ⟨ds.reverse,λ _=>True⟩ _ G1 H1 g1 (λ G2 H2 g2 _=>?_) q1⟩
    have sq2:=g2.tup.tp _ _ sq
    have r2:=r.mono g2.tup
    have n1:=r.len
    refine ⟨λ i d hd'=>?_,λ i hi=>?_⟩
    . replace hd':ds.reverse[i]?=some d:=hd'
      have hi:i < ds.length:=by
        rcases Nat.lt_or_ge i ds.length with c | c
        . exact c
        . rw [List.getElem?_eq_none (by rw [List.length_reverse];exact c)] at hd';cases hd'
      rw [List.getElem?_reverse hi] at hd'
      obtain ⟨w,hw,aw⟩:=r2.get hd'
      refine ⟨⟨by omega,vs,sq2,rfl⟩,λ x H' y=>?_⟩
      obtain ⟨rfl,y⟩:=y
      have z:=y vs sq2
      rw [n1,hw] at z
      cases z
      exact ⟨.refl g2.vw,aw⟩
    . have hi':ds.reverse.length<=i:=hi
      rw [List.length_reverse] at hi'
      show vs.length<=i
      omega
  | _=>exact (show False from q1).elim
end
def fUq:List D->Bool
  | a::b::r=>(ltD b a==some false)&&fUq (b::r)
  | _=>true
inductive IsKd:D->Prop
  | is (n:Int):IsKd (.tup [.str "is", .int n])
  | some:IsKd (.tup [.str "some"])
  | both {a b:D}:IsKd a->IsKd b->ofA a=true->ofA b=true->IsKd (.tup [.str "both", a,b])
  | left {a:D}:IsKd a->IsKd (.tup [.str "left", a])
  | right {a:D}:IsKd a->IsKd (.tup [.str "right", a])
  | way {ds:List D} {k:D}:(∀ d∈ds,IsKd d)->fUq ds=true->IsKd k->IsKd (.tup [.str "way", .tup ds,k])
theorem IsKd.isK {d:D} (h:IsKd d):IsK d:=by
  induction h with
  | is n=>exact .is n
  | some=>exact .some
  | both _ _ _ _ h1 h2=>exact .both h1 h2
  | left _ h=>exact .left h
  | right _ h=>exact .right h
  | way _ _ _ h1 h2=>exact .way h1 h2
inductive Frm:D->Prop
  | is (n:Int):Frm (.tup [.str "is", .int n])
  | some:Frm (.tup [.str "some"])
  | both {a b:D}:Frm a->Frm b->ofA a=true->ofA b=true->Frm (.tup [.str "both", a,b])
  | left {a:D}:Frm a->Frm (.tup [.str "left", a])
  | right {a:D}:Frm a->Frm (.tup [.str "right", a])
  | way {ds:List D} {k:D}:(∀ d∈ds,Frm d)->Frm k->Frm (.tup [.str "way", .tup ds,k])
theorem Frm.isK {d:D} (h:Frm d):IsK d:=by
  induction h with
  | is n=>exact .is n
  | some=>exact .some
  | both _ _ _ _ h1 h2=>exact .both h1 h2
  | left _ h=>exact .left h
  | right _ h=>exact .right h
  | way _ _ h1 h2=>exact .way h1 h2
inductive HF:D->List D->List (List D)->Prop
  | is (n:Int):HF (.tup [.str "is", .int n]) [] []
  | some:HF (.tup [.str "some"]) [] []
  | both {a b:D}:ofA a=true->ofA b=true->HF (.tup [.str "both", a,b]) [a,b] []
  | left (a:D):HF (.tup [.str "left", a]) [a] []
  | right (a:D):HF (.tup [.str "right", a]) [a] []
  | way (ds:List D) (k:D):HF (.tup [.str "way", .tup ds,k]) (ds++[k]) [ds]
theorem HF.kd {d:D} {is:List D} {bs:List (List D)} (h:HF d is bs):IsKd d ↔ (∀ x∈is,IsKd x)/\∀ b∈bs,fUq b=true:=by
  cases h with
  | is n=>exact ⟨λ _=>by simp,λ _=>.is n⟩
  | some=>exact ⟨λ _=>by simp,λ _=>.some⟩
  | both o1 o2=>exact ⟨λ z=>by cases z with | both h1 h2 _ _=>simp [h1,h2],λ z=>.both (z.1 _ (by simp)) (z.1 _ (by simp)) o1 o2⟩
  | left a=>exact ⟨λ z=>by cases z with | left h=>simp [h],λ z=>.left (z.1 _ (by simp))⟩
  | right a=>exact ⟨λ z=>by cases z with | right h=>simp [h],λ z=>.right (z.1 _ (by simp))⟩
  | way ds k=>
    refine ⟨λ z=>by cases z with | way h1 h2 h3=>exact ⟨λ x hx=>by rcases List.mem_append.mp hx with hx | hx;exact h1 x hx;simp at hx;subst hx;exact h3,by simpa using h2⟩,λ z=>.way (λ d hd=>z.1 d (List.mem_append_left _ hd)) (z.2 _ (by simp)) (z.1 _ (by simp))⟩
theorem HF.fr {d:D} {is:List D} {bs:List (List D)} (h:HF d is bs) (hi:∀ x∈is,Frm x):Frm d/\∀ b∈bs,∀ x∈b,Frm x:=by
  cases h with
  | is n=>exact ⟨.is n,by simp⟩
  | some=>exact ⟨.some,by simp⟩
  | both o1 o2=>exact ⟨.both (hi _ (by simp)) (hi _ (by simp)) o1 o2,by simp⟩
  | left a=>exact ⟨.left (hi _ (by simp)),by simp⟩
  | right a=>exact ⟨.right (hi _ (by simp)),by simp⟩
  | way ds k=>exact ⟨.way (λ d hd=>hi d (List.mem_append_left _ hd)) (hi _ (by simp)),λ b hb x hx=>by simp at hb;subst hb;exact hi x (List.mem_append_left _ hx)⟩
theorem IsKd.hf {d:D} (h:IsKd d):∃ is bs,HF d is bs:=by
  cases h with
  | is n=>exact ⟨_,_,.is n⟩
  | some=>exact ⟨_,_,.some⟩
  | both _ _ o1 o2=>exact ⟨_,_,.both o1 o2⟩
  | left _=>exact ⟨_,_,.left _⟩
  | right _=>exact ⟨_,_,.right _⟩
  | way _ _ _=>exact ⟨_,_,.way _ _⟩
inductive Th (L:Addr->Prop):D->Prop
  | int (n:Int):Th L (.int n)
  | str (z:Str):Th L (.str z)
  | non:Th L .non
  | bl (b:Bool):Th L (.bl b)
  | ref {a:Addr} (h:L a):Th L (.ref a)
  | tup {ds:List D} (h:∀ d∈ds,Th L d):Th L (.tup ds)
theorem Th.mono {L M:Addr->Prop} (h:∀ a,L a->M a) {d:D} (t:Th L d):Th M d:=by
  induction t with
  | int n=>exact .int n
  | str z=>exact .str z
  | non=>exact .non
  | bl b=>exact .bl b
  | ref q=>exact .ref (h _ q)
  | tup _ ih=>exact .tup ih
theorem IsK.th {L:Addr->Prop} {d:D} (h:IsK d):Th L d:=by
  induction h with
  | is n=>exact .tup λ d hd=>by simp at hd;rcases hd with rfl | rfl;exact .str _;exact .int _
  | some=>exact .tup λ d hd=>by simp at hd;subst hd;exact .str _
  | both _ _ h1 h2=>exact .tup λ d hd=>by simp at hd;rcases hd with rfl | rfl | rfl;exact .str _;exact h1;exact h2
  | left _ h1=>exact .tup λ d hd=>by simp at hd;rcases hd with rfl | rfl;exact .str _;exact h1
  | right _ h1=>exact .tup λ d hd=>by simp at hd;rcases hd with rfl | rfl;exact .str _;exact h1
  | way _ _ h1 h2=>exact .tup λ d hd=>by simp at hd;rcases hd with rfl | rfl | rfl;exact .str _;exact .tup h1;exact h2
theorem Th.items {L:Addr->Prop} {ds:List D} (h:Th L (.tup ds)):∀ d∈ds,Th L d:=by cases h with | tup h=>exact h
abbrev isL (G:DV) (a:Addr):Prop:=∃ ds,G a=some (.lst ds)
mutual
def tsz:D->Nat
  | .tup ds=>1+b9q ds
  | _=>1
def b9q:List D->Nat
  | []=>0
  | d::ds=>tsz d+b9q ds
end
mutual
def wid:D->Nat
  | .tup ds=>max ds.length (iMq ds)
  | _=>0
def iMq:List D->Nat
  | []=>0
  | d::ds=>max (wid d) (iMq ds)
end
theorem eJq:∀ xs ys:List D,b9q (xs++ys)=b9q xs+b9q ys
  | [],ys=>by simp [b9q]
  | x::xs,ys=>by rw [List.cons_append,b9q,b9q,eJq xs ys,Nat.add_assoc]
theorem dDq {d:D}:∀ {ds:List D},d∈ds->tsz d<=b9q ds
  | [],h=>by simp at h
  | e::ds,h=>by
    rw [b9q]
    rcases List.mem_cons.mp h with rfl | h
    . omega
    . have:=dDq h;omega
theorem gKq {d:D}:∀ {ds:List D},d∈ds->wid d<=iMq ds
  | [],h=>by simp at h
  | e::ds,h=>by
    rw [iMq]
    rcases List.mem_cons.mp h with rfl | h
    . omega
    . have:=gKq h;omega
theorem mBq:∀ d:D,1<=tsz d
  | .tup ds=>by rw [tsz];omega
  | .int _=>Nat.le_refl _
  | .str _=>Nat.le_refl _
  | .non=>Nat.le_refl _
  | .bl _=>Nat.le_refl _
  | .ref _=>Nat.le_refl _
  | .ty _=>Nat.le_refl _
  | .frl _=>Nat.le_refl _
theorem dBq:∀ ds:List D,ds.length<=b9q ds
  | []=>Nat.zero_le _
  | d::ds=>by have:=dBq ds;have:=mBq d;rw [b9q,List.length_cons];omega
theorem iHq {xs ys:List D} (h:xs.Perm ys):b9q xs=b9q ys:=by
  induction h with
  | nil=>rfl
  | cons _ _ ih=>rw [b9q,b9q,ih]
  | swap _ _ _=>rw [b9q,b9q,b9q,b9q];omega
  | trans _ _ h1 h2=>rw [h1,h2]
theorem iZq {n:Nat}:∀ {ds:List D},(∀ d∈ds,tsz d<=n)->b9q ds<=ds.length * n
  | [],_=>by simp [b9q]
  | d::ds,h=>by
    have h1:=h d (List.mem_cons_self ..)
    have h2:=iZq λ e he=>h e (List.mem_cons_of_mem _ he)
    rw [b9q,List.length_cons,Nat.succ_mul];omega
theorem h5q {n:Nat}:∀ {ds:List D},(∀ d∈ds,wid d<=n)->iMq ds<=n
  | [],_=>Nat.zero_le _
  | d::ds,h=>by
    have h1:=h d (List.mem_cons_self ..)
    have h2:=h5q λ e he=>h e (List.mem_cons_of_mem _ he)
    rw [iMq];omega
structure Bd (s p w:Nat) (d:D):Prop where
  sz:tsz d<=s
  dp:d.dp<=p
  wd:wid d<=w
theorem Bd.mono {s p w s' p' w':Nat} {d:D} (h:Bd s p w d) (h1:s<=s') (h2:p<=p') (h3:w<=w'):Bd s' p' w' d:=⟨Nat.le_trans h.sz h1,Nat.le_trans h.dp h2,Nat.le_trans h.wd h3⟩
theorem Bd.item {s p w:Nat} {ds:List D} (h:Bd s p w (.tup ds)) {d:D} (hd:d∈ds):Bd (s - 1) (p - 1) w d:=by
  have h1:=h.sz;have h2:=h.dp;have h3:=h.wd
  rw [tsz] at h1;rw [D.dp] at h2;rw [wid] at h3
  have:=dDq hd;have:=eHq hd;have:=gKq hd
  exact ⟨by omega,by omega,by omega⟩
theorem dUq {ds:List D} (h:Srt ds):fUq ds=true:=by
  induction ds with
  | nil=>rfl
  | cons a r ih=>
    cases r with
    | nil=>rfl
    | cons b r=>
      rw [fUq,ih (List.Pairwise.of_cons h),(List.pairwise_cons.mp h).1 b (List.mem_cons_self ..)];rfl
theorem kQq {a:D}:∀ {r:List D},IsK a->(∀ d∈r,IsK d)->fUq (a::r)=true->∀ d∈r,ltD d a=some false
  | [],_,_,_,d,hd=>by simp at hd
  | b::r,ha,hr,h,d,hd=>by
    rw [fUq,Bool.and_eq_true,beq_iff_eq] at h
    have kb:=hr b (List.mem_cons_self ..)
    rcases List.mem_cons.mp hd with rfl | hd
    . exact h.1
    . have kd:=hr d (List.mem_cons_of_mem _ hd)
      have h2:=kQq kb (λ e he=>hr e (List.mem_cons_of_mem _ he)) h.2 d hd
      obtain ⟨v,hv⟩:=Option.isSome_iff_exists.mp (kd.lt ha)
      cases v with
      | false=>exact hv
      | true=>
        rcases kb.tri d kd with e | e | e
        . subst e;rw [h.1] at hv;cases hv
        . have z:=t8q kb d a kd ha e hv
          rw [h.1] at z;cases z
        . rw [h2] at e;cases e
theorem kAq:∀ {ds:List D},(∀ d∈ds,IsK d)->fUq ds=true->Srt ds
  | [],_,_=>List.Pairwise.nil
  | a::r,hk,h=>by
    have hr:∀ d∈r,IsK d:=λ d hd=>hk d (List.mem_cons_of_mem _ hd)
    refine List.pairwise_cons.mpr ⟨kQq (hk a (List.mem_cons_self ..)) hr h,kAq hr ?_⟩
    cases r with
    | nil=>rfl
    | cons b r=>rw [fUq,Bool.and_eq_true] at h;exact h.2
theorem xAq {a b:D} (ha:IsK a) (hb:IsK b) (h1:ltD a b=some false) (h2:ltD b a=some false):a=b:=by
  rcases ha.tri b hb with h | h | h
  . exact h
  . rw [h1] at h;cases h
  . rw [h2] at h;cases h
theorem k6q:∀ {xs ys:List D},(∀ d∈xs,IsK d)->xs.Perm ys->Srt xs->Srt ys->xs=ys
  | [],ys,_,hp,_,_=>(List.perm_nil.mp hp.symm).symm
  | x::xs,[],_,hp,_,_=>absurd (List.perm_nil.mp hp) (by simp)
  | x::xs,y::ys,hk,hp,h1,h2=>by
    have kx:=hk x (List.mem_cons_self ..)
    have ky:IsK y:=hk y (hp.mem_iff.mpr (List.mem_cons_self ..))
    have e:x=y:=by
      have m1:x∈y::ys:=hp.mem_iff.mp (List.mem_cons_self ..)
      have m2:y∈x::xs:=hp.mem_iff.mpr (List.mem_cons_self ..)
      rcases List.mem_cons.mp m1 with h | h
      . exact h
      . rcases List.mem_cons.mp m2 with g | g
        . exact g.symm
        . exact xAq kx ky ((List.pairwise_cons.mp h2).1 x h) ((List.pairwise_cons.mp h1).1 y g)
    subst e
    rw [k6q (λ d hd=>hk d (List.mem_cons_of_mem _ hd)) (List.Perm.cons_inv hp) (List.Pairwise.of_cons h1) (List.Pairwise.of_cons h2)]
theorem sEq {xs ys:List D} (hk:∀ d∈xs,IsK d) (hp:xs.Perm ys) (hs:Srt ys):xs=ys ↔ fUq xs=true:=
  ⟨λ e=>by rw [e];exact dUq hs,λ h=>k6q hk hp (kAq hk h) hs⟩
def jHq:DSp:=λ ds G Q=>∃ d:D,ds=[d]/\Th (isL G) d/\∀ b:Bool,(b=true ↔ ∃ n,d=.int n)->Q (.bl b) G
def t2q:DSp:=λ ds G Q=>∃ d:D,ds=[d]/\Th (isL G) d/\Q (.bl (ofA d)) G
def rBq:DSp:=λ ds G Q=>∃ d:D,ds=[d]/\Th (isL G) d/\∀ b:Bool,(b=true ↔ ∃ is bs,HF d is bs)->Q (.bl b) G
def nRq:DSp:=λ ds G Q=>∃ (d:D) (is:List D) (bs:List (List D)),ds=[d]/\HF d is bs/\tsz d<=100000/\Q (.tup is) G
def nWq:DSp:=λ ds G Q=>∃ d:D,ds=[d]/\IsK d/\tsz d<=49000/\∀ l,G l=none->Q (.ref l) (up G l (.lst (flD d)))
def gLq:DSp:=λ ds G Q=>∃ es:List D,ds=[.tup es]/\(∀ d∈es,IsK d/\tsz d<=49000)/\es.length < 64/\Q (.bl (fUq es)) G
def gQq:DSp:=λ ds G Q=>∃ d:D,ds=[d]/\Th (isL G) d/\Bd 49000 150 63 d/\∀ b:Bool,(b=true ↔ IsKd d)->Q (.bl b) G
def Dw (a:Addr) (G G':DV):Prop:=∃ G0,Fx a G G0/\Sub G0 G'
theorem HF.inv {d:D} {is:List D} {bs:List (List D)} (h:HF d is bs):∀ {z:Str} {r:List D},d=.tup (.str z::r)->(z = "is"/\(∃ n,r=[.int n]))\/(z = "some"/\r=[])\/(z = "both"/\∃ a b,r=[a,b]/\ofA a=true/\ofA b=true)\/((z = "left"\/z = "right")/\∃ a,r=[a])\/(z = "way"/\∃ ds k,r=[.tup ds,k]):=by
  intro z r e
  cases h with
  | is n=>cases e;exact .inl ⟨rfl,_,rfl⟩
  | some=>cases e;exact .inr (.inl ⟨rfl,rfl⟩)
  | both o1 o2=>cases e;exact .inr (.inr (.inl ⟨rfl,_,_,rfl,o1,o2⟩))
  | left a=>cases e;exact .inr (.inr (.inr (.inl ⟨.inl rfl,_,rfl⟩)))
  | right a=>cases e;exact .inr (.inr (.inr (.inl ⟨.inr rfl,_,rfl⟩)))
  | way ds k=>cases e;exact .inr (.inr (.inr (.inr ⟨rfl,_,_,rfl⟩)))
theorem hf_is {r:List D}:(∃ is bs,HF (.tup (.str "is"::r)) is bs) ↔ ∃ n,r=[.int n]:=by
  constructor
  . rintro ⟨_,_,h⟩
    rcases h.inv rfl with ⟨_,h⟩ | ⟨e,_⟩ | ⟨e,_⟩ | ⟨e | e,_⟩ | ⟨e,_⟩<;>first | exact h | exact absurd e (by decide)
  . rintro ⟨n,rfl⟩;exact ⟨_,_,.is n⟩
theorem tUq {r:List D}:(∃ is bs,HF (.tup (.str "some"::r)) is bs) ↔ r=[]:=by
  constructor
  . rintro ⟨_,_,h⟩
    rcases h.inv rfl with ⟨e,_⟩ | ⟨_,h⟩ | ⟨e,_⟩ | ⟨e | e,_⟩ | ⟨e,_⟩<;>first | exact h | exact absurd e (by decide)
  . rintro rfl;exact ⟨_,_,.some⟩
theorem hf_both {r:List D}:(∃ is bs,HF (.tup (.str "both"::r)) is bs) ↔ ∃ a b,r=[a,b]/\ofA a=true/\ofA b=true:=by
  constructor
  . rintro ⟨_,_,h⟩
    rcases h.inv rfl with ⟨e,_⟩ | ⟨e,_⟩ | ⟨_,h⟩ | ⟨e | e,_⟩ | ⟨e,_⟩<;>first | exact h | exact absurd e (by decide)
  . rintro ⟨a,b,rfl,o1,o2⟩;exact ⟨_,_,.both o1 o2⟩
theorem hf_way {r:List D}:(∃ is bs,HF (.tup (.str "way"::r)) is bs) ↔ ∃ ds k,r=[.tup ds,k]:=by
  constructor
  . rintro ⟨_,_,h⟩
    rcases h.inv rfl with ⟨e,_⟩ | ⟨e,_⟩ | ⟨e,_⟩ | ⟨e | e,_⟩ | ⟨_,h⟩<;>first | exact h | exact absurd e (by decide)
  . rintro ⟨a,b,rfl⟩;exact ⟨_,_,.way _ _⟩
theorem yJq {z:Str} {r:List D} (h1:z≠"is") (h2:z≠"some") (h3:z≠"way") (h4:z≠"both"):(∃ is bs,HF (.tup (.str z::r)) is bs) ↔ (z = "left"\/z = "right")/\∃ a,r=[a]:=by
  constructor
  . rintro ⟨_,_,h⟩
    rcases h.inv rfl with ⟨e,_⟩ | ⟨e,_⟩ | ⟨e,_⟩ | h | ⟨e,_⟩
    . exact absurd e h1
    . exact absurd e h2
    . exact absurd e h4
    . exact h
    . exact absurd e h3
  . rintro ⟨rfl | rfl,a,rfl⟩
    . exact ⟨_,_,.left a⟩
    . exact ⟨_,_,.right a⟩
theorem vPq {d:D} {is:List D} {bs:List (List D)} (h:HF d is bs):∃ z r,d=.tup (.str z::r):=by cases h<;>exact ⟨_,_,rfl⟩
theorem xBq {d:D} (h:∀ z r,d≠.tup (.str z::r)):¬ ∃ is bs,HF d is bs:=λ⟨_,_,f⟩=>by
  obtain ⟨z,r,e⟩:=vPq f
  exact h z r e
theorem q5q (z:Str):inL (.str z) [.str "left", .str "right"]=(z=="left"||z=="right"):=by
  have e:∀ a b:Str,(a==b)=(b==a):=λ a b=>by rw [Bool.eq_iff_iff,beq_iff_eq,beq_iff_eq];exact eq_comm
  simp only [inL,List.any_cons,List.any_nil,eqF,Bool.or_false]
  rw [e "left" z,e "right" z]
mutual
def ws:D->Nat
  | .tup ds=>2+wss ds+ds.length
  | _=>1
def wss:List D->Nat
  | []=>0
  | d::ds=>ws d+wss ds
end
theorem nCq:∀ xs ys:List D,wss (xs++ys)=wss xs+wss ys
  | [],ys=>by simp [wss]
  | x::xs,ys=>by rw [List.cons_append,wss,wss,nCq xs ys,Nat.add_assoc]
mutual
theorem y6q:∀ d:D,ws d+1<=4 * tsz d
  | .tup ds=>by rw [ws,tsz];have:=qZq ds;omega
  | .int _=>by simp [ws,tsz]
  | .str _=>by simp [ws,tsz]
  | .non=>by simp [ws,tsz]
  | .bl _=>by simp [ws,tsz]
  | .ref _=>by simp [ws,tsz]
  | .ty _=>by simp [ws,tsz]
  | .frl _=>by simp [ws,tsz]
theorem qZq:∀ ds:List D,wss ds+ds.length<=4 * b9q ds
  | []=>by simp [wss,b9q]
  | d::ds=>by rw [wss,b9q,List.length_cons];have:=y6q d;have:=qZq ds;omega
end
theorem qKq (d:D):1<=ws d:=by cases d<;>simp [ws]<;>omega
theorem hNq:∀ ds:List D,ds.length<=wss ds
  | []=>Nat.zero_le _
  | d::ds=>by have:=hNq ds;have:=qKq d;rw [wss,List.length_cons];omega
mutual
theorem hKq:∀ d:D,(flD d).length<=ws d
  | .tup ds=>by rw [flD,ws];have:=s8q ds;omega
  | .int _=>by simp [ws,flD]
  | .str _=>by simp [ws,flD]
  | .non=>by simp [ws,flD]
  | .bl _=>by simp [ws,flD]
  | .ref _=>by simp [ws,flD]
  | .ty _=>by simp [ws,flD]
  | .frl _=>by simp [ws,flD]
theorem s8q:∀ ds:List D,(flT ds).length<=1+wss ds+ds.length
  | []=>by simp [flT,wss]
  | d::ds=>by
    have h1:=hKq d
    have h2:=mZq ds
    have h3:=oKq ds
    have h4:=qKq d
    rw [flT,wss,List.length_cons]
    split<;>simp only [List.length_cons,List.length_append]<;>omega
theorem mZq:∀ ds:List D,(flC ds).length<=wss ds
  | []=>by simp [flC]
  | d::ds=>by rw [flC,wss,List.length_append];have:=hKq d;have:=mZq ds;omega
theorem oKq:∀ ds:List D,(flI ds).length<=1+wss ds+ds.length
  | []=>by simp [flI,wss]
  | d::ds=>by rw [flI,wss,List.length_cons,List.length_append,List.length_cons];have:=hKq d;have:=oKq ds;omega
end
theorem lQq:∀ xs ys:List D,flC (xs++ys)=flC xs++flC ys
  | [],ys=>by simp [flC]
  | x::xs,ys=>by rw [List.cons_append,flC,flC,lQq xs ys,List.append_assoc]
abbrev c4q (ds:List D):List D:=ds.flatMap λ d=>[.int 1,d]
theorem lRq (ps:List D):∀ ds:List D,flC (c4q ds++.int 0::ps)=flI ds++flC ps
  | []=>by simp [c4q,flC,flD,flI]
  | d::ds=>by
    have:=lRq ps ds
    simp only [c4q,List.flatMap_cons,List.cons_append,List.nil_append,flC,flD,flI,List.append_assoc] at this ⊢
    rw [this]
theorem oEq (ps:List D):∀ ds:List D,wss (c4q ds++.int 0::ps)=1+wss ds+ds.length+wss ps
  | []=>by simp [c4q,wss,ws]
  | d::ds=>by
    have:=oEq ps ds
    simp only [c4q,List.flatMap_cons,List.cons_append,List.nil_append,wss,ws,List.length_cons] at this ⊢
    omega
theorem mGq (ds:List D):(c4q ds).reverse=ds.reverse.flatMap λ d=>[d,.int 1]:=by
  induction ds with
  | nil=>rfl
  | cons d ds ih=>
    have e:c4q (d::ds)=[.int 1,d]++c4q ds:=rfl
    rw [e,List.reverse_append,ih,show (d::ds).reverse=ds.reverse++[d] from List.reverse_cons,List.flatMap_append];rfl
theorem hWq:∀ xs:List D,(xs.flatMap λ x=>[x,D.int 1]).length=2 * xs.length
  | []=>rfl
  | x::xs=>by rw [List.flatMap_cons,List.length_append,hWq xs];simp;omega
inductive PK:D->Prop
  | k {d:D}:IsK d->PK d
  | bag {ds:List D}:(∀ d∈ds,IsK d)->PK (.tup ds)
  | int (n:Int):PK (.int n)
  | str (z:Str):PK (.str z)
theorem IsK.pks {d:D} (h:IsK d):∃ z r,d=.tup (.str z::r)/\∀ x∈r,PK x:=by
  cases h with
  | is n=>exact ⟨_,_,rfl,λ x hx=>by simp at hx;subst hx;exact .int _⟩
  | some=>exact ⟨_,_,rfl,by simp⟩
  | both h1 h2=>exact ⟨_,_,rfl,λ x hx=>by simp at hx;rcases hx with rfl | rfl;exact .k h1;exact .k h2⟩
  | left h1=>exact ⟨_,_,rfl,λ x hx=>by simp at hx;subst hx;exact .k h1⟩
  | right h1=>exact ⟨_,_,rfl,λ x hx=>by simp at hx;subst hx;exact .k h1⟩
  | way h1 h2=>exact ⟨_,_,rfl,λ x hx=>by simp at hx;rcases hx with rfl | rfl;exact .bag h1;exact .k h2⟩
theorem HF.sz {d:D} {is:List D} {bs:List (List D)} (h:HF d is bs):b9q is < tsz d/\∀ b∈bs,b9q b < tsz d/\b.length<=wid d:=by
  cases h with
  | way ds k=>
    refine ⟨by simp only [eJq,b9q,tsz];omega,λ b hb=>?_⟩
    simp at hb;subst hb
    exact ⟨by simp only [b9q,tsz];omega,by simp only [wid,iMq];omega⟩
  | _=>exact ⟨by simp only [b9q,tsz];omega,by simp⟩
theorem HF.mem {d:D} {is:List D} {bs:List (List D)} (h:HF d is bs) {L:Addr->Prop} (t:Th L d) {s p w:Nat} (b:Bd s p w d):∀ x∈is,Th L x/\Bd s p w x:=by
  have it:∀ ds:List D,Th L (.tup ds)->Bd s p w (.tup ds)->∀ x∈ds,Th L x/\Bd s p w x:=λ ds t b x hx=>⟨t.items x hx,(b.item hx).mono (by omega) (by omega) (Nat.le_refl _)⟩
  cases h with
  | is n=>intro x hx;simp at hx
  | some=>intro x hx;simp at hx
  | both _ _=>intro x hx;exact it _ t b x (List.mem_cons_of_mem _ hx)
  | left a=>intro x hx;exact it _ t b x (List.mem_cons_of_mem _ hx)
  | right a=>intro x hx;exact it _ t b x (List.mem_cons_of_mem _ hx)
  | way ds k=>
    intro x hx
    rcases List.mem_append.mp hx with hx | hx
    . obtain ⟨t2,b2⟩:=it _ t b (.tup ds) (by simp)
      exact it _ t2 b2 x hx
    . simp at hx;subst hx;exact it _ t b _ (by simp)
theorem jWq (ds:List D):b9q ds.reverse=b9q ds:=iHq (List.reverse_perm ds)
theorem nIq (k:Nat):Bd (4 * 3 ^ k) (k+1) 3 (.tup [.str "some"]):=by
  have:=Nat.one_le_pow k 3 (by decide)
  exact ⟨by simp only [tsz,b9q];omega,by simp only [D.dp,bNq];omega,by simp [wid,iMq]⟩
theorem w9q (k:Nat) (n:Int):Bd (4 * 3 ^ k) (k+1) 3 (.tup [.str "is", .int n]):=by
  have:=Nat.one_le_pow k 3 (by decide)
  exact ⟨by simp only [tsz,b9q];omega,by simp only [D.dp,bNq];omega,by simp [wid,iMq]⟩
theorem rGq {k:Int} {a b:D} (hk:0 < k) (h1:Bd (4 * 3 ^ (k - 1).toNat) ((k - 1).toNat+1) 3 a) (h2:Bd (4 * 3 ^ (k - 1).toNat) ((k - 1).toNat+1) 3 b):Bd (4 * 3 ^ k.toNat) (k.toNat+1) 3 (.tup [.str "both", a,b]):=by
  have e:k.toNat=(k - 1).toNat+1:=by omega
  have:=Nat.one_le_pow (k - 1).toNat 3 (by decide)
  have:=h1.sz;have:=h2.sz;have:=h1.dp;have:=h2.dp;have:=h1.wd;have:=h2.wd
  rw [e,Nat.pow_succ]
  exact ⟨by simp only [tsz,b9q];omega,by simp only [D.dp,bNq];omega,by simp only [wid,iMq,List.length_cons,List.length_nil];omega⟩
theorem qTq {k:Nat} {j:Int} {d:D} (hj:j<=2) (h:Bd (4 * 3 ^ j.toNat) (j.toNat+1) 3 d):Bd (40 * 5 ^ k) (2 * k+3) 3 d:=by
  have h1:=Nat.one_le_pow k 5 (by decide)
  have h2:3 ^ j.toNat<=3 ^ 2:=Nat.pow_le_pow_right (by decide) (by omega)
  have h3:(3:Nat) ^ 2=9:=rfl
  exact h.mono (by omega) (by omega) (Nat.le_refl _)
theorem qVq {k:Int} {z:Str} {a:D} (hk:0 < k) (h1:Bd (40 * 5 ^ (k - 1).toNat) (2 * (k - 1).toNat+3) 3 a):Bd (40 * 5 ^ k.toNat) (2 * k.toNat+3) 3 (.tup [.str z,a]):=by
  have e:k.toNat=(k - 1).toNat+1:=by omega
  have:=Nat.one_le_pow (k - 1).toNat 5 (by decide)
  have:=h1.sz;have:=h1.dp;have:=h1.wd
  rw [e,Nat.pow_succ]
  exact ⟨by simp only [tsz,b9q];omega,by simp only [D.dp,bNq];omega,by simp only [wid,iMq,List.length_cons,List.length_nil];omega⟩
theorem oGq {k:Int} {ds:List D} {a:D} (hk:0 < k) (h:∀ d∈ds,Bd (40 * 5 ^ (k - 1).toNat) (2 * (k - 1).toNat+3) 3 d) (hl:ds.length<=3) (h1:Bd (40 * 5 ^ (k - 1).toNat) (2 * (k - 1).toNat+3) 3 a):Bd (40 * 5 ^ k.toNat) (2 * k.toNat+3) 3 (.tup [.str "way", .tup ds,a]):=by
  have e:k.toNat=(k - 1).toNat+1:=by omega
  have:=Nat.one_le_pow (k - 1).toNat 5 (by decide)
  have:=h1.sz;have:=h1.dp;have:=h1.wd
  have s1:=iZq λ d hd=>(h d hd).sz
  have s2:ds.length * (40 * 5 ^ (k - 1).toNat)<=3 * (40 * 5 ^ (k - 1).toNat):=Nat.mul_le_mul_right _ hl
  have s3:=h2q λ d hd=>(h d hd).dp
  have s4:=h5q λ d hd=>(h d hd).wd
  rw [e,Nat.pow_succ]
  exact ⟨by simp only [tsz,b9q];omega,by simp only [D.dp,bNq];omega,by simp only [wid,iMq,List.length_cons,List.length_nil];omega⟩
theorem Dw.of {a:Addr} {G G':DV} (h:Fx a G G'):Dw a G G':=⟨G',h,.refl _⟩
theorem Dw.kp {a:Addr} {G G':DV} (h:Dw a G G') {b:Addr} {o:DO} (hb:b≠a) (e:G b=some o):G' b=some o:=by
  obtain ⟨G0,u,s⟩:=h
  exact s _ _ (u.kp hb e)
theorem Dw.fd {a:Addr} {G G':DV} (h:Dw a G G'):Fd G' a:=by
  obtain ⟨G0,u,s⟩:=h
  obtain ⟨x,y,e⟩:=u.fd
  exact ⟨x,y,s _ _ e⟩
theorem Dw.trans {a:Addr} {G G1 G2:DV} (h:Dw a G G1) (g:Dw a G1 G2):Dw a G G2:=by
  obtain ⟨G0,u,s⟩:=g
  exact pJq (λ b o nb e=>h.kp nb e) u s
theorem Dw.new {a p:Addr} {G G':DV} {o:DO} (h:Dw a G G') (hp:G' p=none):Dw a G (up G' p o):=by
  obtain ⟨G0,u,s⟩:=h
  exact ⟨G0,u,Sub.trans s (Sub.new (Sub.refl _) hp)⟩
theorem Dw.sub {a:Addr} {G G1 G2:DV} (h:Dw a G G1) (s:Sub G1 G2):Dw a G G2:=by
  obtain ⟨G0,u,s0⟩:=h
  exact ⟨G0,u,Sub.trans s0 s⟩
theorem wOq {s p w n:Nat} {ds:List D} (h:∀ d∈ds,Bd s p w d) (hl:ds.length<=n) (hw:n<=w):Bd (1+n * s) (p+1) w (.tup ds):=by
  have s1:=iZq λ d hd=>(h d hd).sz
  have s2:ds.length * s<=n * s:=Nat.mul_le_mul_right _ hl
  have s3:=h2q λ d hd=>(h d hd).dp
  have s4:=h5q λ d hd=>(h d hd).wd
  exact ⟨by simp only [tsz];omega,by simp only [D.dp];omega,by simp only [wid];omega⟩
theorem bd_l {s p:Nat} {z:Str} {a:D} (h:Bd s p 3 a):Bd (s+2) (p+1) 3 (.tup [.str z,a]):=by
  have:=h.sz;have:=h.dp;have:=h.wd
  exact ⟨by simp only [tsz,b9q];omega,by simp only [D.dp,bNq];omega,by simp only [wid,iMq,List.length_cons,List.length_nil];omega⟩
theorem yIq {s p s' p':Nat} {z:Str} {a b:D} (h:Bd s p 3 a) (g:Bd s' p' 3 b):Bd (s+s'+2) (max p p'+1) 3 (.tup [.str z,a,b]):=by
  have:=h.sz;have:=h.dp;have:=h.wd;have:=g.sz;have:=g.dp;have:=g.wd
  exact ⟨by simp only [tsz,b9q];omega,by simp only [D.dp,bNq];omega,by simp only [wid,iMq,List.length_cons,List.length_nil];omega⟩
theorem bd_1 {s p:Nat} {a:D} (h:Bd s p 3 a):Bd (s+1) (p+1) 3 (.tup [a]):=by
  have:=h.sz;have:=h.dp;have:=h.wd
  exact ⟨by simp only [tsz,b9q];omega,by simp only [D.dp,bNq];omega,by simp only [wid,iMq,List.length_cons,List.length_nil];omega⟩
theorem bd_2 {s p s' p':Nat} {ds:List D} {a b:D} (h:Bd s p 3 a) (g:Bd s' p' 3 b) (hp:[a,b].Perm ds):Bd (s+s'+1) (max p p'+1) 3 (.tup ds):=by
  have:=h.sz;have:=h.dp;have:=h.wd;have:=g.sz;have:=g.dp;have:=g.wd
  have e1:=iHq hp
  have e2:=hp.length_eq
  have m:∀ d∈ds,d=a\/d=b:=λ d hd=>by simpa using hp.mem_iff.mpr hd
  have s3:=h2q (n:=max p p') λ d hd=>by rcases m d hd with rfl | rfl<;>omega
  have s4:=h5q (n:=3) λ d hd=>by rcases m d hd with rfl | rfl<;>omega
  simp only [b9q,List.length_cons,List.length_nil] at e1 e2
  exact ⟨by simp only [tsz];omega,by simp only [D.dp];omega,by simp only [wid];omega⟩
theorem bd_0:Bd 1 1 3 (.tup []):=⟨by simp [tsz,b9q],by simp [D.dp,bNq],by simp [wid,iMq]⟩
theorem m0q {α:Type} {xs:List α} {k:Nat} (h:k<=xs.length):cut xs (some (k:Int)) none=xs.drop k:=by
  unfold cut
  rw [show HT.sIx xs.length xs.length none=xs.length from rfl,show HT.sIx xs.length 0 (some (k:Int))=k by unfold HT.sIx;simp only [];rw [if_neg (by omega)];omega]
  rw [List.take_of_length_le (by rw [List.length_drop];omega)]
end L3
namespace L2
open PySem PySem.Spec PyProof.Rows
section
variable {prog:Program} {w:World} {A:Around} {E:Value->Shared->Prop} {s:Shared} {e it:Addr} {i:Nat} {old:Value}
theorem o8q {R:Value->Prop} {P:Heap->Prop} {Q:Option Value->Shared->Prop} (he:IsEnum s.heap e it i old) (hne:e≠it) (hP:∀ h h',P h->(∀ o,h.get? it=some o->h'.get? it=some o)->P h')
    (hn:∀ (A:Around) (Q:Value->Shared->Prop) (E:Value->Shared->Prop),(∀ h₁ tk x,R x->Heap.SameBut it s.heap h₁->P h₁->Q x { s with heap:=h₁,toks:=tk })->wpAny (model prog w) A (Builtin.SmallTypes.nextOf (.ref it)) Q E s)
    (hQ:∀ h' tk x t,R x->IsEnumOut h' e it ((i:Int)+1) x s.heap.objs.size->P h'->h'.get? s.heap.objs.size=some { cls:=.type "tuple", data:=.seq #[.int i t,x] } →
      (∀ b o,b≠e->b≠it->s.heap.get? b=some o->h'.get? b=some o)->Q (some (.ref s.heap.objs.size)) { s with heap:=h',toks:=tk }) :
    wpAny (model prog w) A (pyNext (.ref e)) Q E s:=by
  have hT:s.TypeIs (.ref e) "enumerate":=⟨_,he,rfl⟩
  unfold pyNext
  refine wpAny_bind (wpAny_attempt (wpAny_callSpecial?_slot (name:=Str.ofString "__next__") hT PySem.F.slot_enumerate_next (wpAny_call_entry PySem.F.slot_enumerate_next hT PySem.F.entry_enumerate_next ?_ (PySem.F.args_enumerate_next_1 _))))
  obtain ⟨hp,g,d,tk,os⟩:=s
  refine (show wpAny _ _ (field (.ref e) 2 >>= _) _ _ _ from wpAny_bind (wpAny_field he rfl (x:=.ref it) rfl (wpAny_bind (hn _ _ _ λ h₁ tk1 x rx s1 p1=>?_))))
  replace s1:Heap.SameBut it hp h₁:=s1
  have e1:IsEnum h₁ e it i old:=(s1.2 e hne).trans he
  refine (show wpAny _ _ (field (.ref e) 3 >>= _) _ _ ⟨h₁,g,d,tk1,os⟩ from wpAny_bind (wpAny_field e1 rfl (x:=rawInt i) rfl ?_))
  refine (show wpAny _ _ (field (.ref e) 4 >>= _) _ _ ⟨h₁,g,d,tk1,os⟩ from wpAny_bind (wpAny_field e1 rfl (x:=.none) rfl ?_))
  refine (show wpAny _ _ (mkInt i >>= _) _ _ ⟨h₁,g,d,tk1,os⟩ from wpAny_bind (wpAny_mkInt ?_))
  refine (show wpAny _ _ (setField (.ref e) 3 (rawInt ((i:Int)+1)) >>= _) _ _ ⟨h₁,g,d,tk1+1,os⟩ from wpAny_bind (wpAny_setField_rec e1 (by simp) λ h₂ e2 s2=>?_))
  replace s2:Heap.SameBut e h₁ h₂:=s2
  replace e2:IsEnum h₂ e it ((i:Int)+1) old:=e2
  refine (show wpAny _ _ (setField (.ref e) 4 .none >>= _) _ _ ⟨h₂,g,d,tk1+1,os⟩ from wpAny_bind (wpAny_setField_rec e2 (by simp) λ h₃ e3 s3=>?_))
  replace s3:Heap.SameBut e h₂ h₃:=s3
  replace e3:IsEnum h₃ e it ((i:Int)+1) old:=e3
  refine (show wpAny _ _ (newTuple [.int i tk1,x] >>= _) _ _ ⟨h₃,g,d,tk1+1,os⟩ from wpAny_bind (wpAny_newTuple ?_))
  have e4:IsEnum (h₃.push { cls:=.type "tuple", data:=.seq #[.int i tk1,x] }) e it ((i:Int)+1) old:=Heap.get?_push_of_some _ e3
  have hsz:h₃.objs.size=hp.objs.size:=by rw [s3.1,s2.1,s1.1]
  have hel:e < hp.objs.size:=Heap.lt_size he
  have t4:(h₃.push { cls:=.type "tuple", data:=.seq #[.int i tk1,x] }).get? hp.objs.size=some { cls:=.type "tuple", data:=.seq #[.int i tk1,x] }:=by rw [<- hsz];exact Heap.get?_push_size _ rfl
  have k4:∀ b o,b≠e->b≠it->hp.get? b=some o->(h₃.push { cls:=.type "tuple", data:=.seq #[.int i tk1,x] }).get? b=some o:=λ b o hbe hbi hb=>Heap.get?_push_of_some _ (s3.extBut b o hbe (s2.extBut b o hbe (s1.extBut b o hbi hb)))
  have p4:P (h₃.push { cls:=.type "tuple", data:=.seq #[.int i tk1,x] }):=hP _ _ p1 λ o ho=>Heap.get?_push_of_some _ (s3.extBut _ _ (Ne.symm hne) (s2.extBut _ _ (Ne.symm hne) ho))
  rw [hsz]
  generalize h₃.push { cls:=.type "tuple", data:=.seq #[.int i tk1,x] }=h₄ at e4 t4 k4 p4 ⊢
  refine (show wpAny _ _ (Builtin.SmallTypes.ownedTupleIsFree (.ref e) >>= _) _ _ ⟨h₄,g,d,tk1+1,os⟩ from wpAny_bind ?_)
  unfold Builtin.SmallTypes.ownedTupleIsFree
  refine wpAny_bind (wpAny_field e4 rfl (x:=.none) rfl (wpAny_pure ?_))
  simp only [if_true]
  refine wpAny_bind (wpAny_rule (wpAny_bind (wpAny_field e4 rfl (x:=old) rfl (wpAny_bind (wpAny_setField_rec e4 (by simp) λ h₅ e5 s5=>?_)))))
  replace s5:Heap.SameBut e h₄ h₅:=s5
  replace e5:IsEnum h₅ e it ((i:Int)+1) x:=e5
  refine (show wpAny _ _ (Builtin.SmallTypes.ownedTupleHandOut (.ref e) (.ref hp.objs.size) >>= _) _ _ ⟨h₅,g,d,tk1+1,os⟩ from wpAny_bind ?_)
  unfold Builtin.SmallTypes.ownedTupleHandOut
  refine wpAny_bind (wpAny_setField_rec e5 (by simp) λ h₆ e6 s6=>?_)
  replace s6:Heap.SameBut e h₅ h₆:=s6
  replace e6:IsEnumOut h₆ e it ((i:Int)+1) x hp.objs.size:=e6
  refine wpAny_setField_rec e6 (by simp) λ h₇ e7 s7=>?_
  replace s7:Heap.SameBut e h₆ h₇:=s7
  replace e7:IsEnumOut h₇ e it ((i:Int)+1) x hp.objs.size:=e7
  have kk:∀ b o,b≠e->h₄.get? b=some o->h₇.get? b=some o:=λ b o hb q=>s7.extBut b o hb (s6.extBut b o hb (s5.extBut b o hb q))
  exact wpAny_bind (wpAny_letGo (wpAny_pure ⟨_,rfl,wpAny_pure (hQ h₇ _ x tk1 rx e7 (hP _ _ p4 λ o ho=>kk _ _ (Ne.symm hne) ho) (kk _ _ (Nat.ne_of_gt hel) t4) λ b o hb hi q=>kk b o hb (k4 b o hb hi q))⟩))
theorem pLq {Q:Option Value->Shared->Prop} (he:IsEnum s.heap e it i old)
    (hn:∀ (A:Around) (Q:Value->Shared->Prop) (E:Value->Shared->Prop),A.handled=none->(∀ h' x,Heap.ExtBut it s.heap h'->(∃ o,h'.get? x=some o/\o.cls=.type "StopIteration")->E (.ref x) { s with heap:=h' })->wpAny (model prog w) A (Builtin.SmallTypes.nextOf (.ref it)) Q E s)
    (hh:A.handled=none) (hQ:∀ h',Heap.ExtBut it s.heap h'->Q none { s with heap:=h' }):wpAny (model prog w) A (pyNext (.ref e)) Q E s:=by
  have hT:s.TypeIs (.ref e) "enumerate":=⟨_,he,rfl⟩
  unfold pyNext
  refine wpAny_bind (wpAny_attempt (wpAny_callSpecial?_slot (name:=Str.ofString "__next__") hT PySem.F.slot_enumerate_next (wpAny_call_entry PySem.F.slot_enumerate_next hT PySem.F.entry_enumerate_next ?_ (PySem.F.args_enumerate_next_1 _))))
  refine (show wpAny _ _ (field (.ref e) 2 >>= _) _ _ _ from wpAny_bind (wpAny_field he rfl (x:=.ref it) rfl (wpAny_bind (hn _ _ _ hh λ h' x e' hx=>?_))))
  obtain ⟨o,ho,hc⟩:=hx
  refine wpAny_bind (wpAny_isInstance (T:="StopIteration") (b:=true) ⟨o,ho,hc⟩ isSubtype_stop ?_)
  exact wpAny_pure (hQ _ e')
end
def ItEn (z:Str):It:=⟨λ i _=>i < z.length,λ i H x H'=>∃ T c,z.cps[i]?=some c/\x=.ref T/\H T=none/\H'=upd H T (.tup [.int i,.str ⟨#[c]⟩]),λ i _=>z.length<=i⟩
theorem cRq {h h':Heap} {it:Addr} {ty:String} {z:Str} {t:Tok} {i:Nat} (x:h.IsStrIter it ty z t i) (k:∀ o,h.get? it=some o->h'.get? it=some o):h'.IsStrIter it ty z t i:=let ⟨o,ho,r⟩:=x;⟨o,k o ho,r⟩
theorem oOq {P:Program} {w:World} {K:PySem.W.Frag} {es:List Expr} {k:Nat} {pos:Pos} (e it:Addr) (z:Str) (t:Tok) (ty:String) (hty:ty = "str_ascii_iterator"\/ty = "str_iterator") (hne:e≠it) :
    Turn P w K (.Tuple es k pos) (ItEn z) [e,it] e (λ i h=>i<=z.length/\(∃ old,IsEnum h e it i old)/\h.IsStrIter it ty z t i) where
  mem:=by simp
  obj:=λ i h st b hb=>by
    obtain ⟨_,⟨old,a1⟩,o,a2,c,d⟩:=st
    simp only [List.mem_cons,List.not_mem_nil,or_false] at hb
    rcases hb with rfl | rfl
    . exact ⟨_,a1,λ v z=>by cases (show Data.fields _=Data.cell v from z)⟩
    . exact ⟨o,a2,λ v z=>by rw [d] at z;cases z⟩
  keep:=λ i h h' st kk=>⟨st.1,let ⟨old,a1⟩:=st.2.1;⟨old,kk _ (by simp) _ a1⟩,cRq st.2.2 λ o ho=>kk _ (by simp) _ ho⟩
  item:=by
    intro X hP hw hK hc i pins s σ H E I hf st hg
    subst hP hw hK
    obtain ⟨_,⟨old,a1⟩,a2⟩:=st
    obtain ⟨c,hx⟩:∃ c,z.cps[i]?=some c:=⟨z.cps[i]'hg,Array.getElem?_eq_getElem hg⟩
    refine o8q (R:=λ x=>∃ u,x=.str ⟨#[c]⟩ u) (P:=λ h=>h.IsStrIter it ty z t (i+1)) a1 hne (λ h h' p k=>cRq p k) (λ A Q E q=>?_) λ h' tk x u rx Out p' hT kk=>?_
    . rcases hty with rfl | rfl
      . exact wpAny_nextOf_ascii_item a2 hx λ h' p sb=>q h' _ _ ⟨_,rfl⟩ sb p
      . exact wpAny_nextOf_wide_item a2 hx λ h' p sb=>q h' _ _ ⟨_,rfl⟩ sb p
    obtain ⟨u2,rfl⟩:=rx
    refine ⟨_,rfl,wpAny_letOwnedTupleGo_enum (s:={ s with heap:=h',toks:=tk }) Out λ h2 J2 sb=>?_⟩
    have el:e < s.heap.objs.size:=Heap.lt_size a1
    have il:it < s.heap.objs.size:=let ⟨_,ho,_⟩:=a2;Heap.lt_size ho
    have I1:Inv X pins σ (upd H s.heap.objs.size (.tup [.int i,.str ⟨#[c]⟩])) { s with heap:=s.heap.push { cls:=.type "tuple", data:=.seq #[.int i u,.str ⟨#[c]⟩ u2] } }:=
      I.laid (t':=s.toks) (λ b o e=>Heap.get?_push_of_some _ e) (Nat.le_refl _) (show ObjOk X.prog X.w _ _ _ (.tup [.int i,.str ⟨#[c]⟩]) from ⟨by show 2<=sizeLine;decide,[.int i u,.str ⟨#[c]⟩ u2],.cons ⟨_,rfl⟩ (.cons ⟨_,rfl⟩ .nil),IsTup.new _ _⟩)
    have lts:∀ b∈[e,it],b < s.heap.objs.size:=λ b hb=>by
      simp only [List.mem_cons,List.not_mem_nil,or_false] at hb
      rcases hb with rfl | rfl
      . exact el
      . exact il
    have I2:Inv X pins σ (upd H s.heap.objs.size (.tup [.int i,.str ⟨#[c]⟩])) { s with heap:=h2,toks:=tk }:=
      Inv.turnedL (s:={ s with heap:=s.heap.push { cls:=.type "tuple", data:=.seq #[.int i u,.str ⟨#[c]⟩ u2] } }) (h':=h2) (t':=tk) (fp:=[e,it]) I1 (λ b hb=>by
        obtain ⟨f0,fr⟩:=hf b hb
        exact ⟨by rw [aQq (Nat.ne_of_lt (lts b hb))];exact f0,fr⟩) (λ b o hb q=>by
        have hb':b≠e/\b≠it:=by simpa using hb
        rcases Heap.get?_push_cases q with ⟨z1,z2⟩ | q
        . rw [z1,z2];exact sb.extBut _ _ (Nat.ne_of_gt el) hT
        . exact sb.extBut _ _ hb'.1 (kk b o hb'.1 hb'.2 q))
    exact ⟨.ref s.heap.objs.size,_,I2,rfl,⟨_,c,hx,rfl,I.hok.fresh (Nat.le_refl _),rfl⟩,⟨hg,⟨_,J2⟩,cRq p' λ o ho=>sb.extBut _ _ (Ne.symm hne) ho⟩,λ b hb=>by rw [aQq (Nat.ne_of_lt (lts b hb))];exact (hf b hb).1⟩
  done:=by
    intro X hP hw hK hc i pins s σ H E I hf st hg
    subst hP hw hK
    obtain ⟨_,⟨old,a1⟩,a2⟩:=st
    have hx:z.cps[i]?=none:=Array.getElem?_eq_none hg
    refine pLq a1 (λ A Q E hh q=>?_) (I.ok.hd hc) λ h' eb=>⟨rfl,?_⟩
    . rcases hty with rfl | rfl
      . exact wpAny_nextOf_ascii_end hh a2 hx q
      . exact wpAny_nextOf_wide_end hh a2 hx q
    . refine I.turnedL (t':=s.toks) (fp:=[e,it]) hf λ b o hb q=>?_
      have hb':b≠e/\b≠it:=by simpa using hb
      exact eb b o hb'.2 q
  self:=λ _ _ _ _ _ st h=>by
    obtain ⟨_,⟨old,a1⟩,_⟩:=st
    exact wpAny_pyIter_enum a1 h
section
variable {X:Cx}
theorem lBq (x:Str):strIterType x = "str_ascii_iterator"\/strIterType x = "str_iterator":=by
  unfold strIterType;split<;>simp
def iEn (t:TA):TI:=λ σ H R=>t σ H λ vs H1=>∃ z,vs=[.str z]/\R (ItEn z) H1
theorem rRq {es:List Expr} {k:Nat} {tp:Pos} {a:Expr} {ta:TA} {p pos:Pos} (hg:Gl X "enumerate") (hm:X.mg "enumerate" = none) (ha:PA X [a] ta) (hs:aOq a=true):PI X (.Tuple es k tp) (.Call (.Name "enumerate" p) [a] [] pos) (iEn ta):=by
  intro pins s σ H R I h
  refine Call_ (cMq I hg hm PyProof.Rows.boot_enumerate (PyProof.Rows.callWith_type1 (thn (ha pos pins s σ H _ I h) λ us s1 ⟨vs,H1,I1,r1,z,ev,q⟩=>?_) (aBq hs) rfl))
  subst ev
  cases r1 with
  | cons r rr=>
    cases rr
    obtain ⟨t,rfl⟩:=r
    refine call_enumerate_str λ h' a1 a2 _ kk=>?_
    refine wpAny_pyIter_enum a1 ?_
    refine ⟨s1.heap.objs.size+1,[s1.heap.objs.size+1,s1.heap.objs.size],_,_,H1,rfl,I1.kept (t':=s1.toks) kk,oOq _ _ z t _ (lBq z) (Nat.succ_ne_self _),⟨Nat.zero_le _,⟨_,a1⟩,a2⟩,λ b hb=>?_,q⟩
    have hb':s1.heap.objs.size<=b:=by
      simp only [List.mem_cons,List.not_mem_nil,or_false] at hb
      rcases hb with e | e<;>(rw [e];first | exact Nat.le_refl _ | exact Nat.le_add_right _ _)
    exact I1.fpOk hb' (I1.hok.fresh hb')
end
end L2
namespace L3
open PySem PySem.Spec L2
section
variable {X:Cx} {es:List Expr} {a:Expr} {t:DTA} {p pos:Pos}
def enS (z:Str):List D:=z.cps.toList.zipIdx.map λ c=>.tup [.int (c.2:Int),.str ⟨#[c.1]⟩]
abbrev diEn (t:DTA):DTI:=λ ρ G R=>t ρ G λ ds G1=>match ds with
  | [.str z]=>R ⟨enS z,λ _=>True⟩ G1
  | _=>False
theorem rSq {k:Nat} {tp:Pos} (hg:Gl X "enumerate") (hm:X.mg "enumerate" = none) (ha:AA X [a] t) (hs:aOq a=true:=by rfl):AI X (.Tuple es k tp) (.Call (.Name "enumerate" p) [a] [] pos) (diEn t):=by
  obtain ⟨ca,ja,ra⟩:=ha.run
  refine ⟨_,⟨rRq hg hm ja.run hs⟩,λ ρ G DR σ H R B q F=>ra ρ G _ σ H _ B q λ ds G1 vs H1 g1 al hl q1=>?_⟩
  split at q1
  . next z=>
    obtain ⟨v,r,rfl,rfl,e⟩:=al
    cases e
    refine ⟨z,rfl,F ⟨enS z,λ _=>True⟩ _ G1 H1 g1 (λ G2 H2 g2 _=>⟨λ n d hd=>?_,λ n hn=>?_⟩) q1⟩
    . replace hd:(enS z)[n]?=some d:=hd
      unfold enS at hd
      rw [List.getElem?_map,List.getElem?_zipIdx] at hd
      cases hc:z.cps.toList[n]? with
      | none=>rw [hc] at hd;cases hd
      | some c=>
        rw [hc] at hd
        simp at hd
        subst hd
        have hlt:=(List.getElem?_eq_some_iff.mp hc).1
        refine ⟨hlt,λ x H' y=>?_⟩
        obtain ⟨T,c',e1,rfl,hT,rfl⟩:=y
        rw [<- Array.getElem?_toList,hc] at e1
        cases e1
        have g3:=Go.newT (o:=.tup [.int n,.str ⟨#[c]⟩]) g2.vw hT
        exact ⟨g3,T,_,rfl,.of b3q,⟨_,_,rfl,rfl,.one rfl⟩⟩
    . replace hn:(enS z).length<=n:=hn
      unfold enS at hn
      rw [List.length_map,List.length_zipIdx] at hn
      exact hn
  . exact q1.elim
end
end L3
namespace L2
open PySem PySem.Spec PyProof.Rows
section
variable {X:Cx}
def z0q:V->List V->Hp->VK->Prop:=λ x vs H Q=>∃ l xs,x=.ref l/\vs=[]/\H l=some (.lst xs)/\Q .non (upd H l (.lst xs.reverse))
theorem rLq:MtM X "list.reverse" z0q:=by
  intro pins s σ H x vs v us Q I rx rv h
  obtain ⟨l,xs,rfl,rfl,hH,q⟩:=h
  cases rx
  have hus:=rv.zero
  subst hus
  obtain ⟨z,its,n,r,hl,e⟩:=I.lstM hH
  refine call_meets PySem.F.slot_list_reverse ⟨_,e,rfl⟩ PySem.F.entry_list_reverse (PySem.F.args_list_reverse_1 _) (AutoSeq1.list_reverse_list_0 l its.toArray n (by rw [List.size_toArray];omega)) ⟨e,?_⟩
  have hlen:=r.length
  exact ⟨.non,_,I.lset (its':=its.reverse) (ys:=xs.reverse) hH e (by simp) (cTq r) (by rw [List.length_reverse];omega),rfl,q⟩
def ev2 {α:Type}:List α->List α
  | x::_::r=>x::ev2 r
  | [x]=>[x]
  | []=>[]
theorem o6q {α:Type}:∀ (xs:List α) (i:Nat),(ev2 xs)[i]?=xs[2 * i]?
  | [],i=>by simp [ev2]
  | [x],0=>rfl
  | [x],i+1=>by simp [ev2]
  | x::y::r,0=>rfl
  | x::y::r,i+1=>by
    rw [ev2,List.getElem?_cons_succ,o6q r i,show 2 * (i+1)=2 * i+1+1 by omega,List.getElem?_cons_succ,List.getElem?_cons_succ]
theorem j5q {α:Type}:∀ xs:List α,(ev2 xs).length=(xs.length+1) / 2
  | []=>by simp [ev2]
  | [x]=>by simp [ev2]
  | x::y::r=>by rw [ev2,List.length_cons,j5q r,List.length_cons,List.length_cons];omega
theorem zNq (its:List Value) (a:Nat):slicePick its.toArray (some (a:Int)) none (some 2)=(ev2 (its.drop a)).toArray:=by
  unfold slicePick sliceBounds sliceRange
  simp only [Option.getD_some,List.size_toArray]
  congr 1
  by_cases ha:a<=its.length
  case neg=>
    have e1:(max (0:Int) (min (if (a:Int) < 0 then (a:Int)+its.length else a) its.length))=its.length:=by rw [if_neg (by omega)];omega
    simp only [show (2:Int) > 0 by decide,if_true,e1]
    rw [if_neg (by omega),List.drop_eq_nil_of_le (by omega)]
    rfl
  have e1:(max (0:Int) (min (if (a:Int) < 0 then (a:Int)+its.length else a) its.length))=a:=by rw [if_neg (by omega)];omega
  simp only [show (2:Int) > 0 by decide,if_true,e1]
  have hc:(if (a:Int) < (its.length:Int) then ((its.length:Int) - a+2 - 1) / 2 else 0).toNat=(ev2 (its.drop a)).length:=by
    rw [j5q,List.length_drop]
    split<;>omega
  rw [hc,List.filterMap_map]
  have hf:((λ x=>its.toArray[x]?) ∘ λ(k:Nat)=>((a:Int)+2 * (k:Int)).toNat)=λ k=>(ev2 (its.drop a)).toArray[k]?:=by
    funext k
    show its.toArray[((a:Int)+2 * (k:Int)).toNat]?=(ev2 (its.drop a)).toArray[k]?
    rw [show ((a:Int)+2 * (k:Int)).toNat=a+2 * k by omega,List.getElem?_toArray,List.getElem?_toArray,o6q,List.getElem?_drop]
  rw [hf]
  have z:=PySem.W.krv_all (ev2 (its.drop a)).toArray
  rw [List.size_toArray] at z
  exact z
theorem i3q:∀ {xs:List V} {us:List Value} (n:Nat),Vals xs us->Vals (xs.drop n) (us.drop n)
  | _,_,0,r=>r
  | _,_,_+1,.nil=>.nil
  | _,_,n+1,.cons _ t=>i3q n t
theorem k4q:∀ {xs:List V} {us:List Value},Vals xs us->Vals (ev2 xs) (ev2 us)
  | _,_,.nil=>.nil
  | _,_,.cons r .nil=>.cons r .nil
  | _,_,.cons r (.cons _ t)=>.cons r (k4q t)
variable {e lo st:Expr} {te:TE} {tl tk:TO} {pos p2:Pos}
def tEv (K:PySem.W.Frag) (te:TE) (tl tk:TO):TE:=λ σ H Q=>te σ H λ x H1=>tl σ H1 λ l H2=>tk σ H2 λ k H3=>k=some 2/\∃ (a:Addr) (xs:List V) (n:Nat),l=some (n:Int)/\x=.ref a/\SqL K H3 a xs/\∀ p,H3 p=none->Q (.ref p) (upd H3 p (.lst (ev2 (xs.drop n))))
theorem yRq (he:PE X e te) (hl:PO X (some lo) tl) (hk:PO X (some st) tk):PE X (.Subscript e (.Slice (some lo) none (some st) p2) pos) (tEv X.K te tl tk):=by
  intro pins s σ H Q I h
  refine Subscript_ (thn (he pins s σ H _ I h) λ v s1 ⟨x,H1,I1,r1,q1⟩=>?_)
  refine wpAny_Slice (thn (hl pins s1 σ H1 _ I1 q1) λ vl s2 ⟨l,H2,I2,pl,q2⟩=>?_)
  rw [evalPart_none]
  refine wpAny_pure ?_
  refine thn (hk pins s2 σ H2 _ I2 q2) λ vk s3 ⟨k,H3,I3,pk,e1,a,xs,n,e2,e3,hx,q3⟩=>?_
  subst e1 e2 e3
  cases r1
  have I4:Inv X pins σ H3 { s3 with heap:=s3.heap.push { cls:=.type "slice", data:=.fields #[vl,.none,vk] } }:=I3.kept (t':=s3.toks) λ b ob q=>Heap.get?_push_of_some _ q
  obtain ⟨its,r,ht,hz⟩:=I4.list hx
  have hlen:=r.length
  show wpAny (model X.prog X.w) X.A (subscriptTail e (.Slice (some lo) none (some st) p2) (.ref a) (.ref s3.heap.objs.size)) (EP X pins σ Q) X.xe { s3 with heap:=s3.heap.push { cls:=.type "slice", data:=.fields #[vl,.none,vk] } }
  refine tail_any (ops:=[.ref a,.ref s3.heap.objs.size]) ht.isList.typeIs slot_list_getitem.lookup ?_ (by with_unfolding_all rfl)
  refine wpAny_getItem_list_slice ht.isList (Heap.IsSliceOf.new ..) pl .none pk (by simp) ?_ (by rw [List.size_toArray];omega)
  rw [zNq its n]
  have hle:(ev2 (xs.drop n)).length<=xs.length:=by rw [j5q,List.length_drop];omega
  refine ⟨.ref _,_,I4.laid (t':=s3.toks) (o:=.lst (ev2 (xs.drop n))) (λ b ob q=>Heap.get?_push_of_some _ q) (Nat.le_refl _) ?_,rfl,q3 _ (I4.hok.fresh (Nat.le_refl _))⟩
  exact ⟨by omega,_,0,k4q (i3q n r),Heap.get?_push_size _ rfl⟩
def aC4q:List V->Hp->VK->Prop:=λ xs H Q=>∃ z n,xs=[.str z]/\PySem.intText? z=some n/\z.length<=640/\Q (.int n) H
theorem o7q:CallR X (.type "int") aC4q:=by
  intro pins s σ H xs us Q I r h
  obtain ⟨z,n,rfl,hn,hl,q⟩:=h
  obtain ⟨u,rfl,rx⟩:=gJq r
  obtain ⟨t,rfl⟩:=rx
  exact PySem.W.KIN.call_text hn hl ⟨.int n,H,I.tok _,⟨_,rfl⟩,q⟩
end
end L2
namespace L3
open PySem PySem.Spec L2
section
variable {X:Cx} {e lo st:Expr} {te:DTE} {tl tk:DTO} {pos p2:Pos}
def wDq:D->List D->DV->DK->Prop:=λ x xs G Q=>match x,xs with
  | .ref l,[]=>onM G l λ ds=>Q .non (up G l (.lst ds.reverse))
  | _,_=>False
theorem eNq:AMt X "list" "list.reverse" nTq wDq:=by
  refine ⟨_,⟨rLq⟩,λ x v G H w ax h=>eMq w ax h,λ x xs vx vs G H DQ Q v ax al r F=>?_⟩
  unfold wDq at r
  split at r
  . next l=>
    cases ax;cases al
    obtain ⟨ds,ws,k,e1,h1,r1⟩:=cGq v r
    exact ⟨l,ws,rfl,rfl,h1,F .non _ _ _ (Go.setL v e1 r1.reverse) rfl k⟩
  . exact r.elim
theorem AbsL.ev2 {K:PySem.W.Frag} {H:Hp}:∀ {ds:List D} {vs:List V},AbsL K H ds vs->AbsL K H (L2.ev2 ds) (L2.ev2 vs)
  | [],_,h=>by rw [show _=[] from h];rfl
  | [d],_,⟨v,r,e,q,l⟩=>by subst e;rw [show r=[] from l];exact ⟨v,[],rfl,q,rfl⟩
  | d::d'::ds,_,⟨v,r,e,q,v',r',e',q',l⟩=>by subst e e';exact ⟨v,_,rfl,q,AbsL.ev2 l⟩
abbrev dEv (te:DTE) (tl tk:DTO):DTE:=λ ρ G Q=>te ρ G λ x G1=>tl ρ G1 λ l G2=>tk ρ G2 λ k G3=>k=some 2/\match x with
  | .ref a=>onL G3 a λ ds=>∃ n:Nat,l=some (n:Int)/\∀ p,G3 p=none->Q (.ref p) (up G3 p (.lst (L2.ev2 (ds.drop n))))
  | _=>False
theorem xUq (he:AE X e te) (hl:AO X (some lo) tl) (hk:AO X (some st) tk):AE X (.Subscript e (.Slice (some lo) none (some st) p2) pos) (dEv te tl tk):=by
  obtain ⟨ce,je,re⟩:=he.run
  obtain ⟨cl,jl,rl⟩:=hl.run
  obtain ⟨ck,jk,rk⟩:=hk.run
  refine ⟨_,⟨yRq je.run jl.run jk.run⟩,λ ρ G DQ σ H Q B q F=>re ρ G _ σ H _ B q λ x G1 v H1 g1 ax q1=>rl ρ G1 _ σ H1 _ (B.go g1) q1 λ l G2 H2 g2 q2=>rk ρ G2 _ σ H2 _ ((B.go g1).go g2) q2 λ k G3 H3 g3 ⟨e1,q3⟩=>?_⟩
  cases x with
  | ref a=>
    cases ax
    obtain ⟨ds,vs,⟨n,e2,k2⟩,s,r⟩:=b4q g3.vw q3
    exact ⟨e1,a,vs,n,e2,rfl,s,λ p hp=>F (.ref p) _ _ _ (((g1.trans g2).trans g3).trans (Go.newL g3.vw hp (r.drop n).ev2)) rfl (k2 p (g3.vw.none hp))⟩
  | _=>exact (show False from q3).elim
def zTq:D->DV->DK->Prop:=λ x G Q=>match x with
  | .str z=>∃ n,PySem.intText? z=some n/\z.length<=640/\Q (.int n) G
  | _=>False
theorem lHq:ACall X (.type "int") (oPq zTq):=by
  refine ⟨_,⟨o7q⟩,λ xs vs G H DQ Q v a r F=>?_⟩
  obtain ⟨x,u,rfl,rfl,ax,r⟩:=bXq r a
  cases x with
  | str z=>cases ax;obtain ⟨n,hn,hl,q⟩:=r;exact ⟨z,n,rfl,hn,hl,F (.int n) G _ H (.refl v) rfl q⟩
  | _=>exact (show False from r).elim
end
end L3
namespace L2
open PySem PySem.Spec PyProof.Rows
def ItzL (K:PySem.W.Frag) (a b:Addr):It:=
  ⟨λ i H=>∃ xs ys x y,SqL K H a xs/\SqL K H b ys/\xs[i]?=some x/\ys[i]?=some y,λ i H v H'=>∃ T x y,v=.ref T/\H T=none/\H'=upd H T (.tup [x,y])/\(∀ xs,SqL K H a xs->xs[i]?=some x)/\∀ ys,SqL K H b ys->ys[i]?=some y,λ i H=>∃ xs ys,SqL K H a xs/\SqL K H b ys/\xs.length<=i⟩
def ZSt (z TI TO i1 i2 l1 l2:Addr) (i:Nat) (h:Heap):Prop:=IsZip h z TI TO .none/\IsPair h TI (.ref i1) (.ref i2)/\(∃ p q,IsPair h TO p q)/\h.IsListIter i1 l1 i/\h.IsListIter i2 l2 i
theorem mXq {P:Program} {w:World} {K:PySem.W.Frag} {es:List Expr} {k:Nat} {pos:Pos} {z TI TO i1 i2 l1 l2:Addr} (D:ZipApart z TI TO i1 i2 l1 l2) :
    Turn P w K (.Tuple es k pos) (ItzL K l1 l2) [z,TI,TO,i1,i2] z (λ i h=>ZSt z TI TO i1 i2 l1 l2 i h) where
  mem:=by simp
  obj:=λ i h st b hb=>by
    simp only [List.mem_cons,List.not_mem_nil,or_false] at hb
    obtain ⟨a1,a2,⟨p,q,a3⟩,⟨o4,a4,_,d4⟩,⟨o5,a5,_,d5⟩⟩:=st
    rcases hb with rfl | rfl | rfl | rfl | rfl
    . exact ⟨_,a1,λ v e=>by cases (show Data.fields _=Data.cell v from e)⟩
    . exact ⟨_,a2,λ v e=>by cases (show Data.seq _ _=Data.cell v from e)⟩
    . exact ⟨_,a3,λ v e=>by cases (show Data.seq _ _=Data.cell v from e)⟩
    . exact ⟨_,a4,λ v e=>by rw [d4] at e;cases e⟩
    . exact ⟨_,a5,λ v e=>by rw [d5] at e;cases e⟩
  keep:=λ i h h' st kk=>by
    obtain ⟨a1,a2,⟨p,q,a3⟩,⟨o4,a4,r4⟩,⟨o5,a5,r5⟩⟩:=st
    exact ⟨kk _ (by simp) _ a1,kk _ (by simp) _ a2,⟨p,q,kk _ (by simp) _ a3⟩,⟨o4,kk _ (by simp) _ a4,r4⟩,⟨o5,kk _ (by simp) _ a5,r5⟩⟩
  item:=by
    intro X hP hw hK hc i pins s σ H E I hf st hg
    subst hP hw hK
    obtain ⟨xs,ys,x,y,hq1,hq2,hx,hy⟩:=hg
    obtain ⟨its1,rv1,p1,_⟩:=I.list hq1
    obtain ⟨its2,rv2,p2,_⟩:=I.list hq2
    obtain ⟨u1,hu1,ru1⟩:=rv1.get hx
    obtain ⟨u2,hu2,ru2⟩:=rv2.get hy
    have lts:∀ b∈[z,TI,TO,i1,i2],b < s.heap.objs.size:=λ b hb=>by
      obtain ⟨a1,a2,⟨p,q,a3⟩,⟨o4,a4,_⟩,⟨o5,a5,_⟩⟩:=st
      simp only [List.mem_cons,List.not_mem_nil,or_false] at hb
      rcases hb with rfl | rfl | rfl | rfl | rfl
      . exact Heap.lt_size a1
      . exact Heap.lt_size a2
      . exact Heap.lt_size a3
      . exact Heap.lt_size a4
      . exact Heap.lt_size a5
    obtain ⟨a1,a2,⟨pp,qq,a3⟩,a4,a5⟩:=st
    refine wpAny_pyNext_zip_item D a1 a2 a3 a4 a5 p1.isList p2.isList (x:=u1) (y:=u2) (by simpa using hu1) (by simpa using hu2) λ h' b1 b2 b3 b4 hT _ kk=>?_
    refine ⟨_,rfl,wpAny_letOwnedTupleGo_zip (s:={ s with heap:=h' }) b1 λ h2 hz2 k2=>?_⟩
    have kk2:∀ b o,b ∉ [z,TI,TO,i1,i2]->s.heap.get? b=some o->h2.get? b=some o:=λ b o hb e=>by
      simp only [List.mem_cons,List.not_mem_nil,or_false,not_or] at hb
      exact k2.extBut _ _ hb.1 (kk b o hb.1 hb.2.2.1 hb.2.2.2.1 hb.2.2.2.2 e)
    have I1:Inv X pins σ (upd H s.heap.objs.size (.tup [x,y])) { s with heap:=s.heap.push { cls:=.type "tuple", data:=.seq #[u1,u2] } }:=
      I.laid (t':=s.toks) (λ b o e=>Heap.get?_push_of_some _ e) (Nat.le_refl _) (show ObjOk X.prog X.w _ _ _ (.tup [x,y]) from ⟨by show 2<=sizeLine;decide,[u1,u2],.cons ru1 (.cons ru2 .nil),IsTup.new _ _⟩)
    have hzT:s.heap.objs.size≠z:=Nat.ne_of_gt (Heap.lt_size a1)
    have I2:Inv X pins σ (upd H s.heap.objs.size (.tup [x,y])) { s with heap:=h2 }:=
      Inv.turnedL (s:={ s with heap:=s.heap.push { cls:=.type "tuple", data:=.seq #[u1,u2] } }) (h':=h2) (t':=s.toks) (fp:=[z,TI,TO,i1,i2]) I1 (λ b hb=>by
        obtain ⟨f0,fr⟩:=hf b hb
        exact ⟨by rw [aQq (Nat.ne_of_lt (lts b hb))];exact f0,fr⟩) (λ b o hb e=>by
        rcases Heap.get?_push_cases e with ⟨e1,e2⟩ | e
        . rw [e1,e2];exact k2.extBut _ _ hzT hT
        . exact kk2 b o hb e)
    refine ⟨.ref s.heap.objs.size,_,I2,rfl,⟨_,x,y,rfl,I.hok.fresh (Nat.le_refl _),rfl,λ xs' h=>by rw [I.list_inj h hq1];exact hx,λ ys' h=>by rw [I.list_inj h hq2];exact hy⟩,?_,λ b hb=>by rw [aQq (Nat.ne_of_lt (lts b hb))];exact (hf b hb).1⟩
    obtain ⟨o4,a4',r4⟩:=b3
    obtain ⟨o5,a5',r5⟩:=b4
    exact ⟨hz2,k2.extBut _ _ D.TIz (kk _ _ D.TIz D.TITO D.TIi1 D.TIi2 a2),⟨u1,u2,k2.extBut _ _ D.TOz b2⟩,⟨o4,k2.extBut _ _ D.i1z a4',r4⟩,⟨o5,k2.extBut _ _ D.i2z a5',r5⟩⟩
  done:=by
    intro X hP hw hK hc i pins s σ H E I hf st hg
    subst hP hw hK
    obtain ⟨xs,ys,hq1,hq2,hx⟩:=hg
    obtain ⟨its1,rv1,p1,_⟩:=I.list hq1
    obtain ⟨its2,rv2,p2,_⟩:=I.list hq2
    have hl:=rv1.length
    obtain ⟨a1,a2,⟨pp,qq,a3⟩,a4,a5⟩:=st
    refine wpAny_pyNext_zip_end (I.ok.hd hc) D a1 a2 a3 a4 a5 p1.isList p2.isList (.inl (by simp;omega)) λ h' kk=>⟨rfl,?_⟩
    exact I.turnedL (t':=s.toks) (fp:=[z,TI,TO,i1,i2]) hf λ b o hb e=>by
      simp only [List.mem_cons,List.not_mem_nil,or_false,not_or] at hb
      exact kk b o hb.1 hb.2.2.1 hb.2.2.2.1 hb.2.2.2.2 e
  self:=λ _ _ _ _ _ st h=>wpAny_pyIter_zip st.1 h
section
variable {X:Cx}
def aB9q (K:PySem.W.Frag) (t:TA):TI:=λ σ H R=>t σ H λ vs H1=>∃ a b,vs=[.ref a,.ref b]/\(∃ xs,SqL K H1 a xs)/\(∃ ys,SqL K H1 b ys)/\R (ItzL K a b) H1
theorem tHq {es:List Expr} {k:Nat} {tp:Pos} {a b:Expr} {t:TA} {p pos:Pos} (hg:Gl X "zip") (hm:X.mg "zip" = none) (ha:PA X [a,b] t) (h1:aOq a=true) (h2:aOq b=true):PI X (.Tuple es k tp) (.Call (.Name "zip" p) [a,b] [] pos) (aB9q X.K t):=by
  intro pins s σ H R I h
  have hs:starEach [a,b] X.env=(false,eval a X.env)::starEach [b] X.env:=aBq h1
  have hp:(backTo pos (starEach [b] X.env)).any (·.1)=false:=by rw [aBq h2];rfl
  refine Call_ (cMq I hg hm PyProof.Rows.boot_zip (PyProof.Rows.callWith_type1 (thn (ha pos pins s σ H _ I h) λ us s1 ⟨vs,H1,I1,r1,l1,l2,ev,⟨xs,q1⟩,⟨ys,q2⟩,q⟩=>?_) hs hp))
  subst ev
  cases r1 with
  | cons r rr=>
    cases rr with
    | cons r' rr=>
      cases rr
      cases r
      cases r'
      obtain ⟨its1,rv1,p1,_⟩:=I1.list q1
      obtain ⟨its2,rv2,p2,_⟩:=I1.list q2
      refine call_zip_2 p1.isList p2.isList λ h' b1 b2 b3 b4 b5 _ kk=>wpAny_pyIter_zip b1 ?_
      have c1:l1 < s1.heap.objs.size:=let ⟨_,ho,_⟩:=p1.isList;Heap.lt_size ho
      have c2:l2 < s1.heap.objs.size:=let ⟨_,ho,_⟩:=p2.isList;Heap.lt_size ho
      have D:ZipApart (s1.heap.objs.size+4) (s1.heap.objs.size+2) (s1.heap.objs.size+3) s1.heap.objs.size (s1.heap.objs.size+1) l1 l2:=apart _ _ _ c1 c2
      refine ⟨s1.heap.objs.size+4,_,_,_,H1,rfl,I1.kept (t':=s1.toks) kk,mXq D,⟨b1,b2,⟨_,_,b3⟩,b4,b5⟩,λ b hb=>?_,q⟩
      have hb':s1.heap.objs.size<=b:=by
        simp only [List.mem_cons,List.not_mem_nil,or_false] at hb
        rcases hb with e | e | e | e | e<;>(rw [e];first | exact Nat.le_refl _ | exact Nat.le_add_right _ _)
      exact I1.fpOk hb' (I1.hok.fresh hb')
end
end L2
namespace L3
open PySem PySem.Spec L2
section
variable {X:Cx} {es:List Expr} {a b:Expr} {t:DTA} {p pos:Pos}
abbrev xPq (t:DTA):DTI:=λ ρ G R=>t ρ G λ ds G1=>match ds with
  | [.ref l,.ref m]=>onL G1 l λ xs=>onL G1 m λ ys=>xs.length<=ys.length/\G1 l=some (.lst xs)/\G1 m=some (.lst ys)/\R ⟨(xs.zip ys).map λ z=>.tup [z.1,z.2],λ G=>G l=some (.lst xs)/\G m=some (.lst ys)⟩ G1
  | _=>False
theorem r8q {k:Nat} {tp:Pos} (hg:Gl X "zip") (hm:X.mg "zip" = none) (ha:AA X [a,b] t) (h1:aOq a=true:=by rfl) (h2:aOq b=true:=by rfl):AI X (.Tuple es k tp) (.Call (.Name "zip" p) [a,b] [] pos) (xPq t):=by
  obtain ⟨ca,ja,ra⟩:=ha.run
  refine ⟨_,⟨tHq hg hm ja.run h1 h2⟩,λ ρ G DR σ H R B q F=>ra ρ G _ σ H _ B q λ ds G1 vs H1 g1 al hl q1=>?_⟩
  split at q1
  . next l m=>
    obtain ⟨v,r,rfl,rfl,u,r2,rfl,rfl,e⟩:=al
    cases e
    obtain ⟨xs,ws,q2,s1,r1⟩:=b4q g1.vw q1
    obtain ⟨ys,zs,⟨hle,e1,e2,q3⟩,s2,r2'⟩:=b4q g1.vw q2
    refine ⟨l,m,rfl,⟨ws,s1⟩,⟨zs,s2⟩,F ⟨(xs.zip ys).map λ z=>.tup [z.1,z.2],λ G=>G l=some (.lst xs)/\G m=some (.lst ys)⟩ _ G1 H1 g1 (λ G2 H2 g2 ff=>?_) q3⟩
    obtain ⟨f1,f2⟩:=ff
    obtain ⟨ws',w1,t1⟩:=g2.vw _ _ f1
    obtain ⟨zs',w2,t2⟩:=g2.vw _ _ f2
    have l1:=t1.len
    refine ⟨λ n d hd=>?_,λ n hn=>⟨ws',zs',.of w1,.of w2,?_⟩⟩
    . rw [List.getElem?_map] at hd
      cases e:(xs.zip ys)[n]? with
      | none=>rw [e] at hd;cases hd
      | some z=>
        rw [e] at hd
        simp at hd
        subst hd
        obtain ⟨e1,e2⟩:=List.getElem?_zip_eq_some.mp e
        obtain ⟨v1,k1,a1⟩:=t1.get e1
        obtain ⟨v2,k2,a2⟩:=t2.get e2
        refine ⟨⟨ws',zs',v1,v2,.of w1,.of w2,k1,k2⟩,λ x H' y=>?_⟩
        obtain ⟨T,x1,y1,rfl,hT,rfl,hx,hy⟩:=y
        have z1:=hx ws' (.of w1)
        have z2:=hy zs' (.of w2)
        rw [k1] at z1;rw [k2] at z2
        cases z1;cases z2
        have g3:=Go.newT (o:=.tup [v1,v2]) g2.vw hT
        exact ⟨g3,T,_,rfl,.of b3q,⟨_,_,rfl,a1.mono g3.tup,.one (a2.mono g3.tup)⟩⟩
    . simp at hn
      omega
  . exact q1.elim
end
end L3
namespace L2
open PySem PySem.Spec PyProof.Rows
section
variable {X:Cx}
theorem tTq {α:Type} (xs:List α) (n:Nat) (h1:n<=1000) (h2:xs.length<=1000):(List.replicate n xs).flatten.length<=1000000:=by
  have e:(List.replicate n xs).flatten.length=n * xs.length:=by
    induction n with
    | zero=>simp
    | succ n ih=>rw [List.replicate_succ,List.flatten_cons,List.length_append,ih (by omega),Nat.succ_mul];omega
  rw [e]
  have:=Nat.mul_le_mul h1 h2;omega
end
end L2
namespace L3
open PySem PySem.Spec L2
theorem AbsL.rep {K:PySem.W.Frag} {H:Hp} {ds:List D} {vs:List V} (h:AbsL K H ds vs):∀ n,AbsL K H (List.replicate n ds).flatten (List.replicate n vs).flatten
  | 0=>rfl
  | n+1=>by rw [List.replicate_succ,List.replicate_succ,List.flatten_cons,List.flatten_cons];exact h.append (AbsL.rep h n)
section
variable {X:Cx}
end
end L3
namespace L2
open PySem PySem.Spec PyProof.Rows
section
variable {X:Cx}
def z5q (K:PySem.W.Frag):R2:=λ x y H Q=>∃ (a:Addr) (xs:List V) (n:Int),x=.ref a/\y=.int n/\SqL K H a xs/\-1000<=n/\n<=1000/\xs.length<=1000/\∀ p,H p=none->Q (.ref p) (upd H p (.lst (List.replicate n.toNat xs).flatten))
theorem rFq:OpR X (binaryOp .Mult) (z5q X.K):=by
  intro pins s σ H x y v u Q I rx ry h
  obtain ⟨a,xs,n,rfl,rfl,ha,h0,hn,hx,q⟩:=h
  cases rx
  obtain ⟨t,rfl⟩:=ry
  obtain ⟨its,r,p,hz⟩:=I.list ha
  have hlen:=r.length
  have hn':n.toNat<=1000:=by omega
  obtain ⟨⟨cls,d,data,sl⟩,ho,hcl,k,hd⟩:=id p.isList
  simp only at hcl hd
  subst hcl hd
  have hsz':its.toArray.size * n.toNat<=1000000:=by
    rw [List.size_toArray,<- hlen]
    have:=Nat.mul_le_mul hx hn';omega
  refine wpAny_binaryOp_repeat_ref (T:="list") (U:="int") (by decide) ⟨_,ho,rfl⟩ (λ s'=>typeIs_int s' n t) noFill_list_mul F.fills_int_mul F.slot_int_rmul repeat_list F.slot_int_index.lookup
    (call_meets F.slot_int_rmul (typeIs_int s n t) F.entry_int_rmul (F.args_int_rmul_2 _ _) (lm_int_rmul_list_any n t a its.toArray k d sl)
      ⟨ho,rfl,⟨_,ho,rfl⟩,call_meets F.slot_list_mul ⟨_,ho,rfl⟩ F.entry_list_mul (F.args_list_mul_2 _ _)
        (lm_list_mul_any a its.toArray k d sl n t (by simp [Builtin.List.listFitsIndex];omega) (by omega) (by unfold Builtin.List.listTooLong;rw [decide_eq_true_eq,sizeLine_eq];omega))
        ⟨ho,?_⟩⟩)
  rw [listMul_foldl_if]
  refine ⟨.ref s.heap.objs.size,_,I.laid (t':=s.toks) (o:=.lst (List.replicate n.toNat xs).flatten) (λ b ob q=>Heap.get?_push_of_some _ q) (Nat.le_refl _) ?_,rfl,q _ (I.hok.fresh (Nat.le_refl _))⟩
  exact ⟨by have:=tTq xs n.toNat hn' hx;rw [sizeLine_eq];omega,_,0,kYq r n.toNat,Heap.get?_push_size _ rfl⟩
end
end L2
namespace L3
open PySem PySem.Spec L2
section
variable {X:Cx}
def xMq:DR2:=λ x y G Q=>match x,y with
  | .ref l,.int n=>onL G l λ ds=>-1000<=n/\n<=1000/\ds.length<=1000/\∀ p,G p=none->Q (.ref p) (up G p (.lst (List.replicate n.toNat ds).flatten))
  | _,_=>False
theorem pOq:AOp X (binaryOp .Mult) xMq:=by
  refine ⟨_,⟨rFq⟩,λ x y vx vy G H DQ Q v ax ay r F=>?_⟩
  unfold xMq at r
  split at r
  . next l n=>
    cases ax;cases ay
    obtain ⟨ds,vs,⟨h0,h1,h2,k⟩,s,rl⟩:=b4q v r
    exact ⟨l,vs,n,rfl,rfl,s,h0,h1,by rw [rl.len];exact h2,λ p hp=>F (.ref p) _ _ _ (Go.newL v hp (rl.rep _)) rfl (k p (v.none hp))⟩
  . exact r.elim
end
end L3
namespace L3
open PySem L2 PySem.NumText PyProof.Rows PySem.W PySem.W.KIN
abbrev c9q (n:Int):Str:=Str.ofString (toString n)
abbrev dg (m:Nat):List Nat:=(Nat.toDigits 10 m).map Char.toNat
theorem c6q (m:Nat):AllDigits (dg m):=by
  intro c hc
  obtain ⟨ch,hch,e⟩:=List.mem_map.mp hc
  rw [<- e]
  exact digit_range (Nat.isDigit_of_mem_toDigits (by decide) (by decide) hch)
theorem j7q (m:Nat):dg m≠[]:=by
  intro e
  have h:=toDigits_len_ge 10 m
  rw [List.map_eq_nil_iff.mp e] at h
  exact absurd h (by decide)
theorem k0q {m:Nat} (h:m < 10 ^ 12):(dg m).length<=12:=by
  rw [List.length_map];exact toDigits_len_pow (by decide) (by decide) h
theorem jOq (m:Nat):(c9q (m:Int)).cps.toList=dg m:=signs_num m
theorem j1q (m:Nat):(c9q (Int.negSucc m)).cps.toList=45::dg (m+1):=by
  rw [signs_ofString]
  show (("-"++Nat.repr (m+1)).toList.map Char.toNat)=_
  rw [String.toList_append,List.map_append,Nat.toList_repr]
  rfl
theorem kMq {n:Int} (h:n.natAbs < 10 ^ 12):PySem.intText? (c9q n)=some n/\(c9q n).length<=13:=by
  have hl:(c9q n).cps.toList.length=(c9q n).length:=Array.length_toList
  cases n with
  | ofNat m=>
    have e:=jOq m
    have l:=k0q h
    have hl:(c9q (m:Int)).cps.toList.length=(c9q (m:Int)).length:=Array.length_toList
    rw [e] at hl
    have le:(c9q (m:Int)).length<=12:=by rw [<- hl];exact l
    have z:=intText_digits (x:=c9q (m:Int)) (by rw [e];exact c6q m) (by rw [e];exact j7q m) (by omega)
    rw [e,val_back] at z
    exact ⟨z,by show (c9q (m:Int)).length<=13;omega⟩
  | negSucc m=>
    have e:=j1q m
    have l:=k0q (m:=m+1) h
    have le:(c9q (Int.negSucc m)).length<=13:=by rw [<- hl,e,List.length_cons];omega
    have z:=intText_neg (x:=c9q (Int.negSucc m)) e (c6q _) (j7q _) (by omega)
    rw [val_back] at z
    exact ⟨z,le⟩
theorem mQq (m:Nat) (h:0 < m):(dg m).head?≠some 48:=by
  induction m using Nat.strongRecOn with
  | _ m ih=>
    by_cases h1:m < 10
    . have key:∀ k < 10,0 < k->(dg k).head?≠some 48:=by decide +kernel
      exact key m h1 h
    . have hm:m % 10 < 10:=Nat.mod_lt m (by decide)
      have t:Nat.toDigits 10 (m / 10)++Nat.toDigits 10 (m % 10)=Nat.toDigits 10 (10 * (m / 10)+m % 10):=Nat.toDigits_append_toDigits (by decide) (by omega) hm
      rw [Nat.div_add_mod] at t
      have i:=ih (m / 10) (by omega) (by omega)
      have ne:=j7q (m / 10)
      show ((Nat.toDigits 10 m).map Char.toNat).head?≠_
      rw [<- t,List.map_append]
      cases e:dg (m / 10) with
      | nil=>exact absurd e ne
      | cons c r=>rw [show (Nat.toDigits 10 (m / 10)).map Char.toNat=c::r from e];rw [e] at i;simpa using i
def u1q (z:Str):Bool:=decide (1<=((bare z).length:Int))&&(decide (((bare z).length:Int)<=12)&&fPq (bare z) figs)&&(!Txt.startswith (bare z) "0"||z=="0")
theorem p7q:figs.cps.toList=[48,49,50,51,52,53,54,55,56,57]:=by decide +kernel
theorem jTq {z:Str} {m:Nat} (e:z.cps.toList=dg m):fPq z figs=true:=by
  unfold fPq
  rw [e,p7q,List.all_eq_true]
  intro c hc
  have:=c6q m c hc
  rw [decide_eq_true_iff]
  simp
  omega
theorem sNq {n:Int} (h:n.natAbs < 10 ^ 12):u1q (c9q n)=true:=by
  cases n with
  | ofNat m=>
    have e:=jOq m
    have l:(dg m).length<=12:=k0q h
    have b:bare (c9q (m:Int))=c9q (m:Int):=by
      unfold bare
      rw [dash,cDq,e,if_neg]
      intro c
      have c:=eq_of_beq c
      cases hd:dg m with
      | nil=>exact j7q m hd
      | cons x r=>
        rw [hd] at c;cases c
        have:=c6q m 45 (by rw [hd];exact List.mem_cons_self ..)
        omega
    have hl:(c9q (m:Int)).cps.toList.length=(c9q (m:Int)).length:=Array.length_toList
    have l1:1<=(dg m).length:=List.length_pos_iff.mpr (j7q m)
    rw [e] at hl
    show u1q (c9q (m:Int))=true
    unfold u1q
    rw [b,jTq e,qGq,cDq,e,decide_eq_true (by omega),decide_eq_true (by omega)]
    by_cases h0:m=0
    . subst h0;decide +kernel
    . have:=mQq m (by omega)
      have hh:((dg m).head?==some 48)=false:=by rw [beq_eq_false_iff_ne];exact this
      rw [hh];rfl
  | negSucc m=>
    have e:=j1q m
    have l:=k0q (m:=m+1) h
    have hl:(c9q (Int.negSucc m)).cps.toList.length=(c9q (Int.negSucc m)).length:=Array.length_toList
    have b:(bare (c9q (Int.negSucc m))).cps.toList=dg (m+1):=by
      unfold bare
      rw [dash,cDq,e,if_pos (by rfl),PyProof.Rows.slice_from_eq (by decide) (by rw [<- hl,e,List.length_cons];omega) rfl]
      show (((c9q (Int.negSucc m)).cps.toList.drop 1).take _)=_
      rw [e,List.drop_succ_cons,List.drop_zero,List.take_of_length_le]
      rw [<- hl,e,List.length_cons]
      omega
    have hb:(bare (c9q (Int.negSucc m))).cps.toList.length=(bare (c9q (Int.negSucc m))).length:=Array.length_toList
    have l1:1<=(dg (m+1)).length:=List.length_pos_iff.mpr (j7q _)
    rw [b] at hb
    unfold u1q
    rw [jTq b,qGq,cDq,b,decide_eq_true (by omega),decide_eq_true (by omega)]
    have hh:((dg (m+1)).head?==some 48)=false:=by rw [beq_eq_false_iff_ne];exact mQq _ (by omega)
    rw [hh];rfl
theorem m5q (n:Int):(∀ c∈(c9q n).cps.toList,c=45\/48<=c/\c<=57)/\(c9q n).cps.toList≠[]:=by
  cases n with
  | ofNat m=>show (∀ c∈(c9q (m:Int)).cps.toList,_)/\(c9q (m:Int)).cps.toList≠[];rw [jOq];exact ⟨λ c hc=>.inr (c6q m c hc),j7q m⟩
  | negSucc m=>
    rw [j1q]
    refine ⟨λ c hc=>?_,by simp⟩
    rcases List.mem_cons.mp hc with rfl | hc
    . exact .inl rfl
    . exact .inr (c6q _ c hc)
inductive IsKc:D->Prop
  | is (n:Int):n.natAbs < 10 ^ 12->IsKc (.tup [.str "is", .int n])
  | some:IsKc (.tup [.str "some"])
  | both {a b:D}:IsKc a->IsKc b->ofA a=true->ofA b=true->IsKc (.tup [.str "both", a,b])
  | left {a:D}:IsKc a->IsKc (.tup [.str "left", a])
  | right {a:D}:IsKc a->IsKc (.tup [.str "right", a])
  | way {ds:List D} {k:D}:(∀ d∈ds,IsKc d)->fUq ds=true->IsKc k->IsKc (.tup [.str "way", .tup ds,k])
theorem IsKc.kd {d:D} (h:IsKc d):IsKd d:=by
  induction h with
  | is n=>exact .is n
  | some=>exact .some
  | both _ _ o1 o2 h1 h2=>exact .both h1 h2 o1 o2
  | left _ h=>exact .left h
  | right _ h=>exact .right h
  | way _ s _ h1 h2=>exact .way h1 s h2
theorem IsKc.isK {d:D} (h:IsKc d):IsK d:=h.kd.isK
def bGq {α:Type} (s:α):List (List α)->List α
  | []=>[]
  | [x]=>x
  | x::y::r=>x++s::bGq s (y::r)
inductive Tk:D->List Str->Prop
  | is (n:Int):n.natAbs < 10 ^ 12->Tk (.tup [.str "is", .int n]) [c9q n]
  | some:Tk (.tup [.str "some"]) ["~"]
  | left {a:D} {x:List Str}:Tk a x->Tk (.tup [.str "left", a]) (("(" : Str)::(x++[(",":Str),(")":Str)]))
  | right {a:D} {x:List Str}:Tk a x->Tk (.tup [.str "right", a]) (("(" : Str)::("," : Str)::(x++[(")":Str)]))
  | both {a b:D} {x y:List Str}:Tk a x->Tk b y->Tk (.tup [.str "both", a,b]) (("(" : Str)::(x++("," : Str)::(y++[(")":Str)])))
  | way {ps:List (D × List Str)} {k:D} {y:List Str}:(∀ p∈ps,Tk p.1 p.2)->Tk k y->ps.length<=40->Tk (.tup [.str "way", .tup (ps.map (·.1)),k]) (("[" : Str)::(bGq (" " : Str) (ps.map (·.2))++(":" : Str)::(y++[("]":Str)])))
theorem fCq {P:D->List Str->Prop}:∀ {ds:List D},(∀ d∈ds,∃ x,P d x)->∃ ps:List (D × List Str),ps.map (·.1)=ds/\∀ p∈ps,P p.1 p.2
  | [],_=>⟨[],rfl,by simp⟩
  | d::ds,h=>by
    obtain ⟨x,hx⟩:=h d (List.mem_cons_self ..)
    obtain ⟨ps,e,hp⟩:=fCq λ e he=>h e (List.mem_cons_of_mem _ he)
    refine ⟨(d,x)::ps,by rw [List.map_cons,e],λ p m=>?_⟩
    rcases List.mem_cons.mp m with rfl | m
    . exact hx
    . exact hp p m
theorem bLq {ds:List D} {n:Nat} (h:wid (.tup ds)<=n):ds.length<=n/\∀ d∈ds,wid d<=n:=by
  rw [wid] at h
  exact ⟨by omega,λ d hd=>by have:=gKq hd;omega⟩
theorem IsKc.tk {d:D} (h:IsKc d) (hw:wid d<=40):∃ x,Tk d x:=by
  induction h with
  | is n h=>exact ⟨_,.is n h⟩
  | some=>exact ⟨_,.some⟩
  | both _ _ _ _ h1 h2=>obtain ⟨x,h1⟩:=h1 ((bLq hw).2 _ (by simp));obtain ⟨y,h2⟩:=h2 ((bLq hw).2 _ (by simp));exact ⟨_,.both h1 h2⟩
  | left _ h=>obtain ⟨x,h⟩:=h ((bLq hw).2 _ (by simp));exact ⟨_,.left h⟩
  | right _ h=>obtain ⟨x,h⟩:=h ((bLq hw).2 _ (by simp));exact ⟨_,.right h⟩
  | @way ds k _ _ _ h1 h2=>
    have hb:=bLq ((bLq hw).2 (.tup ds) (by simp))
    obtain ⟨ps,e,hp⟩:=fCq λ d hd=>h1 d hd (hb.2 d hd)
    obtain ⟨y,h2⟩:=h2 ((bLq hw).2 _ (by simp))
    have hl:=hb.1
    rw [<- e,List.length_map] at hl
    rw [<- e]
    exact ⟨_,.way hp h2 hl⟩
theorem dRq {α:Type} {s:α}:∀ xs:List (List α),(bGq s xs).length+1<=(xs.map λ x=>x.length+1).sum+1
  | []=>by simp [bGq]
  | [x]=>by simp [bGq]
  | x::y::r=>by
    have:=dRq (s:=s) (y::r)
    rw [bGq,List.length_append,List.length_cons,List.map_cons,List.sum_cons]
    omega
theorem hTq {α:Type} {s a:α}:∀ {xs:List (List α)},a∈bGq s xs->a=s\/∃ x∈xs,a∈x
  | [],h=>by simp [bGq] at h
  | [x],h=>.inr ⟨x,by simp,h⟩
  | x::y::r,h=>by
    rw [bGq] at h
    rcases List.mem_append.mp h with h | h
    . exact .inr ⟨x,by simp,h⟩
    . rcases List.mem_cons.mp h with h | h
      . exact .inl h
      . rcases hTq h with h | ⟨z,h1,h2⟩
        . exact .inl h
        . exact .inr ⟨z,List.mem_cons_of_mem _ h1,h2⟩
theorem hZq:∀ {ps:List (D × List Str)},(∀ p∈ps,p.2.length+1<=2 * tsz p.1)->((ps.map (·.2)).map λ x=>x.length+1).sum<=2 * b9q (ps.map (·.1))
  | [],_=>by simp
  | p::ps,h=>by
    have h1:=h p (List.mem_cons_self ..)
    have h2:=hZq λ q hq=>h q (List.mem_cons_of_mem _ hq)
    simp only [List.map_cons,List.sum_cons,b9q] at *
    omega
theorem Tk.len {d:D} {x:List Str} (h:Tk d x):x.length+1<=2 * tsz d:=by
  induction h with
  | is n=>simp [tsz,b9q]
  | some=>simp [tsz,b9q]
  | left _ h=>simp only [List.length_cons,List.length_append,List.length_nil,tsz,b9q] at *;omega
  | right _ h=>simp only [List.length_cons,List.length_append,List.length_nil,tsz,b9q] at *;omega
  | both _ _ h1 h2=>simp only [List.length_cons,List.length_append,List.length_nil,tsz,b9q] at *;omega
  | @way ps k y _ _ hl h1 h2=>
    have a:=dRq (s:=(" " : Str)) (ps.map (·.2))
    have b:=hZq h1
    simp only [List.length_cons,List.length_append,List.length_nil,tsz,b9q] at *
    omega
theorem Tk.few {d:D} {x:List Str} (h:Tk d x):∀ z∈x,z.length<=13:=by
  have l1:∀ z∈([",", ")", "(", "[", "]", " ", ":", "~"]:List Str),z.length<=13:=by decide +kernel
  induction h with
  | is n h=>intro z hz;simp at hz;subst hz;exact (kMq h).2
  | some=>intro z hz;exact l1 z (by simp at hz;subst hz;simp)
  | left _ h=>
    intro z hz
    simp only [List.mem_cons,List.mem_append,List.not_mem_nil,or_false] at hz
    rcases hz with e | e | e | e
    . exact l1 z (by simp [e])
    . exact h z e
    . exact l1 z (by simp [e])
    . exact l1 z (by simp [e])
  | right _ h=>
    intro z hz
    simp only [List.mem_cons,List.mem_append,List.not_mem_nil,or_false] at hz
    rcases hz with e | e | e | e
    . exact l1 z (by simp [e])
    . exact l1 z (by simp [e])
    . exact h z e
    . exact l1 z (by simp [e])
  | both _ _ h1 h2=>
    intro z hz
    simp only [List.mem_cons,List.mem_append,List.not_mem_nil,or_false] at hz
    rcases hz with e | e | e | e | e
    . exact l1 z (by simp [e])
    . exact h1 z e
    . exact l1 z (by simp [e])
    . exact h2 z e
    . exact l1 z (by simp [e])
  | way _ _ _ h1 h2=>
    intro z hz
    simp only [List.mem_cons,List.mem_append,List.not_mem_nil,or_false] at hz
    rcases hz with e | e | e | e | e
    . exact l1 z (by simp [e])
    . rcases hTq e with e | ⟨x,hx,e⟩
      . exact l1 z (by simp [e])
      . obtain ⟨p,hp,rfl⟩:=List.mem_map.mp hx
        exact h1 p hp z e
    . exact l1 z (by simp [e])
    . exact h2 z e
    . exact l1 z (by simp [e])
def cat:List Str->List Nat
  | []=>[]
  | z::r=>z.cps.toList++cat r
theorem b1q:∀ x y:List Str,cat (x++y)=cat x++cat y
  | [],y=>rfl
  | z::x,y=>by rw [List.cons_append,cat,cat,b1q x y,List.append_assoc]
def ofL (l:List Nat):Str:=⟨l.toArray⟩
abbrev txt (x:List Str):Str:=ofL (cat x)
theorem cFq (l:List Nat):(ofL l).cps.toList=l:=rfl
theorem cEq {a b:Str} (h:a.cps.toList=b.cps.toList):a=b:=by
  obtain ⟨x⟩:=a;obtain ⟨y⟩:=b
  rw [show x=y from Array.toList_inj.mp h]
theorem cUq (a b:Str):(a++b).cps.toList=a.cps.toList++b.cps.toList:=PySem.W.KT.app_list a b
theorem hJq:∀ {x:List Str},(∀ z∈x,z.length<=13)->(cat x).length<=13 * x.length
  | [],_=>by simp [cat]
  | z::x,h=>by
    have h1:=h z (List.mem_cons_self ..)
    have h2:=hJq λ y hy=>h y (List.mem_cons_of_mem _ hy)
    have e:z.cps.toList.length=z.length:=Array.length_toList
    rw [cat,List.length_append,List.length_cons]
    omega
theorem q1q (ys:List Str):Txt.join "" ys=ofL (cat ys):=by
  rw [eq_of_beq (PyProof.Rows.join_plain_closes "" ys)]
  refine cEq ?_
  rw [cFq]
  have he:(("" : String):Str).cps.toList=[]:=by decide +kernel
  induction ys with
  | nil=>rfl
  | cons y ys ih=>
    cases ys with
    | nil=>simp [Str.join,cat]
    | cons z zs=>rw [show Str.join "" (y::z::zs)=y++""++Str.join "" (z::zs) from rfl,cUq,cUq,he,ih,List.append_nil];rfl
theorem rJq (xs:List (List Str)):Txt.join " " (xs.map txt)=txt (bGq (" " : Str) xs):=by
  rw [eq_of_beq (PyProof.Rows.join_plain_closes " " _)]
  refine cEq ?_
  rw [cFq]
  induction xs with
  | nil=>rfl
  | cons y ys ih=>
    cases ys with
    | nil=>rfl
    | cons z zs=>
      rw [show Str.join " " ((y::z::zs).map txt)=txt y++" "++Str.join " " ((z::zs).map txt) from rfl,cUq,cUq,ih,bGq,b1q,cat,List.append_assoc];rfl
def pcs (S:List Nat):List Nat->List Nat->List Str
  | cur,[]=>if cur=[] then [] else [ofL cur]
  | cur,c::r=>if c∈S then (if cur=[] then [] else [ofL cur])++ofL [c]::pcs S [] r else pcs S (cur++[c]) r
def Hds (S rest:List Nat):Prop:=rest=[]\/∃ c r,rest=c::r/\c∈S
theorem lMq {S:List Nat} {c:Nat} {r:List Nat} (h:c∈S):pcs S [] (c::r)=ofL [c]::pcs S [] r:=by
  rw [pcs,if_pos h,if_pos rfl];rfl
theorem nOq {S rest:List Nat} (hr:Hds S rest):∀ (l cur:List Nat),(∀ c∈l,c ∉ S)->cur++l≠[]->pcs S cur (l++rest)=ofL (cur++l)::pcs S [] rest
  | [],cur,_,hne=>by
    rw [List.append_nil] at hne ⊢
    rcases hr with rfl | ⟨c,r,rfl,hc⟩
    . rw [List.nil_append,pcs,if_neg hne,pcs,if_pos rfl]
    . rw [List.nil_append,pcs,if_pos hc,if_neg hne,lMq hc];rfl
  | c::l,cur,h,_=>by
    rw [List.cons_append,pcs,if_neg (h c (List.mem_cons_self ..)),nOq hr l (cur++[c]) (λ d hd=>h d (List.mem_cons_of_mem _ hd)) (by simp),List.append_assoc];rfl
abbrev SG:List Nat:=[91,93,40,41,32,58,44,126]
theorem qYq:(("[]() :,~" : String):Str).cps.toList=SG:=by decide +kernel
def Gd (x:List Str):Prop:=∀ rest,Hds SG rest->pcs SG [] (cat x++rest)=x++pcs SG [] rest
theorem c1q {z:Str} {c:Nat} (h:z=ofL [c]) (x:List Str) (rest:List Nat) (hc:c∈SG):pcs SG [] (cat (z::x)++rest)=z::pcs SG [] (cat x++rest):=by
  subst h;exact lMq hc
theorem j0q {z:Str} {c:Nat} (h:z=ofL [c]) (x:List Str) (rest:List Nat) (hc:c∈SG):Hds SG (cat (z::x)++rest):=by
  subst h;exact .inr ⟨c,_,rfl,hc⟩
theorem yHq:(("(" : String):Str)=ofL [40]:=by decide +kernel
theorem u4q:((")" : String):Str)=ofL [41]:=by decide +kernel
theorem s_lb:(("[" : String):Str)=ofL [91]:=by decide +kernel
theorem s_rb:(("]" : String):Str)=ofL [93]:=by decide +kernel
theorem s_sp:((" " : String):Str)=ofL [32]:=by decide +kernel
theorem s_cl:((":" : String):Str)=ofL [58]:=by decide +kernel
theorem vHq:(("," : String):Str)=ofL [44]:=by decide +kernel
theorem s_tl:(("~" : String):Str)=ofL [126]:=by decide +kernel
theorem kSq:∀ {xs:List (List Str)},(∀ x∈xs,Gd x)->Gd (bGq (" " : Str) xs)
  | [],_,rest,_=>rfl
  | [x],h,rest,hr=>h x (by simp) rest hr
  | x::y::r,h,rest,hr=>by
    rw [bGq,b1q,List.append_assoc,h x (by simp) _ (j0q s_sp _ _ (by decide)),c1q s_sp _ _ (by decide),kSq (λ z hz=>h z (List.mem_cons_of_mem _ hz)) rest hr,List.append_assoc];rfl
theorem Tk.gd {d:D} {x:List Str} (h:Tk d x):Gd x:=by
  induction h with
  | is n hn=>
    intro rest hr
    obtain ⟨h1,h2⟩:=m5q n
    have z:=nOq hr (c9q n).cps.toList [] (λ c hc hS=>by have:=h1 c hc;simp at hS;omega) (by simpa using h2)
    rw [cat,cat,List.append_nil,z];rfl
  | some=>intro rest hr;rw [c1q s_tl _ _ (by decide)];rfl
  | left _ h=>
    intro rest hr
    rw [c1q yHq _ _ (by decide),b1q,List.append_assoc,h _ (j0q vHq _ _ (by decide)),c1q vHq _ _ (by decide),c1q u4q _ _ (by decide)]
    simp [cat]
  | right _ h=>
    intro rest hr
    rw [c1q yHq _ _ (by decide),c1q vHq _ _ (by decide),b1q,List.append_assoc,h _ (j0q u4q _ _ (by decide)),c1q u4q _ _ (by decide)]
    simp [cat]
  | both _ _ h1 h2=>
    intro rest hr
    rw [c1q yHq _ _ (by decide),b1q,List.append_assoc,h1 _ (j0q vHq _ _ (by decide)),c1q vHq _ _ (by decide),b1q,List.append_assoc,h2 _ (j0q u4q _ _ (by decide)),c1q u4q _ _ (by decide)]
    simp [cat]
  | @way ps k y _ _ hl h1 h2=>
    intro rest hr
    have g:=kSq (xs:=ps.map (·.2)) λ x hx=>by obtain ⟨p,hp,rfl⟩:=List.mem_map.mp hx;exact h1 p hp
    rw [c1q s_lb _ _ (by decide),b1q,List.append_assoc,g _ (j0q s_cl _ _ (by decide)),c1q s_cl _ _ (by decide),b1q,List.append_assoc,h2 _ (j0q s_rb _ _ (by decide)),c1q s_rb _ _ (by decide)]
    simp [cat]
theorem Tk.pieces {d:D} {x:List Str} (h:Tk d x):pcs SG [] (cat x)=x:=by
  have:=h.gd [] (.inl rfl)
  rw [List.append_nil,pcs,if_pos rfl,List.append_nil] at this
  exact this
abbrev dTq (ds:List D):List D:=bGq (.str " ") (ds.map λ d=>[d])
inductive PC:List D->D->Prop
  | left (a:D):PC [a,.str ","] (.tup [.str "left", a])
  | right (xs:List D):PC [.str ",", .tup xs] (.tup [.str "right", .tup xs])
  | both (a b:D):PC [a,.str ",", b] (.tup [.str "both", a,b])
inductive Clo:List D->Str->D->Prop
  | way (ds:List D) (k:D):ds.length<=40->Clo (.str "["::(dTq ds++[.str ":", k])) "]" (.tup [.str "way", .tup ds,k])
  | pair {row:List D} {k:D}:PC row k->Clo (.str "("::row) ")" k
inductive RP:Str->D->Prop
  | sgn {p:Str}:p = " "\/p = ":"\/p = ","->RP p (.str p)
  | som:RP "~" (.tup [.str "some"])
  | num (n:Int):n.natAbs < 10 ^ 12->RP (c9q n) (.tup [.str "is", .int n])
inductive Stp:List (List D)->Str->List (List D)->Prop
  | opn (st:List (List D)) {p:Str}:p = "["\/p = "("->Stp st p ([.str p]::st)
  | cls {c:List D} {p:Str} {k:D} (t:List D) (st:List (List D)):Clo c p k->Stp (c::t::st) p ((t++[k])::st)
  | rd (t:List D) (st:List (List D)) {p:Str} {q:D}:RP p q->Stp (t::st) p ((t++[q])::st)
inductive Rn:List (List D)->List Str->List (List D)->Prop
  | nil (st:List (List D)):Rn st [] st
  | cons {st st' st'':List (List D)} {p:Str} {r:List Str}:Stp st p st'->Rn st' r st''->Rn st (p::r) st''
theorem Rn.app {st st' st'':List (List D)} {x y:List Str} (h1:Rn st x st') (h2:Rn st' y st''):Rn st (x++y) st'':=by
  induction h1 with
  | nil=>exact h2
  | cons s _ ih=>exact .cons s (ih h2)
theorem dIq (d e:D) (ds:List D):dTq (d::e::ds)=d::.str " "::dTq (e::ds):=rfl
theorem qFq:∀ {ps:List (D × List Str)} {t:List D} {st:List (List D)},(∀ p∈ps,∀ t st,Rn (t::st) p.2 ((t++[p.1])::st))->Rn (t::st) (bGq (" " : Str) (ps.map (·.2))) ((t++dTq (ps.map (·.1)))::st)
  | [],t,st,_=>by rw [show t++dTq (([]:List (D × List Str)).map (·.1))=t from List.append_nil t];exact .nil _
  | [p],t,st,h=>h p (by simp) t st
  | p::q::r,t,st,h=>by
    have h1:=h p (by simp) t st
    have h2:=qFq (ps:=q::r) (t:=t++[p.1]++[.str " "]) (st:=st) λ z hz=>h z (List.mem_cons_of_mem _ hz)
    have h3:=h1.app (.cons (.rd _ _ (.sgn (.inl rfl))) h2)
    simp only [List.map_cons,bGq,dIq] at h3 ⊢
    simpa [List.append_assoc] using h3
theorem q4q {d:D} {x:List Str} (h:Tk d x):∃ xs,d=.tup xs:=by cases h<;>exact ⟨_,rfl⟩
theorem Tk.rn {d:D} {x:List Str} (h:Tk d x):∀ t st,Rn (t::st) x ((t++[d])::st):=by
  induction h with
  | is n hn=>intro t st;exact .cons (.rd t st (.num n hn)) (.nil _)
  | some=>intro t st;exact .cons (.rd t st .som) (.nil _)
  | left _ h=>intro t st;exact .cons (.opn _ (.inr rfl)) ((h _ _).app (.cons (.rd _ _ (.sgn (.inr (.inr rfl)))) (.cons (.cls t st (.pair (.left _))) (.nil _))))
  | right h0 h=>
    intro t st
    obtain ⟨xs,rfl⟩:=q4q h0
    exact .cons (.opn _ (.inr rfl)) (.cons (.rd _ _ (.sgn (.inr (.inr rfl)))) ((h _ _).app (.cons (.cls t st (.pair (.right _))) (.nil _))))
  | both _ _ h1 h2=>intro t st;exact .cons (.opn _ (.inr rfl)) ((h1 _ _).app (.cons (.rd _ _ (.sgn (.inr (.inr rfl)))) ((h2 _ _).app (.cons (.cls t st (.pair (.both _ _))) (.nil _)))))
  | @way ps k y _ _ hl h1 h2=>
    intro t st
    refine .cons (.opn _ (.inl rfl)) ((qFq h1).app (.cons (.rd _ _ (.sgn (.inr (.inl rfl)))) ((h2 _ _).app (.cons (.cls t st ?_) (.nil _)))))
    rw [List.append_assoc,List.append_assoc]
    exact .way _ _ (by rw [List.length_map];exact hl)
theorem qMq:∀ ds:List D,ev2 (dTq ds)=ds/\ev2 ((dTq ds).drop 1)=List.replicate (ds.length - 1) (.str " ")
  | []=>⟨rfl,rfl⟩
  | [d]=>⟨rfl,rfl⟩
  | d::e::ds=>by
    obtain ⟨h1,h2⟩:=qMq (e::ds)
    rw [dIq]
    refine ⟨by rw [ev2,h1],?_⟩
    rw [List.drop_succ_cons,List.drop_zero]
    have hx:∀ (a:D) (l:List D),ev2 (a::l)=a::ev2 (l.drop 1):=λ a l=>by cases l<;>rfl
    rw [hx,h2];rfl
inductive Spl:D->List D->Prop
  | is (n:Int):n.natAbs < 10 ^ 12->Spl (.tup [.str "is", .int n]) [.str (c9q n)]
  | some:Spl (.tup [.str "some"]) [.str "~"]
  | left (a:D):Spl (.tup [.str "left", a]) [.str "(", a,.str ",)"]
  | right (a:D):Spl (.tup [.str "right", a]) [.str "(,", a,.str ")"]
  | both (a b:D):Spl (.tup [.str "both", a,b]) [.str "(", a,.str ",", b,.str ")"]
  | way (ds:List D) (k:D):ds.length<=40->Spl (.tup [.str "way", .tup ds,k]) (.str "["::(dTq ds++[.str ":", k,.str "]"]))
inductive Its:List D->List Nat->Nat->Prop
  | nil:Its [] [] 0
  | str {ps:List D} {l:List Nat} {m:Nat} (z:Str):Its ps l m->Its (.str z::ps) (z.cps.toList++l) (1+m)
  | kd {d:D} {x:List Str} {ps:List D} {l:List Nat} {m:Nat}:Tk d x->tsz d<=9100->Its ps l m->Its (d::ps) (cat x++l) (3 * x.length+m)
theorem Its.of {ps qs:List D} {l k:List Nat} {m:Nat} (h:Its ps l m) (e1:ps=qs) (e2:l=k):Its qs k m:=by subst e1 e2;exact h
theorem nDq:∀ {ps:List (D × List Str)} {rs:List D} {l:List Nat} {m:Nat},(∀ p∈ps,Tk p.1 p.2/\tsz p.1<=9100)->Its rs l m->∃ m',m'<=3 * (bGq (" " : Str) (ps.map (·.2))).length+m/\Its (dTq (ps.map (·.1))++rs) (cat (bGq (" " : Str) (ps.map (·.2)))++l) m'
  | [],rs,l,m,_,h=>⟨m,by simp,h⟩
  | [p],rs,l,m,hp,h=>⟨_,Nat.le_refl _,.kd (hp p (by simp)).1 (hp p (by simp)).2 h⟩
  | p::q::r,rs,l,m,hp,h=>by
    obtain ⟨m',h1,h2⟩:=nDq (ps:=q::r) (λ z hz=>hp z (List.mem_cons_of_mem _ hz)) h
    have z:=Its.kd (hp p (by simp)).1 (hp p (by simp)).2 (Its.str " " h2)
    refine ⟨_,?_,z.of rfl ?_⟩
    . simp only [List.map_cons,bGq,List.length_append,List.length_cons] at h1 ⊢;omega
    . simp only [List.map_cons,bGq,b1q,cat,List.append_assoc]
theorem s_cp:((",)" : String):Str).cps.toList=(("," : String):Str).cps.toList++((")" : String):Str).cps.toList:=by decide +kernel
theorem s_pc:(("(," : String):Str).cps.toList=(("(" : String):Str).cps.toList++(("," : String):Str).cps.toList:=by decide +kernel
theorem Tk.spl {d:D} {x:List Str} (h:Tk d x) (hs:tsz d<=9100):∃ qs,Spl d qs/\qs.length<=30000/\∀ rs l m,Its rs l m->∃ m',m' < 3 * x.length+m/\Its (qs++rs) (cat x++l) m':=by
  cases h with
  | is n hn=>exact ⟨_,.is n hn,by simp,λ rs l m h=>⟨_,by simp,(Its.str (c9q n) h).of (by simp) (by simp [cat])⟩⟩
  | some=>exact ⟨_,.some,by simp,λ rs l m h=>⟨_,by simp,(Its.str "~" h).of (by simp) (by simp [cat])⟩⟩
  | @left a x h0=>exact ⟨_,.left a,by simp,λ rs l m h=>⟨1+(3 * x.length+(1+m)),by simp;omega,(Its.str "(" (.kd h0 (by simp only [tsz,b9q] at hs;omega) (.str ",)" h))).of (by simp) (by simp [cat,b1q,s_cp])⟩⟩
  | @right a x h0=>exact ⟨_,.right a,by simp,λ rs l m h=>⟨1+(3 * x.length+(1+m)),by simp;omega,(Its.str "(," (.kd h0 (by simp only [tsz,b9q] at hs;omega) (.str ")" h))).of (by simp) (by simp [cat,b1q,s_pc])⟩⟩
  | @both a b x y h1 h2=>exact ⟨_,.both a b,by simp,λ rs l m h=>⟨1+(3 * x.length+(1+(3 * y.length+(1+m)))),by simp;omega,(Its.str "(" (.kd h1 (by simp only [tsz,b9q] at hs;omega) (.str "," (.kd h2 (by simp only [tsz,b9q] at hs;omega) (.str ")" h))))).of (by simp) (by simp [cat,b1q])⟩⟩
  | @way ps k y h1 h2 h40=>
    have hl:=dBq (ps.map (·.1))
    have hl2:=dRq (s:=(D.str " ")) ((ps.map (·.1)).map λ d=>[d])
    have hl3:(((ps.map (·.1)).map λ d=>[d]).map λ x=>x.length+1).sum=2 * ps.length:=by
      clear hs h1 hl hl2 h40
      induction ps with
      | nil=>rfl
      | cons p ps ih=>simp only [List.map_cons,List.sum_cons,List.length_cons,List.length_nil] at ih ⊢;omega
    rw [hl3] at hl2
    rw [List.length_map] at hl
    simp only [tsz,b9q] at hs
    refine ⟨_,.way _ _ (by rw [List.length_map];omega),by simp only [List.length_cons,List.length_append,List.length_nil,dTq];omega,λ rs l m h=>?_⟩
    obtain ⟨m',e1,e2⟩:=nDq (λ p hp=>⟨h1 p hp,by have:=dDq (List.mem_map_of_mem (f:=(·.1)) hp);omega⟩) (.str ":" (.kd h2 (by omega) (.str "]" h)))
    refine ⟨1+m',?_,(Its.str "[" e2).of ?_ ?_⟩
    . simp only [List.length_cons,List.length_append,List.length_nil];omega
    . simp
    . simp [cat,b1q]
def o4q:DSp:=λ ds G Q=>∃ a,ds=[.ref a]/\Fd G a/\∀ (n:Int) G',Fx a G G'->n.natAbs < 10 ^ 12->Q (.int n) G'
def hQq (n:Nat):DSp:=λ ds G Q=>∃ (a:Addr) (k:Int),ds=[.ref a,.int k]/\Fd G a/\0<=k/\k < n/\∀ d G',Fx a G G'->IsKc d->ofA d=true->Bd (4 * 3 ^ k.toNat) (k.toNat+1) 3 d->Q d G'
def u2q (n:Nat):DSp:=λ ds G Q=>∃ (a:Addr) (k:Int),ds=[.ref a,.int k]/\Fd G a/\0<=k/\k < n/\k<=4/\∀ d G',Dw a G G'->IsKc d->(k=0->ofA d=true)->Bd (40 * 5 ^ k.toNat) (2 * k.toNat+3) 3 d->Q d G'
def dYq:DSp:=λ ds G Q=>∃ a,ds=[.ref a]/\Fd G a/\∀ d G',Dw a G G'->IsKc d->Bd 9100 120 40 d->Q d G'
def gRq:DSp:=λ ds G Q=>∃ z:Str,ds=[.str z,.int 12]/\z.length<=1000/\Q (.bl (u1q z)) G
abbrev sgnS:Str:="[]() :,~"
def gMq:DSp:=λ ds G Q=>∃ z:Str,ds=[.str z,.str sgnS]/\z.length<=300000/\∀ l,G l=none->Q (.ref l) (up G l (.lst ((pcs SG [] z.cps.toList).map D.str)))
def tIq:DSp:=λ ds G Q=>∃ (d:D) (qs:List D),ds=[d]/\Spl d qs/\∀ l,G l=none->Q (.ref l) (up G l (.lst qs))
def sHq (f:Addr):DSp:=λ ds G Q=>∃ (d:D) (x:List Str),ds=[d,.ref f]/\Tk d x/\tsz d<=9100/\Q (.str (txt x)) G
def j9q:DSp:=λ ds G Q=>∃ (d:D) (x:List Str),ds=[d]/\Tk d x/\tsz d<=9100/\Q (.str (txt x)) G
def jEq:DSp:=λ ds G Q=>∃ (d:D) (x:List Str),ds=[.str (txt x)]/\Tk d x/\IsKd d/\Bd 9100 120 40 d/\Q d G
def jKq:DSp:=λ ds G Q=>∃ (p:Str) (q:D),ds=[.str p]/\RP p q/\Q q G
def sDq:DSp:=λ ds G Q=>∃ (l:Addr) (p:Str) (c:List D) (k:D),ds=[.ref l,.str p]/\G l=some (.lst c)/\Clo c p k/\Q k G
def lXq:DSp:=λ ds G Q=>∃ (l:Addr) (es:List D) (k:D),es.length<=40/\ds=[.ref l]/\G l=some (.lst (dTq es++[.str ":", k]))/\Q (.tup [.str "way", .tup es,k]) G
def jNq:DSp:=λ ds G Q=>∃ (l:Addr) (row:List D) (k:D),ds=[.ref l]/\G l=some (.lst row)/\PC row k/\Q k G
def ePq (n:Nat):DSp:=λ ds G Q=>∃ (d:D) (x:List Str),ds=[d]/\Tk d x/\d.dp < n/\tsz d<=9100/\Q (.str (txt x)) G
inductive Ad:D->Prop
  | int (n:Int):Ad (.int n)
  | str (z:Str):Ad (.str z)
  | tup {ds:List D}:(∀ d∈ds,Ad d)->Ad (.tup ds)
theorem IsK.ad {d:D} (h:IsK d):Ad d:=by
  induction h with
  | is n=>exact .tup λ d hd=>by simp at hd;rcases hd with rfl | rfl;exact .str _;exact .int _
  | some=>exact .tup λ d hd=>by simp at hd;subst hd;exact .str _
  | both _ _ h1 h2=>exact .tup λ d hd=>by simp at hd;rcases hd with rfl | rfl | rfl;exact .str _;exact h1;exact h2
  | left _ h1=>exact .tup λ d hd=>by simp at hd;rcases hd with rfl | rfl;exact .str _;exact h1
  | right _ h1=>exact .tup λ d hd=>by simp at hd;rcases hd with rfl | rfl;exact .str _;exact h1
  | way _ _ h1 h2=>exact .tup λ d hd=>by simp at hd;rcases hd with rfl | rfl | rfl;exact .str _;exact .tup h1;exact h2
def nMq (n:Nat):DSp:=λ ds G Q=>∃ d:D,ds=[d,d]/\Ad d/\d.dp < n/\wid d<=40/\Q (.bl true) G
theorem v1q {α:Type} (x:α) (r:List α):cut (x::r) (some 1) none=r:=m0q (xs:=x::r) (k:=1) (by simp)
theorem kHq {n:Nat} (h:n<=700000):n < sizeLine:=by rw [sizeLine_eq];omega
theorem big {n:Nat} (h:n<=700000):n<=sizeLine:=by rw [sizeLine_eq];omega
theorem hXq {m:Nat} (h:m < 10 ^ 12):m.log2 < 1920:=by
  by_cases h0:m=0
  . subst h0;decide
  . have:m.log2 < 40:=(Nat.log2_lt h0).mpr (Nat.lt_trans h (by decide))
    omega
theorem k2q (e:D):∀ {ds:List D},ds≠[]->dTq (ds++[e])=dTq ds++[.str " ", e]
  | [],h=>absurd rfl h
  | [d],_=>rfl
  | d::f::ds,_=>by
    have:=k2q e (ds:=f::ds) (by simp)
    rw [show d::f::ds++[e]=d::f::(ds++[e]) from rfl,dIq,dIq,show f::(ds++[e])=f::ds++[e] from rfl,this];rfl
theorem gVq (ds:List D):(dTq ds).length<=2 * ds.length:=by
  have h:=dRq (s:=(D.str " ")) (ds.map λ d=>[d])
  have h3:((ds.map λ d=>[d]).map λ x=>x.length+1).sum=2 * ds.length:=by
    clear h
    induction ds with
    | nil=>rfl
    | cons p ps ih=>simp only [List.map_cons,List.sum_cons,List.length_cons,List.length_nil] at ih ⊢;omega
  show (bGq (D.str " ") (ds.map λ d=>[d])).length<=_
  omega
theorem t6q {ds:List D} (h:ds≠[]):1<=(dTq ds).length:=by
  cases ds with
  | nil=>exact absurd rfl h
  | cons d ds=>
    cases ds with
    | nil=>exact Nat.le_refl _
    | cons e ds=>rw [dIq];simp
theorem mHq {ps:List D} {l:List Nat} {m:Nat} (h:Its ps l m):ps.length<=m:=by
  induction h with
  | nil=>exact Nat.le_refl _
  | str z _ ih=>simp only [List.length_cons];omega
  | @kd d x ps l m hk _ _ ih=>
    have:1<=x.length:=by cases hk<;>simp
    simp only [List.length_cons];omega
theorem nHq:∀ ys:List Str,(ys.map (·.length)).sum=(cat ys).length
  | []=>rfl
  | y::ys=>by rw [List.map_cons,List.sum_cons,nHq ys,cat,List.length_append];rfl
theorem q3q {n:Int} {c:Nat} (hc:c∈SG):c9q n≠ofL [c]:=λ e=>by
  have h:=(m5q n).1 c (by rw [e];exact List.mem_cons_self ..)
  simp at hc;omega
theorem rKq (n:Int):(!(Builtin.Str.occurrences " :," (c9q n) 0 ((" :," : String):Str).length 1).isEmpty)=false:=by
  rw [Bool.eq_false_iff]
  intro h
  obtain ⟨i,h1,h2⟩:=(PySem.StrLaws.found_iff _ _).mp h
  obtain ⟨h3,h4⟩:=m5q n
  unfold Builtin.Str.subAt at h2
  have h2:=eq_of_beq h2
  have h5:=congrArg Array.toList h2
  cases e:(c9q n).cps.toList with
  | nil=>exact h4 e
  | cons c r=>
    rw [e] at h5
    have m:c∈((" :," : String):Str).cps.toList:=by
      have:c∈(((" :," : String):Str).cps.extract i (i+(c9q n).length)).toList:=by rw [h5];exact List.mem_cons_self ..
      rw [Array.toList_extract] at this
      exact List.mem_of_mem_drop (List.mem_of_mem_take this)
    have hk:∀ c∈((" :," : String):Str).cps.toList,¬ (c=45\/48<=c/\c<=57):=by decide +kernel
    exact hk c m (h3 c (by rw [e];exact List.mem_cons_self ..))
theorem xJq {ds:List D} {i:Int} {j:Nat} {d:D} (h0:i < 0) (h1:(j:Int)=ds.length+i) (h:ds[j]?=some d):atI ds i=some d:=by
  have e:ixN ds.length i=some j:=by
    unfold ixN
    rw [if_neg (by omega),if_pos (by omega)]
    congr 1;omega
  unfold atI;rw [e];exact h
theorem kKq (z:Str):∀ n,cNq (List.replicate n (.str z)) (List.replicate n (.str z))=true
  | 0=>rfl
  | n+1=>by rw [List.replicate_succ,cNq,kKq z n];simp [eqD]
theorem k9q (z:Str):∀ n,aTq (List.replicate n (.str z))=true/\bNq (List.replicate n (.str z))<=150
  | 0=>⟨rfl,by simp [bNq]⟩
  | n+1=>by
    obtain ⟨h1,h2⟩:=k9q z n
    rw [List.replicate_succ]
    exact ⟨by rw [aTq,h1];rfl,by rw [bNq];simp only [D.dp];omega⟩
theorem mYq (z:D):∀ n,(List.replicate n [z]).flatten=List.replicate n z
  | 0=>rfl
  | n+1=>by rw [List.replicate_succ,List.flatten_cons,mYq z n];rfl
theorem RP.no {p:Str} {q:D} (h:RP p q):(p=="[")=false/\(p=="(")=false/\(p=="]")=false/\(p==")")=false:=by
  cases h with
  | sgn h=>rcases h with rfl | rfl | rfl<;>exact ⟨by decide,by decide,by decide,by decide⟩
  | som=>exact ⟨by decide,by decide,by decide,by decide⟩
  | num n _=>
    have z:∀ c∈SG,(c9q n==ofL [c])=false:=λ c hc=>by rw [beq_eq_false_iff_ne];exact q3q hc
    rw [s_lb,yHq,s_rb,u4q]
    exact ⟨z _ (by decide),z _ (by decide),z _ (by decide),z _ (by decide)⟩
structure Frs (G:DV) (fr:Addr) (fs:List (Addr × List D)):Prop where
  top:G fr=some (.lst ((fs.map (·.1)).reverse.map D.ref))
  at_:∀ p∈fs,G p.1=some (.lst p.2)
  nd:(fs.map (·.1)).Nodup
  ne:∀ p∈fs,p.1≠fr
theorem Frs.push {G:DV} {fr q:Addr} {fs:List (Addr × List D)} {f:List D} (h:Frs G fr fs) (hq:G q=none):Frs (up (up G q (.lst f)) fr (.lst ((fs.map (·.1)).reverse.map D.ref++[.ref q]))) fr ((q,f)::fs):=by
  have n1:q≠fr:=by rintro rfl;rw [h.top] at hq;cases hq
  have n2:∀ p∈fs,p.1≠q:=λ p hp e=>by rw [<- e,h.at_ p hp] at hq;cases hq
  refine ⟨by rw [a4q];simp,λ p hp=>?_,?_,λ p hp=>?_⟩
  . rcases List.mem_cons.mp hp with rfl | hp
    . rw [aMq n1];exact a4q
    . rw [aMq (h.ne p hp),aMq (n2 p hp)];exact h.at_ p hp
  . rw [List.map_cons,List.nodup_cons]
    refine ⟨λ m=>?_,h.nd⟩
    obtain ⟨p,hp,e⟩:=List.mem_map.mp m
    exact n2 p hp e
  . rcases List.mem_cons.mp hp with rfl | hp
    . exact n1
    . exact h.ne p hp
theorem Frs.pop {G:DV} {fr:Addr} {p:Addr × List D} {fs:List (Addr × List D)} (h:Frs G fr (p::fs)):Frs (up G fr (.lst ((fs.map (·.1)).reverse.map D.ref))) fr fs:=
  ⟨a4q,λ q hq=>by rw [aMq (h.ne q (List.mem_cons_of_mem _ hq))];exact h.at_ q (List.mem_cons_of_mem _ hq),(List.nodup_cons.mp h.nd).2,λ q hq=>h.ne q (List.mem_cons_of_mem _ hq)⟩
theorem Frs.set {G:DV} {fr a:Addr} {t t':List D} {fs:List (Addr × List D)} (h:Frs G fr ((a,t)::fs)):Frs (up G a (.lst t')) fr ((a,t')::fs):=by
  have n1:=h.ne (a,t) (List.mem_cons_self ..)
  refine ⟨by rw [aMq n1.symm];exact h.top,λ p hp=>?_,h.nd,λ p hp=>?_⟩
  . rcases List.mem_cons.mp hp with rfl | hp
    . exact a4q
    . rw [aMq]
      . exact h.at_ p (List.mem_cons_of_mem _ hp)
      . intro e
        exact (List.nodup_cons.mp h.nd).1 (by rw [<- e];exact List.mem_map_of_mem (f:=(·.1)) hp)
  . rcases List.mem_cons.mp hp with rfl | hp
    . exact n1
    . exact h.ne p (List.mem_cons_of_mem _ hp)
theorem Sub.ext' {G G1:DV} {p:Addr} {o:DO} (h:Sub G G1) (n:G1 p=Option.none):Sub G (up G1 p o):=λ b u e=>Sub.new (Sub.refl _) n b u (h b u e)
theorem oDq (z:Str):txt [z]=z:=cEq (by simp [cFq,cat])
theorem Tk.txt_len {d:D} {x:List Str} (h:Tk d x) (hs:tsz d<=9100):(txt x).length<=240000:=by
  have h1:=h.len
  have h2:=hJq h.few
  show (cat x).length<=_
  omega
theorem eTq (a b:Str):(a++b).length=a.length+b.length:=by
  show (a.cps++b.cps).size=_
  rw [Array.size_append];rfl
theorem u0q {z t:Str} (h1:z.length<=2) (h2:t.length<=240000):z.length+t.length<=sizeLine:=big (by omega)
theorem l7q {z t:Str} (h1:z.length<=2) (h2:t.length<=240002):t.length+z.length<=sizeLine:=big (by omega)
theorem cXq {z t:Str} (h1:z.length<=2) (h2:t.length<=240000):(z++t).length<=240002:=by rw [eTq];omega
theorem l_cm:(("," : String):Str).length=1:=by decide
theorem l_cl:((":" : String):Str).length=1:=by decide
theorem l_rp:((")" : String):Str).length=1:=by decide
theorem l_rb:(("]" : String):Str).length=1:=by decide
theorem hVq:∀ xs:List (List Str),(xs.map λ x=>(cat x).length).sum<=(cat (bGq (" " : Str) xs)).length
  | []=>Nat.le_refl _
  | [x]=>by simp [bGq]
  | x::y::r=>by
    have:=hVq (y::r)
    rw [bGq,b1q,cat,List.length_append,List.length_append,List.map_cons,List.sum_cons]
    omega
end L3
namespace KB
open PySem L2
def top (i:Nat):Stmt:=PySem.Challenge.pw_kindbags_k30_whole_kinds_written_and_rea.main.body.getD i (.Pass ⟨0,0,0,0⟩)
structure Blt (mg:Str->Option Value):Prop where
  len:mg "len" = none
  isinstance:mg "isinstance" = none
  range:mg "range" = none
  int:mg "int" = none
  bool:mg "bool" = none
  str:mg "str" = none
  tuple:mg "tuple" = none
  list:mg "list" = none
  sorted:mg "sorted" = none
  all:mg "all" = none
  reversed:mg "reversed" = none
  min:mg "min" = none
  max:mg "max" = none
  enumerate:mg "enumerate" = none
  zip:mg "zip" = none
end KB
namespace KB
open PySem
abbrev fWq:List Str:=["thing"]
abbrev iCq:List Str:=["thing"]
abbrev eEq:List Str:=["thing"]
abbrev i6q:List Str:=["thing"]
abbrev i1q:List Str:=["thing"]
abbrev gCq:List Str:=["kind"]
abbrev eGq:List Str:=["kinds"]
abbrev iGq:List Str:=["thing", "spelled"]
abbrev eFq:List Str:=["text", "signs"]
abbrev fXq:List Str:=["text", "most"]
abbrev e9q:List Str:=["text", "signs"]
abbrev g5q:List Str:=["kind"]
abbrev hUq:List Str:=["kind"]
abbrev fTq:List Str:=["text"]
abbrev e7q:List Str:=["piece"]
abbrev iFq:List Str:=["frame", "sign"]
abbrev g2q:List Str:=["row"]
abbrev f5q:List Str:=["row"]
abbrev fSq:List Str:=["_law_script", "_law_k"]
abbrev g1q:List Str:=["_law_feed_here", "_law_many"]
abbrev eCq:List Str:=["_law_feed_here"]
abbrev eBq:List Str:=["_law_feed_here", "_law_deep"]
abbrev g8q:List Str:=["_law_feed_here", "_law_deep"]
abbrev fVq:List Str:=["_law_feed_here"]
abbrev g7q:List Str:=["_law_feed_here"]
abbrev eSq:List Str:=["_law_kind_here"]
abbrev f1q:List Str:=["_law_found", "_law_due"]
end KB
namespace KB
open PySem L2 L3
section
variable {P:Program} {w:World} {K:PySem.W.Frag} {mg:Str->Option Value} {base:Heap} {f:Addr} {fd:FuncData}
set_option maxHeartbeats 4000000
abbrev iYq:Stmt:=top 34
theorem sc_take:FnScope ["_law_feed_here", "_law_many", "_law_digit", "_law_one"] ["_law_feed_here", "_law_many"] (aAq iYq):=⟨rfl,rfl,rfl,by decide +kernel,rfl,by decide +kernel,by decide +kernel⟩
theorem t5q (F:Fun K "_law_take" "_law_take" iYq f fd):FnOk P w K mg base CX0 1 f fd ["_law_feed_here", "_law_many"] (aWq K dOq):=by
  refine okD (k:=0) F sc_take (λ ds G DQ h=>?_) (λ cdv A outer s H E hr ds G DQ h=>?_)
  . unfold dOq at h;split at h
    . rfl
    . exact h.elim
  unfold dOq at h;split at h
  case h_2=>exact h.elim
  next a m=>
  obtain ⟨⟨x,y,hF⟩,h0,h1,q⟩:=h
  refine ⟨_,(a5q (aNq (aEq e6q (aLq aix (a1q 0) a3q (λ _ _=>rfl)) a3q (aCq _)) (a5q (aPq (k:=2) sc_take.nd rfl (Or.inl rfl) (aUq cAq (aLq aix (a1q 0) a3q (λ _ _=>rfl)) (a1q 1)))
      (a5q (lYq (aUq kBq (aLq aix (a1q 0) a3q (λ _ _=>rfl)) (a1q 1)) (mAq (a1q 0) a3q))
      (a6q (aFq (a1q 2))))) aHq)
      (a5q (aPq (k:=3) sc_take.nd rfl (Or.inl rfl) (aUq cAq (aUq cQq (aLq aix (a1q 0) a3q (λ _ _=>rfl)) a3q) a3q))
      (a5q (lYq (aUq aYq (aUq cAq (aUq aYq (aUq cQq (a1q 3) a3q) a3q) a3q) a3q) (mAq (a1q 0) a3q))
      (a6q (aFq (aUq cAq (aUq kBq (aUq aYq (aUq cQq (a1q 3) a3q) (aLq aix (a1q 0) a3q (λ _ _=>rfl))) a3q) (a1q 1))))))),?_⟩
  refine a7q hF ⟨λ c=>?_,λ c=>?_⟩
  . refine a7q hF ⟨h0,a7q hF ⟨⟨h0,by omega⟩,aJq hF ⟨0,rfl,Dr.of (q _ _ .mk (Int.emod_nonneg _ (by omega)) (Int.emod_lt_of_pos _ h0))⟩⟩⟩
  . refine a7q hF ⟨.inr ⟨by decide,by decide⟩,by simp,.inr ⟨by decide,by decide⟩,by simp,aJq hF ⟨1,rfl,.inr ⟨by decide,by decide⟩,a7q a4q ⟨⟨by decide,by decide⟩,h0,Dr.of (q _ _ .mk (Int.emod_nonneg _ (by omega)) (Int.emod_lt_of_pos _ h0))⟩⟩⟩
abbrev jBq:Stmt:=top 33
theorem sc_feed:FnScope ["_law_script", "_law_k", "_law_cell", "_law_own"] ["_law_script", "_law_k"] (aAq jBq):=⟨rfl,rfl,rfl,by decide +kernel,rfl,by decide +kernel,by decide +kernel⟩
theorem tJq (B:Blt mg) (F:Fun K "_law_feed" "_law_feed" jBq f fd):FnOk P w K mg base CX0 1 f fd ["_law_script", "_law_k"] (aWq K hRq):=by
  refine okD (k:=0) F sc_feed (λ ds G DQ h=>?_) (λ cdv A outer s H E hr ds G DQ h=>?_)
  . unfold hRq at h;split at h
    . rfl
    . exact h.elim
  unfold hRq at h;split at h
  case h_2=>exact h.elim
  next ss k=>
  obtain ⟨ns,rfl,hl,h0,h1,q⟩:=h
  have fin:∀ x y:Int,∀ p,G p=none->Dr DQ (.ref p) (up G p (fed x y)):=λ x y p hp=>Dr.of (q p x y hp)
  have at_ok:∀ j:Int,0<=j->j < ns.length->∃ v,atI (ns.map D.int) j=some (.int v):=λ j j0 j1=>by
    refine ⟨ns[j.toNat],?_⟩
    have e:=cPq (xs:=ns.map D.int) (j:=j.toNat) (v:=D.int ns[j.toNat]) (by simp [show j.toNat < ns.length by omega])
    rwa [show ((j.toNat:Nat):Int)=j by omega] at e
  refine ⟨_,(a5q (aPq (k:=2) sc_feed.nd rfl (Or.inl rfl) (aUq aYq (aUq cQq a3q (a1q 1)) a3q))
      (a5q (aNq (aEq d1q (a1q 1) (a9q aGq rfl B.len PySem.boot_len (a0q (a1q 0) a2q)) (aCq _)) (a6q (aPq (k:=2) sc_feed.nd rfl (Or.inl rfl) (aLq aix (a1q 0) (a1q 1) (λ _ _=>rfl)))) (a6q (aNq (aEq e6q (a9q aGq rfl B.len PySem.boot_len (a0q (a1q 0) a2q)) a3q (aCq _)) (a6q (aPq (k:=2) sc_feed.nd rfl (Or.inl rfl) (aUq aYq (aUq cQq (aUq cAq (aLq aix (a1q 0) (aUq cAq (a1q 1) (a9q aGq rfl B.len PySem.boot_len (a0q (a1q 0) a2q))) (λ _ _=>rfl)) a3q) a3q) (aUq cQq a3q (a1q 1))))) aHq)))
      (a5q (aPq (k:=3) sc_feed.nd rfl (Or.inl rfl) a3q)
      (a5q (aNq (aEq x1q (a1q 2) (aUq tQq a3q a3q) (aCq _)) (a6q (aPq (k:=3) sc_feed.nd rfl (Or.inl rfl) (a1q 2))) aHq)
      (a6q (aFq (bFq (a0q (a1q 3) (a0q (aUq aYq (aUq cAq (aUq aYq (aUq cQq (aUq cAq (a1q 2) a3q) a3q) (aUq cQq a3q (a1q 1))) a3q) a3q) a2q))))))))),?_⟩
  refine ⟨.inl ⟨by decide,by decide⟩,⟨λ c=>?_,λ c=>?_⟩⟩
  . have c':k < ns.length:=by simpa using c
    obtain ⟨v,hv⟩:=at_ok k h0 c'
    refine (q6q hv ⟨⟨by decide,by decide,by decide⟩,λ c=>?_,λ c=>?_⟩)
    . exact ⟨by simp,.inr ⟨by decide,by decide⟩,.inl ⟨by decide,by decide⟩,by simp,λ p hp=>fin _ _ p hp⟩
    . exact ⟨by simp,.inr ⟨by decide,by decide⟩,.inl ⟨by decide,by decide⟩,by simp,λ p hp=>fin _ _ p hp⟩
  . refine ⟨λ c=>?_,λ c=>?_⟩
    . have c':0 < ns.length:=by
        have:(0:Int) < (ns.map D.int).length:=by simpa using c
        simpa using this
      obtain ⟨v,hv⟩:=at_ok (k % (ns.map D.int).length) (Int.emod_nonneg _ (show ((ns.map D.int).length:Int)≠0 by rw [List.length_map];omega)) (by have:=Int.emod_lt_of_pos k (show (0:Int) < (ns.map D.int).length by simpa using c');simpa using this)
      refine ⟨by simpa using c',?_⟩
      refine (q6q hv ⟨by simp,.inr ⟨by decide,by decide⟩,.inl ⟨by decide,by decide⟩,⟨by decide,by decide,by decide⟩,λ c=>?_,λ c=>?_⟩)
      . exact ⟨by simp,.inr ⟨by decide,by decide⟩,.inl ⟨by decide,by decide⟩,by simp,λ p hp=>fin _ _ p hp⟩
      . exact ⟨by simp,.inr ⟨by decide,by decide⟩,.inl ⟨by decide,by decide⟩,by simp,λ p hp=>fin _ _ p hp⟩
    . refine ⟨⟨by decide,by decide,by decide⟩,λ c=>?_,λ c=>?_⟩
      . exact ⟨by simp,.inr ⟨by decide,by decide⟩,.inl ⟨by decide,by decide⟩,by simp,λ p hp=>fin _ _ p hp⟩
      . exact ⟨by simp,.inr ⟨by decide,by decide⟩,.inl ⟨by decide,by decide⟩,by simp,λ p hp=>fin _ _ p hp⟩
abbrev lTq:Stmt:=top 8
theorem vYq:FnScope ["thing"] ["thing"] (aAq lTq):=⟨rfl,rfl,rfl,by decide +kernel,rfl,by decide +kernel,by decide +kernel⟩
theorem x0q (B:Blt mg)  (F:Fun K "is_whole_number" "is_whole_number" lTq f fd):FnOk P w K mg base CX0 1 f fd ["thing"] (aWq K jHq):=by
  refine okD (k:=0) F vYq (λ ds G DQ h=>?_) (λ cdv A outer s H E hr ds G DQ h=>?_)
  . obtain ⟨_,rfl,_⟩:=h;rfl
  obtain ⟨d,rfl,t,q⟩:=h
  refine ⟨_,(a6q (aFq (cOq (a9q b0q rfl B.isinstance PyProof.Rows.boot_isinstance (a0q (a1q 0) (a0q (bHq rfl B.int PyProof.Rows.boot_int) a2q))) (dJq (nGq (a9q b0q rfl B.isinstance PyProof.Rows.boot_isinstance (a0q (a1q 0) (a0q (bHq rfl B.bool PyProof.Rows.boot_bool) a2q)))))))),?_⟩
  cases t with
  | int n=>exact ⟨true,rfl,λ _=>⟨false,rfl,Dr.of (q true ⟨λ _=>⟨n,rfl⟩,λ _=>rfl⟩)⟩,nofun⟩
  | bl b=>exact ⟨true,rfl,λ _=>⟨true,rfl,Dr.of (q false ⟨nofun,λ⟨_,e⟩=>nomatch e⟩)⟩,nofun⟩
  | ref h=>obtain ⟨ds,h⟩:=h;exact a7q h ⟨false,rfl,nofun,λ _=>Dr.of (q false ⟨nofun,λ⟨_,e⟩=>nomatch e⟩)⟩
  | str z=>exact ⟨false,rfl,nofun,λ _=>Dr.of (q false ⟨nofun,λ⟨_,e⟩=>nomatch e⟩)⟩
  | non=>exact ⟨false,rfl,nofun,λ _=>Dr.of (q false ⟨nofun,λ⟨_,e⟩=>nomatch e⟩)⟩
  | tup _=>exact ⟨false,rfl,nofun,λ _=>Dr.of (q false ⟨nofun,λ⟨_,e⟩=>nomatch e⟩)⟩
abbrev mSq:Stmt:=top 12
theorem uAq:FnScope ["thing"] ["thing"] (aAq mSq):=⟨rfl,rfl,rfl,by decide +kernel,rfl,by decide +kernel,by decide +kernel⟩
theorem vFq (B:Blt mg)  (F:Fun K "has_answer_word" "has_answer_word" mSq f fd):FnOk P w K mg base CX0 1 f fd ["thing"] (aWq K t2q):=by
  refine okD (k:=0) F uAq (λ ds G DQ h=>?_) (λ cdv A outer s H E hr ds G DQ h=>?_)
  . obtain ⟨_,rfl,_⟩:=h;rfl
  obtain ⟨d,rfl,t,q⟩:=h
  refine ⟨_,(a6q (aFq (cOq (a9q b0q rfl B.isinstance PyProof.Rows.boot_isinstance (a0q (a1q 0) (a0q (bHq rfl B.tuple PyProof.Rows.boot_tuple) a2q))) (cOq (c0q e6q (a9q aGq rfl B.len PySem.boot_len (a0q (a1q 0) a2q)) a3q (aCq _)) (dJq (c0q (n1q (aKq hr)) (aLq aix (a1q 0) a3q (λ _ _=>rfl)) (bBq (a0q a8q (a0q a8q (a0q a8q a2q)))) (by with_unfolding_all rfl))))))),?_⟩
  cases t with
  | ref h=>obtain ⟨ds,h⟩:=h;exact a7q h ⟨false,rfl,nofun,λ _=>Dr.of q⟩
  | @tup ds hd=>
    refine ⟨true,rfl,λ _=>⟨λ c=>?_,λ c=>?_⟩,nofun⟩
    . cases ds with
      | nil=>exact absurd c (by decide)
      | cons x r=>
        cases hd x (List.mem_cons_self ..) with
        | str z=>
          refine ⟨["is", "some", "both"],rfl,rfl,Dr.of ?_⟩
          rw [vMq];exact q
        | ref h=>obtain ⟨es,h⟩:=h;exact ⟨["is", "some", "both"],rfl,a7q h (Dr.of q)⟩
        | tup _=>exact ⟨["is", "some", "both"],rfl,Dr.of q⟩
        | int n=>exact ⟨["is", "some", "both"],rfl,rfl,Dr.of q⟩
        | bl b=>exact ⟨["is", "some", "both"],rfl,rfl,Dr.of q⟩
        | non=>exact ⟨["is", "some", "both"],rfl,rfl,Dr.of q⟩
    . cases ds with
      | nil=>exact Dr.of q
      | cons x r=>have c':=of_decide_eq_false c;simp only [List.length_cons] at c';omega
  | _=>exact ⟨false,rfl,nofun,λ _=>Dr.of q⟩
abbrev nBq:Stmt:=top 11
theorem x8q:FnScope ["thing"] ["thing"] (aAq nBq):=⟨rfl,rfl,rfl,by decide +kernel,rfl,by decide +kernel,by decide +kernel⟩
theorem xHq (B:Blt mg) (g_isw:Got P w K mg base 1 "is_whole_number" ["thing"] (aWq K jHq))(g_haw:Got P w K mg base 1 "has_answer_word" ["thing"] (aWq K t2q)) (F:Fun K "has_kind_form" "has_kind_form" nBq f fd):FnOk P w K mg base CX0 2 f fd ["thing"] (aWq K rBq):=by
  refine okD (k:=1) F x8q (λ ds G DQ h=>?_) (λ cdv A outer s H E hr ds G DQ h=>?_)
  . obtain ⟨_,rfl,_⟩:=h;rfl
  obtain ⟨d,rfl,t,q⟩:=h
  refine ⟨_,(a5q (aNq (AW.at (fOq (eAq (b2q (a9q b0q rfl B.isinstance PyProof.Rows.boot_isinstance (a0q (a1q 0) (a0q (bHq rfl B.tuple PyProof.Rows.boot_tuple) a2q))))) (d8q (aEq (aIq (aKq hr)) (a9q aGq rfl B.len PySem.boot_len (a0q (a1q 0) a2q)) a3q (aCq _))))) (a6q (aFq jMq)) aHq)
      (a5q (aNq (aEq (d6q (aKq hr)) (aLq aix (a1q 0) a3q (λ _ _=>rfl)) a8q (aCq _)) (a6q (aFq (cOq (c0q (aIq (aKq hr)) (a9q aGq rfl B.len PySem.boot_len (a0q (a1q 0) a2q)) a3q (aCq _)) (dJq (aDq g_isw hr (by omega) rfl (a0q (aLq aix (a1q 0) a3q (λ _ _=>rfl)) a2q)))))) aHq)
      (a5q (aNq (aEq (d6q (aKq hr)) (aLq aix (a1q 0) a3q (λ _ _=>rfl)) a8q (aCq _)) (a6q (aFq (c0q (aIq (aKq hr)) (a9q aGq rfl B.len PySem.boot_len (a0q (a1q 0) a2q)) a3q (aCq _)))) aHq)
      (a5q (aNq (aEq (d6q (aKq hr)) (aLq aix (a1q 0) a3q (λ _ _=>rfl)) a8q (aCq _)) (a6q (aFq (cOq (c0q (aIq (aKq hr)) (a9q aGq rfl B.len PySem.boot_len (a0q (a1q 0) a2q)) a3q (aCq _)) (dJq (a9q b0q rfl B.isinstance PyProof.Rows.boot_isinstance (a0q (aLq aix (a1q 0) a3q (λ _ _=>rfl)) (a0q (bHq rfl B.tuple PyProof.Rows.boot_tuple) a2q))))))) aHq)
      (a5q (aNq (aEq (d6q (aKq hr)) (aLq aix (a1q 0) a3q (λ _ _=>rfl)) a8q (aCq _)) (a6q (aFq (cOq (c0q (aIq (aKq hr)) (a9q aGq rfl B.len PySem.boot_len (a0q (a1q 0) a2q)) a3q (aCq _)) (cOq (aDq g_haw hr (by omega) rfl (a0q (aLq aix (a1q 0) a3q (λ _ _=>rfl)) a2q)) (dJq (aDq g_haw hr (by omega) rfl (a0q (aLq aix (a1q 0) a3q (λ _ _=>rfl)) a2q))))))) aHq)
      (a6q (aFq (cOq (c0q (n1q (aKq hr)) (aLq aix (a1q 0) a3q (λ _ _=>rfl)) (bBq (a0q a8q (a0q a8q a2q))) (by with_unfolding_all rfl)) (dJq (c0q (aIq (aKq hr)) (a9q aGq rfl B.len PySem.boot_len (a0q (a1q 0) a2q)) a3q (aCq _))))))))))),?_⟩
  have no:(∀ z r,d≠.tup (.str z::r))->DQ (.bl false) G:=λ h=>q false ⟨nofun,λ e=>absurd e (xBq h)⟩
  cases t with
  | ref h=>obtain ⟨ds,h⟩:=h;exact a7q h ⟨false,rfl,⟨λ _=>⟨λ _=>Dr.of (no λ z r=>nofun),nofun⟩,nofun⟩⟩
  | @tup ds hd=>
    refine ⟨true,rfl,⟨nofun,λ _=>⟨λ c=>?_,λ c=>?_⟩⟩⟩
    . refine Dr.of (no λ z r e=>?_)
      cases e
      have c':=eq_of_beq c
      simp only [List.length_cons] at c';omega
    . cases ds with
      | nil=>exact absurd c (by decide)
      | cons x r=>
        clear c
        cases hd x (List.mem_cons_self ..) with
        | ref h=>
          obtain ⟨es,h⟩:=h
          exact a7q h ⟨nofun,λ _=>a7q h ⟨nofun,λ _=>a7q h ⟨nofun,λ _=>a7q h ⟨nofun,λ _=>⟨["left", "right"],rfl,a7q h ⟨nofun,λ _=>Dr.of (no λ z r=>nofun)⟩⟩⟩⟩⟩⟩
        | tup _=>exact ⟨nofun,λ _=>⟨nofun,λ _=>⟨nofun,λ _=>⟨nofun,λ _=>⟨["left", "right"],rfl,nofun,λ _=>Dr.of (no λ z r=>nofun)⟩⟩⟩⟩⟩
        | int n=>exact ⟨rfl,rfl,Nat.zero_le _,nofun,λ _=>⟨rfl,rfl,Nat.zero_le _,nofun,λ _=>⟨rfl,rfl,Nat.zero_le _,nofun,λ _=>⟨rfl,rfl,Nat.zero_le _,nofun,λ _=>⟨["left", "right"],rfl,rfl,nofun,λ _=>Dr.of (no λ z r=>nofun)⟩⟩⟩⟩⟩
        | bl n=>exact ⟨rfl,rfl,Nat.zero_le _,nofun,λ _=>⟨rfl,rfl,Nat.zero_le _,nofun,λ _=>⟨rfl,rfl,Nat.zero_le _,nofun,λ _=>⟨rfl,rfl,Nat.zero_le _,nofun,λ _=>⟨["left", "right"],rfl,rfl,nofun,λ _=>Dr.of (no λ z r=>nofun)⟩⟩⟩⟩⟩
        | non=>exact ⟨rfl,rfl,Nat.zero_le _,nofun,λ _=>⟨rfl,rfl,Nat.zero_le _,nofun,λ _=>⟨rfl,rfl,Nat.zero_le _,nofun,λ _=>⟨rfl,rfl,Nat.zero_le _,nofun,λ _=>⟨["left", "right"],rfl,rfl,nofun,λ _=>Dr.of (no λ z r=>nofun)⟩⟩⟩⟩⟩
        | str z=>
          refine ⟨λ c=>?_,λ c1=>⟨λ c=>?_,λ c2=>⟨λ c=>?_,λ c3=>⟨λ c=>?_,λ c4=>?_⟩⟩⟩⟩
          . obtain rfl:=eq_of_beq c
            rcases r with _ | ⟨y,_ | ⟨u,r⟩⟩
            . exact ⟨nofun,λ _=>Dr.of (q false ⟨nofun,λ e=>by obtain ⟨n,e⟩:=hf_is.mp e;cases e⟩)⟩
            . refine ⟨λ _=>⟨y,rfl,hd y (by simp),λ b hb=>Dr.of (q b (hb.trans ⟨?_,λ e=>?_⟩))⟩,nofun⟩
              . rintro ⟨n,rfl⟩;exact hf_is.mpr ⟨n,rfl⟩
              . obtain ⟨n,e⟩:=hf_is.mp e;cases e;exact ⟨n,rfl⟩
            . exact ⟨λ c=>absurd (eq_of_beq c) (by simp only [List.length_cons];omega),λ _=>Dr.of (q false ⟨nofun,λ e=>by obtain ⟨n,e⟩:=hf_is.mp e;cases e⟩)⟩
          . obtain rfl:=eq_of_beq c
            refine Dr.of (q _ ?_)
            rw [tUq]
            cases r with
            | nil=>exact ⟨λ _=>rfl,λ _=>rfl⟩
            | cons y r=>exact ⟨λ c=>absurd (eq_of_beq c) (by simp only [List.length_cons];omega),nofun⟩
          . obtain rfl:=eq_of_beq c
            rcases r with _ | ⟨y,_ | ⟨u,_ | ⟨v,r⟩⟩⟩
            . exact ⟨nofun,λ _=>Dr.of (q false ⟨nofun,λ e=>by obtain ⟨_,_,e⟩:=hf_way.mp e;cases e⟩)⟩
            . exact ⟨nofun,λ _=>Dr.of (q false ⟨nofun,λ e=>by obtain ⟨_,_,e⟩:=hf_way.mp e;cases e⟩)⟩
            . refine ⟨λ _=>?_,nofun⟩
              have f:(∀ es,y≠.tup es)->DQ (.bl false) G:=λ h=>q false ⟨nofun,λ e=>by obtain ⟨es,_,e⟩:=hf_way.mp e;cases e;exact absurd rfl (h es)⟩
              cases hd y (by simp) with
              | ref h=>obtain ⟨es,h⟩:=h;exact a7q h ⟨false,rfl,Dr.of (f λ es=>nofun)⟩
              | tup _=>exact ⟨true,rfl,Dr.of (q true ⟨λ _=>hf_way.mpr ⟨_,_,rfl⟩,λ _=>rfl⟩)⟩
              | _=>exact ⟨false,rfl,Dr.of (f λ es=>nofun)⟩
            . exact ⟨λ c=>absurd (eq_of_beq c) (by simp only [List.length_cons];omega),λ _=>Dr.of (q false ⟨nofun,λ e=>by obtain ⟨_,_,e⟩:=hf_way.mp e;cases e⟩)⟩
          . obtain rfl:=eq_of_beq c
            rcases r with _ | ⟨y,_ | ⟨u,_ | ⟨v,r⟩⟩⟩
            . exact ⟨nofun,λ _=>Dr.of (q false ⟨nofun,λ e=>by obtain ⟨_,_,e,_⟩:=hf_both.mp e;cases e⟩)⟩
            . exact ⟨nofun,λ _=>Dr.of (q false ⟨nofun,λ e=>by obtain ⟨_,_,e,_⟩:=hf_both.mp e;cases e⟩)⟩
            . refine ⟨λ _=>⟨y,rfl,hd y (by simp),⟨λ c1=>⟨u,rfl,hd u (by simp),Dr.of (q _ ⟨λ c2=>hf_both.mpr ⟨_,_,rfl,c1,c2⟩,λ e=>by obtain ⟨_,_,e,_,h⟩:=hf_both.mp e;cases e;exact h⟩)⟩,λ c1=>Dr.of (q false ⟨nofun,λ e=>by obtain ⟨_,_,e,h,_⟩:=hf_both.mp e;cases e;rw [c1] at h;exact h⟩)⟩⟩,nofun⟩
            . exact ⟨λ c=>absurd (eq_of_beq c) (by simp only [List.length_cons];omega),λ _=>Dr.of (q false ⟨nofun,λ e=>by obtain ⟨_,_,e,_⟩:=hf_both.mp e;cases e⟩)⟩
          . have n1:z≠"is":=ne_of_beq_false c1
            have n2:z≠"some":=ne_of_beq_false c2
            have n3:z≠"way":=ne_of_beq_false c3
            have n4:z≠"both":=ne_of_beq_false c4
            have iff:=yJq (r:=r) n1 n2 n3 n4
            refine ⟨["left", "right"],rfl,rfl,⟨λ c=>?_,λ c=>?_⟩⟩
            . rw [q5q,Bool.or_eq_true,beq_iff_eq,beq_iff_eq] at c
              refine Dr.of (q _ ?_)
              rw [iff]
              rcases r with _ | ⟨y,_ | ⟨u,r⟩⟩
              . exact ⟨nofun,λ⟨_,a,e⟩=>by cases e⟩
              . exact ⟨λ _=>⟨c,y,rfl⟩,λ _=>rfl⟩
              . exact ⟨λ c=>absurd (eq_of_beq c) (by simp only [List.length_cons];omega),λ⟨_,a,e⟩=>by cases e⟩
            . rw [q5q,Bool.or_eq_false_iff] at c
              exact Dr.of (q false ⟨nofun,λ e=>by
                rcases (iff.mp e).1 with e | e
                . exact absurd e (ne_of_beq_false c.1)
                . exact absurd e (ne_of_beq_false c.2)⟩)
  | _=>exact ⟨false,rfl,⟨λ _=>⟨λ _=>Dr.of (no λ z r=>nofun),nofun⟩,nofun⟩⟩
abbrev jIq:Stmt:=top 13
theorem tXq:FnScope ["kind"] ["kind"] (aAq jIq):=⟨rfl,rfl,rfl,by decide +kernel,rfl,by decide +kernel,by decide +kernel⟩
theorem tRq (B:Blt mg)  (F:Fun K "inner_kinds" "inner_kinds" jIq f fd):FnOk P w K mg base CX0 1 f fd ["kind"] (aWq K nRq):=by
  refine okD (k:=0) F tXq (λ ds G DQ h=>?_) (λ cdv A outer s H E hr ds G DQ h=>?_)
  . obtain ⟨_,_,_,rfl,_⟩:=h;rfl
  obtain ⟨d,is,bs,rfl,hf,hz,q⟩:=h
  refine ⟨_,(a5q (aNq (AW.at (fOq (aEq (aIq (aKq hr)) (aLq aix (a1q 0) a3q (λ _ _=>rfl)) a8q (aCq _)) (d8q (aEq (aIq (aKq hr)) (aLq aix (a1q 0) a3q (λ _ _=>rfl)) a8q (aCq _))))) (a6q (aFq (bBq a2q))) aHq)
      (a5q (aNq (aEq (aIq (aKq hr)) (aLq aix (a1q 0) a3q (λ _ _=>rfl)) a8q (aCq _)) (a6q (aFq (aUq aYq (aLq aix (a1q 0) a3q (λ _ _=>rfl)) (bBq (a0q (aLq aix (a1q 0) a3q (λ _ _=>rfl)) a2q))))) aHq)
      (a6q (aFq (cJq asl (a1q 0) (bIq a3q) dXq))))),?_⟩
  cases hf with
  | is n=>exact ⟨λ _=>⟨λ _=>Dr.of q,nofun⟩,λ c=>absurd c (by decide)⟩
  | some=>exact ⟨λ c=>absurd c (by decide),λ _=>⟨λ _=>Dr.of q,λ c=>absurd c (by decide)⟩⟩
  | both _ _=>exact ⟨λ c=>absurd c (by decide),λ _=>⟨λ c=>absurd c (by decide),λ _=>⟨λ c=>absurd c (by decide),λ _=>Dr.of q⟩⟩⟩
  | left _=>exact ⟨λ c=>absurd c (by decide),λ _=>⟨λ c=>absurd c (by decide),λ _=>⟨λ c=>absurd c (by decide),λ _=>Dr.of q⟩⟩⟩
  | right _=>exact ⟨λ c=>absurd c (by decide),λ _=>⟨λ c=>absurd c (by decide),λ _=>⟨λ c=>absurd c (by decide),λ _=>Dr.of q⟩⟩⟩
  | way ds k=>
    refine ⟨λ c=>absurd c (by decide),λ _=>⟨λ c=>absurd c (by decide),λ _=>⟨λ _=>?_,λ c=>absurd c (by decide)⟩⟩⟩
    have:=dBq ds
    simp only [tsz,b9q] at hz
    exact ⟨e5q (by simp;omega),Dr.of q⟩
abbrev iWq:Stmt:=top 6
theorem sc_flat:FnScope ["thing", "told", "pending", "one", "item"] ["thing"] (aAq iWq):=⟨rfl,rfl,rfl,by decide +kernel,rfl,by decide +kernel,by decide +kernel⟩
theorem s1q {ti te:Tok} (B:Blt mg) (m_ITEM:mg "ITEM" = some (.int 1 ti)) (m_END:mg "END" = some (.int 0 te))  (F:Fun K "flat" "flat" iWq f fd):FnOk P w K mg base CX0 1 f fd ["thing"] (aWq K nWq):=by
  refine okD (k:=0) F sc_flat (λ ds G DQ h=>?_) (λ cdv A outer s H E hr ds G DQ h=>?_)
  . obtain ⟨_,rfl,_⟩:=h;rfl
  obtain ⟨d,rfl,hk,hz,q⟩:=h
  refine ⟨_,(a5q (aPq (k:=1) sc_flat.nd rfl (Or.inl rfl) (bFq a2q))
      (a5q (aPq (k:=2) sc_flat.nd rfl (Or.inl rfl) (bFq (a0q (a1q 0) a2q)))
      (a5q (gOq PassesOwn.never (b2q (a1q 2)) (a5q (aPq (k:=3) sc_flat.nd rfl (Or.inl rfl) (fQq PySem.F.plainAttrs_list PySem.F.slot_list_pop PySem.F.type_list_pop h1q (a1q 2)))
      (a6q (aNq (eAq (b2q (a9q b0q rfl B.isinstance PyProof.Rows.boot_isinstance (a0q (a1q 3) (a0q (bHq rfl B.tuple PyProof.Rows.boot_tuple) a2q))))) (a6q (b5q (bVq PySem.F.plainAttrs_list PySem.F.slot_list_append PySem.F.type_list_append aSq (a1q 1) (a0q (a1q 3) a2q)))) (a6q (aNq (AW.at (d0q (aEq e6q (a9q aGq rfl B.len PySem.boot_len (a0q (a1q 3) a2q)) a3q (aCq _)) (c2q (b2q (a9q b0q rfl B.isinstance PyProof.Rows.boot_isinstance (a0q (aLq aix (a1q 3) a3q (λ _ _=>rfl)) (a0q (bHq rfl B.str PyProof.Rows.boot_str) a2q))))))) (a6q (b5q (bVq PySem.F.plainAttrs_list PySem.F.slot_list_extend PySem.F.type_list_extend e0q (a1q 2) (a0q (w6q (a1q 3) (bIq (hMq cHq a3q))) a2q)))) (a5q (b5q (bVq PySem.F.plainAttrs_list PySem.F.slot_list_append PySem.F.type_list_append aSq (a1q 2) (a0q (e4q (d:=.int _) (v:=.int _) rfl m_END ⟨_,rfl⟩ (λ _=>rfl)) a2q)))
      (a6q (e8q PassesOwn.never rfl (tBq rfl B.reversed (a1q 3)) (b8q (k:=4) sc_flat.nd rfl (Or.inl rfl)) (a5q (b5q (bVq PySem.F.plainAttrs_list PySem.F.slot_list_append PySem.F.type_list_append aSq (a1q 2) (a0q (a1q 4) a2q)))
      (a6q (b5q (bVq PySem.F.plainAttrs_list PySem.F.slot_list_append PySem.F.type_list_append aSq (a1q 2) (a0q (e4q (d:=.int _) (v:=.int _) rfl m_ITEM ⟨_,rfl⟩ (λ _=>rfl)) a2q))))))))))))))
      (a6q (aFq (a1q 1)))))),?_⟩
  intro a ha b hb
  obtain ⟨-,hb0,hne⟩:=gFq (o:=.lst []) hb
  have hw:=y6q d
  refine ⟨λ μ ρ G'=>∃ (ps fs:List D) (o3 o4:Option D),ρ=[some d,some (.ref a),some (.ref b),o3,o4]/\up (up G a (.lst fs)) b (.lst ps.reverse)=G'/\fs++flC ps=flD d/\(∀ p∈ps,PK p)/\wss ps<=196000/\wss ps=μ,⟨_,[d],[],_,_,rfl,rfl,by simp [flC],by simpa using .k hk,by simp only [wss];omega,rfl⟩,?_⟩
  rintro μ ρ G' ⟨ps,fs,o3,o4,rfl,rfl,hfs,hps,hw6,rfl⟩
  have hfl:fs.length<=196000:=by have:=congrArg List.length hfs;have:=hKq d;simp only [List.length_append] at *;omega
  refine a7q a4q ⟨λ c=>?_,λ c=>?_⟩
  . obtain ⟨y,qs,rfl⟩:∃ y qs,ps=y::qs:=by
      cases ps with
      | nil=>simp at c
      | cons z qs=>exact ⟨z,qs,rfl⟩
    rw [wss] at hw6
    have hql:=hNq qs
    refine ⟨a7q a4q trivial,aJq a4q ⟨qs.reverse,y,by simp,?_⟩⟩
    rw [bTq]
    have ha1:∀ o,up (up G a (.lst fs)) b o a=some (.lst fs):=λ o=>by rw [aMq (Ne.symm hne)];exact a4q
    have hqs:∀ p∈qs,PK p:=λ p hp=>hps p (List.mem_cons_of_mem _ hp)
    have fin:∀ (fs' ps':List D),fs'++flC ps'=flD d->(∀ p∈ps',PK p)->wss ps'+1<=ws y+wss qs->∀ (G9:DV) (ρ:DSt),(∃ o4,ρ=[some d,some (.ref a),some (.ref b),some y,o4])->up (up G a (.lst fs')) b (.lst ps'.reverse)=G9->Wk (λ ρ G'=>∃ μ',μ' < wss (y::qs)/\∃ (ps fs:List D) (o3 o4:Option D),ρ=[some d,some (.ref a),some (.ref b),o3,o4]/\up (up G a (.lst fs)) b (.lst ps.reverse)=G'/\fs++flC ps=flD d/\(∀ p∈ps,PK p)/\wss ps<=196000/\wss ps=μ') ρ G9:=λ fs' ps' h1 h2 h3 G9 ρ ⟨o4,e1⟩ e2=>Wk.of ⟨wss ps',by rw [wss];omega,ps',fs',_,o4,e1,e2,h1,h2,by omega,rfl⟩
    rw [flC] at hfs
    cases hps y (List.mem_cons_self ..) with
    | int n=>
      refine ⟨false,rfl,⟨λ _=>⟨a7q (ha1 _) trivial,aJq (ha1 _) ⟨aXq (by omega),?_⟩⟩,nofun⟩⟩
      rw [up3 hne]
      exact fin (fs++[.int n]) qs (by rw [<- hfs];simp [flD]) hqs (by simp only [ws];omega) _ _ ⟨_,rfl⟩ rfl
    | str z=>
      refine ⟨false,rfl,⟨λ _=>⟨a7q (ha1 _) trivial,aJq (ha1 _) ⟨aXq (by omega),?_⟩⟩,nofun⟩⟩
      rw [up3 hne]
      exact fin (fs++[.str z]) qs (by rw [<- hfs];simp [flD]) hqs (by simp only [ws];omega) _ _ ⟨_,rfl⟩ rfl
    | k h=>
      obtain ⟨z,r,rfl,hr⟩:=h.pks
      have hlr:=hNq (.str z::r)
      rw [ws] at hw6
      refine ⟨true,rfl,⟨nofun,λ _=>⟨λ _=>⟨true,rfl,⟨λ _=>?_,nofun⟩⟩,λ c=>absurd (of_decide_eq_false c) (by simp only [List.length_cons];omega)⟩⟩⟩
      refine ⟨a7q a4q trivial,rfl,aJq a4q ⟨e5q (by simp only [List.length_reverse];omega),?_⟩⟩
      rw [bTq]
      refine fin fs ((.str z::r)++qs) ?_ (λ p hp=>?_) ?_ _ _ ⟨_,rfl⟩ ?_
      . rw [<- hfs,lQq];simp only [flD,flT,flC];rfl
      . rcases List.mem_append.mp hp with hp | hp
        . rcases List.mem_cons.mp hp with rfl | hp
          . exact .str _
          . exact hr p hp
        . exact hqs p hp
      . rw [nCq,ws];omega
      . rw [List.reverse_append]
    | @bag ds hds=>
      have hlr:=hNq ds
      have hqd:qs.length+2 * ds.length+2<=196000:=by rw [ws] at hw6;omega
      refine ⟨true,rfl,⟨nofun,λ _=>⟨λ c=>?els0,λ c=>?els2⟩⟩⟩
      case' els0=>
        obtain ⟨d0,ds',e⟩:∃ d0 ds',ds=d0::ds':=by
          cases ds with
          | nil=>exact absurd c (by decide)
          | cons x xs=>exact ⟨x,xs,rfl⟩
        refine uEq (d:=d0) (by rw [e];exact cPq (j:=0) rfl) ?_
        obtain ⟨z,r,rfl,_⟩:=(hds d0 (by rw [e];exact List.mem_cons_self ..)).head
        refine ⟨false,rfl,⟨nofun,λ _=>?_⟩⟩
      case' els2=>
        refine ⟨nofun,λ _=>?_⟩
      case els0 | els2=>
        refine ⟨a7q a4q trivial,aJq a4q ⟨aXq (by simp only [List.length_reverse];omega),?_⟩⟩
        rw [bTq]
        refine ⟨λ i ρ G'=>∃ o4,ρ=[some d,some (.ref a),some (.ref b),some (.tup ds),o4]/\up (up G a (.lst fs)) b (.lst (qs.reverse++[.int 0]++(ds.reverse.take i).flatMap λ x=>[x,.int 1]))=G',⟨_,rfl,by simp⟩,λ _ _ _ _ _=>trivial,?_,?_⟩
        . rintro i x ρ G' he ⟨o4,rfl,rfl⟩
          have he':ds.reverse[i]?=some x:=he
          have hsm:(qs.reverse++[D.int 0]++(ds.reverse.take i).flatMap λ x=>[x,.int 1]).length+1<=196000:=by
            have h2:=(List.getElem?_eq_some_iff.mp he').1
            rw [List.length_reverse] at h2
            simp only [List.length_append,List.length_reverse,List.length_singleton,hWq,List.length_take]
            omega
          refine ⟨a7q a4q trivial,aJq a4q ⟨aXq (by omega),?_⟩⟩
          rw [bTq]
          refine ⟨a7q a4q trivial,aJq a4q ⟨aXq (by rw [List.length_append,List.length_singleton];omega),?_⟩⟩
          rw [bTq]
          refine Wk.of ⟨_,rfl,?_⟩
          rw [List.take_add_one,he',Option.toList_some,List.flatMap_append]
          simp
        . rintro ρ G' ⟨o4,rfl,rfl⟩
          refine fin fs (c4q ds++.int 0::qs) ?_ (λ p hp=>?_) ?_ _ _ ⟨_,rfl⟩ ?_
          . rw [<- hfs,lRq,kPq hds]
          . rcases List.mem_append.mp hp with hp | hp
            . obtain ⟨x,hx,hp⟩:=List.mem_flatMap.mp hp
              simp at hp
              rcases hp with rfl | rfl
              . exact .int _
              . exact .k (hds _ hx)
            . rcases List.mem_cons.mp hp with rfl | hp
              . exact .int _
              . exact hqs p hp
          . rw [oEq,ws];omega
          . rw [List.reverse_append,mGq,List.reverse_cons,show ds.reverse.take (⟨ds.reverse,λ _=>True⟩:DIt).items.length=ds.reverse from List.take_length]
  . have e:ps=[]:=by
      cases ps with
      | nil=>rfl
      | cons _ _=>simp at c
    subst e
    have e2:fs=flD d:=by simpa [flC] using hfs
    subst e2
    exact ⟨up G a (.lst (flD d)),Sub.new (Sub.refl _) (by rw [aMq hne];exact hb0),q a ha⟩
abbrev f0q:Stmt:=top 14
theorem sc_sorted:FnScope ["kinds", "keys"] ["kinds"] (aAq f0q):=⟨rfl,rfl,rfl,by decide +kernel,rfl,by decide +kernel,by decide +kernel⟩
theorem m8q (B:Blt mg) (g_flat:Got P w K mg base 1 "flat" ["thing"] (aWq K nWq)) (F:Fun K "is_sorted" "is_sorted" f0q f fd):FnOk P w K mg base CX0 2 f fd ["kinds"] (aWq K gLq):=by
  refine okD (k:=1) F sc_sorted (λ ds G DQ h=>?_) (λ cdv A outer s H E hr ds G DQ h=>?_)
  . obtain ⟨_,rfl,_⟩:=h;rfl
  obtain ⟨es,rfl,hk,hl,q⟩:=h
  refine ⟨_,(a5q (aNq (aEq d1q (a9q aGq rfl B.len PySem.boot_len (a0q (a1q 0) a2q)) a3q (aCq _)) (a6q (aFq jMq)) aHq)
      (a5q (cVq (k:=1) rfl sc_sorted.nd rfl (Or.inl rfl) (CompOk.of (N':=["kind"]) (nt:=1) (cap:=[]) rfl (by kernel_rfl)) (bDq (k:=0) (by decide)) (g0q (a1q 0)) (λ _ _ _ _=>(b8q (k:=0) (show List.Nodup (["kind"]:List Str) by decide +kernel) rfl (Or.inl rfl)))  (λ _ _ _ _=>(aDq g_flat hr (by omega) rfl (a0q (a1q 0) a2q))))
      (a6q (aFq (c0q (pAq (aKq hr)) (a1q 1) (a9q (gTq (aKq hr)) rfl B.sorted PyProof.Rows.boot_sorted (a0q (a1q 1) a2q)) (aCq _)))))),?_⟩
  refine ⟨λ c=>?_,λ c=>?_⟩
  . have c':=of_decide_eq_true c
    refine Dr.of ?_
    rcases es with _ | ⟨x,_ | ⟨y,r⟩⟩
    . exact q
    . exact q
    . simp only [List.length_cons] at c';omega
  . refine jSq (λ i ds G'=>∃ zs:List (Addr × D),ds=zs.map (λ z=>D.ref z.1)/\zs.map (·.2)=es.take i/\(∀ z∈zs,FlG G' z)/\Sub G G') (aXq (by show es.length<=_;omega)) ⟨[],rfl,rfl,by simp,Sub.refl _⟩ (λ _ _ _ _ _=>trivial) ?_ ?_
    . rintro i d ds G' hd ⟨zs,rfl,hzs,hF,hS⟩
      have hd':es[i]?=some d:=hd
      have hm:=List.mem_of_getElem? hd'
      refine ⟨d,rfl,(hk d hm).1,(hk d hm).2,λ l hl'=>⟨_,Sub.refl _,zs++[(l,d)],by simp,?_,λ z hz=>?_,Sub.trans hS (Sub.new (Sub.refl _) hl')⟩⟩
      . rw [List.map_append,hzs,List.take_add_one,hd'];rfl
      . rcases List.mem_append.mp hz with hz | hz
        . obtain ⟨h1,h2⟩:=hF z hz
          exact ⟨h1,by rw [aMq (by rintro e;rw [e,hl'] at h2;cases h2)];exact h2⟩
        . simp at hz;subst hz;exact ⟨(hk d hm).1,a4q⟩
    . rintro ds G' ⟨zs,rfl,hzs,hF,hS⟩ p hp
      have hzs':zs.map (·.2)=es:=by
        rw [hzs];exact List.take_length
      have hzl:zs.length=es.length:=by rw [<- hzs',List.length_map]
      have hF1:∀ z∈zs,FlG (up G' p (.lst (zs.map λ z=>D.ref z.1))) z:=λ z hz=>by
        obtain ⟨h1,h2⟩:=hF z hz
        exact ⟨h1,by rw [aMq (by rintro e;rw [e,hp] at h2;cases h2)];exact h2⟩
      refine ⟨zs,a4q,by omega,hF1,λ zs' hperm hsrt p' hp'=>?_⟩
      have hF2:∀ z∈zs,FlG (up (up G' p (.lst (zs.map λ z=>D.ref z.1))) p' (.lst (zs'.map λ z=>D.ref z.1))) z:=λ z hz=>by
        obtain ⟨h1,h2⟩:=hF1 z hz
        exact ⟨h1,by rw [aMq (by rintro e;rw [e,hp'] at h2;cases h2)];exact h2⟩
      have npp:p≠p':=by rintro rfl;rw [a4q] at hp';cases hp'
      refine ⟨zs,zs',by rw [aMq npp];exact a4q,a4q,hF2,λ z hz=>hF2 z (hperm.mem_iff.mpr hz),hperm.length_eq,λ b hb=>⟨G,Sub.trans hS (Sub.trans (Sub.new (Sub.refl _) hp) (Sub.new (Sub.refl _) hp')),?_⟩⟩
      have e:b=fUq es:=by
        rw [hzs',sEq (λ d hd=>(hk d hd).1) (by rw [<- hzs'];exact hperm.map _) hsrt] at hb
        cases b<;>cases h:fUq es<;>simp_all
      rw [e];exact q
abbrev fAq:Stmt:=top 10
theorem sc_iskind:FnScope ["thing", "bags", "pending", "one"] ["thing"] (aAq fAq):=⟨rfl,rfl,rfl,by decide +kernel,rfl,by decide +kernel,by decide +kernel⟩
theorem m3q (B:Blt mg) (g_hkf:Got P w K mg base 2 "has_kind_form" ["thing"] (aWq K rBq))(g_innk:Got P w K mg base 1 "inner_kinds" ["kind"] (aWq K nRq))(g_sorted:Got P w K mg base 2 "is_sorted" ["kinds"] (aWq K gLq)) (F:Fun K "is_kind" "is_kind" fAq f fd):FnOk P w K mg base CX0 3 f fd ["thing"] (aWq K gQq):=by
  refine okD (k:=2) F sc_iskind (λ ds G DQ h=>?_) (λ cdv A outer s H E hr ds G DQ h=>?_)
  . obtain ⟨_,rfl,_⟩:=h;rfl
  obtain ⟨d,rfl,ht,hB,q⟩:=h
  refine ⟨_,(a5q (aPq (k:=1) sc_iskind.nd rfl (Or.inl rfl) (bFq a2q))
      (a5q (aPq (k:=2) sc_iskind.nd rfl (Or.inl rfl) (bFq (a0q (a1q 0) a2q)))
      (a5q (gOq PassesOwn.never (b2q (a1q 2)) (a5q (aPq (k:=3) sc_iskind.nd rfl (Or.inl rfl) (fQq PySem.F.plainAttrs_list PySem.F.slot_list_pop PySem.F.type_list_pop h1q (a1q 2)))
      (a5q (aNq (eAq (b2q (aDq g_hkf hr (by omega) rfl (a0q (a1q 3) a2q)))) (a6q (aFq jMq)) aHq)
      (a5q (aNq (aEq (aIq (aKq hr)) (aLq aix (a1q 3) a3q (λ _ _=>rfl)) a8q (aCq _)) (a6q (b5q (bVq PySem.F.plainAttrs_list PySem.F.slot_list_append PySem.F.type_list_append aSq (a1q 1) (a0q (aLq aix (a1q 3) a3q (λ _ _=>rfl)) a2q)))) aHq)
      (a6q (b5q (bVq PySem.F.plainAttrs_list PySem.F.slot_list_extend PySem.F.type_list_extend e0q (a1q 2) (a0q (aDq g_innk hr (by omega) rfl (a0q (a1q 3) a2q)) a2q))))))))
      (a6q (aFq (bSq (a9q (eVq rfl) rfl B.all PyProof.Rows.boot_all (a0q (gSq rfl (CompOk.of (N':=["bag"]) (nt:=1) (cap:=[]) rfl (by kernel_rfl)) (bDq (k:=0) (by decide)) (g0q (a1q 1)) (λ _ _ _ _=>(b8q (k:=0) (show List.Nodup (["bag"]:List Str) by decide +kernel) rfl (Or.inl rfl))) (λ _ _ _ _=>(aDq g_sorted hr (by omega) rfl (a0q (a1q 0) a2q)))) a2q)))))))),?_⟩
  intro a ha b hb
  obtain ⟨-,hb0,hne⟩:=gFq (o:=.lst []) hb
  have lsG:∀ (X Y:DO) (r:Addr),isL G r->isL (up (up G a X) b Y) r:=λ X Y r ⟨ds,h⟩=>⟨ds,by rw [aMq (by rintro rfl;rw [hb0] at h;cases h),aMq (by rintro rfl;rw [ha] at h;cases h)];exact h⟩
  refine ⟨λ μ ρ G'=>∃ (ps:List D) (bs:List (List D)) (o3:Option D),ρ=[some d,some (.ref a),some (.ref b),o3]/\up (up G a (.lst (bs.map D.tup))) b (.lst ps.reverse)=G'/\(IsKd d ↔ (∀ x∈bs,fUq x=true)/\∀ p∈ps,IsKd p)/\((∀ p∈ps,Frm p)->∀ x∈bs,∀ y∈x,Frm y)/\(∀ p∈ps,Th (isL G) p/\Bd 49000 150 63 p)/\(∀ x∈bs,x.length<=63/\∀ y∈x,tsz y<=49000)/\b9q ps+bs.length<=49000/\b9q ps=μ,⟨_,[d],[],_,rfl,rfl,by simp,by simp,by simpa using ⟨ht,hB⟩,by simp,by have:=hB.sz;simp only [b9q,List.length_nil];omega,rfl⟩,?_⟩
  rintro μ ρ G' ⟨ps,bs,o3,rfl,rfl,hV,hFr,hps,hbs,hsz,rfl⟩
  refine a7q a4q ⟨λ c=>?_,λ c=>?_⟩
  . obtain ⟨y,qs,rfl⟩:∃ y qs,ps=y::qs:=by
      cases ps with
      | nil=>simp at c
      | cons z qs=>exact ⟨z,qs,rfl⟩
    rw [b9q] at hsz
    have hql:=dBq qs
    have hyp:=mBq y
    obtain ⟨hty,hBy⟩:=hps y (List.mem_cons_self ..)
    refine ⟨a7q a4q trivial,aJq a4q ⟨qs.reverse,y,by simp,?_⟩⟩
    rw [bTq]
    have ha1:∀ (X:DO) o,up (up G a X) b o a=some X:=λ X o=>by rw [aMq (Ne.symm hne)];exact a4q
    refine ⟨y,rfl,hty.mono (lsG _ _),λ bb hbb=>⟨λ c=>?_,λ c=>?_⟩⟩
    . have n:¬ ∃ is bs,HF y is bs:=λ e=>by
        have z:=hbb.mpr e
        subst z;cases c
      refine ⟨G,Sub.trans (Sub.new (Sub.refl _) ha) (Sub.new (Sub.refl _) (by rw [aMq hne];exact hb0)),q false ⟨nofun,λ e=>absurd ((hV.mp e).2 y (List.mem_cons_self ..)).hf n⟩⟩
    . obtain ⟨is,ys,hf⟩:∃ is bs,HF y is bs:=hbb.mp (by cases bb;cases c;rfl)
      obtain ⟨sz1,sz2⟩:=hf.sz
      have hm:=hf.mem hty hBy
      have kd:=hf.kd
      have fin:∀ (ρ:DSt) (G9:DV),ρ=[some d,some (.ref a),some (.ref b),some y]->up (up G a (.lst ((bs++ys).map D.tup))) b (.lst (qs.reverse++is))=G9->ys.length<=1->Wk (λ ρ G'=>∃ μ',μ' < b9q (y::qs)/\∃ (ps:List D) (bs:List (List D)) (o3:Option D),ρ=[some d,some (.ref a),some (.ref b),o3]/\up (up G a (.lst (bs.map D.tup))) b (.lst ps.reverse)=G'/\(IsKd d ↔ (∀ x∈bs,fUq x=true)/\∀ p∈ps,IsKd p)/\((∀ p∈ps,Frm p)->∀ x∈bs,∀ y∈x,Frm y)/\(∀ p∈ps,Th (isL G) p/\Bd 49000 150 63 p)/\(∀ x∈bs,x.length<=63/\∀ y∈x,tsz y<=49000)/\b9q ps+bs.length<=49000/\b9q ps=μ') ρ G9:=λ ρ G9 e1 e2 hyl=>by
        have sy:=hBy.sz
        refine Wk.of ⟨_,?_,is.reverse++qs,bs++ys,_,e1,?_,?_,?_,?_,?_,?_,rfl⟩
        . rw [b9q,eJq,jWq];omega
        . rw [<- e2];simp
        . rw [hV]
          constructor
          . rintro ⟨h1,h2⟩
            have z:=kd.mp (h2 y (List.mem_cons_self ..))
            refine ⟨λ x hx=>?_,λ p hp=>?_⟩
            . rcases List.mem_append.mp hx with hx | hx
              . exact h1 x hx
              . exact z.2 x hx
            . rcases List.mem_append.mp hp with hp | hp
              . exact z.1 p (List.mem_reverse.mp hp)
              . exact h2 p (List.mem_cons_of_mem _ hp)
          . rintro ⟨h1,h2⟩
            refine ⟨λ x hx=>h1 x (List.mem_append_left _ hx),λ p hp=>?_⟩
            rcases List.mem_cons.mp hp with rfl | hp
            . exact kd.mpr ⟨λ x hx=>h2 x (List.mem_append_left _ (List.mem_reverse.mpr hx)),λ x hx=>h1 x (List.mem_append_right _ hx)⟩
            . exact h2 p (List.mem_append_right _ hp)
        . intro h x hx
          obtain ⟨f1,f2⟩:=hf.fr λ x hx=>h x (List.mem_append_left _ (List.mem_reverse.mpr hx))
          rcases List.mem_append.mp hx with hx | hx
          . refine hFr (λ p hp=>?_) x hx
            rcases List.mem_cons.mp hp with rfl | hp
            . exact f1
            . exact h p (List.mem_append_right _ hp)
          . exact f2 x hx
        . intro p hp
          rcases List.mem_append.mp hp with hp | hp
          . exact hm p (List.mem_reverse.mp hp)
          . exact hps p (List.mem_cons_of_mem _ hp)
        . intro x hx
          rcases List.mem_append.mp hx with hx | hx
          . exact hbs x hx
          . obtain ⟨z1,z2⟩:=sz2 x hx
            have:=hBy.wd
            exact ⟨by omega,λ y hy=>by have:=dDq hy;omega⟩
        . rw [eJq,jWq,List.length_append];omega
      have szi:=dBq is
      have sy:=hBy.sz
      cases hf with
      | is n=>exact ⟨nofun,λ _=>⟨a7q a4q trivial,_,_,_,rfl,(HF.is n),by omega,aJq a4q ⟨e5q (by simp only [List.length_reverse,List.length_cons,List.length_nil];omega),by rw [bTq];exact fin _ _ rfl (by simp) (by simp)⟩⟩⟩
      | some=>exact ⟨nofun,λ _=>⟨a7q a4q trivial,_,_,_,rfl,HF.some,by omega,aJq a4q ⟨e5q (by simp only [List.length_reverse,List.length_cons,List.length_nil];omega),by rw [bTq];exact fin _ _ rfl (by simp) (by simp)⟩⟩⟩
      | both o1 o2=>exact ⟨nofun,λ _=>⟨a7q a4q trivial,_,_,_,rfl,(HF.both o1 o2),by omega,aJq a4q ⟨e5q (by simp only [List.length_reverse,List.length_cons,List.length_nil];omega),by rw [bTq];exact fin _ _ rfl (by simp) (by simp)⟩⟩⟩
      | left x=>exact ⟨nofun,λ _=>⟨a7q a4q trivial,_,_,_,rfl,(HF.left x),by omega,aJq a4q ⟨e5q (by simp only [List.length_reverse,List.length_cons,List.length_nil];omega),by rw [bTq];exact fin _ _ rfl (by simp) (by simp)⟩⟩⟩
      | right x=>exact ⟨nofun,λ _=>⟨a7q a4q trivial,_,_,_,rfl,(HF.right x),by omega,aJq a4q ⟨e5q (by simp only [List.length_reverse,List.length_cons,List.length_nil];omega),by rw [bTq];exact fin _ _ rfl (by simp) (by simp)⟩⟩⟩
      | way ds k=>
        refine ⟨λ _=>⟨a7q (ha1 _ _) trivial,aJq (ha1 _ _) ⟨aXq (by rw [List.length_map];omega),?_⟩⟩,nofun⟩
        rw [up3 hne]
        refine ⟨a7q a4q trivial,_,_,_,rfl,HF.way ds k,by omega,aJq a4q ⟨e5q (by simp only [List.length_reverse,List.length_append,List.length_singleton] at szi ⊢;omega),?_⟩⟩
        rw [bTq]
        exact fin _ _ rfl (by simp) (by simp)
  . have e:ps=[]:=by
      cases ps with
      | nil=>rfl
      | cons _ _=>simp at c
    subst e
    have hK:∀ x∈bs,∀ y∈x,IsK y:=λ x hx y hy=>(hFr (by simp) x hx y hy).isK
    have ha1:∀ (X:DO) o,up (up G a X) b o a=some X:=λ X o=>by rw [aMq (Ne.symm hne)];exact a4q
    refine j3q (ha1 _ _) ?_
    refine dLq bs D.tup (λ x=>.bl (fUq x)) ?_ ?_ ?_ ?_ ?_
    . rfl
    . exact aXq (by simp only [b9q] at hsz;omega)
    . exact ha1 _ _
    . intro x hx R hR
      exact ⟨x,rfl,λ y hy=>⟨hK x hx y hy,(hbs x hx).2 y hy⟩,by have:=(hbs x hx).1;omega,hR⟩
    . intro p hp
      refine a7q a4q ⟨bs.map fUq,?_,G,?_,Dr.of (q _ ?_)⟩
      . rw [show (bs.map λ x=>D.bl (fUq x))=(bs.map fUq).map D.bl from (List.map_map ..).symm];exact cLq _
      . exact Sub.trans (Sub.trans (Sub.new (Sub.refl _) ha) (Sub.new (Sub.refl _) (by rw [aMq hne];exact hb0))) (Sub.new (Sub.refl _) hp)
      . rw [hV];simp
abbrev eYq:Stmt:=top 21
theorem mKq:FnScope ["text", "signs"] ["text", "signs"] (aAq eYq):=⟨rfl,rfl,rfl,by decide +kernel,rfl,by decide +kernel,by decide +kernel⟩
theorem lSq (B:Blt mg) (F:Fun K "made_of" "made_of" eYq f fd):FnOk P w K mg base CX0 1 f fd ["text", "signs"] (aWq K gXq):=by
  refine okD (k:=0) F mKq (λ ds G DQ h=>?_) (λ cdv A outer s H E hr ds G DQ h=>?_)
  . obtain ⟨_,_,rfl,_⟩:=h;rfl
  obtain ⟨z,y,rfl,hz,q⟩:=h
  refine ⟨_,(a6q (aFq (bSq (a9q (eVq rfl) rfl B.all PyProof.Rows.boot_all (a0q (gSq rfl (CompOk.of (N':=["sign", "signs"]) (nt:=1) (cap:=[1]) rfl (by kernel_rfl)) (bDq (k:=0) (by decide)) (vCq (a1q 0)) (λ _ _ _ _=>(b8q (k:=0) (show List.Nodup (["sign", "signs"]:List Str) by decide +kernel) rfl (Or.inl rfl))) (λ _ _ _ _=>(c0q iJq (a1q 0) (a1q 1) (by with_unfolding_all rfl)))) a2q))))),?_⟩
  refine dLq z.cps.toList (λ c=>.str ⟨#[c]⟩) (λ c=>.bl (decide (c∈y.cps.toList))) rfl (aXq ?_) trivial (λ c _ R hR=>?_) (λ p hp=>?_)
  . have:z.cps.toList.length=z.length:=rfl
    omega
  . show R (.bl (false ^^ !(Builtin.Str.occurrences y ⟨#[c]⟩ 0 y.length 1).isEmpty)) G
    rw [oBq,Bool.false_xor];exact hR
  . refine a7q a4q ⟨z.cps.toList.map λ c=>decide (c∈y.cps.toList),?_,G,Sub.new (Sub.refl _) hp,Dr.of ?_⟩
    . rw [show (z.cps.toList.map λ c=>D.bl (decide (c∈y.cps.toList)))=(z.cps.toList.map λ c=>decide (c∈y.cps.toList)).map D.bl by simp];exact cLq _
    . rw [List.all_map];exact q
abbrev f3q:Stmt:=top 36
theorem sc_lakind:FnScope ["_law_feed_here", "_law_deep", "_law_form", "_law_one"] ["_law_feed_here", "_law_deep"] (aAq f3q):=⟨rfl,rfl,rfl,by decide +kernel,rfl,by decide +kernel,by decide +kernel⟩
theorem oMq:FnOk P w K mg base CX0 2 f fd ["_law_feed_here", "_law_deep"] (aWq K (hQq 0)):=yFq λ ds G DQ h=>by obtain ⟨_,_,_,_,_,_,_⟩:=h;omega
theorem nAq {n:Nat} (B:Blt mg) (g_take:Got P w K mg base 1 "_law_take" ["_law_feed_here", "_law_many"] (aWq K dOq)) (g_number:Got P w K mg base 2 "_law_number" ["_law_feed_here"] (aWq K o4q)) (g_lakind:Got P w K mg base (n+2) "_law_answer_kind" ["_law_feed_here", "_law_deep"] (aWq K (hQq n))) (F:Fun K "_law_answer_kind" "_law_answer_kind" f3q f fd):FnOk P w K mg base CX0 (n+3) f fd ["_law_feed_here", "_law_deep"] (aWq K (hQq (n+1))):=by
  refine okD (k:=n+2) F sc_lakind (λ ds G DQ h=>?_) (λ cdv A outer s H E hr ds G DQ h=>?_)
  . obtain ⟨_,_,rfl,_⟩:=h;rfl
  obtain ⟨a,k,rfl,hF,k0,k1,q⟩:=h
  refine ⟨_,(a5q (aPq (k:=2) sc_lakind.nd rfl (Or.inl rfl) (aDq g_take hr (by omega) rfl (a0q (a1q 0) (a0q a3q a2q))))
      (a5q (aNq (AW.at (d0q (aEq e6q (a1q 1) a3q (aCq _)) (c2q (aEq e6q (a1q 2) a3q (aCq _))))) (a5q (aPq (k:=3) sc_lakind.nd rfl (Or.inl rfl) (aDq g_lakind hr (by omega) rfl (a0q (a1q 0) (a0q (aUq c5q (a1q 1) a3q) a2q))))
      (a6q (aFq (bBq (a0q a8q (a0q (a1q 3) (a0q (aDq g_lakind hr (by omega) rfl (a0q (a1q 0) (a0q (aUq c5q (a1q 1) a3q) a2q))) a2q))))))) aHq)
      (a5q (aNq (aEq (aIq (aKq hr)) (a1q 2) a3q (aCq _)) (a6q (aFq (bBq (a0q a8q a2q)))) aHq)
      (a6q (aFq (bBq (a0q a8q (a0q (aDq g_number hr (by omega) rfl (a0q (a1q 0) a2q)) a2q)))))))),?_⟩
  refine ⟨hF,by decide,by decide,λ fm G1 u1 f0 f1=>⟨λ c=>⟨λ c2=>?_,λ c2=>?_⟩,λ c=>⟨λ c=>absurd c (by decide),λ _=>?_⟩⟩⟩
  . have c':=of_decide_eq_true c
    refine ⟨a,k - 1,rfl,u1.fd,by omega,by omega,λ d1 G2 u2 i1 o1 e1=>⟨a,k - 1,rfl,u2.fd,by omega,by omega,λ d2 G3 u3 i2 o2 e2=>Dr.of (q _ _ (u1.trans (u2.trans u3)) (.both i1 i2 o1 o2) rfl (rGq (by omega) e1 e2))⟩⟩
  . exact ⟨λ _=>Dr.of (q _ _ u1 .some rfl (nIq _)),λ _=>⟨a,rfl,u1.fd,λ n G2 u2 hn=>Dr.of (q _ _ (u1.trans u2) (.is n hn) rfl (w9q _ _))⟩⟩
  . exact ⟨λ _=>Dr.of (q _ _ u1 .some rfl (nIq _)),λ _=>⟨a,rfl,u1.fd,λ n G2 u2 hn=>Dr.of (q _ _ (u1.trans u2) (.is n hn) rfl (w9q _ _))⟩⟩
abbrev jLq:Stmt:=top 37
theorem sc_kind:FnScope ["_law_feed_here", "_law_deep", "_law_form", "_law_bag"] ["_law_feed_here", "_law_deep"] (aAq jLq):=⟨rfl,rfl,rfl,by decide +kernel,rfl,by decide +kernel,by decide +kernel⟩
theorem sJq:FnOk P w K mg base CX0 7 f fd ["_law_feed_here", "_law_deep"] (aWq K (u2q 0)):=yFq λ ds G DQ h=>by obtain ⟨_,_,_,_,_,_,_,_⟩:=h;omega
theorem sOq {n:Nat} (B:Blt mg) (g_take:Got P w K mg base 1 "_law_take" ["_law_feed_here", "_law_many"] (aWq K dOq)) (g_lakind:Got P w K mg base 5 "_law_answer_kind" ["_law_feed_here", "_law_deep"] (aWq K (hQq 3))) (g_kind:Got P w K mg base (n+7) "_law_kind" ["_law_feed_here", "_law_deep"] (aWq K (u2q n))) (F:Fun K "_law_kind" "_law_kind" jLq f fd):FnOk P w K mg base CX0 (n+8) f fd ["_law_feed_here", "_law_deep"] (aWq K (u2q (n+1))):=by
  refine okD (k:=n+7) F sc_kind (λ ds G DQ h=>?_) (λ cdv A outer s H E hr ds G DQ h=>?_)
  . obtain ⟨_,_,rfl,_⟩:=h;rfl
  obtain ⟨a,k,rfl,hF,k0,k1,k10,q⟩:=h
  refine ⟨_,(a5q (aPq (k:=2) sc_kind.nd rfl (Or.inl rfl) (aDq g_take hr (by omega) rfl (a0q (a1q 0) (a0q a3q a2q))))
      (a5q (aNq (AW.at (fOq (aEq (aIq (aKq hr)) (a1q 1) a3q (aCq _)) (d8q (aEq d1q (a1q 2) a3q (aCq _))))) (a6q (aFq (aDq g_lakind hr (by omega) rfl (a0q (a1q 0) (a0q (a9q (i4q rfl) rfl B.min PyProof.Rows.boot_min (a0q (a1q 1) (a0q a3q a2q))) a2q))))) aHq)
      (a5q (aNq (aEq d1q (a1q 2) a3q (aCq _)) (a6q (aFq (bBq (a0q (c7q (a0q a8q (a0q a8q a2q)) (aUq c5q (a1q 2) a3q) (λ _ _=>rfl)) (a0q (aDq g_kind hr (by omega) rfl (a0q (a1q 0) (a0q (aUq c5q (a1q 1) a3q) a2q))) a2q))))) aHq)
      (a5q (cVq (k:=3) rfl sc_kind.nd rfl (Or.inl rfl) (CompOk.of (N':=["_law_k", "_law_feed_here", "_law_deep"]) (nt:=1) (cap:=[0,1]) rfl (by kernel_rfl)) (bDq (k:=0) (by decide)) (dPq rfl B.range (a0q (aDq g_take hr (by omega) rfl (a0q (a1q 0) (a0q a3q a2q))) a2q)) (λ _ _ _ _=>(b8q (k:=0) (show List.Nodup (["_law_k", "_law_feed_here", "_law_deep"]:List Str) by decide +kernel) rfl (Or.inl rfl)))  (λ _ _ _ _=>(aDq g_kind hr (by omega) rfl (a0q (a1q 1) (a0q (aUq c5q (a1q 2) a3q) a2q)))))
      (a5q (aNq (AW.at (d0q (aEq e6q (a9q aGq rfl B.len PySem.boot_len (a0q (a1q 3) a2q)) a3q (aCq _)) (c2q (aEq (aIq (aKq hr)) (aDq g_take hr (by omega) rfl (a0q (a1q 0) (a0q a3q a2q))) a3q (aCq _))))) (a6q (lYq (aLq aix (a1q 3) a3q (λ _ _=>rfl)) (mAq (a1q 3) a3q))) aHq)
      (a6q (aFq (bBq (a0q a8q (a0q (bSq (bKq cKq rfl B.tuple PyProof.Rows.boot_tuple (a0q (a9q (cBq (aKq hr)) rfl B.sorted PyProof.Rows.boot_sorted (a0q (a1q 3) a2q)) a2q))) (a0q (aDq g_kind hr (by omega) rfl (a0q (a1q 0) (a0q (aUq c5q (a1q 1) a3q) a2q))) a2q))))))))))),?_⟩
  refine ⟨hF,by decide,by decide,λ fm G1 u1 f0 f1=>⟨λ c=>⟨λ _=>?_,λ c=>absurd c (by decide)⟩,λ c=>⟨λ c2=>?_,λ c2=>⟨λ c3=>?_,λ c3=>?_⟩⟩⟩⟩
  . refine ⟨a,if 2 < k then 2 else k,rfl,u1.fd,by split<;>omega,by split<;>omega,λ d G2 u2 i o e=>Dr.of (q d G2 ⟨G2,u1.trans u2,.refl _⟩ i (λ _=>o) (qTq (by split<;>omega) e))⟩
  . refine ⟨a,if 2 < k then 2 else k,rfl,u1.fd,by split<;>omega,by split<;>omega,λ d G2 u2 i o e=>Dr.of (q d G2 ⟨G2,u1.trans u2,.refl _⟩ i (λ _=>o) (qTq (by split<;>omega) e))⟩
  . have c3':=of_decide_eq_true c3
    have c2':=of_decide_eq_false c2
    have k0':k≠0:=by rintro rfl;cases c
    refine at2 (i:=fm - 3) (by omega) (by omega) (λ _=>⟨a,k - 1,rfl,u1.fd,by omega,by omega,by omega,λ d G2 ⟨G0,x1,x2⟩ i _ e=>Dr.of (q _ G2 ⟨G0,u1.trans x1,x2⟩ (.left i) (λ z=>absurd z k0') (qVq (by omega) e))⟩) λ _=>⟨a,k - 1,rfl,u1.fd,by omega,by omega,by omega,λ d G2 ⟨G0,x1,x2⟩ i _ e=>Dr.of (q _ G2 ⟨G0,u1.trans x1,x2⟩ (.right i) (λ z=>absurd z k0') (qVq (by omega) e))⟩
  . have k0':k≠0:=by rintro rfl;cases c
    refine ⟨u1.fd,by decide,by decide,λ m G2 u2 m0 m1=>hGq (by omega) ?_⟩
    refine gGq a id (λ d=>IsKc d/\Bd (40 * 5 ^ (k - 1).toNat) (2 * (k - 1).toNat+3) 3 d) ?_ (λ _=>trivial) u2.fd (λ d G R hf h=>⟨a,k - 1,rfl,hf,by omega,by omega,by omega,λ d G' x i _ e=>h d G' x ⟨i,e⟩⟩) λ ds G3 hdl hds u3 p hp=>?_
    . show (bYq 0 (m:Int).toNat).length<=1000
      rw [bJq];omega
    have hl3:ds.length<=3:=by
      have e:ds.length=(bYq 0 (m:Int).toNat).length:=hdl
      rw [bJq] at e;omega
    rw [List.map_id]
    have kp3:∀ b o,b≠a->G b=some o->up G3 p (.lst ds) b=some o:=λ b o nb e=>by
      have h1:G3 b=some o:=(u1.trans (u2.trans u3)).kp nb e
      rw [aMq (by rintro rfl;rw [hp] at h1;cases h1)];exact h1
    refine a7q a4q ⟨λ c4=>⟨u3.fd.new hp,by decide,by decide,λ j G4 u4 j0 j1=>⟨λ c5=>?_,λ c5=>?_⟩⟩,λ c4=>⟨λ c=>absurd c (by decide),λ _=>?_⟩⟩
    . have hp4:=u4.kp (u3.fd.ne hp) a4q
      obtain ⟨x,y,zs,rfl⟩:∃ x y zs,ds=x::y::zs:=by
        have c4':=of_decide_eq_true c4
        rcases ds with _ | ⟨x,_ | ⟨y,zs⟩⟩
        . simp at c4'
        . simp at c4'
        . exact ⟨x,y,zs,rfl⟩
      refine bEq hp4 (d:=x) (cPq (j:=0) rfl) (aJq hp4 ⟨1,by unfold ixN;rw [if_pos (by decide),if_pos (by simp only [List.length_cons];omega)];rfl,?_⟩)
      have h4:∀ d∈(x::y::zs).set 1 x,IsKc d/\Bd (40 * 5 ^ (k - 1).toNat) (2 * (k - 1).toNat+3) 3 d:=t4q hds (hds x (List.mem_cons_self ..))
      have l4:((x::y::zs).set 1 x).length<=3:=by rw [List.length_set];exact hl3
      have X:∀ G9 G0,Fx a (up G4 p (.lst ((x::y::zs).set 1 x))) G0->Sub G0 G9->∃ G0,Fx a G G0/\Sub G0 G9:=λ G9 G0 x1 x2=>pJq (λ b o nb e=>by
        have h1:=kp3 b o nb e
        have h2:=u4.kp nb h1
        have nbp:b≠p:=by rintro rfl;rw [(u1.trans (u2.trans u3)).none hp] at e;cases e
        rw [aMq nbp];exact h2) x1 x2
      refine a7q (a4q) ⟨by have:=l4;omega,λ d hd=>⟨(h4 d hd).1.isK,by have:=(h4 d hd).2.dp;omega⟩,λ ds' hperm hsrt p' hp'=>a7q a4q ⟨_,Sub.new (Sub.refl _) hp',⟨a,k - 1,rfl,(by obtain ⟨x',y',e'⟩:=u4.fd;exact ⟨x',y',by rw [aMq (Ne.symm (u3.fd.ne hp))];exact e'⟩),by omega,by omega,by omega,λ d G9 ⟨G0,x1,x2⟩ i9 _ e9=>Dr.of (q _ G9 (X G9 G0 x1 x2) (.way (λ d hd=>(h4 d (hperm.mem_iff.mpr hd)).1) (dUq hsrt) i9) (λ z=>absurd z k0') (oGq (by omega) (λ d hd=>(h4 d (hperm.mem_iff.mpr hd)).2) (by rw [<- hperm.length_eq];exact l4) e9))⟩⟩⟩
    . have hp4:=u4.kp (u3.fd.ne hp) a4q
      have X:∀ G9 G0,Fx a G4 G0->Sub G0 G9->∃ G0,Fx a G G0/\Sub G0 G9:=λ G9 G0 x1 x2=>pJq (λ b o nb e=>u4.kp nb (kp3 b o nb e)) x1 x2
      refine a7q (hp4) ⟨by have:=hl3;omega,λ d hd=>⟨(hds d hd).1.isK,by have:=(hds d hd).2.dp;omega⟩,λ ds' hperm hsrt p' hp'=>a7q a4q ⟨_,Sub.new (Sub.refl _) hp',⟨a,k - 1,rfl,u4.fd,by omega,by omega,by omega,λ d G9 ⟨G0,x1,x2⟩ i9 _ e9=>Dr.of (q _ G9 (X G9 G0 x1 x2) (.way (λ d hd=>(hds d (hperm.mem_iff.mpr hd)).1) (dUq hsrt) i9) (λ z=>absurd z k0') (oGq (by omega) (λ d hd=>(hds d (hperm.mem_iff.mpr hd)).2) (by rw [<- hperm.length_eq];exact hl3) e9))⟩⟩⟩
    . have X:∀ G9 G0,Fx a (up G3 p (.lst ds)) G0->Sub G0 G9->∃ G0,Fx a G G0/\Sub G0 G9:=λ G9 G0 x1 x2=>pJq kp3 x1 x2
      refine a7q (a4q) ⟨by have:=hl3;omega,λ d hd=>⟨(hds d hd).1.isK,by have:=(hds d hd).2.dp;omega⟩,λ ds' hperm hsrt p' hp'=>a7q a4q ⟨_,Sub.new (Sub.refl _) hp',⟨a,k - 1,rfl,(u3.fd.new hp),by omega,by omega,by omega,λ d G9 ⟨G0,x1,x2⟩ i9 _ e9=>Dr.of (q _ G9 (X G9 G0 x1 x2) (.way (λ d hd=>(hds d (hperm.mem_iff.mpr hd)).1) (dUq hsrt) i9) (λ z=>absurd z k0') (oGq (by omega) (λ d hd=>(hds d (hperm.mem_iff.mpr hd)).2) (by rw [<- hperm.length_eq];exact hl3) e9))⟩⟩⟩
abbrev j6q:Stmt:=top 38
theorem sc_long:FnScope ["_law_feed_here", "_law_kind_here", "_law_some", "_law_k", "_law_form", "_law_other"] ["_law_feed_here"] (aAq j6q):=⟨rfl,rfl,rfl,by decide +kernel,rfl,by decide +kernel,by decide +kernel⟩
theorem rNq (B:Blt mg) (g_take:Got P w K mg base 1 "_law_take" ["_law_feed_here", "_law_many"] (aWq K dOq))(g_kind:Got P w K mg base 11 "_law_kind" ["_law_feed_here", "_law_deep"] (aWq K (u2q 4))) (F:Fun K "_law_long" "_law_long" j6q f fd):FnOk P w K mg base CX0 12 f fd ["_law_feed_here"] (aWq K dYq):=by
  refine okD (k:=11) F sc_long (λ ds G DQ h=>?_) (λ cdv A outer s H E hr ds G DQ h=>?_)
  . obtain ⟨_,rfl,_⟩:=h;rfl
  obtain ⟨a,rfl,hF,q⟩:=h
  refine ⟨_,(a5q (aPq (k:=1) sc_long.nd rfl (Or.inl rfl) (aDq g_kind hr (by omega) rfl (a0q (a1q 0) (a0q a3q a2q))))
      (a5q (aNq (aEq (aIq (aKq hr)) (aDq g_take hr (by omega) rfl (a0q (a1q 0) (a0q a3q a2q))) a3q (aCq _)) (a5q (cVq (k:=2) rfl sc_long.nd rfl (Or.inl rfl) (CompOk.of (N':=["_law_k", "_law_feed_here"]) (nt:=1) (cap:=[0]) rfl (by kernel_rfl)) (bDq (k:=0) (by decide)) (dPq rfl B.range (a0q (aDq g_take hr (by omega) rfl (a0q (a1q 0) (a0q a3q a2q))) a2q)) (λ _ _ _ _=>(b8q (k:=0) (show List.Nodup (["_law_k", "_law_feed_here"]:List Str) by decide +kernel) rfl (Or.inl rfl)))  (λ _ _ _ _=>(aDq g_kind hr (by omega) rfl (a0q (a1q 1) (a0q (aDq g_take hr (by omega) rfl (a0q (a1q 1) (a0q a3q a2q))) a2q)))))
      (a6q (aFq (bBq (a0q a8q (a0q (bSq (bKq cKq rfl B.tuple PyProof.Rows.boot_tuple (a0q (a9q (cBq (aKq hr)) rfl B.sorted PyProof.Rows.boot_sorted (a0q (a1q 2) a2q)) a2q))) (a0q (a1q 1) a2q))))))) aHq)
      (a5q (e8q PassesOwn.never rfl (dPq rfl B.range (a0q (aDq g_take hr (by omega) rfl (a0q (a1q 0) (a0q a3q a2q))) a2q)) (b8q (k:=3) sc_long.nd rfl (Or.inl rfl)) (a5q (aPq (k:=4) sc_long.nd rfl (Or.inl rfl) (aDq g_take hr (by omega) rfl (a0q (a1q 0) (a0q a3q a2q))))
      (a5q (aPq (k:=5) sc_long.nd rfl (Or.inl rfl) (aDq g_kind hr (by omega) rfl (a0q (a1q 0) (a0q a3q a2q))))
      (a6q (aNq (aEq d1q (a1q 4) a3q (aCq _)) (a6q (aPq (k:=1) sc_long.nd rfl (Or.inl rfl) (bBq (a0q (c7q (a0q a8q (a0q a8q a2q)) (a1q 4) (λ _ _=>rfl)) (a0q (a1q 1) a2q))))) (a6q (aNq (AW.at (d0q (aEq (aIq (aKq hr)) (a1q 4) a3q (aCq _)) (c2q (aEq iJq (aLq aix (a1q 1) a3q (λ _ _=>rfl)) (bBq (a0q a8q (a0q a8q (a0q a8q a2q)))) (by with_unfolding_all rfl))))) (a6q (aPq (k:=1) sc_long.nd rfl (Or.inl rfl) (bBq (a0q a8q (a0q (a1q 5) (a0q (a1q 1) a2q)))))) (a6q (aPq (k:=1) sc_long.nd rfl (Or.inl rfl) (c7q (a0q (bBq (a0q a8q (a0q (bBq (a0q (a1q 1) a2q)) (a0q (a1q 5) a2q)))) (a0q (bBq (a0q a8q (a0q (bBq a2q) (a0q (a1q 1) a2q)))) (a0q (bBq (a0q a8q (a0q (bSq (bKq cKq rfl B.tuple PyProof.Rows.boot_tuple (a0q (bSq (a9q (cBq (aKq hr)) rfl B.sorted PyProof.Rows.boot_sorted (a0q (bFq (a0q (a1q 1) (a0q (a1q 5) a2q))) a2q))) a2q))) (a0q (a1q 5) a2q)))) a2q))) (aUq c5q (a1q 4) a3q) (λ _ _=>rfl)))))))))))
      (a6q (aFq (a1q 1)))))),?_⟩
  refine ⟨a,2,rfl,hF,by decide,by decide,by decide,λ d0 G1 w1 i0 _ b0'=>⟨w1.fd,by decide,by decide,λ t G2 u2 t0 t1=>?_⟩⟩
  have b0:Bd 1000 7 3 d0:=b0'.mono (by decide) (by decide) (Nat.le_refl _)
  clear b0'
  refine ⟨λ c=>?_,λ c=>?_⟩
  . have w2:=w1.trans (.of u2)
    refine ⟨u2.fd,by decide,by decide,λ m G3 u3 m0 m1=>hGq (by omega) ?_⟩
    have w3:=w2.trans (.of u3)
    refine gGq a id (λ d=>IsKc d/\Bd 200 5 3 d) ?_ (λ _=>trivial) u3.fd (λ d G R hf h=>⟨hf,by decide,by decide,λ j G4 u4 j0 j1=>⟨a,j,rfl,u4.fd,j0,by omega,by omega,λ d G' x i _ e=>h d G' (Dw.trans (.of u4) x) ⟨i,?_⟩⟩⟩) λ ds G3' hdl hds u3' p hp=>?_
    . show (bYq 0 (m:Int).toNat).length<=1000
      rw [bJq];omega
    . have h2:5 ^ j.toNat<=5 ^ 1:=Nat.pow_le_pow_right (by decide) (by omega)
      exact e.mono (by omega) (by omega) (Nat.le_refl _)
    have hl3:ds.length<=40:=by
      have e:ds.length=(bYq 0 (m:Int).toNat).length:=hdl
      rw [bJq] at e;omega
    rw [List.map_id]
    have w4:Dw a G (up G3' p (.lst ds)):=(w3.trans (.of u3')).new hp
    refine a7q a4q ⟨by omega,λ d hd=>⟨(hds d hd).1.isK,by have:=(hds d hd).2.dp;omega⟩,λ ds' hperm hsrt p' hp'=>a7q a4q ⟨_,Sub.new (Sub.refl _) hp',Dr.of (q _ _ w4 (.way (λ d hd=>(hds d (hperm.mem_iff.mpr hd)).1) (dUq hsrt) i0) ?_)⟩⟩
    have z:=wOq (n:=40) (w:=40) (λ d hd=>(hds d (hperm.mem_iff.mpr hd)).2.mono (Nat.le_refl _) (Nat.le_refl _) (by omega:3<=40)) (by rw [<- hperm.length_eq];exact hl3) (Nat.le_refl _)
    have:=z.sz;have:=z.dp;have:=z.wd;have:=b0.sz;have:=b0.dp;have:=b0.wd
    exact ⟨by simp only [tsz,b9q] at *;omega,by simp only [D.dp,bNq] at *;omega,by simp only [wid,iMq,List.length_cons,List.length_nil] at *;omega⟩
  . refine ⟨u2.fd,by decide,by decide,λ m G3 u3 m0 m1=>hGq (by omega) ?_⟩
    have w3:=w1.trans (.of (u2.trans u3))
    refine ⟨λ i ρ G'=>∃ (d:D) (o2 o3 o4 o5:Option D),ρ=[some (.ref a),some d,o2,o3,o4,o5]/\Dw a G G'/\IsKc d/\Bd (1000+90 * i) (7+2 * i) 3 d,⟨d0,_,_,_,_,rfl,w3,i0,b0.mono (by omega) (by omega) (Nat.le_refl _)⟩,λ _ _ _ _ _=>trivial,?_,?_⟩
    . rintro i e ρ G' he ⟨d,o2,o3,o4,o5,rfl,w,hi,hb⟩
      have hi24:i < 54:=by
        have:=(dVq he).1
        omega
      refine ⟨w.fd,by decide,by decide,λ fm G4 u4 f0 f1=>⟨a,0,rfl,u4.fd,by decide,by decide,by decide,λ ot G5 w5 io oo bo=>?_⟩⟩
      have w6:=w.trans (Dw.trans (.of u4) w5)
      have bo':Bd 40 3 3 ot:=bo.mono (by decide) (by decide) (Nat.le_refl _)
      have fin:∀ (d':D) (G9:DV) (ρ:DSt),(∃ o2 o3 o4 o5:Option D,ρ=[some (.ref a),some d',o2,o3,o4,o5])->Sub G5 G9->IsKc d'->(∃ s p,Bd s p 3 d'/\s<=1000+90 * (i+1)/\p<=7+2 * (i+1))->Wk (λ ρ G'=>∃ (d:D) (o2 o3 o4 o5:Option D),ρ=[some (.ref a),some d,o2,o3,o4,o5]/\Dw a G G'/\IsKc d/\Bd (1000+90 * (i+1)) (7+2 * (i+1)) 3 d) ρ G9:=λ d' G9 ρ ⟨o2,o3,o4,o5,e⟩ hs k ⟨s,p,b,h1,h2⟩=>Wk.of ⟨d',o2,o3,o4,o5,e,w6.sub hs,k,b.mono h1 h2 (Nat.le_refl _)⟩
      refine ⟨λ c=>?_,λ c=>?_⟩
      . have c':=of_decide_eq_true c
        exact at2 (i:=fm) f0 (by omega) (λ _=>fin _ _ _ ⟨_,_,_,_,rfl⟩ (Sub.refl _) (.left hi) ⟨_,_,bd_l hb,by omega,by omega⟩) λ _=>fin _ _ _ ⟨_,_,_,_,rfl⟩ (Sub.refl _) (.right hi) ⟨_,_,bd_l hb,by omega,by omega⟩
      . have c':=of_decide_eq_false c
        obtain ⟨z,r,rfl,_⟩:=hi.isK.head
        have eo:(false ^^ inL (.str z) [.str "is", .str "some", .str "both"])=ofA (.tup (.str z::r)):=by rw [Bool.false_xor,vMq];rfl
        refine ⟨λ c4=>⟨rfl,rfl,?els0⟩,λ c4=>⟨nofun,λ _=>?els1⟩⟩
        case' els0=>
          dsimp only
          rw [eo]
          refine ⟨λ c5=>fin _ _ _ ⟨_,_,_,_,rfl⟩ (Sub.refl _) (.both io hi (oo rfl) c5) ⟨_,_,yIq bo' hb,by omega,by omega⟩,λ c5=>?_⟩
        case els0 | els1=>
          intro p hp
          have hfd:∀ d∈[.tup (.str z::r),ot],IsK d/\d.dp<=150:=λ d hd=>by
            have:=hb.dp;have:=bo'.dp
            simp at hd
            rcases hd with rfl | rfl
            . exact ⟨hi.isK,by omega⟩
            . exact ⟨io.isK,by omega⟩
          refine a7q a4q ⟨show 2 < 64 by decide,hfd,λ ds' hperm hsrt p' hp'=>⟨_,Sub.refl _,a7q a4q ⟨G5,Sub.trans (Sub.new (Sub.refl _) hp) (Sub.new (Sub.refl _) hp'),?_⟩⟩⟩
          have mm:∀ d∈ds',IsKc d:=λ d hd=>by
            have:=hperm.mem_iff.mpr hd
            simp at this
            rcases this with rfl | rfl
            . exact hi
            . exact io
          have hS:Sub G5 G5:=Sub.refl _
          refine at3 (i:=fm - 2) (by omega) (by omega) (λ _=>?_) (λ _=>?_) λ _=>?_
          . exact fin _ _ _ ⟨_,_,_,_,rfl⟩ hS (.way (by simpa using hi) rfl io) ⟨_,_,yIq (bd_1 hb) bo',by omega,by omega⟩
          . exact fin _ _ _ ⟨_,_,_,_,rfl⟩ hS (.way (by simp) rfl hi) ⟨_,_,yIq bd_0 hb,by omega,by omega⟩
          . exact fin _ _ _ ⟨_,_,_,_,rfl⟩ hS (.way mm (dUq hsrt) io) ⟨_,_,yIq (bd_2 hb bo' hperm) bo',by omega,by omega⟩
    . rintro ρ G' ⟨d,o2,o3,o4,o5,rfl,w,hi,hb⟩
      have el:(⟨bYq 0 m.toNat,λ _=>True⟩:DIt).items.length=m.toNat:=bJq
      rw [el] at hb
      exact Dr.of (q d _ w hi (hb.mono (by omega) (by omega) (by omega)))
abbrev jJq:Stmt:=top 39
theorem sc_anyk:FnScope ["_law_feed_here", "_law_form"] ["_law_feed_here"] (aAq jJq):=⟨rfl,rfl,rfl,by decide +kernel,rfl,by decide +kernel,by decide +kernel⟩
theorem tNq (B:Blt mg) (g_take:Got P w K mg base 1 "_law_take" ["_law_feed_here", "_law_many"] (aWq K dOq))(g_kind:Got P w K mg base 11 "_law_kind" ["_law_feed_here", "_law_deep"] (aWq K (u2q 4)))(g_long:Got P w K mg base 12 "_law_long" ["_law_feed_here"] (aWq K dYq)) (F:Fun K "_law_any_kind" "_law_any_kind" jJq f fd):FnOk P w K mg base CX0 13 f fd ["_law_feed_here"] (aWq K dYq):=by
  refine okD (k:=12) F sc_anyk (λ ds G DQ h=>?_) (λ cdv A outer s H E hr ds G DQ h=>?_)
  . obtain ⟨_,rfl,_⟩:=h;rfl
  obtain ⟨a,rfl,hF,q⟩:=h
  refine ⟨_,(a5q (aPq (k:=1) sc_anyk.nd rfl (Or.inl rfl) (aDq g_take hr (by omega) rfl (a0q (a1q 0) (a0q a3q a2q))))
      (a5q (aNq (aEq (aIq (aKq hr)) (a1q 1) a3q (aCq _)) (a6q (aFq (aDq g_long hr (by omega) rfl (a0q (a1q 0) a2q)))) aHq)
      (a6q (aFq (aDq g_kind hr (by omega) rfl (a0q (a1q 0) (a0q (aUq aYq a3q (aUq cAq (a1q 1) a3q)) a2q))))))),?_⟩
  refine ⟨hF,by decide,by decide,λ fm G1 u1 f0 f1=>⟨λ c=>⟨a,rfl,u1.fd,λ d G2 w2 i b=>Dr.of (q d G2 (Dw.trans (.of u1) w2) i b)⟩,λ c=>?_⟩⟩
  have m0:0<=fm % 3:=Int.emod_nonneg _ (by decide)
  have m1:fm % 3 < 3:=Int.emod_lt_of_pos _ (by decide)
  refine ⟨(by show (0:Int) < 3;decide),a,1+fm % 3,rfl,u1.fd,by omega,by omega,by omega,λ d G2 w2 i _ b=>Dr.of (q d G2 (Dw.trans (.of u1) w2) i (b.mono ?_ (by omega) (by omega)))⟩
  have h2:5 ^ (1+fm % 3).toNat<=5 ^ 3:=Nat.pow_le_pow_right (by decide) (by omega)
  have:(5:Nat) ^ 3=125:=rfl
  omega
abbrev jPq:Stmt:=top 20
theorem sc_iswt:FnScope ["text", "most", "figures"] ["text", "most"] (aAq jPq):=⟨rfl,rfl,rfl,by decide +kernel,rfl,by decide +kernel,by decide +kernel⟩
theorem rWq (B:Blt mg) {tF:Tok} (m_FIGURES:mg "FIGURES" = some (.str figs tF)) (g_madeof:Got P w K mg base 1 "made_of" ["text", "signs"] (aWq K gXq)) (F:Fun K "is_whole_text" "is_whole_text" jPq f fd):FnOk P w K mg base CX0 2 f fd ["text", "most"] (aWq K gRq):=by
  refine okD (k:=1) F sc_iswt (λ ds G DQ h=>?_) (λ cdv A outer s H E hr ds G DQ h=>?_)
  . obtain ⟨_,rfl,_⟩:=h;rfl
  obtain ⟨z,rfl,hz,q⟩:=h
  refine ⟨_,(a5q (aPq (k:=2) sc_iswt.nd rfl (Or.inl rfl) (pGq (b2q (bVq PySem.F.plainAttrs_str PySem.F.slot_str_startswith PySem.F.type_str_startswith cZq (a1q 0) (a0q a8q a2q))) (cJq aslS (a1q 0) (bIq a3q) dXq) (a1q 0)))
      (a5q (aNq (eAq (AW.at (d0q (pNq qAq qAq a3q (a9q aGq rfl B.len PySem.boot_len (a0q (a1q 2) a2q)) (a1q 1)) (c2q (b2q (aDq g_madeof hr (by omega) rfl (a0q (a1q 2) (a0q (e4q (d:=.str _) (v:=.str _) rfl m_FIGURES ⟨_,rfl⟩ (λ _=>rfl)) a2q)))))))) (a6q (aFq jMq)) aHq)
      (a6q (aFq (zXq (nGq (bVq PySem.F.plainAttrs_str PySem.F.slot_str_startswith PySem.F.type_str_startswith cZq (a1q 2) (a0q a8q a2q))) (dJq (c0q (aIq (aKq hr)) (a1q 0) a8q (aCq _)))))))),?_⟩
  have hbl:=rEq z
  unfold u1q at q
  refine ⟨trivial,⟨λ hs=>⟨e5q (by omega),?_⟩,λ hs=>?_⟩⟩
  . rw [show Txt.slice z (some 1) none=bare z from (if_pos hs).symm]
    generalize bare z=y at q hbl ⊢
    refine ⟨e5q (by omega),⟨λ c1=>⟨λ c2=>⟨y,figs,rfl,by omega,⟨λ c3=>Dr.of ?_,λ c3=>⟨trivial,⟨λ c4=>Dr.of ?_,λ c4=>Dr.of ?_⟩⟩⟩⟩,λ c2=>⟨λ _=>Dr.of ?_,λ c=>qWq c⟩⟩,λ c1=>⟨λ c=>lCq c,λ _=>⟨λ _=>Dr.of ?_,λ c=>qWq c⟩⟩⟩⟩
    . rw [c1,c2,show fPq y figs=false by simpa using c3] at q;exact q
    . rw [c1,c2,show fPq y figs=true by simpa using c3,c4] at q;exact q
    . rw [c1,c2,show fPq y figs=true by simpa using c3,c4] at q;exact q
    . rw [c1,c2] at q;exact q
    . rw [c1] at q;exact q
  . rw [show bare z=z from if_neg (by rw [hs];decide)] at q
    refine ⟨e5q (by omega),⟨λ c1=>⟨λ c2=>⟨z,figs,rfl,by omega,⟨λ c3=>Dr.of ?_,λ c3=>⟨trivial,⟨λ c4=>Dr.of ?_,λ c4=>Dr.of ?_⟩⟩⟩⟩,λ c2=>⟨λ _=>Dr.of ?_,λ c=>qWq c⟩⟩,λ c1=>⟨λ c=>lCq c,λ _=>⟨λ _=>Dr.of ?_,λ c=>qWq c⟩⟩⟩⟩
    . rw [c1,c2,show fPq z figs=false by simpa using c3] at q;exact q
    . rw [c1,c2,show fPq z figs=true by simpa using c3,c4] at q;exact q
    . rw [c1,c2,show fPq z figs=true by simpa using c3,c4] at q;exact q
    . rw [c1,c2] at q;exact q
    . rw [c1] at q;exact q
abbrev fJq:Stmt:=top 35
theorem sc_number:FnScope ["_law_feed_here", "_law_form"] ["_law_feed_here"] (aAq fJq):=⟨rfl,rfl,rfl,by decide +kernel,rfl,by decide +kernel,by decide +kernel⟩
theorem mUq (B:Blt mg) (g_take:Got P w K mg base 1 "_law_take" ["_law_feed_here", "_law_many"] (aWq K dOq)) (F:Fun K "_law_number" "_law_number" fJq f fd):FnOk P w K mg base CX0 2 f fd ["_law_feed_here"] (aWq K o4q):=by
  refine okD (k:=1) F sc_number (λ ds G DQ h=>?_) (λ cdv A outer s H E hr ds G DQ h=>?_)
  . obtain ⟨_,rfl,_⟩:=h;rfl
  obtain ⟨a,rfl,hF,q⟩:=h
  refine ⟨_,(a5q (aPq (k:=1) sc_number.nd rfl (Or.inl rfl) (aDq g_take hr (by omega) rfl (a0q (a1q 0) (a0q a3q a2q))))
      (a5q (aNq (aEq d1q (a1q 1) a3q (aCq _)) (a6q (aFq (c7q (a0q a3q (a0q a3q (a0q (hMq cHq a3q) (a0q a3q a2q)))) (a1q 1) (λ _ _=>rfl)))) aHq)
      (a5q (aNq (aEq d1q (a1q 1) a3q (aCq _)) (a6q (aFq (aUq c5q (aDq g_take hr (by omega) rfl (a0q (a1q 0) (a0q a3q a2q))) a3q))) aHq)
      (a5q (aNq (aEq (aIq (aKq hr)) (a1q 1) a3q (aCq _)) (a6q (aFq (c7q (a0q a3q (a0q (hMq cHq a3q) (a0q a3q (a0q (hMq cHq a3q) (a0q a3q a2q))))) (aDq g_take hr (by omega) rfl (a0q (a1q 0) (a0q a3q a2q))) (λ _ _=>rfl)))) aHq)
      (a6q (aFq (aUq c5q (aDq g_take hr (by omega) rfl (a0q (a1q 0) (a0q a3q a2q))) a3q))))))),?_⟩
  refine ⟨hF,by decide,by decide,λ fm G1 u1 f0 f1=>⟨λ c=>?_,λ c=>⟨λ c=>?_,λ c=>?_⟩⟩⟩
  . have c':=of_decide_eq_true c
    exact at4 (by omega) (by omega) (λ _=>Dr.of (q _ _ u1 (by decide))) (λ _=>Dr.of (q _ _ u1 (by decide))) (λ _=>Dr.of (q _ _ u1 (by decide))) (λ _=>Dr.of (q _ _ u1 (by decide)))
  . exact ⟨u1.fd,by decide,by decide,λ k G2 u2 _ _=>Dr.of (q _ _ (u1.trans u2) (by omega))⟩
  . refine ⟨λ _=>⟨u1.fd,by decide,by decide,λ k G2 u2 k0 k1=>?_⟩,λ _=>⟨u1.fd,by decide,by decide,λ k G2 u2 _ _=>Dr.of (q _ _ (u1.trans u2) (by omega))⟩⟩
    exact vRq k0 k1 λ d hd=>by
      simp only [List.mem_cons,List.not_mem_nil,or_false] at hd
      rcases hd with rfl | rfl | rfl | rfl | rfl<;>exact Dr.of (q _ _ (u1.trans u2) (by decide))
abbrev oNq:Stmt:=top 26
theorem sc_spk:FnScope ["kind", "row", "one"] ["kind"] (aAq oNq):=⟨rfl,rfl,rfl,by decide +kernel,rfl,by decide +kernel,by decide +kernel⟩
theorem vIq (B:Blt mg) (F:Fun K "spelled_kind" "spelled_kind" oNq f fd):FnOk P w K mg base CX0 1 f fd ["kind"] (aWq K tIq):=by
  refine okD (k:=0) F sc_spk (λ ds G DQ h=>?_) (λ cdv A outer s H E hr ds G DQ h=>?_)
  . obtain ⟨_,_,rfl,_⟩:=h;rfl
  obtain ⟨d,qs,rfl,hs,q⟩:=h
  refine ⟨_,(a5q (aNq (aEq (aIq (aKq hr)) (aLq aix (a1q 0) a3q (λ _ _=>rfl)) a8q (aCq _)) (a6q (aFq (bFq (a0q (bKq i9q rfl B.str PyProof.Rows.boot_str (a0q (aLq aix (a1q 0) a3q (λ _ _=>rfl)) a2q)) a2q)))) aHq)
      (a5q (aNq (aEq (aIq (aKq hr)) (aLq aix (a1q 0) a3q (λ _ _=>rfl)) a8q (aCq _)) (a6q (aFq (bFq (a0q a8q a2q)))) aHq)
      (a5q (aNq (aEq (aIq (aKq hr)) (aLq aix (a1q 0) a3q (λ _ _=>rfl)) a8q (aCq _)) (a6q (aFq (bFq (a0q a8q (a0q (aLq aix (a1q 0) a3q (λ _ _=>rfl)) (a0q a8q a2q)))))) aHq)
      (a5q (aNq (aEq (aIq (aKq hr)) (aLq aix (a1q 0) a3q (λ _ _=>rfl)) a8q (aCq _)) (a6q (aFq (bFq (a0q a8q (a0q (aLq aix (a1q 0) a3q (λ _ _=>rfl)) (a0q a8q a2q)))))) aHq)
      (a5q (aNq (aEq (aIq (aKq hr)) (aLq aix (a1q 0) a3q (λ _ _=>rfl)) a8q (aCq _)) (a6q (aFq (bFq (a0q a8q (a0q (aLq aix (a1q 0) a3q (λ _ _=>rfl)) (a0q a8q (a0q (aLq aix (a1q 0) a3q (λ _ _=>rfl)) (a0q a8q a2q)))))))) aHq)
      (a5q (aPq (k:=1) sc_spk.nd rfl (Or.inl rfl) (bFq (a0q a8q a2q)))
      (a5q (e8q PassesOwn.never rfl (g0q (aLq aix (a1q 0) a3q (λ _ _=>rfl))) (b8q (k:=2) sc_spk.nd rfl (Or.inl rfl)) (a5q (aNq (aEq e6q (a9q aGq rfl B.len PySem.boot_len (a0q (a1q 1) a2q)) a3q (aCq _)) (a6q (b5q (bVq PySem.F.plainAttrs_list PySem.F.slot_list_append PySem.F.type_list_append aSq (a1q 1) (a0q a8q a2q)))) aHq)
      (a6q (b5q (bVq PySem.F.plainAttrs_list PySem.F.slot_list_append PySem.F.type_list_append aSq (a1q 1) (a0q (a1q 2) a2q))))))
      (a6q (aFq (bSq (aUq aYq (a1q 1) (bFq (a0q a8q (a0q (aLq aix (a1q 0) a3q (λ _ _=>rfl)) (a0q a8q a2q))))))))))))))),?_⟩
  cases hs with
  | is n hn=>exact ⟨λ _=>⟨hXq hn,λ l hl=>Dr.of (q l hl)⟩,λ c=>absurd c (by decide)⟩
  | some=>exact ⟨λ c=>absurd c (by decide),λ _=>⟨λ _ l hl=>Dr.of (q l hl),λ c=>absurd c (by decide)⟩⟩
  | left a=>exact ⟨λ c=>absurd c (by decide),λ _=>⟨λ c=>absurd c (by decide),λ _=>⟨λ _ l hl=>Dr.of (q l hl),λ c=>absurd c (by decide)⟩⟩⟩
  | right a=>exact ⟨λ c=>absurd c (by decide),λ _=>⟨λ c=>absurd c (by decide),λ _=>⟨λ c=>absurd c (by decide),λ _=>⟨λ _ l hl=>Dr.of (q l hl),λ c=>absurd c (by decide)⟩⟩⟩⟩
  | both a b=>exact ⟨λ c=>absurd c (by decide),λ _=>⟨λ c=>absurd c (by decide),λ _=>⟨λ c=>absurd c (by decide),λ _=>⟨λ c=>absurd c (by decide),λ _=>⟨λ _ l hl=>Dr.of (q l hl),λ c=>absurd c (by decide)⟩⟩⟩⟩⟩
  | way es k hl=>
    refine ⟨λ c=>absurd c (by decide),λ _=>⟨λ c=>absurd c (by decide),λ _=>⟨λ c=>absurd c (by decide),λ _=>⟨λ c=>absurd c (by decide),λ _=>⟨λ c=>absurd c (by decide),λ _=>?_⟩⟩⟩⟩⟩
    intro p hp
    refine ⟨λ i ρ G'=>∃ o2:Option D,ρ=[some (.tup [.str "way", .tup es,k]),some (.ref p),o2]/\up G p (.lst (.str "["::dTq (es.take i)))=G',⟨_,rfl,rfl⟩,λ _ _ _ _ _=>trivial,?_,?_⟩
    . rintro i e ρ G' he ⟨o2,rfl,rfl⟩
      have he':es[i]?=some e:=he
      have hlt:=(List.getElem?_eq_some_iff.mp he').1
      have h2:=gVq (es.take i)
      rw [List.length_take] at h2
      have ht:es.take (i+1)=es.take i++[e]:=by rw [List.take_add_one,he',Option.toList_some]
      refine a7q a4q ⟨λ c=>⟨a7q a4q trivial,aJq a4q ⟨aXq (by simp only [List.length_cons];omega),?_⟩⟩,λ c=>⟨a7q a4q trivial,aJq a4q ⟨aXq (by simp only [List.length_cons];omega),Wk.of ⟨_,rfl,?_⟩⟩⟩⟩
      . rw [bTq]
        refine ⟨a7q a4q trivial,aJq a4q ⟨aXq (by simp only [List.length_cons,List.length_append,List.length_nil];omega),Wk.of ⟨_,rfl,?_⟩⟩⟩
        rw [bTq]
        have hne:es.take i≠[]:=by
          intro e0
          rw [e0] at c
          exact absurd c (by decide)
        rw [ht,k2q e hne]
        simp
      . rw [bTq]
        have h0:i=0:=by
          have c':=of_decide_eq_false c
          cases hb:es.take i with
          | nil=>
            have:=congrArg List.length hb
            rw [List.length_take,List.length_nil] at this
            omega
          | cons x r=>
            have:=t6q (ds:=es.take i) (by rw [hb];simp)
            simp only [List.length_cons] at c'
            omega
        subst h0
        rw [ht];rfl
    . rintro ρ G' ⟨o2,rfl,rfl⟩
      intro p2 hp2
      have e2:es.take (⟨es,λ _=>True⟩:DIt).items.length=es:=List.take_length
      rw [e2]
      rw [e2] at hp2
      obtain ⟨-,hp20,hne2⟩:=gFq (o:=.lst []) hp2
      have h2:=gVq es
      refine aJq (by rw [aMq (Ne.symm hne2)];exact a4q) (aJq a4q ⟨e5q (by simp only [List.length_cons,List.length_nil];omega),λ p3 hp3=>?_⟩)
      have hp30:G p3=none:=by
        have h3:p3≠p2:=by rintro rfl;rw [a4q] at hp3;cases hp3
        rw [aMq h3] at hp3
        have h4:p3≠p:=by rintro rfl;rw [a4q] at hp3;cases hp3
        rw [aMq h4] at hp3;exact hp3
      refine ⟨up G p3 (.lst (.str "["::(dTq es++[.str ":", k,.str "]"]))),?_,Dr.of (q p3 hp30)⟩
      exact Sub.put (Sub.new (Sub.new (Sub.refl _) hp) hp20)
abbrev lUq:Stmt:=top 16
theorem sc_out:FnScope ["thing", "spelled", "pieces", "pending", "one"] ["thing", "spelled"] (aAq lUq):=⟨rfl,rfl,rfl,by decide +kernel,rfl,by decide +kernel,by decide +kernel⟩
theorem wEq (B:Blt mg) {fk:Addr} (G_spelled:FnV P w K mg base 1 fk (aWq K tIq)) (F:Fun K "spelled_out" "spelled_out" lUq f fd):FnOk P w K mg base CX0 2 f fd ["thing", "spelled"] (aWq K (sHq fk)):=by
  refine okD (k:=1) F sc_out (λ ds G DQ h=>?_) (λ cdv A outer s H E hr ds G DQ h=>?_)
  . obtain ⟨_,_,rfl,_⟩:=h;rfl
  obtain ⟨d,x,rfl,hx,hs,q⟩:=h
  refine ⟨_,(a5q (aPq (k:=2) sc_out.nd rfl (Or.inl rfl) (bFq a2q))
      (a5q (aPq (k:=3) sc_out.nd rfl (Or.inl rfl) (bFq (a0q (a1q 0) a2q)))
      (a5q (gOq PassesOwn.never (b2q (a1q 3)) (a5q (aPq (k:=4) sc_out.nd rfl (Or.inl rfl) (fQq PySem.F.plainAttrs_list PySem.F.slot_list_pop PySem.F.type_list_pop h1q (a1q 3)))
      (a6q (aNq (b2q (a9q b0q rfl B.isinstance PyProof.Rows.boot_isinstance (a0q (a1q 4) (a0q (bHq rfl B.str PyProof.Rows.boot_str) a2q)))) (a6q (b5q (bVq PySem.F.plainAttrs_list PySem.F.slot_list_append PySem.F.type_list_append aSq (a1q 2) (a0q (a1q 4) a2q)))) (a6q (b5q (bVq PySem.F.plainAttrs_list PySem.F.slot_list_extend PySem.F.type_list_extend e0q (a1q 3) (a0q (eZq rfl B.list rfl B.reversed (yXq 1 G_spelled hr (by omega) (a0q (a1q 4) a2q))) a2q))))))))
      (a6q (aFq (bVq PySem.F.plainAttrs_str PySem.F.slot_str_join PySem.F.type_str_join kJq a8q (a0q (a1q 2) a2q))))))),?_⟩
  intro a ha b hb
  obtain ⟨-,hb0,hne⟩:=gFq (o:=.lst []) hb
  have hxl:=hx.len
  have hcl:=hJq hx.few
  refine ⟨λ μ ρ G'=>∃ (ps:List D) (ys:List Str) (l:List Nat) (o4:Option D),ρ=[some d,some (.ref fk),some (.ref a),some (.ref b),o4]/\up (up G a (.lst (ys.map D.str))) b (.lst ps.reverse)=G'/\Its ps l μ/\cat ys++l=cat x/\ys.length+μ<=3 * x.length,⟨_,[d],[],_,_,rfl,rfl,.kd hx hs .nil,by simp [cat],by simp⟩,?_⟩
  rintro μ ρ G' ⟨ps,ys,l,o4,rfl,rfl,hi,hc,hm⟩
  have ha1:∀ o,up (up G a (.lst (ys.map D.str))) b o a=some (.lst (ys.map D.str)):=λ o=>by rw [aMq (Ne.symm hne)];exact a4q
  refine a7q a4q ⟨λ c=>?_,λ c=>?_⟩
  . cases hi with
    | nil=>exact absurd c (by decide)
    | @str qs l m z hi=>
      have hql:=mHq hi
      refine ⟨a7q a4q trivial,aJq a4q ⟨qs.reverse,.str z,by simp,?_⟩⟩
      rw [bTq]
      refine ⟨true,rfl,⟨λ _=>⟨a7q (ha1 _) trivial,aJq (ha1 _) ⟨aXq (by rw [List.length_map];omega),?_⟩⟩,nofun⟩⟩
      rw [up3 hne]
      exact Wk.of ⟨m,by omega,qs,ys++[z],l,_,rfl,by rw [List.map_append];rfl,hi,by rw [b1q];simpa [cat] using hc,by simp only [List.length_append,List.length_cons,List.length_nil];omega⟩
    | @kd y x' qs l m hk hy hi=>
      have hql:=mHq hi
      obtain ⟨xs,rfl⟩:=q4q hk
      obtain ⟨rs,h1,h2,h3⟩:=hk.spl hy
      obtain ⟨m',h4,h5⟩:=h3 _ _ _ hi
      refine ⟨a7q a4q trivial,aJq a4q ⟨qs.reverse,.tup xs,by simp,?_⟩⟩
      rw [bTq]
      refine ⟨false,rfl,⟨nofun,λ _=>⟨a7q a4q trivial,rfl,_,rs,rfl,h1,λ r hr=>a7q a4q λ r2 hr2=>?_⟩⟩⟩
      have hr0:=hr
      rw [aMq (by rintro rfl;rw [a4q] at hr;cases hr)] at hr0
      have nb:b≠r:=by rintro rfl;rw [a4q] at hr;cases hr
      have nb2:b≠r2:=by rintro rfl;rw [aMq nb,a4q] at hr2;cases hr2
      have hr20:=Sub.none (Sub.new (Sub.refl _) hr) hr2
      refine aJq (by rw [aMq nb2,aMq nb];exact a4q) (aJq a4q ⟨e5q (by simp only [List.length_reverse];omega),?_⟩)
      refine ⟨_,up (up G a (.lst (ys.map D.str))) b (.lst (rs++qs).reverse),.refl _,?_,m',by omega,rs++qs,ys,_,_,rfl,rfl,h5,hc,by omega⟩
      rw [List.reverse_append,h4q nb2.symm,h4q nb.symm,bTq]
      refine Sub.new (Sub.new (Sub.refl _) ?_) ?_
      . rw [aMq nb.symm];rw [aMq nb.symm] at hr;exact hr
      . rw [aMq nb2.symm];rw [aMq nb2.symm] at hr20;exact hr20
  . have e:ps=[]:=by
      cases ps with
      | nil=>rfl
      | cons _ _=>simp at c
    subst e
    cases hi
    rw [List.append_nil] at hc
    refine ⟨trivial,a7q (ha1 _) ⟨ys,rfl,by decide +kernel,?_,?_⟩⟩
    . rw [nHq,hc];omega
    . rw [q1q,hc]
      exact ⟨G,Sub.new (Sub.new (Sub.refl _) ha) hb0,q⟩
abbrev j8q:Stmt:=top 25
theorem s3q:FnScope ["kind"] ["kind"] (aAq j8q):=⟨rfl,rfl,rfl,by decide +kernel,rfl,by decide +kernel,by decide +kernel⟩
theorem t3q {fk:Addr} (m_spelled_kind:mg "spelled_kind" = some (.ref fk)) (g_out:Got P w K mg base 2 "spelled_out" ["thing", "spelled"] (aWq K (sHq fk))) (F:Fun K "show_kind" "show_kind" j8q f fd):FnOk P w K mg base CX0 3 f fd ["kind"] (aWq K j9q):=by
  refine okD (k:=2) F s3q (λ ds G DQ h=>?_) (λ cdv A outer s H E hr ds G DQ h=>?_)
  . obtain ⟨_,_,rfl,_⟩:=h;rfl
  obtain ⟨d,x,rfl,hx,hs,q⟩:=h
  exact ⟨_,(a6q (aFq (aDq g_out hr (by omega) rfl (a0q (a1q 0) (a0q (e4q (d:=.ref _) (v:=.ref _) rfl m_spelled_kind rfl (λ _=>rfl)) a2q))))),d,x,rfl,hx,hs,Dr.of q⟩
abbrev fDq:Stmt:=top 17
theorem sc_pieces:FnScope ["text", "signs", "pieces", "start", "at", "sign"] ["text", "signs"] (aAq fDq):=⟨rfl,rfl,rfl,by decide +kernel,rfl,by decide +kernel,by decide +kernel⟩
theorem n5q (B:Blt mg) (F:Fun K "pieces_of" "pieces_of" fDq f fd):FnOk P w K mg base CX0 1 f fd ["text", "signs"] (aWq K gMq):=by
  refine okD (k:=0) F sc_pieces (λ ds G DQ h=>?_) (λ cdv A outer s H E hr ds G DQ h=>?_)
  . obtain ⟨_,rfl,_⟩:=h;rfl
  obtain ⟨z,rfl,hz,q⟩:=h
  refine ⟨_,(a5q (aPq (k:=2) sc_pieces.nd rfl (Or.inl rfl) (bFq a2q))
      (a5q (aPq (k:=3) sc_pieces.nd rfl (Or.inl rfl) a3q)
      (a5q (e8q PassesOwn.never rfl (rSq rfl B.enumerate (a0q (a1q 0) a2q)) (nYq (n:=2) rfl (cWq (b8q (k:=4) sc_pieces.nd rfl (Or.inl rfl)) (cWq (b8q (k:=5) sc_pieces.nd rfl (Or.inl rfl)) iUq))) (a6q (aNq (aEq iJq (a1q 5) (a1q 1) (by with_unfolding_all rfl)) (a5q (aNq (aEq d1q (a1q 3) (a1q 4) (aCq _)) (a6q (b5q (bVq PySem.F.plainAttrs_list PySem.F.slot_list_append PySem.F.type_list_append aSq (a1q 2) (a0q (cJq aslS (a1q 0) (bIq (a1q 3)) (bIq (a1q 4))) a2q)))) aHq)
      (a5q (b5q (bVq PySem.F.plainAttrs_list PySem.F.slot_list_append PySem.F.type_list_append aSq (a1q 2) (a0q (a1q 5) a2q)))
      (a6q (aPq (k:=3) sc_pieces.nd rfl (Or.inl rfl) (aUq aYq (a1q 4) a3q))))) aHq)))
      (a5q (aNq (aEq d1q (a1q 3) (a9q aGq rfl B.len PySem.boot_len (a0q (a1q 0) a2q)) (aCq _)) (a6q (b5q (bVq PySem.F.plainAttrs_list PySem.F.slot_list_append PySem.F.type_list_append aSq (a1q 2) (a0q (cJq aslS (a1q 0) (bIq (a1q 3)) dXq) a2q)))) aHq)
      (a6q (aFq (a1q 2))))))),?_⟩
  intro a ha
  have hzl:z.cps.toList.length=z.length:=Array.length_toList
  generalize hzz:z.cps.toList=zl at q hzl
  refine ⟨λ i ρ G'=>∃ (dn:List Str) (s:Nat) (o4 o5:Option D),ρ=[some (.str z),some (.str sgnS),some (.ref a),some (.int (s:Int)),o4,o5]/\up G a (.lst (dn.map D.str))=G'/\s<=i/\i<=zl.length/\dn++pcs SG ((zl.take i).drop s) (zl.drop i)=pcs SG [] zl/\dn.length+(i - s)<=i,⟨[],0,_,_,rfl,rfl,Nat.le_refl _,Nat.zero_le _,by simp,Nat.le_refl _⟩,λ _ _ _ _ _=>trivial,?_,?_⟩
  . rintro i e ρ G' he ⟨dn,s,o4,o5,rfl,rfl,hs,hil,hd,hn⟩
    have he':(enS z)[i]?=some e:=he
    unfold enS at he'
    rw [List.getElem?_map,List.getElem?_zipIdx,hzz] at he'
    cases hc:zl[i]? with
    | none=>rw [hc] at he';cases he'
    | some c=>
      rw [hc] at he'
      simp at he'
      subst he'
      have hlt:=(List.getElem?_eq_some_iff.mp hc).1
      have ed:zl.drop i=c::zl.drop (i+1):=by rw [List.drop_eq_getElem_cons hlt,(List.getElem?_eq_some_iff.mp hc).2]
      have et:zl.take (i+1)=zl.take i++[c]:=by rw [List.take_add_one,hc,Option.toList_some]
      have hcl:((zl.take i).drop s).length=i - s:=by rw [List.length_drop,List.length_take];omega
      rw [ed,pcs] at hd
      refine ⟨λ c1=>?_,λ c1=>?_⟩
      . rw [Bool.false_xor,oBq,decide_eq_true_eq,show sgnS.cps.toList=SG from qYq] at c1
        rw [if_pos c1] at hd
        refine ⟨λ c2=>?_,λ c2=>?_⟩
        . have c2':s < i:=by have:=of_decide_eq_true c2;omega
          have es:Txt.slice z (some (s:Int)) (some (i:Int))=ofL ((zl.take i).drop s):=by
            rw [eq_of_beq (PyProof.Rows.slice_closes (x:=z) (i:=s) (j:=i) ⟨by omega,by omega,by rw [hzz];omega⟩),hzz]
            refine cEq ?_
            rw [cFq,List.drop_take]
            show (zl.drop s).take ((i:Int) - (s:Int)).toNat=_
            rw [show ((i:Int) - (s:Int)).toNat=i - s by omega]
          refine ⟨a7q a4q trivial,⟨big (by omega),aJq a4q ⟨kHq (by rw [List.length_map];omega),?_⟩⟩⟩
          rw [bTq]
          refine ⟨a7q a4q trivial,aJq a4q ⟨kHq (by simp only [List.length_append,List.length_map,List.length_cons,List.length_nil];omega),Wk.of ⟨dn++[ofL ((zl.take i).drop s),ofL [c]],i+1,_,_,rfl,?_,Nat.le_refl _,by omega,?_,by simp only [List.length_append,List.length_cons,List.length_nil];omega⟩⟩⟩
          . rw [bTq,es];simp [ofL]
          . rw [<- hd,if_neg (by intro e0;have:=congrArg List.length e0;rw [hcl,List.length_nil] at this;omega),show (zl.take (i+1)).drop (i+1)=[] from List.drop_eq_nil_of_le (by rw [List.length_take];omega)]
            simp
        . have c2':s=i:=by have:=of_decide_eq_false c2;omega
          subst c2'
          refine ⟨a7q a4q trivial,aJq a4q ⟨kHq (by rw [List.length_map];omega),Wk.of ⟨dn++[ofL [c]],s+1,_,_,rfl,?_,Nat.le_refl _,by omega,?_,by simp only [List.length_append,List.length_cons,List.length_nil];omega⟩⟩⟩
          . rw [bTq];simp [ofL]
          . rw [<- hd,if_pos (List.eq_nil_of_length_eq_zero (by rw [hcl];omega)),show (zl.take (s+1)).drop (s+1)=[] from List.drop_eq_nil_of_le (by rw [List.length_take];omega)]
            simp
      . rw [Bool.false_xor,oBq,decide_eq_false_iff_not,show sgnS.cps.toList=SG from qYq] at c1
        rw [if_neg c1] at hd
        refine Wk.of ⟨dn,s,_,_,rfl,rfl,by omega,by omega,?_,by omega⟩
        rw [<- hd,et,List.drop_append_of_le_length (by rw [List.length_take];omega)]
  . rintro ρ G' ⟨dn,s,o4,o5,rfl,rfl,hs,hil,hd,hn⟩
    have el:(⟨enS z,λ _=>True⟩:DIt).items.length=zl.length:=by show (enS z).length=_;unfold enS;rw [List.length_map,List.length_zipIdx,hzz]
    rw [el] at hs hil hd hn
    have hcl:((zl.take zl.length).drop s).length=zl.length - s:=by rw [List.length_drop,List.length_take];omega
    rw [List.drop_length,pcs] at hd
    refine ⟨big (by omega),⟨λ c2=>?_,λ c2=>?_⟩⟩
    . have c2':s < zl.length:=by have:=of_decide_eq_true c2;omega
      have es:Txt.slice z (some (s:Int)) none=ofL ((zl.take zl.length).drop s):=by
        rw [PyProof.Rows.slice_from_eq (x:=z) (i:=s) (by omega) (by omega) rfl,hzz]
        refine cEq ?_
        rw [cFq,List.take_length]
        show (zl.drop s).take _=_
        rw [List.take_of_length_le]
        rw [List.length_drop];omega
      refine ⟨a7q a4q trivial,⟨big (by omega),aJq a4q ⟨kHq (by rw [List.length_map];omega),?_⟩⟩⟩
      rw [bTq,es]
      rw [if_neg (by intro e0;have:=congrArg List.length e0;rw [hcl,List.length_nil] at this;omega)] at hd
      have:=q a ha
      rw [<- hd,List.map_append] at this
      exact Dr.of this
    . have c2':s=zl.length:=by have:=of_decide_eq_false c2;omega
      rw [if_pos (List.eq_nil_of_length_eq_zero (by rw [hcl];omega)),List.append_nil] at hd
      have:=q a ha
      rw [<- hd] at this
      exact Dr.of this
abbrev f9q:Stmt:=top 28
theorem n0q:FnScope ["piece"] ["piece"] (aAq f9q):=⟨rfl,rfl,rfl,by decide +kernel,rfl,by decide +kernel,by decide +kernel⟩
theorem nSq (B:Blt mg) {tm:Tok} (m_MOST_FIGURES:mg "MOST_FIGURES" = some (.int 12 tm)) (g_iswt:Got P w K mg base 2 "is_whole_text" ["text", "most"] (aWq K gRq)) (F:Fun K "read_piece" "read_piece" f9q f fd):FnOk P w K mg base CX0 3 f fd ["piece"] (aWq K jKq):=by
  refine okD (k:=2) F n0q (λ ds G DQ h=>?_) (λ cdv A outer s H E hr ds G DQ h=>?_)
  . obtain ⟨_,_,rfl,_⟩:=h;rfl
  obtain ⟨p,q0,rfl,hp,q⟩:=h
  refine ⟨_,(a5q (aNq (aEq iJq (a1q 0) a8q (by with_unfolding_all rfl)) (a6q (aFq (a1q 0))) aHq)
      (a5q (aNq (aEq (aIq (aKq hr)) (a1q 0) a8q (aCq _)) (a6q (aFq (bBq (a0q a8q a2q)))) aHq)
      (a5q (aNq (eAq (b2q (aDq g_iswt hr (by omega) rfl (a0q (a1q 0) (a0q (e4q (d:=.int _) (v:=.int _) rfl m_MOST_FIGURES ⟨_,rfl⟩ (λ _=>rfl)) a2q))))) (a6q d5q) aHq)
      (a6q (aFq (bBq (a0q a8q (a0q (bKq lHq rfl B.int PyProof.Rows.boot_int (a0q (a1q 0) a2q)) a2q)))))))),?_⟩
  cases hp with
  | sgn h=>
    rcases h with rfl | rfl | rfl
    . exact ⟨λ _=>Dr.of q,λ c=>absurd c (by decide +kernel)⟩
    . exact ⟨λ _=>Dr.of q,λ c=>absurd c (by decide +kernel)⟩
    . exact ⟨λ _=>Dr.of q,λ c=>absurd c (by decide +kernel)⟩
  | som=>exact ⟨λ c=>absurd c (by decide +kernel),λ _=>⟨λ _=>Dr.of q,λ c=>absurd c (by decide)⟩⟩
  | num n hn=>
    obtain ⟨h1,h2⟩:=kMq hn
    refine ⟨λ c=>?_,λ _=>⟨λ c=>?_,λ _=>⟨c9q n,rfl,by omega,⟨λ c=>?_,λ _=>⟨n,h1,by omega,Dr.of q⟩⟩⟩⟩⟩
    . rw [Bool.false_xor,rKq] at c;cases c
    . exact absurd (eq_of_beq c) (by rw [s_tl];exact q3q (by decide))
    . rw [sNq hn] at c;cases c
abbrev jRq:Stmt:=top 30
theorem sc_wayc:FnScope ["row", "bag", "kinds"] ["row"] (aAq jRq):=⟨rfl,rfl,rfl,by decide +kernel,rfl,by decide +kernel,by decide +kernel⟩
theorem tVq (B:Blt mg) (F:Fun K "way_closed" "way_closed" jRq f fd):FnOk P w K mg base CX0 1 f fd ["row"] (aWq K lXq):=by
  refine okD (k:=0) F sc_wayc (λ ds G DQ h=>?_) (λ cdv A outer s H E hr ds G DQ h=>?_)
  . obtain ⟨_,_,_,_,rfl,_⟩:=h;rfl
  obtain ⟨l,es,k,h40,rfl,hl,q⟩:=h
  refine ⟨_,(a5q (aNq (AW.at (fOq (aEq d1q (a9q aGq rfl B.len PySem.boot_len (a0q (a1q 0) a2q)) a3q (aCq _)) (d8q (aEq (gHq (aKq hr)) (aLq aix (a1q 0) (hMq cHq a3q) (λ _ _=>rfl)) a8q (aCq _))))) (a6q d5q) aHq)
      (a5q (aPq (k:=1) sc_wayc.nd rfl (Or.inl rfl) (cJq asl (a1q 0) dXq (bIq (hMq cHq a3q))))
      (a5q (aPq (k:=2) sc_wayc.nd rfl (Or.inl rfl) (xUq (a1q 1) (bIq a3q) (bIq a3q)))
      (a5q (aNq (aEq (gHq (aKq hr)) (xUq (a1q 1) (bIq a3q) (bIq a3q)) (bSq (aUq pOq (bFq (a0q a8q a2q)) (aUq c5q (a9q aGq rfl B.len PySem.boot_len (a0q (a1q 2) a2q)) a3q))) (aCq _)) (a6q d5q) aHq)
      (a6q (aFq (bBq (a0q a8q (a0q (bKq cKq rfl B.tuple PyProof.Rows.boot_tuple (a0q (a1q 2) a2q)) (a0q (aLq aix (a1q 0) (hMq cHq a3q) (λ _ _=>rfl)) a2q)))))))))),?_⟩
  have hlen:(dTq es++[.str ":", k]).length=(dTq es).length+2:=by simp
  have hb2:=gVq es
  refine a7q hl ⟨λ c=>absurd (of_decide_eq_true c) (by rw [hlen];omega),λ _=>bEq hl (d:=.str ":") (xJq (j:=(dTq es).length) (by decide) (by rw [hlen];omega) (by simp)) ⟨λ c=>absurd c (by decide),λ _=>a7q hl λ p hp=>?_⟩⟩
  have ec:cut (dTq es++[.str ":", k]) none (some (-2))=dTq es:=by
    unfold cut
    rw [show HT.sIx (dTq es++[D.str ":", k]).length 0 none=0 from rfl,show HT.sIx (dTq es++[D.str ":", k]).length (dTq es++[D.str ":", k]).length (some (-2))=(dTq es).length by rw [hlen];unfold HT.sIx;simp only [];rw [if_pos (by omega)];omega,List.drop_zero,Nat.sub_zero]
    exact List.take_left' rfl
  obtain ⟨ev1,ev3⟩:=qMq es
  rw [ec]
  have S1:Sub G (up G p (.lst (dTq es))):=Sub.new (Sub.refl _) hp
  refine ⟨rfl,a7q a4q ⟨0,rfl,λ p2 hp2=>?_⟩⟩
  rw [List.drop_zero,ev1]
  have S2:=Sub.ext' (o:=.lst es) (Sub.refl _) hp2
  refine ⟨rfl,a7q (S2 p _ a4q) ⟨1,rfl,λ p3 hp3 p4 hp4=>?_⟩⟩
  rw [ev3] at hp4 ⊢
  have S3:=Sub.ext' (o:=.lst (List.replicate (es.length - 1) (.str " "))) (Sub.refl _) hp3
  have S4:=Sub.ext' (o:=.lst [.str " "]) (Sub.refl _) hp4
  refine a7q ((S3.trans S4) p2 _ a4q) (a7q a4q ⟨by omega,by omega,by simp,λ p5 hp5=>⟨_,Sub.refl _,?_⟩⟩)
  rw [mYq,show ((es.length:Int) - 1).toNat=es.length - 1 by omega] at *
  have S5:=Sub.ext' (o:=.lst (List.replicate (es.length - 1) (.str " "))) (Sub.refl _) hp5
  obtain ⟨r1,r2⟩:=k9q " " (es.length - 1)
  refine a7q ((S4.trans S5) p3 _ a4q) (a7q a4q ⟨r1,r1,r2,⟨λ c=>?_,λ _=>a7q ((S3.trans (S4.trans S5)) p2 _ a4q) (bEq ((S1.trans (S2.trans (S3.trans (S4.trans S5)))) l _ hl) (d:=k) (xJq (j:=(dTq es).length+1) (by decide) (by rw [hlen];omega) (by simp)) ⟨G,S1.trans (S2.trans (S3.trans (S4.trans S5))),q⟩)⟩⟩)
  rw [kKq] at c;cases c
abbrev hFq:Stmt:=top 31
theorem pYq:FnScope ["row"] ["row"] (aAq hFq):=⟨rfl,rfl,rfl,by decide +kernel,rfl,by decide +kernel,by decide +kernel⟩
theorem pCq (B:Blt mg) (F:Fun K "pair_closed" "pair_closed" hFq f fd):FnOk P w K mg base CX0 1 f fd ["row"] (aWq K jNq):=by
  refine okD (k:=0) F pYq (λ ds G DQ h=>?_) (λ cdv A outer s H E hr ds G DQ h=>?_)
  . obtain ⟨_,_,_,rfl,_⟩:=h;rfl
  obtain ⟨l,row,k,rfl,hl,hc,q⟩:=h
  refine ⟨_,(a5q (aNq (AW.at (d0q (aEq (aIq (aKq hr)) (a9q aGq rfl B.len PySem.boot_len (a0q (a1q 0) a2q)) a3q (aCq _)) (c2q (aEq (d6q (aKq hr)) (aLq aix (a1q 0) a3q (λ _ _=>rfl)) a8q (aCq _))))) (a6q (aFq (bBq (a0q a8q (a0q (aLq aix (a1q 0) a3q (λ _ _=>rfl)) a2q))))) aHq)
      (a5q (aNq (AW.at (d0q (aEq (aIq (aKq hr)) (a9q aGq rfl B.len PySem.boot_len (a0q (a1q 0) a2q)) a3q (aCq _)) (c2q (aEq (d6q (aKq hr)) (aLq aix (a1q 0) a3q (λ _ _=>rfl)) a8q (aCq _))))) (a6q (aFq (bBq (a0q a8q (a0q (aLq aix (a1q 0) a3q (λ _ _=>rfl)) a2q))))) aHq)
      (a5q (aNq (AW.at (d0q (aEq (aIq (aKq hr)) (a9q aGq rfl B.len PySem.boot_len (a0q (a1q 0) a2q)) a3q (aCq _)) (c2q (aEq (d6q (aKq hr)) (aLq aix (a1q 0) a3q (λ _ _=>rfl)) a8q (aCq _))))) (a6q (aFq (bBq (a0q a8q (a0q (aLq aix (a1q 0) a3q (λ _ _=>rfl)) (a0q (aLq aix (a1q 0) a3q (λ _ _=>rfl)) a2q)))))) aHq)
      (a6q d5q)))),?_⟩
  cases hc with
  | left a=>exact a7q hl ⟨λ _=>bEq hl (d:=.str ",") rfl ⟨λ _=>bEq hl (d:=a) rfl (Dr.of q),λ c=>absurd c (by decide)⟩,λ c=>qWq c⟩
  | right xs=>exact a7q hl ⟨λ _=>bEq hl (d:=.tup xs) rfl ⟨λ c=>lCq c,λ _=>a7q hl ⟨λ _=>bEq hl (d:=.str ",") rfl ⟨λ _=>bEq hl (d:=.tup xs) rfl (Dr.of q),λ c=>absurd c (by decide)⟩,λ c=>qWq c⟩⟩,λ c=>qWq c⟩
  | both a b=>exact a7q hl ⟨λ c=>lCq c,λ _=>⟨λ c=>lCq c,λ _=>a7q hl ⟨λ c=>lCq c,λ _=>⟨λ c=>lCq c,λ _=>a7q hl ⟨λ _=>bEq hl (d:=.str ",") rfl ⟨λ _=>bEq hl (d:=a) rfl (bEq hl (d:=b) rfl (Dr.of q)),λ c=>absurd c (by decide)⟩,λ c=>qWq c⟩⟩⟩⟩⟩
abbrev nLq:Stmt:=top 29
theorem xNq:FnScope ["frame", "sign"] ["frame", "sign"] (aAq nLq):=⟨rfl,rfl,rfl,by decide +kernel,rfl,by decide +kernel,by decide +kernel⟩
theorem w7q (g_wayc:Got P w K mg base 1 "way_closed" ["row"] (aWq K lXq)) (g_pairc:Got P w K mg base 1 "pair_closed" ["row"] (aWq K jNq)) (F:Fun K "kind_closed" "kind_closed" nLq f fd):FnOk P w K mg base CX0 2 f fd ["frame", "sign"] (aWq K sDq):=by
  refine okD (k:=1) F xNq (λ ds G DQ h=>?_) (λ cdv A outer s H E hr ds G DQ h=>?_)
  . obtain ⟨_,_,_,_,rfl,_⟩:=h;rfl
  obtain ⟨l,p,c,k,rfl,hl,hc,q⟩:=h
  refine ⟨_,(a5q (aNq (AW.at (d0q (aEq (aIq (aKq hr)) (aLq aix (a1q 0) a3q (λ _ _=>rfl)) a8q (aCq _)) (c2q (aEq (aIq (aKq hr)) (a1q 1) a8q (aCq _))))) (a6q (aFq (aDq g_wayc hr (by omega) rfl (a0q (cJq asl (a1q 0) (bIq a3q) dXq) a2q)))) aHq)
      (a5q (aNq (AW.at (d0q (aEq (aIq (aKq hr)) (aLq aix (a1q 0) a3q (λ _ _=>rfl)) a8q (aCq _)) (c2q (aEq (aIq (aKq hr)) (a1q 1) a8q (aCq _))))) (a6q (aFq (aDq g_pairc hr (by omega) rfl (a0q (cJq asl (a1q 0) (bIq a3q) dXq) a2q)))) aHq)
      (a6q d5q))),?_⟩
  cases hc with
  | way ds k hd=>
    refine bEq hl (d:=.str "[") (cPq (j:=0) rfl) ⟨λ _=>⟨λ _=>a7q hl λ p hp=>⟨p,ds,k,hd,rfl,?_,⟨G,Sub.new (Sub.refl _) hp,q⟩⟩,λ c=>absurd c (by decide)⟩,λ c=>absurd c (by decide)⟩
    rw [a4q,v1q]
  | @pair row k hr=>
    refine bEq hl (d:=.str "(") (cPq (j:=0) rfl) ⟨λ c=>absurd c (by decide),λ _=>⟨λ c=>absurd c (by decide),λ _=>bEq hl (d:=.str "(") (cPq (j:=0) rfl) ⟨λ _=>⟨λ _=>a7q hl λ p hp=>⟨p,row,k,rfl,?_,hr,⟨G,Sub.new (Sub.refl _) hp,q⟩⟩,λ c=>absurd c (by decide)⟩,λ c=>absurd c (by decide)⟩⟩⟩
    rw [a4q,v1q]
abbrev j4q:Stmt:=top 27
theorem sc_read:FnScope ["text", "frames", "piece", "closed"] ["text"] (aAq j4q):=⟨rfl,rfl,rfl,by decide +kernel,rfl,by decide +kernel,by decide +kernel⟩
theorem sLq (B:Blt mg) {ts:Tok} (m_SIGNS:mg "SIGNS" = some (.str sgnS ts)) (g_pieces:Got P w K mg base 1 "pieces_of" ["text", "signs"] (aWq K gMq)) (g_kcl:Got P w K mg base 2 "kind_closed" ["frame", "sign"] (aWq K sDq)) (g_rpiece:Got P w K mg base 3 "read_piece" ["piece"] (aWq K jKq)) (g_iskind:Got P w K mg base 3 "is_kind" ["thing"] (aWq K gQq)) (F:Fun K "read_kind" "read_kind" j4q f fd):FnOk P w K mg base CX0 4 f fd ["text"] (aWq K jEq):=by
  refine okD (k:=3) F sc_read (λ ds G DQ h=>?_) (λ cdv A outer s H E hr ds G DQ h=>?_)
  . obtain ⟨_,_,rfl,_⟩:=h;rfl
  obtain ⟨d,x,rfl,hx,hk,hb,q⟩:=h
  refine ⟨_,(a5q (aPq (k:=1) sc_read.nd rfl (Or.inl rfl) (bFq (a0q (bFq a2q) a2q)))
      (a5q (e8q PassesOwn.never rfl (g0q (aDq g_pieces hr (by omega) rfl (a0q (a1q 0) (a0q (e4q (d:=.str _) (v:=.str _) rfl m_SIGNS ⟨_,rfl⟩ (λ _=>rfl)) a2q)))) (b8q (k:=2) sc_read.nd rfl (Or.inl rfl)) (a6q (aNq (AW.at (fOq (aEq (aIq (aKq hr)) (a1q 2) a8q (aCq _)) (d8q (aEq (aIq (aKq hr)) (a1q 2) a8q (aCq _))))) (a6q (b5q (bVq PySem.F.plainAttrs_list PySem.F.slot_list_append PySem.F.type_list_append aSq (a1q 1) (a0q (bFq (a0q (a1q 2) a2q)) a2q)))) (a6q (aNq (AW.at (fOq (aEq (aIq (aKq hr)) (a1q 2) a8q (aCq _)) (d8q (aEq (aIq (aKq hr)) (a1q 2) a8q (aCq _))))) (a5q (aPq (k:=3) sc_read.nd rfl (Or.inl rfl) (fQq PySem.F.plainAttrs_list PySem.F.slot_list_pop PySem.F.type_list_pop h1q (a1q 1)))
      (a5q (aNq (aEq (aIq (aKq hr)) (a9q aGq rfl B.len PySem.boot_len (a0q (a1q 1) a2q)) a3q (aCq _)) (a6q d5q) aHq)
      (a6q (b5q (bVq PySem.F.plainAttrs_list PySem.F.slot_list_append PySem.F.type_list_append aSq (aLq aix (a1q 1) (hMq cHq a3q) (λ _ _=>rfl)) (a0q (aDq g_kcl hr (by omega) rfl (a0q (a1q 3) (a0q (a1q 2) a2q))) a2q)))))) (a6q (b5q (bVq PySem.F.plainAttrs_list PySem.F.slot_list_append PySem.F.type_list_append aSq (aLq aix (a1q 1) (hMq cHq a3q) (λ _ _=>rfl)) (a0q (aDq g_rpiece hr (by omega) rfl (a0q (a1q 2) a2q)) a2q)))))))))
      (a5q (aNq (AW.at (fOq (aEq (gHq (aKq hr)) (a9q aGq rfl B.len PySem.boot_len (a0q (a1q 1) a2q)) a3q (aCq _)) (fOq (aEq (gHq (aKq hr)) (a9q aGq rfl B.len PySem.boot_len (a0q (aLq aix (a1q 1) a3q (λ _ _=>rfl)) a2q)) a3q (aCq _)) (d8q (eAq (b2q (aDq g_iskind hr (by omega) rfl (a0q (aLq aix (aLq aix (a1q 1) a3q (λ _ _=>rfl)) a3q (λ _ _=>rfl)) a2q)))))))) (a6q d5q) aHq)
      (a6q (aFq (aLq aix (aLq aix (a1q 1) a3q (λ _ _=>rfl)) a3q (λ _ _=>rfl))))))),?_⟩
  have hxl:=hx.len
  have hcl:=hJq hx.few
  have hsz:=hb.sz
  intro p0 hp0 p1 hp1
  obtain ⟨-,hp10,hne⟩:=gFq (o:=.lst []) hp1
  refine ⟨txt x,rfl,?_,λ l hl=>?_⟩
  . show (cat x).length<=_
    omega
  rw [show (txt x).cps.toList=cat x from rfl,hx.pieces]
  have h2:up G p0 (.lst []) l=none/\l≠p1:=by
    have n:l≠p1:=by rintro rfl;rw [a4q] at hl;cases hl
    rw [aMq n] at hl;exact ⟨hl,n⟩
  have h3:G l=none/\l≠p0:=by
    have n:l≠p0:=by rintro rfl;have:=h2.1;rw [a4q] at this;cases this
    have:=h2.1;rw [aMq n] at this;exact ⟨this,n⟩
  refine j3q a4q ⟨λ i ρ G'=>∃ (fs:List (Addr × List D)) (o2 o3:Option D),ρ=[some (.str (txt x)),some (.ref p1),o2,o3]/\Frs G' p1 fs/\Sub (up G l (.lst (x.map D.str))) G'/\(∀ p∈fs,up G l (.lst (x.map D.str)) p.1=none)/\Rn (fs.map (·.2)) (x.drop i) [[d]]/\fs.length<=i+1/\∀ p∈fs,p.2.length<=i+1,⟨[(p0,[])],_,_,rfl,?_,?_,?_,?_,Nat.le_refl _,by simp⟩,?_,?_,?_⟩
  . refine ⟨by rw [aMq h2.2.symm,a4q];rfl,λ p hp=>?_,by simp,λ p hp=>?_⟩
    . simp at hp;subst hp
      rw [aMq h3.2.symm,aMq hne.symm];exact a4q
    . simp at hp;subst hp;exact hne.symm
  . exact Sub.put (Sub.new (Sub.new (Sub.refl _) hp0) hp10)
  . intro p hp
    simp at hp;subst hp
    rw [aMq h3.2.symm];exact hp0
  . exact hx.rn [] []
  . rintro i ρ G' _ ⟨fs,o2,o3,rfl,hF,hS,_⟩
    exact hS l _ a4q
  . rintro i e ρ G' he ⟨fs,o2,o3,rfl,hF,hS,hfs,hR,hl1,hl2⟩
    have he':(x.map D.str)[i]?=some e:=he
    rw [List.getElem?_map] at he'
    cases hc:x[i]? with
    | none=>rw [hc] at he';cases he'
    | some p=>
      rw [hc] at he';cases he'
      have hlt:=(List.getElem?_eq_some_iff.mp hc).1
      rw [List.drop_eq_getElem_cons hlt,(List.getElem?_eq_some_iff.mp hc).2] at hR
      have hp1x:up G l (.lst (x.map D.str)) p1=none:=by rw [aMq h2.2.symm];exact hp10
      cases hR with
      | cons hst hR=>
        generalize hs0:fs.map (·.2)=st at hst
        cases hst with
        | opn _ hp=>
          rcases hp with rfl | rfl
          . refine ⟨λ _=>⟨λ _=>?_,nofun⟩,λ c=>absurd c (by decide)⟩
            refine ⟨a7q hF.top trivial,λ r hr=>?_⟩
            have n1:r≠p1:=by rintro rfl;rw [hF.top] at hr;cases hr
            have hr0:=hS.none hr
            refine aJq (by rw [aMq n1.symm];exact hF.top) ⟨aXq (by simp only [List.length_map,List.length_reverse];omega),Wk.of ⟨(r,[.str "["])::fs,_,_,rfl,hF.push hr,Sub.new (Sub.new hS hr0) hp1x,λ p hp=>?_,?_,by simp only [List.length_cons];omega,λ p hp=>?_⟩⟩
            . rcases List.mem_cons.mp hp with rfl | hp
              . exact hr0
              . exact hfs p hp
            . rw [List.map_cons,hs0];exact hR
            . rcases List.mem_cons.mp hp with rfl | hp
              . simp
              . have:=hl2 p hp;omega
          . refine ⟨λ c=>absurd c (by decide),λ _=>⟨λ _=>?_,λ c=>absurd c (by decide)⟩⟩
            refine ⟨a7q hF.top trivial,λ r hr=>?_⟩
            have n1:r≠p1:=by rintro rfl;rw [hF.top] at hr;cases hr
            have hr0:=hS.none hr
            refine aJq (by rw [aMq n1.symm];exact hF.top) ⟨aXq (by simp only [List.length_map,List.length_reverse];omega),Wk.of ⟨(r,[.str "("])::fs,_,_,rfl,hF.push hr,Sub.new (Sub.new hS hr0) hp1x,λ p hp=>?_,?_,by simp only [List.length_cons];omega,λ p hp=>?_⟩⟩
            . rcases List.mem_cons.mp hp with rfl | hp
              . exact hr0
              . exact hfs p hp
            . rw [List.map_cons,hs0];exact hR
            . rcases List.mem_cons.mp hp with rfl | hp
              . simp
              . have:=hl2 p hp;omega
        | @cls c p k t st hclo=>
          obtain ⟨⟨a1,c⟩,⟨a2,t⟩,gs,rfl⟩:∃ u v gs,fs=u::v::gs:=by
            cases fs with
            | nil=>cases hs0
            | cons u r=>
              cases r with
              | nil=>simp at hs0
              | cons v gs=>exact ⟨u,v,gs,rfl⟩
          simp only [List.map_cons,List.cons.injEq] at hs0
          obtain ⟨rfl,rfl,rfl⟩:=hs0
          have hp:p = "]"\/p = ")":=by
            cases hclo
            . exact .inl rfl
            . exact .inr rfl
          have F1:=hF.pop
          rcases hp with rfl | rfl
          . refine ⟨λ c=>absurd c (by decide),λ _=>⟨λ c=>absurd c (by decide),λ _=>⟨λ _=>⟨λ _=>?_,nofun⟩,λ c=>absurd c (by decide)⟩⟩⟩
            refine ⟨a7q hF.top trivial,aJq hF.top ⟨(((a2,t)::gs).map (·.1)).reverse.map D.ref,.ref a1,by simp,?_⟩⟩
            refine a7q F1.top ⟨λ c=>?_,λ _=>bEq F1.top (d:=.ref a2) (xJq (j:=gs.length) (by decide) (by simp only [List.length_map,List.length_reverse,List.length_cons];omega) (by simp)) ⟨a7q (F1.at_ _ (List.mem_cons_self ..)) trivial,⟨a1,_,c,k,rfl,by rw [aMq (hF.ne _ (List.mem_cons_self ..))];exact hF.at_ _ (List.mem_cons_self ..),hclo,aJq (F1.at_ _ (List.mem_cons_self ..)) ⟨aXq (by have:=hl2 (a2,t) (by simp);show t.length<=_;simp only at this;omega),Wk.of ⟨(a2,t++[k])::gs,_,_,rfl,F1.set,Sub.new (Sub.new hS hp1x) (hfs (a2,t) (by simp)),λ p hp=>?_,hR,by simp only [List.length_cons] at *;omega,λ p hp=>?_⟩⟩⟩⟩⟩
            . have c':=eq_of_beq (show (_==_)=true from c)
              simp at c'
              omega
            . rcases List.mem_cons.mp hp with rfl | hp
              . exact hfs (a2,t) (by simp)
              . exact hfs p (by simp [hp])
            . rcases List.mem_cons.mp hp with rfl | hp
              . have:=hl2 (a2,t) (by simp);simp only [List.length_append,List.length_cons,List.length_nil] at *;omega
              . have:=hl2 p (by simp [hp]);omega
          . refine ⟨λ c=>absurd c (by decide),λ _=>⟨λ c=>absurd c (by decide),λ _=>⟨λ c=>absurd c (by decide),λ _=>⟨λ _=>?_,λ c=>absurd c (by decide)⟩⟩⟩⟩
            refine ⟨a7q hF.top trivial,aJq hF.top ⟨(((a2,t)::gs).map (·.1)).reverse.map D.ref,.ref a1,by simp,?_⟩⟩
            refine a7q F1.top ⟨λ c=>?_,λ _=>bEq F1.top (d:=.ref a2) (xJq (j:=gs.length) (by decide) (by simp only [List.length_map,List.length_reverse,List.length_cons];omega) (by simp)) ⟨a7q (F1.at_ _ (List.mem_cons_self ..)) trivial,⟨a1,_,c,k,rfl,by rw [aMq (hF.ne _ (List.mem_cons_self ..))];exact hF.at_ _ (List.mem_cons_self ..),hclo,aJq (F1.at_ _ (List.mem_cons_self ..)) ⟨aXq (by have:=hl2 (a2,t) (by simp);show t.length<=_;simp only at this;omega),Wk.of ⟨(a2,t++[k])::gs,_,_,rfl,F1.set,Sub.new (Sub.new hS hp1x) (hfs (a2,t) (by simp)),λ p hp=>?_,hR,by simp only [List.length_cons] at *;omega,λ p hp=>?_⟩⟩⟩⟩⟩
            . have c':=eq_of_beq (show (_==_)=true from c)
              simp at c'
              omega
            . rcases List.mem_cons.mp hp with rfl | hp
              . exact hfs (a2,t) (by simp)
              . exact hfs p (by simp [hp])
            . rcases List.mem_cons.mp hp with rfl | hp
              . have:=hl2 (a2,t) (by simp);simp only [List.length_append,List.length_cons,List.length_nil] at *;omega
              . have:=hl2 p (by simp [hp]);omega
        | @rd t st p q hrp=>
          obtain ⟨c1,c2,c3,c4⟩:=hrp.no
          obtain ⟨⟨a,t⟩,gs,rfl⟩:∃ u gs,fs=u::gs:=by
            cases fs with
            | nil=>cases hs0
            | cons u r=>exact ⟨u,r,rfl⟩
          simp only [List.map_cons,List.cons.injEq] at hs0
          obtain ⟨rfl,rfl⟩:=hs0
          refine ⟨λ c=>lCq (c1.symm.trans c),λ _=>⟨λ c=>lCq (c2.symm.trans c),λ _=>⟨λ c=>lCq (c3.symm.trans c),λ _=>⟨λ c=>lCq (c4.symm.trans c),λ _=>?_⟩⟩⟩⟩
          refine bEq hF.top (d:=.ref a) (xJq (j:=gs.length) (by decide) (by simp only [List.length_map,List.length_reverse,List.length_cons];omega) (by simp)) ⟨a7q (hF.at_ _ (List.mem_cons_self ..)) trivial,⟨p,q,rfl,hrp,aJq (hF.at_ _ (List.mem_cons_self ..)) ⟨aXq (by have:=hl2 (a,t) (by simp);show t.length<=_;simp only at this;omega),Wk.of ⟨(a,t++[q])::gs,_,_,rfl,hF.set,Sub.new hS (hfs (a,t) (by simp)),λ p hp=>?_,hR,by simp only [List.length_cons] at *;omega,λ p hp=>?_⟩⟩⟩⟩
          . rcases List.mem_cons.mp hp with rfl | hp
            . exact hfs (a,t) (by simp)
            . exact hfs p (by simp [hp])
          . rcases List.mem_cons.mp hp with rfl | hp
            . have:=hl2 (a,t) (by simp);simp only [List.length_append,List.length_cons,List.length_nil] at *;omega
            . have:=hl2 p (by simp [hp]);omega
  . rintro ρ G' ⟨fs,o2,o3,rfl,hF,hS,hfs,hR,hl1,hl2⟩
    have el:(⟨x.map D.str,λ G=>G l=some (.lst (x.map D.str))⟩:DIt).items.length=x.length:=by show (x.map D.str).length=_;rw [List.length_map]
    rw [el,List.drop_length] at hR
    generalize hs0:fs.map (·.2)=st at hR
    cases hR
    obtain ⟨⟨a,t'⟩,rfl⟩:∃ u,fs=[u]:=by
      cases fs with
      | nil=>cases hs0
      | cons u r=>
        cases r with
        | nil=>exact ⟨u,rfl⟩
        | cons v gs=>simp at hs0
    simp only [List.map_cons,List.cons.injEq,List.map_nil,and_true] at hs0
    subst hs0
    have e1:=hF.at_ _ (List.mem_cons_self ..)
    refine a7q hF.top ⟨λ c=>lCq c,λ _=>bEq hF.top (d:=.ref a) rfl (a7q e1 ⟨λ c=>lCq c,λ _=>bEq hF.top (d:=.ref a) rfl (bEq e1 (d:=d) rfl ⟨d,rfl,hk.isK.th,hb.mono (by decide) (by decide) (by decide),λ b hbb=>?_⟩)⟩)⟩
    have eb:b=true:=hbb.mpr hk
    subst eb
    refine ⟨nofun,λ _=>bEq hF.top (d:=.ref a) rfl (bEq e1 (d:=d) rfl ⟨G,Sub.trans (Sub.new (Sub.refl _) h3.1) hS,q⟩)⟩
abbrev gZq:Stmt:=top 40
theorem sc_shown:FnScope ["_law_kind_here", "_law_word", "_law_one"] ["_law_kind_here"] (aAq gZq):=⟨rfl,rfl,rfl,by decide +kernel,rfl,by decide +kernel,by decide +kernel⟩
theorem pPq:FnOk P w K mg base CX0 1 f fd ["_law_kind_here"] (aWq K (ePq 0)):=yFq λ ds G DQ h=>by obtain ⟨_,_,_,_,h,_⟩:=h;omega
theorem pTq {n:Nat} (B:Blt mg) (g_shown:Got P w K mg base (n+1) "_law_shown" ["_law_kind_here"] (aWq K (ePq n))) (F:Fun K "_law_shown" "_law_shown" gZq f fd):FnOk P w K mg base CX0 (n+2) f fd ["_law_kind_here"] (aWq K (ePq (n+1))):=by
  refine okD (k:=n+1) F sc_shown (λ ds G DQ h=>?_) (λ cdv A outer s H E hr ds G DQ h=>?_)
  . obtain ⟨_,_,rfl,_⟩:=h;rfl
  obtain ⟨d,x,rfl,hx,hd,hs,q⟩:=h
  refine ⟨_,(a5q (aPq (k:=1) sc_shown.nd rfl (Or.inl rfl) (aLq aix (a1q 0) a3q (λ _ _=>rfl)))
      (a5q (aNq (aEq (aIq (aKq hr)) (a1q 1) a8q (aCq _)) (a6q (aFq (bKq i9q rfl B.str PyProof.Rows.boot_str (a0q (aLq aix (a1q 0) a3q (λ _ _=>rfl)) a2q)))) aHq)
      (a5q (aNq (aEq (aIq (aKq hr)) (a1q 1) a8q (aCq _)) (a6q (aFq a8q)) aHq)
      (a5q (aNq (aEq (aIq (aKq hr)) (a1q 1) a8q (aCq _)) (a6q (aFq (aUq aYq (aUq aYq (aUq aYq (aUq aYq a8q (bVq PySem.F.plainAttrs_str PySem.F.slot_str_join PySem.F.type_str_join kJq a8q (a0q (gSq rfl (CompOk.of (N':=["_law_one"]) (nt:=1) (cap:=[]) rfl (by kernel_rfl)) (bDq (k:=0) (by decide)) (g0q (aLq aix (a1q 0) a3q (λ _ _=>rfl))) (λ _ _ _ _=>(b8q (k:=0) (show List.Nodup (["_law_one"]:List Str) by decide +kernel) rfl (Or.inl rfl))) (λ _ _ _ _=>(aDq g_shown hr (by omega) rfl (a0q (a1q 0) a2q)))) a2q))) a8q) (aDq g_shown hr (by omega) rfl (a0q (aLq aix (a1q 0) a3q (λ _ _=>rfl)) a2q))) a8q))) aHq)
      (a5q (aPq (k:=2) sc_shown.nd rfl (Or.inl rfl) (aDq g_shown hr (by omega) rfl (a0q (aLq aix (a1q 0) a3q (λ _ _=>rfl)) a2q)))
      (a5q (aNq (aEq (aIq (aKq hr)) (a1q 1) a8q (aCq _)) (a6q (aFq (aUq aYq (aUq aYq (aUq aYq (aUq aYq a8q (a1q 2)) a8q) (aDq g_shown hr (by omega) rfl (a0q (aLq aix (a1q 0) a3q (λ _ _=>rfl)) a2q))) a8q))) aHq)
      (a6q (aFq (c7q (a0q (aUq aYq (aUq aYq a8q (a1q 2)) a8q) (a0q (aUq aYq (aUq aYq a8q (a1q 2)) a8q) a2q)) (bKq mPq rfl B.int PyProof.Rows.boot_int (a0q (c0q (aIq (aKq hr)) (a1q 1) a8q (aCq _)) a2q)) (λ _ _=>rfl)))))))))),?_⟩
  have hxt:=hx.txt_len hs
  cases hx with
  | is m hm=>rw [oDq] at q;exact ⟨λ _=>⟨hXq hm,Dr.of q⟩,λ c=>absurd c (by decide)⟩
  | some=>rw [oDq] at q;exact ⟨λ c=>absurd c (by decide),λ _=>⟨λ _=>Dr.of q,λ c=>absurd c (by decide)⟩⟩
  | @left a x h0=>
    have l0:=h0.txt_len (by simp only [tsz,b9q] at hs;omega)
    refine ⟨λ c=>absurd c (by decide),λ _=>⟨λ c=>absurd c (by decide),λ _=>⟨λ c=>absurd c (by decide),λ _=>⟨a,x,rfl,h0,(by simp only [D.dp,bNq] at hd;omega),(by simp only [tsz,b9q] at hs;omega),⟨λ c=>absurd c (by decide),λ _=>⟨u0q (by decide) l0,?_⟩⟩⟩⟩⟩⟩
    have l1:=cXq (z:=("(" : Str)) (by decide) l0
    have l2:=cXq (z:=("(," : Str)) (by decide) l0
    refine ⟨l7q (by decide) l1,u0q (by decide) l0,l7q (by decide) l2,at2 (by decide) (by decide) (λ _=>Dr.of ?_) (λ c=>absurd c (by decide))⟩
    rw [show (("(" : Str)++txt x++(",)" : Str))=txt ("("::(x++[(",":Str),(")":Str)])) from cEq (by simp [cUq,cFq,cat,b1q,s_cp])]
    exact q
  | @right a x h0=>
    have l0:=h0.txt_len (by simp only [tsz,b9q] at hs;omega)
    refine ⟨λ c=>absurd c (by decide),λ _=>⟨λ c=>absurd c (by decide),λ _=>⟨λ c=>absurd c (by decide),λ _=>⟨a,x,rfl,h0,(by simp only [D.dp,bNq] at hd;omega),(by simp only [tsz,b9q] at hs;omega),⟨λ c=>absurd c (by decide),λ _=>⟨u0q (by decide) l0,?_⟩⟩⟩⟩⟩⟩
    have l1:=cXq (z:=("(" : Str)) (by decide) l0
    have l2:=cXq (z:=("(," : Str)) (by decide) l0
    refine ⟨l7q (by decide) l1,u0q (by decide) l0,l7q (by decide) l2,at2 (by decide) (by decide) (λ c=>absurd c (by decide)) (λ _=>Dr.of ?_)⟩
    rw [show (("(," : Str)++txt x++(")" : Str))=txt ("("::","::(x++[(")":Str)])) from cEq (by simp [cUq,cFq,cat,b1q,s_pc])]
    exact q
  | @both a b x y h1 h2=>
    have l0:=h1.txt_len (by simp only [tsz,b9q] at hs;omega)
    have l0':=h2.txt_len (by simp only [tsz,b9q] at hs;omega)
    have l1:=cXq (z:=("(" : Str)) (by decide) l0
    have l2:(("(" : Str)++txt x++("," : Str)).length<=240004:=by rw [eTq,l_cm];omega
    refine ⟨λ c=>absurd c (by decide),λ _=>⟨λ c=>absurd c (by decide),λ _=>⟨λ c=>absurd c (by decide),λ _=>⟨a,x,rfl,h1,(by simp only [D.dp,bNq] at hd;omega),(by simp only [tsz,b9q] at hs;omega),⟨λ _=>⟨u0q (by decide) l0,l7q (by decide) l1,b,y,rfl,h2,(by simp only [D.dp,bNq] at hd;omega),(by simp only [tsz,b9q] at hs;omega),big (by omega),big ?_,Dr.of ?_⟩,λ c=>absurd c (by decide)⟩⟩⟩⟩⟩
    . rw [eTq,l_rp];omega
    . rw [show (("(" : Str)++txt x++("," : Str)++txt y++(")" : Str))=txt ("("::(x++("," : Str)::(y++[(")":Str)]))) from cEq (by simp [cUq,cFq,cat,b1q])]
      exact q
  | @way ps k y h1 h2 h40=>
    have l0:=h2.txt_len (by simp only [tsz,b9q] at hs;omega)
    have hsum:=hVq (ps.map (·.2))
    have hil:(cat (bGq (" " : Str) (ps.map (·.2)))).length<=240000:=by
      have:(cat ("["::(bGq (" " : Str) (ps.map (·.2))++(":" : Str)::(y++[("]":Str)])))).length<=240000:=hxt
      simp only [cat,b1q,List.length_append] at this
      omega
    refine ⟨λ c=>absurd c (by decide),λ _=>⟨λ c=>absurd c (by decide),λ _=>⟨λ _=>⟨trivial,dLq ps (·.1) (λ p=>.str (txt p.2)) rfl (aXq (by omega)) trivial (λ p hp R hR=>⟨p.1,p.2,rfl,h1 p hp,?_,?_,hR⟩) (λ l hl=>a7q a4q ⟨(ps.map (·.2)).map txt,by simp,by decide,?_,?_⟩)⟩,λ c=>absurd c (by decide)⟩⟩⟩
    . have:=eHq (List.mem_map_of_mem (f:=(·.1)) hp)
      simp only [D.dp,bNq] at hd;omega
    . have:=dDq (List.mem_map_of_mem (f:=(·.1)) hp)
      simp only [tsz,b9q] at hs;omega
    . rw [List.length_map,List.length_map,List.map_map]
      show ((ps.map (·.2)).map λ x=>(cat x).length).sum+_<=_
      omega
    . rw [rJq]
      have l1:(txt (bGq (" " : Str) (ps.map (·.2)))).length<=240000:=hil
      have l2:=cXq (z:=("[" : Str)) (by decide) l1
      have l3:(("[" : Str)++txt (bGq (" " : Str) (ps.map (·.2)))++(":" : Str)).length<=240004:=by rw [eTq,l_cl];omega
      refine ⟨u0q (by decide) l1,l7q (by decide) l2,k,y,rfl,h2,(by simp only [D.dp,bNq] at hd;omega),(by simp only [tsz,b9q] at hs;omega),big (by omega),big ?_,⟨G,Sub.new (Sub.refl _) hl,?_⟩⟩
      . rw [eTq,l_rb];omega
      . rw [show (("[" : Str)++txt (bGq (" " : Str) (ps.map (·.2)))++(":" : Str)++txt y++("]" : Str))=txt ("["::(bGq (" " : Str) (ps.map (·.2))++(":" : Str)::(y++[("]":Str)]))) from cEq (by simp [cUq,cFq,cat,b1q])]
        exact q
abbrev h0q:Stmt:=top 41
theorem pRq:FnScope ["_law_found", "_law_due"] ["_law_found", "_law_due"] (aAq h0q):=⟨rfl,rfl,rfl,by decide +kernel,rfl,by decide +kernel,by decide +kernel⟩
theorem pFq:FnOk P w K mg base CX0 1 f fd ["_law_found", "_law_due"] (aWq K (nMq 0)):=yFq λ ds G DQ h=>by obtain ⟨_,_,_,h,_⟩:=h;omega
theorem pQq {n:Nat} (B:Blt mg) (g_alike:Got P w K mg base (n+1) "_law_alike" ["_law_found", "_law_due"] (aWq K (nMq n))) (F:Fun K "_law_alike" "_law_alike" h0q f fd):FnOk P w K mg base CX0 (n+2) f fd ["_law_found", "_law_due"] (aWq K (nMq (n+1))):=by
  refine okD (k:=n+1) F pRq (λ ds G DQ h=>?_) (λ cdv A outer s H E hr ds G DQ h=>?_)
  . obtain ⟨_,rfl,_⟩:=h;rfl
  obtain ⟨d,rfl,ha,hd,hw,q⟩:=h
  refine ⟨_,(a5q (aNq (b2q (a9q b0q rfl B.isinstance PyProof.Rows.boot_isinstance (a0q (a1q 1) (a0q (bHq rfl B.tuple PyProof.Rows.boot_tuple) a2q)))) (a5q (aNq (AW.at (fOq (eAq (b2q (a9q b0q rfl B.isinstance PyProof.Rows.boot_isinstance (a0q (a1q 0) (a0q (bHq rfl B.tuple PyProof.Rows.boot_tuple) a2q))))) (d8q (aEq (gHq (aKq hr)) (a9q aGq rfl B.len PySem.boot_len (a0q (a1q 0) a2q)) (a9q aGq rfl B.len PySem.boot_len (a0q (a1q 1) a2q)) (aCq _))))) (a6q (aFq jMq)) aHq)
      (a6q (aFq (bSq (a9q (eVq rfl) rfl B.all PyProof.Rows.boot_all (a0q (gSq rfl (CompOk.of (N':=["_law_one", "_law_other"]) (nt:=2) (cap:=[]) rfl (by kernel_rfl)) (m6q (f4q h6q (nEq h6q jXq) (bDq (k:=0) (by decide)) (f4q h6q jXq (bDq (k:=1) (by decide)) lJq))) (xWq rfl B.zip (a0q (a1q 0) (a0q (a1q 1) a2q))) (λ _ _ _ _=>(nYq (n:=2) rfl (cWq (b8q (k:=0) (show List.Nodup (["_law_one", "_law_other"]:List Str) by decide +kernel) rfl (Or.inl rfl)) (cWq (b8q (k:=1) (show List.Nodup (["_law_one", "_law_other"]:List Str) by decide +kernel) rfl (Or.inl rfl)) iUq)))) (λ _ _ _ _=>(aDq g_alike hr (by omega) rfl (a0q (a1q 0) (a0q (a1q 1) a2q))))) a2q)))))) aHq)
      (a5q (aNq (b2q (a9q b0q rfl B.isinstance PyProof.Rows.boot_isinstance (a0q (a1q 1) (a0q (bHq rfl B.str PyProof.Rows.boot_str) a2q)))) (a6q (aFq (cOq (a9q b0q rfl B.isinstance PyProof.Rows.boot_isinstance (a0q (a1q 0) (a0q (bHq rfl B.str PyProof.Rows.boot_str) a2q))) (dJq (c0q (aIq (aKq hr)) (a1q 0) (a1q 1) (aCq _)))))) aHq)
      (a6q (aFq (cOq (a9q b0q rfl B.isinstance PyProof.Rows.boot_isinstance (a0q (a1q 0) (a0q (bHq rfl B.int PyProof.Rows.boot_int) a2q))) (cOq (nGq (a9q b0q rfl B.isinstance PyProof.Rows.boot_isinstance (a0q (a1q 0) (a0q (bHq rfl B.bool PyProof.Rows.boot_bool) a2q)))) (dJq (c0q (aIq (aKq hr)) (a1q 0) (a1q 1) (aCq _))))))))),?_⟩
  cases ha with
  | int m=>exact ⟨false,rfl,⟨nofun,λ _=>⟨false,rfl,⟨nofun,λ _=>⟨true,rfl,⟨λ _=>⟨false,rfl,⟨λ _=>Dr.of (by rw [show id (m==m)=true from beq_self_eq_true m];exact q),nofun⟩⟩,nofun⟩⟩⟩⟩⟩⟩
  | str z=>exact ⟨false,rfl,⟨nofun,λ _=>⟨true,rfl,⟨λ _=>⟨true,rfl,⟨λ _=>Dr.of (by rw [show id (z==z)=true from beq_self_eq_true z];exact q),nofun⟩⟩,nofun⟩⟩⟩⟩
  | @tup es hes=>
    obtain ⟨hw1,hw2⟩:=bLq hw
    refine ⟨true,rfl,⟨λ _=>⟨true,rfl,⟨nofun,λ _=>⟨λ c=>by simp at c,λ _=>⟨Nat.le_refl _,dLq es (λ d=>.tup [d,d]) (λ _=>.bl true) ?_ (aXq (by omega)) trivial (λ x hx R hR=>⟨x,rfl,hes x hx,?_,hw2 x hx,hR⟩) (λ p hp=>a7q a4q ⟨es.map λ _=>true,?_,G,Sub.new (Sub.refl _) hp,Dr.of ?_⟩)⟩⟩⟩⟩,nofun⟩⟩
    . show (es.zip es).map (λ z=>D.tup [z.1,z.2])=_
      rw [kFq]
    . have:=eHq hx
      simp only [D.dp] at hd;omega
    . rw [show (es.map λ _=>D.bl true)=(es.map λ _=>true).map D.bl by simp];exact cLq _
    . rw [show (es.map λ _=>true).all id=true by simp];exact q
abbrev gIq:Stmt:=top 42
theorem sc_law:FnScope ["_law_script", "_law_some", "_law_k", "_law_texts", "_law_turn", "_law_kind_here", "_law_text"] ["_law_script"] (aAq gIq):=⟨rfl,rfl,rfl,by decide +kernel,rfl,by decide +kernel,by decide +kernel⟩
theorem wAq (B:Blt mg) (g_feed:Got P w K mg base 1 "_law_feed" ["_law_script", "_law_k"] (aWq K hRq)) (g_anyk:Got P w K mg base 13 "_law_any_kind" ["_law_feed_here"] (aWq K dYq)) (g_shown:Got P w K mg base 122 "_law_shown" ["_law_kind_here"] (aWq K (ePq 121))) (g_show:Got P w K mg base 3 "show_kind" ["kind"] (aWq K j9q)) (g_read:Got P w K mg base 4 "read_kind" ["text"] (aWq K jEq)) (g_alike:Got P w K mg base 122 "_law_alike" ["_law_found", "_law_due"] (aWq K (nMq 121))) (F:Fun K "law" "law" gIq f fd):FnOk P w K mg base CX0 130 f fd ["_law_script"] (aWq K qHq):=by
  refine okD (k:=129) F sc_law (λ ds G DQ h=>?_) (λ cdv A outer s H E hr ds G DQ h=>?_)
  . obtain ⟨_,rfl,_⟩:=h;rfl
  obtain ⟨ns,rfl,hl,q⟩:=h
  refine ⟨_,(a5q (aPq (k:=1) sc_law.nd rfl (Or.inl rfl) (bFq a2q))
      (a5q (e8q PassesOwn.never rfl (mLq rfl B.range (a0q a3q (a0q (a9q (o9q rfl) rfl B.max PyProof.Rows.boot_max (a0q a3q (a0q (a9q (i4q rfl) rfl B.min PyProof.Rows.boot_min (a0q a3q (a0q (a9q aGq rfl B.len PySem.boot_len (a0q (a1q 0) a2q)) a2q))) a2q))) a2q))) (b8q (k:=2) sc_law.nd rfl (Or.inl rfl)) (a6q (b5q (bVq PySem.F.plainAttrs_list PySem.F.slot_list_append PySem.F.type_list_append aSq (a1q 1) (a0q (aDq g_anyk hr (by omega) rfl (a0q (aDq g_feed hr (by omega) rfl (a0q (a1q 0) (a0q (a1q 2) a2q))) a2q)) a2q)))))
      (a5q (cVq (k:=3) rfl sc_law.nd rfl (Or.inl rfl) (CompOk.of (N':=["_law_kind_here"]) (nt:=1) (cap:=[]) rfl (by kernel_rfl)) (bDq (k:=0) (by decide)) (g0q (a1q 1)) (λ _ _ _ _=>(b8q (k:=0) (show List.Nodup (["_law_kind_here"]:List Str) by decide +kernel) rfl (Or.inl rfl)))  (λ _ _ _ _=>(aDq g_shown hr (by omega) rfl (a0q (a1q 0) a2q))))
      (a5q (e8q PassesOwn.never rfl (dPq rfl B.range (a0q a3q a2q)) (b8q (k:=4) sc_law.nd rfl (Or.inl rfl)) (a5q (e8q PassesOwn.never rfl (r8q rfl B.zip (a0q (a1q 1) (a0q (a1q 3) a2q))) (nYq (n:=2) rfl (cWq (b8q (k:=5) sc_law.nd rfl (Or.inl rfl)) (cWq (b8q (k:=6) sc_law.nd rfl (Or.inl rfl)) iUq))) (a6q (aNq (AW.at (fOq (aEq (gHq (aKq hr)) (aDq g_show hr (by omega) rfl (a0q (a1q 5) a2q)) (a1q 6) (aCq _)) (d8q (eAq (b2q (aDq g_alike hr (by omega) rfl (a0q (aDq g_read hr (by omega) rfl (a0q (a1q 6) a2q)) (a0q (a1q 5) a2q)))))))) (a6q (aFq jMq)) aHq)))
      (a5q (b5q (fQq PySem.F.plainAttrs_list PySem.F.slot_list_reverse PySem.F.type_list_reverse eNq (a1q 1)))
      (a6q (b5q (fQq PySem.F.plainAttrs_list PySem.F.slot_list_reverse PySem.F.type_list_reverse eNq (a1q 3)))))))
      (a6q (aFq jMq)))))),?_⟩
  intro p0 hp0
  refine rUq (by decide) (by dsimp only;split<;>split<;>omega) ?_
  refine ⟨λ i ρ G'=>∃ (xs:List D) (o2 o3 o4 o5 o6:Option D),ρ=[some (.frl (ns.map D.int)),some (.ref p0),o2,o3,o4,o5,o6]/\G' p0=some (.lst xs)/\xs.length=i/\∀ x∈xs,IsKc x/\Bd 9100 120 40 x,⟨[],_,_,_,_,_,rfl,a4q,rfl,by simp⟩,λ _ _ _ _ _=>trivial,?_,?_⟩
  . rintro i d ρ G' hgi ⟨xs,o2,o3,o4,o5,o6,rfl,hp,hxl,hx⟩
    obtain ⟨hi,rfl⟩:=dVq hgi
    have hi9:i < 100:=by
      refine Nat.lt_of_lt_of_le hi ?_
      dsimp only;split<;>split<;>omega
    refine ⟨a7q hp trivial,ns,rfl,hl,by omega,by omega,λ a xa ya ha=>?_⟩
    have np:p0≠a:=by rintro rfl;rw [ha] at hp;cases hp
    have hp1:up G' a (fed xa ya) p0=some (.lst xs):=by rw [aMq np];exact hp
    refine ⟨a,rfl,.up,λ kd G1 w1 i1 b1=>aJq (w1.kp np hp1) ⟨aXq (by omega),Wk.of ⟨xs++[kd],_,_,_,_,_,rfl,a4q,by simp [hxl],λ x hm=>?_⟩⟩⟩
    rcases List.mem_append.mp hm with hm | hm
    . exact hx x hm
    . simp at hm;subst hm;exact ⟨i1,b1⟩
  . rintro ρ G' ⟨xs,o2,o3,o4,o5,o6,rfl,hp,hxl,hx⟩
    have hx9:xs.length<=100:=by
      rw [hxl]
      refine Nat.le_trans (Nat.le_of_eq bJq) ?_
      dsimp only;split<;>split<;>omega
    obtain ⟨ps,rfl,hps⟩:=fCq (P:=λ d x=>Tk d x/\IsKc d/\Bd 9100 120 40 d) λ d hd=>by
      obtain ⟨h1,h2⟩:=hx d hd
      obtain ⟨x,h3⟩:=h1.tk h2.wd
      exact ⟨x,h3,h1,h2⟩
    clear hx
    rw [List.length_map] at hx9
    refine j3q hp (dLq ps (·.1) (λ p=>.str (txt p.2)) rfl (aXq (by omega)) hp (λ p hpm R hR=>⟨p.1,p.2,rfl,(hps p hpm).1,by have:=(hps p hpm).2.2.dp;omega,(hps p hpm).2.2.sz,hR⟩) λ p3 hp3=>?_)
    have n3:p0≠p3:=by rintro rfl;rw [hp] at hp3;cases hp3
    refine hGq (by decide) ?_
    refine ⟨λ i ρ G9=>∃ (qs:List (D × List Str)) (o2 o4 o5 o6:Option D),ρ=[some (.frl (ns.map D.int)),some (.ref p0),o2,some (.ref p3),o4,o5,o6]/\G9 p0=some (.lst (qs.map (·.1)))/\G9 p3=some (.lst (qs.map λ p=>.str (txt p.2)))/\∀ p∈qs,Tk p.1 p.2/\IsKc p.1/\Bd 9100 120 40 p.1,⟨ps,_,_,_,_,rfl,by rw [aMq n3];exact hp,a4q,hps⟩,λ _ _ _ _ _=>trivial,?_,?_⟩
    . rintro i e ρ G9 he ⟨qs,o2,o4,o5,o6,rfl,e0,e3,hqs⟩
      refine a7q e0 (a7q e3 ⟨by rw [List.length_map,List.length_map];exact Nat.le_refl _,e0,e3,?_⟩)
      refine ⟨λ j ρ G8=>∃ (o5 o6:Option D),ρ=[some (.frl (ns.map D.int)),some (.ref p0),o2,some (.ref p3),some e,o5,o6]/\G9=G8,⟨_,_,rfl,rfl⟩,λ j ρ G8 _ hj=>?_,?_,?_⟩
      . obtain ⟨_,_,_,rfl⟩:=hj
        exact ⟨e0,e3⟩
      . rintro j y ρ G8 hy ⟨o5,o6,rfl,rfl⟩
        have hy':(((qs.map (·.1)).zip (qs.map λ p=>D.str (txt p.2))).map λ z=>D.tup [z.1,z.2])[j]?=some y:=hy
        rw [List.zip_map',List.map_map,List.getElem?_map] at hy'
        cases hc:qs[j]? with
        | none=>rw [hc] at hy';cases hy'
        | some p=>
          rw [hc] at hy';cases hy'
          obtain ⟨h1,h2,h3⟩:=hqs p (List.mem_of_getElem? hc)
          refine ⟨p.1,p.2,rfl,h1,h3.sz,⟨λ c=>?_,λ _=>⟨p.1,p.2,rfl,h1,h2.kd,h3,p.1,rfl,h2.isK.ad,by have:=h3.dp;omega,h3.wd,⟨nofun,λ _=>Wk.of ⟨_,_,rfl,rfl⟩⟩⟩⟩⟩
          rw [show (txt p.2==txt p.2)=true from beq_self_eq_true _] at c;cases c
      . rintro ρ G8 ⟨o5,o6,rfl,rfl⟩
        refine ⟨a7q e0 trivial,aJq e0 ⟨a7q (by rw [aMq n3.symm];exact e3) trivial,aJq (by rw [aMq n3.symm];exact e3) (Wk.of ⟨qs.reverse,_,_,_,_,rfl,?_,?_,λ p hp=>hqs p (List.mem_reverse.mp hp)⟩)⟩⟩
        . rw [aMq n3,a4q,List.map_reverse]
        . rw [a4q,List.map_reverse]
    . rintro ρ G9 ⟨qs,o2,o4,o5,o6,rfl,_⟩
      exact Dr.of (q _)
end
end KB
namespace KB
open PySem L2 L3
set_option maxHeartbeats 4000000
theorem wGq {l:PySem.W.OpenLaw} {w:World} {K:PySem.W.Frag} {h:Heap} {mg:Str->Option Value} {fa  : Addr} (X:K.In h) (G:h.Ns mainGlobals mg) (hfa:mg "law" = some (.ref fa))
    (d0:DT K "flat" iWq) (d1:DT K "is_whole_number" lTq) (d2:DT K "is_kind" fAq) (d3:DT K "has_kind_form" nBq) (d4:DT K "has_answer_word" mSq) (d5:DT K "inner_kinds" jIq) (d6:DT K "is_sorted" f0q) (d7:DT K "spelled_out" lUq) (d8:DT K "pieces_of" fDq) (d9:DT K "is_whole_text" jPq) (d10:DT K "made_of" eYq) (d11:DT K "show_kind" j8q) (d12:DT K "spelled_kind" oNq) (d13:DT K "read_kind" j4q) (d14:DT K "read_piece" f9q) (d15:DT K "kind_closed" nLq) (d16:DT K "way_closed" jRq) (d17:DT K "pair_closed" hFq) (d18:DT K "_law_feed" jBq) (d19:DT K "_law_take" iYq) (d20:DT K "_law_number" fJq) (d21:DT K "_law_answer_kind" f3q) (d22:DT K "_law_kind" jLq) (d23:DT K "_law_long" j6q) (d24:DT K "_law_any_kind" jJq) (d25:DT K "_law_shown" gZq) (d26:DT K "_law_alike" h0q) (d27:DT K "law" gIq) (z0:PySem.W.nsIn K mainGlobals "len" = some none) (z1:PySem.W.nsIn K mainGlobals "isinstance" = some none) (z2:PySem.W.nsIn K mainGlobals "range" = some none) (z3:PySem.W.nsIn K mainGlobals "int" = some none) (z4:PySem.W.nsIn K mainGlobals "bool" = some none) (z5:PySem.W.nsIn K mainGlobals "str" = some none) (z6:PySem.W.nsIn K mainGlobals "tuple" = some none) (z7:PySem.W.nsIn K mainGlobals "list" = some none) (z8:PySem.W.nsIn K mainGlobals "sorted" = some none) (z9:PySem.W.nsIn K mainGlobals "all" = some none) (z10:PySem.W.nsIn K mainGlobals "reversed" = some none) (z11:PySem.W.nsIn K mainGlobals "min" = some none) (z12:PySem.W.nsIn K mainGlobals "max" = some none) (z13:PySem.W.nsIn K mainGlobals "enumerate" = some none) (z14:PySem.W.nsIn K mainGlobals "zip" = some none)
    {ti:Tok} (ti0:PySem.W.nsIn K mainGlobals "ITEM" = some (some (.int 1 ti)))
    {te:Tok} (te0:PySem.W.nsIn K mainGlobals "END" = some (some (.int 0 te)))
    {tm:Tok} (tm0:PySem.W.nsIn K mainGlobals "MOST_FIGURES" = some (some (.int 12 tm)))
    {tf:Tok} (tf0:PySem.W.nsIn K mainGlobals "FIGURES" = some (some (.str figs tf)))
    {ts:Tok} (ts0:PySem.W.nsIn K mainGlobals "SIGNS" = some (some (.str sgnS ts)))
    : ∃ fd:FuncData,(∀ (s:Shared) (v:Value),BindsTo s fd ⟨[v],[]⟩ [("_law_script", v)])/\∀ base:Heap,K.In base->base.Ns mainGlobals mg->FnOk l.prog w K mg base CX0 130 fa fd ["_law_script"] (kTq K):=by
  obtain ⟨f0,_,a_flat,F_flat⟩:=d0.ok
  have b_flat:=F_flat.binds (ps:=fWq) λ _ _ _ _ _ _ us hl=>match us,hl with | [_],_=>rfl
  have m_flat:=PySem.W.mg_of X G a_flat
  have kp_flat:=F_flat.kp
  obtain ⟨f1,_,a_isw,F_isw⟩:=d1.ok
  have b_isw:=F_isw.binds (ps:=iCq) λ _ _ _ _ _ _ us hl=>match us,hl with | [_],_=>rfl
  have m_isw:=PySem.W.mg_of X G a_isw
  have kp_isw:=F_isw.kp
  obtain ⟨f2,_,a_iskind,F_iskind⟩:=d2.ok
  have b_iskind:=F_iskind.binds (ps:=eEq) λ _ _ _ _ _ _ us hl=>match us,hl with | [_],_=>rfl
  have m_iskind:=PySem.W.mg_of X G a_iskind
  have kp_iskind:=F_iskind.kp
  obtain ⟨f3,_,a_hkf,F_hkf⟩:=d3.ok
  have b_hkf:=F_hkf.binds (ps:=i6q) λ _ _ _ _ _ _ us hl=>match us,hl with | [_],_=>rfl
  have m_hkf:=PySem.W.mg_of X G a_hkf
  have kp_hkf:=F_hkf.kp
  obtain ⟨f4,_,a_haw,F_haw⟩:=d4.ok
  have b_haw:=F_haw.binds (ps:=i1q) λ _ _ _ _ _ _ us hl=>match us,hl with | [_],_=>rfl
  have m_haw:=PySem.W.mg_of X G a_haw
  have kp_haw:=F_haw.kp
  obtain ⟨f5,_,a_innk,F_innk⟩:=d5.ok
  have b_innk:=F_innk.binds (ps:=gCq) λ _ _ _ _ _ _ us hl=>match us,hl with | [_],_=>rfl
  have m_innk:=PySem.W.mg_of X G a_innk
  have kp_innk:=F_innk.kp
  obtain ⟨f6,_,a_sorted,F_sorted⟩:=d6.ok
  have b_sorted:=F_sorted.binds (ps:=eGq) λ _ _ _ _ _ _ us hl=>match us,hl with | [_],_=>rfl
  have m_sorted:=PySem.W.mg_of X G a_sorted
  have kp_sorted:=F_sorted.kp
  obtain ⟨f7,_,a_out,F_out⟩:=d7.ok
  have b_out:=F_out.binds (ps:=iGq) λ _ _ _ _ _ _ us hl=>match us,hl with | [_,_],_=>rfl
  have m_out:=PySem.W.mg_of X G a_out
  have kp_out:=F_out.kp
  obtain ⟨f8,_,a_pieces,F_pieces⟩:=d8.ok
  have b_pieces:=F_pieces.binds (ps:=eFq) λ _ _ _ _ _ _ us hl=>match us,hl with | [_,_],_=>rfl
  have m_pieces:=PySem.W.mg_of X G a_pieces
  have kp_pieces:=F_pieces.kp
  obtain ⟨f9,_,a_iswt,F_iswt⟩:=d9.ok
  have b_iswt:=F_iswt.binds (ps:=fXq) λ _ _ _ _ _ _ us hl=>match us,hl with | [_,_],_=>rfl
  have m_iswt:=PySem.W.mg_of X G a_iswt
  have kp_iswt:=F_iswt.kp
  obtain ⟨f10,_,a_madeof,F_madeof⟩:=d10.ok
  have b_madeof:=F_madeof.binds (ps:=e9q) λ _ _ _ _ _ _ us hl=>match us,hl with | [_,_],_=>rfl
  have m_madeof:=PySem.W.mg_of X G a_madeof
  have kp_madeof:=F_madeof.kp
  obtain ⟨f11,_,a_show,F_show⟩:=d11.ok
  have b_show:=F_show.binds (ps:=g5q) λ _ _ _ _ _ _ us hl=>match us,hl with | [_],_=>rfl
  have m_show:=PySem.W.mg_of X G a_show
  have kp_show:=F_show.kp
  obtain ⟨f12,_,a_spk,F_spk⟩:=d12.ok
  have b_spk:=F_spk.binds (ps:=hUq) λ _ _ _ _ _ _ us hl=>match us,hl with | [_],_=>rfl
  have m_spk:=PySem.W.mg_of X G a_spk
  have kp_spk:=F_spk.kp
  obtain ⟨f13,_,a_read,F_read⟩:=d13.ok
  have b_read:=F_read.binds (ps:=fTq) λ _ _ _ _ _ _ us hl=>match us,hl with | [_],_=>rfl
  have m_read:=PySem.W.mg_of X G a_read
  have kp_read:=F_read.kp
  obtain ⟨f14,_,a_rpiece,F_rpiece⟩:=d14.ok
  have b_rpiece:=F_rpiece.binds (ps:=e7q) λ _ _ _ _ _ _ us hl=>match us,hl with | [_],_=>rfl
  have m_rpiece:=PySem.W.mg_of X G a_rpiece
  have kp_rpiece:=F_rpiece.kp
  obtain ⟨f15,_,a_kcl,F_kcl⟩:=d15.ok
  have b_kcl:=F_kcl.binds (ps:=iFq) λ _ _ _ _ _ _ us hl=>match us,hl with | [_,_],_=>rfl
  have m_kcl:=PySem.W.mg_of X G a_kcl
  have kp_kcl:=F_kcl.kp
  obtain ⟨f16,_,a_wayc,F_wayc⟩:=d16.ok
  have b_wayc:=F_wayc.binds (ps:=g2q) λ _ _ _ _ _ _ us hl=>match us,hl with | [_],_=>rfl
  have m_wayc:=PySem.W.mg_of X G a_wayc
  have kp_wayc:=F_wayc.kp
  obtain ⟨f17,_,a_pairc,F_pairc⟩:=d17.ok
  have b_pairc:=F_pairc.binds (ps:=f5q) λ _ _ _ _ _ _ us hl=>match us,hl with | [_],_=>rfl
  have m_pairc:=PySem.W.mg_of X G a_pairc
  have kp_pairc:=F_pairc.kp
  obtain ⟨f18,_,a_feed,F_feed⟩:=d18.ok
  have b_feed:=F_feed.binds (ps:=fSq) λ _ _ _ _ _ _ us hl=>match us,hl with | [_,_],_=>rfl
  have m_feed:=PySem.W.mg_of X G a_feed
  have kp_feed:=F_feed.kp
  obtain ⟨f19,_,a_take,F_take⟩:=d19.ok
  have b_take:=F_take.binds (ps:=g1q) λ _ _ _ _ _ _ us hl=>match us,hl with | [_,_],_=>rfl
  have m_take:=PySem.W.mg_of X G a_take
  have kp_take:=F_take.kp
  obtain ⟨f20,_,a_number,F_number⟩:=d20.ok
  have b_number:=F_number.binds (ps:=eCq) λ _ _ _ _ _ _ us hl=>match us,hl with | [_],_=>rfl
  have m_number:=PySem.W.mg_of X G a_number
  have kp_number:=F_number.kp
  obtain ⟨f21,_,a_lakind,F_lakind⟩:=d21.ok
  have b_lakind:=F_lakind.binds (ps:=eBq) λ _ _ _ _ _ _ us hl=>match us,hl with | [_,_],_=>rfl
  have m_lakind:=PySem.W.mg_of X G a_lakind
  have kp_lakind:=F_lakind.kp
  obtain ⟨f22,_,a_kind,F_kind⟩:=d22.ok
  have b_kind:=F_kind.binds (ps:=g8q) λ _ _ _ _ _ _ us hl=>match us,hl with | [_,_],_=>rfl
  have m_kind:=PySem.W.mg_of X G a_kind
  have kp_kind:=F_kind.kp
  obtain ⟨f23,_,a_long,F_long⟩:=d23.ok
  have b_long:=F_long.binds (ps:=fVq) λ _ _ _ _ _ _ us hl=>match us,hl with | [_],_=>rfl
  have m_long:=PySem.W.mg_of X G a_long
  have kp_long:=F_long.kp
  obtain ⟨f24,_,a_anyk,F_anyk⟩:=d24.ok
  have b_anyk:=F_anyk.binds (ps:=g7q) λ _ _ _ _ _ _ us hl=>match us,hl with | [_],_=>rfl
  have m_anyk:=PySem.W.mg_of X G a_anyk
  have kp_anyk:=F_anyk.kp
  obtain ⟨f25,_,a_shown,F_shown⟩:=d25.ok
  have b_shown:=F_shown.binds (ps:=eSq) λ _ _ _ _ _ _ us hl=>match us,hl with | [_],_=>rfl
  have m_shown:=PySem.W.mg_of X G a_shown
  have kp_shown:=F_shown.kp
  obtain ⟨f26,_,a_alike,F_alike⟩:=d26.ok
  have b_alike:=F_alike.binds (ps:=f1q) λ _ _ _ _ _ _ us hl=>match us,hl with | [_,_],_=>rfl
  have m_alike:=PySem.W.mg_of X G a_alike
  have kp_alike:=F_alike.kp
  have B:Blt mg:=⟨PySem.W.mg_none_of X G z0,PySem.W.mg_none_of X G z1,PySem.W.mg_none_of X G z2,PySem.W.mg_none_of X G z3,PySem.W.mg_none_of X G z4,PySem.W.mg_none_of X G z5,PySem.W.mg_none_of X G z6,PySem.W.mg_none_of X G z7,PySem.W.mg_none_of X G z8,PySem.W.mg_none_of X G z9,PySem.W.mg_none_of X G z10,PySem.W.mg_none_of X G z11,PySem.W.mg_none_of X G z12,PySem.W.mg_none_of X G z13,PySem.W.mg_none_of X G z14⟩
  obtain ⟨f27,_,a_law,F_law⟩:=d27.ok
  cases hfa.symm.trans (PySem.W.mg_of X G a_law)
  obtain ⟨_,_,kV,dc,pm,an,cd,ct,_,rfl,l9,c9⟩:=F_law.ex
  refine ⟨PySem.W.fnOf "law" "law" (cIq gIq) (bMq gIq) (aAq gIq) .none kV dc pm an cd ct,λ s v=>.of_eq rfl,λ base _ _ =>?_⟩
  have m_ITEM:=PySem.W.mg_of X G ti0
  have m_END:=PySem.W.mg_of X G te0
  have m_MOST_FIGURES:=PySem.W.mg_of X G tm0
  have m_FIGURES:=PySem.W.mg_of X G tf0
  have m_SIGNS:=PySem.W.mg_of X G ts0
  have g_isw:Got l.prog w K mg base 1 "is_whole_number" iCq (aWq K jHq):=⟨_,_,x0q B F_isw,m_isw,kp_isw,b_isw⟩
  have g_haw:Got l.prog w K mg base 1 "has_answer_word" i1q (aWq K t2q):=⟨_,_,vFq B F_haw,m_haw,kp_haw,b_haw⟩
  have g_hkf:Got l.prog w K mg base 2 "has_kind_form" i6q (aWq K rBq):=⟨_,_,xHq B g_isw g_haw F_hkf,m_hkf,kp_hkf,b_hkf⟩
  have g_innk:Got l.prog w K mg base 1 "inner_kinds" gCq (aWq K nRq):=⟨_,_,tRq B F_innk,m_innk,kp_innk,b_innk⟩
  have g_flat:Got l.prog w K mg base 1 "flat" fWq (aWq K nWq):=⟨_,_,s1q B m_ITEM m_END F_flat,m_flat,kp_flat,b_flat⟩
  have g_sorted:Got l.prog w K mg base 2 "is_sorted" eGq (aWq K gLq):=⟨_,_,m8q B g_flat F_sorted,m_sorted,kp_sorted,b_sorted⟩
  have g_iskind:Got l.prog w K mg base 3 "is_kind" eEq (aWq K gQq):=⟨_,_,m3q B g_hkf g_innk g_sorted F_iskind,m_iskind,kp_iskind,b_iskind⟩
  have g_madeof:Got l.prog w K mg base 1 "made_of" e9q (aWq K gXq):=⟨_,_,lSq B F_madeof,m_madeof,kp_madeof,b_madeof⟩
  have g_iswt:Got l.prog w K mg base 2 "is_whole_text" fXq (aWq K gRq):=⟨_,_,rWq B m_FIGURES g_madeof F_iswt,m_iswt,kp_iswt,b_iswt⟩
  have g_pieces:Got l.prog w K mg base 1 "pieces_of" eFq (aWq K gMq):=⟨_,_,n5q B F_pieces,m_pieces,kp_pieces,b_pieces⟩
  have g_spk:Got l.prog w K mg base 1 "spelled_kind" hUq (aWq K tIq):=⟨_,_,vIq B F_spk,m_spk,kp_spk,b_spk⟩
  obtain ⟨fk,m_spelled_kind,G_spelled⟩:=g_spk.fnV
  have g_out:Got l.prog w K mg base 2 "spelled_out" iGq (aWq K (sHq fk)):=⟨_,_,wEq B G_spelled F_out,m_out,kp_out,b_out⟩
  have g_show:Got l.prog w K mg base 3 "show_kind" g5q (aWq K j9q):=⟨_,_,t3q m_spelled_kind g_out F_show,m_show,kp_show,b_show⟩
  have g_rpiece:Got l.prog w K mg base 3 "read_piece" e7q (aWq K jKq):=⟨_,_,nSq B m_MOST_FIGURES g_iswt F_rpiece,m_rpiece,kp_rpiece,b_rpiece⟩
  have g_wayc:Got l.prog w K mg base 1 "way_closed" g2q (aWq K lXq):=⟨_,_,tVq B F_wayc,m_wayc,kp_wayc,b_wayc⟩
  have g_pairc:Got l.prog w K mg base 1 "pair_closed" f5q (aWq K jNq):=⟨_,_,pCq B F_pairc,m_pairc,kp_pairc,b_pairc⟩
  have g_kcl:Got l.prog w K mg base 2 "kind_closed" iFq (aWq K sDq):=⟨_,_,w7q g_wayc g_pairc F_kcl,m_kcl,kp_kcl,b_kcl⟩
  have g_read:Got l.prog w K mg base 4 "read_kind" fTq (aWq K jEq):=⟨_,_,sLq B m_SIGNS g_pieces g_kcl g_rpiece g_iskind F_read,m_read,kp_read,b_read⟩
  have g_feed:Got l.prog w K mg base 1 "_law_feed" fSq (aWq K hRq):=⟨_,_,tJq B F_feed,m_feed,kp_feed,b_feed⟩
  have g_take:Got l.prog w K mg base 1 "_law_take" g1q (aWq K dOq):=⟨_,_,t5q F_take,m_take,kp_take,b_take⟩
  have g_number:Got l.prog w K mg base 2 "_law_number" eCq (aWq K o4q):=⟨_,_,mUq B g_take F_number,m_number,kp_number,b_number⟩
  have g_lakind:∀ n:Nat,Got l.prog w K mg base (n+2) "_law_answer_kind" eBq (aWq K (hQq n)):=λ n=>by
    induction n with
    | zero=>exact ⟨f21,_,oMq,m_lakind,kp_lakind,b_lakind⟩
    | succ n ih=>exact ⟨f21,_,nAq B g_take g_number ih F_lakind,m_lakind,kp_lakind,b_lakind⟩
  have g_kind:∀ n:Nat,Got l.prog w K mg base (n+7) "_law_kind" g8q (aWq K (u2q n)):=λ n=>by
    induction n with
    | zero=>exact ⟨f22,_,sJq,m_kind,kp_kind,b_kind⟩
    | succ n ih=>exact ⟨f22,_,sOq B g_take (g_lakind 3) ih F_kind,m_kind,kp_kind,b_kind⟩
  have g_long:Got l.prog w K mg base 12 "_law_long" fVq (aWq K dYq):=⟨_,_,rNq B g_take (g_kind 4) F_long,m_long,kp_long,b_long⟩
  have g_anyk:Got l.prog w K mg base 13 "_law_any_kind" g7q (aWq K dYq):=⟨_,_,tNq B g_take (g_kind 4) g_long F_anyk,m_anyk,kp_anyk,b_anyk⟩
  have g_shown:∀ n:Nat,Got l.prog w K mg base (n+1) "_law_shown" eSq (aWq K (ePq n)):=λ n=>by
    induction n with
    | zero=>exact ⟨f25,_,pPq,m_shown,kp_shown,b_shown⟩
    | succ n ih=>exact ⟨f25,_,pTq B ih F_shown,m_shown,kp_shown,b_shown⟩
  have g_alike:∀ n:Nat,Got l.prog w K mg base (n+1) "_law_alike" f1q (aWq K (nMq n)):=λ n=>by
    induction n with
    | zero=>exact ⟨f26,_,pFq,m_alike,kp_alike,b_alike⟩
    | succ n ih=>exact ⟨f26,_,pQq B ih F_alike,m_alike,kp_alike,b_alike⟩
  exact wAq B g_feed g_anyk (g_shown 121) g_show g_read (g_alike 121) F_law
theorem walk {l:PySem.W.OpenLaw} {q:Program} {loose:List Str} {XP:(Str->Option Value)->Heap->Prop} {YP:World->Heap->Prop} {d:DefRec} {K:Params->PySem.W.Frag} (hn:l.most=some 63) (hdf:d.params.defaults=[])
    (hY:∀ (w:World) (h:Heap),YP w h->(K w.params).In h)
    (F:∀ (w:World) (mg:Str->Option Value) (fa:Addr) (h:Heap),(K w.params).In h->h.Ns mainGlobals mg->mg d.name=some (.ref fa) →
      ∃ fd:FuncData,(∀ (s:Shared) (u:Value),BindsTo s fd ⟨[u],[]⟩ [("_law_script", u)])/\∀ base:Heap,(K w.params).In base->base.Ns mainGlobals mg->FnOk l.prog w (K w.params) mg base CX0 130 fa fd ["_law_script"] (kTq (K w.params))) :
    PySem.W.WalkO q loose XP YP l.row.toRowW d [] (λ f vs=>PySem.call f vs):=
  L2.sYq (n:=63) (k:=130) (x:="_law_script") (CX:=λ _=>CX0) (sp:=λ w=>kTq (K w.params)) hn (by decide) hdf ⟨rfl,by decide,by decide⟩ hY F (λ _ _ a ns hl o hS=>y4q hl o hS) λ _ _ _ _ _ z=>z
end KB
def PySem.W.Fast.tw6654902299813852323:=0
def PySem.W.Fast.tw1556977759666537504:=0
def PySem.W.Fast.tw10157768063228675597:=0
def PySem.W.Fast.tw9903028588157759838:=0
def PySem.W.Fast.tw5960992814936459333:=0
def PySem.W.Fast.tw2731568850875022664:=0
def PySem.W.Fast.tw18422855558421498730:=0
def PySem.W.Fast.tw940336339303490882:=0
def PySem.W.Fast.tw17724410105396789846:=0
def PySem.W.Fast.tw257787460183069235:=0
def PySem.W.Fast.tw1567992913985858958:=0
def PySem.W.Fast.tw16939169500843501233:=0
def PySem.W.Fast.tw6658416167564551345:=0
def PySem.W.Fast.tw5946658299498943847:=0
def PySem.W.Fast.tw7011088924187097539:=0
def PySem.W.Fast.tw10451463374308166913:=0
def PySem.W.Fast.tw1338400620126081511:=0
def PySem.W.Fast.tw4211553989419993178:=0
def PySem.W.Fast.tw12727370662005876672:=0
def PySem.W.Fast.tw3621987710333062268:=0
def PySem.W.Fast.tw12921866119120494470:=0
def PySem.W.Fast.tw5776802651088235121:=0
def PySem.W.Fast.tw12136216510888945357:=0
def PySem.W.Fast.tw11227057450149463642:=0
def PySem.W.Fast.tw8173969637610296017:=0
def PySem.W.Fast.tw7258439555831042417:=0
def PySem.W.Fast.tw12814392497912485491:=0
def PySem.W.Fast.tw977546359861183721:=0
def PySem.W.Fast.tw17138283938650289157:=0
def PySem.W.Fast.tw10661489910607667421:=0
def PySem.W.Fast.tw11653476356553324623:=0
def PySem.W.Fast.tw10271542579407636343:=0
def PySem.W.Fast.tw10795129969397573189:=0
def PySem.W.Fast.tw2439744797229610097:=0
def PySem.W.Fast.tw10525514049529255959:=0
def PySem.W.Fast.tw16497325934046739329:=0
def PySem.W.Fast.tw1166254573879581157:=0
def PySem.W.Fast.tw1211261347338856427:=0
def PySem.W.Fast.tw1033368702822415722:=0
def PySem.W.Fast.tw14914490139430962844:=0
open PySem PySem.W PyProof.Rows
set_option maxRecDepth 100000 in
set_option maxHeartbeats 0 in
theorem PySem.Challenge.cw_kindbags_k30_whole_kinds_written_and_rea_holds : PySem.Challenge.rw_kindbags_k30_whole_kinds_written_and_rea.Holds := by
  w_on; o_law; k_head; (case hw => w_witness2)
  k_fill
  refine KB.walk (l := PySem.Challenge.rw_kindbags_k30_whole_kinds_written_and_rea) rfl rfl (fun w h Y => PySem.W.kIn_of Y) ?F
  case F =>
    intro w mg fa h KX G hmg
    refine' KB.wGq KX G hmg ?_ ?_ ?_ ?_ ?_ ?_ ?_ ?_ ?_ ?_ ?_ ?_ ?_ ?_ ?_ ?_ ?_ ?_ ?_ ?_ ?_ ?_ ?_ ?_ ?_ ?_ ?_ ?_ ?_ ?_ ?_ ?_ ?_ ?_ ?_ ?_ ?_ ?_ ?_ ?_ ?_ ?_ ?_ ?ti0 ?te0 ?tm0 ?tf0 ?ts0
    (case ti0 => k_is)
    (case te0 => k_is)
    (case tm0 => k_is)
    (case tf0 => k_is)
    (case ts0 => k_is)
    all_goals first | k_is | (refine' L3.DT.mk ?_ ?_ ?_ ?_ <;> try k_is) | (refine' L3.DM.mk ?_ ?_ ?_ ?_ ?_ <;> try k_is) | (refine' L3.DTc.mk ?_ ?_ ?_ ?_ <;> try k_is) | (refine' L3.DMc.mk ?_ ?_ ?_ ?_ ?_ <;> try k_is) | skip
