import PyProof.Rows.All
import Wide.All
import OpenK.AllK
import Wide.FinOn
import Lean
import PyProof.EqAt
import PyProof.EqKinds
import PyProof.TupleCall
import PySem.Challenge.RW_kindbags_k37_whole_papers_written_and_re
set_option Elab.async false
set_option linter.all false
set_option maxRecDepth 100000
namespace L2
open PySem PySem.Spec PyProof.Rows
abbrev Key:=Sum Int Str
def wOq:Key->Value->Bool
  | .inl k,v=>Value.isInt k v
  | .inr x,v=>Value.isStrOf x v
def keyH (w:World):Key->Int
  | .inl k=>hashInt k
  | .inr x=>hashStr w x
theorem bBq:∀ {k:Key} {v:Value},wOq k v=true->(∃ i t,k=Sum.inl i/\v=Value.int i t)\/(∃ x t,k=Sum.inr x/\v=Value.str x t)
  | .inl i,v,h=>by
    obtain ⟨t,e⟩:=Value.isInt_shape (k:=i) (v:=v) h
    exact .inl ⟨i,t,rfl,e⟩
  | .inr x,v,h=>by
    obtain ⟨t,e⟩:=Value.isStrOf_shape (x:=x) (v:=v) h
    exact .inr ⟨x,t,rfl,e⟩
theorem zFq (a b:Int):decide ((Sum.inl a:Key)=Sum.inl b)=(a==b):=by
  by_cases e:a=b
  . subst e;simp
  . have h:¬ (Sum.inl a:Key)=Sum.inl b:=λ q=>e (Sum.inl.inj q)
    rw [decide_eq_false h]
    exact (beq_eq_false_iff_ne.mpr e).symm
theorem aB1q (a b:Str):decide ((Sum.inr a:Key)=Sum.inr b)=decide (a=b):=by
  by_cases e:a=b
  . subst e;simp
  . have h:¬ (Sum.inr a:Key)=Sum.inr b:=λ q=>e (Sum.inr.inj q)
    rw [decide_eq_false h,decide_eq_false e]
theorem z8q (a:Int) (b:Str):decide ((Sum.inl a:Key)=Sum.inr b)=false:=decide_eq_false (λ q=>nomatch q)
theorem zHq (a:Str) (b:Int):decide ((Sum.inr a:Key)=Sum.inl b)=false:=decide_eq_false (λ q=>nomatch q)
def k8q (prog:Program) (w:World):PySem.KeyKind prog w Key where
  is:=wOq
  hash:=keyH w
  inj:=λ v a b ha hb=>by
    rcases bBq ha with ⟨i,t,rfl,rfl⟩ | ⟨x,t,rfl,rfl⟩
    . rcases bBq hb with ⟨j,u,rfl,e⟩ | ⟨y,u,rfl,e⟩
      . injection e with e1 _;rw [e1]
      . exact nomatch e
    . rcases bBq hb with ⟨j,u,rfl,e⟩ | ⟨y,u,rfl,e⟩
      . exact nomatch e
      . injection e with e1 _;rw [e1]
  byValue:=λ k v h=>by
    rcases bBq h with ⟨i,t,rfl,rfl⟩ | ⟨x,t,rfl,rfl⟩<;>rfl
  pyHash:=λ hv h=>by
    rcases bBq hv with ⟨i,t,rfl,rfl⟩ | ⟨x,t,rfl,rfl⟩
    . exact wpAny_pyHash_int h
    . exact wpAny_pyHash_str h
  eqBool:=λ hu hv h=>by
    rcases bBq hu with ⟨i,t,rfl,rfl⟩ | ⟨x,t,rfl,rfl⟩
    . rcases bBq hv with ⟨j,u,rfl,rfl⟩ | ⟨y,u,rfl,rfl⟩
      . rw [zFq] at h;exact wpAny_eqBool_int h
      . rw [z8q] at h;exact SeqAt.EqAt.int_str i t y u _ _ _ _ h
    . rcases bBq hv with ⟨j,u,rfl,rfl⟩ | ⟨y,u,rfl,rfl⟩
      . rw [zHq] at h;exact SeqAt.EqAt.str_int x t j u _ _ _ _ h
      . rw [aB1q] at h;exact wpAny_eqBool_str h
  «strs»:=λ k x t v h=>by
    rcases bBq h with ⟨i,u,rfl,e⟩ | ⟨y,u,rfl,e⟩
    . exact nomatch e
    . injection e with e1 _
      subst e1
      cases v<;>rfl
inductive V where
  | non | bl (b:Bool) | int (i:Int) | str (x:Str) | byt (b:Array UInt8) | flt (b:UInt64) | ref (a:Addr) | ty (n:String)
  deriving DecidableEq
def RelV:V->Value->Prop
  | .non,u=>u=Value.none
  | .bl b,u=>u=Value.bool b
  | .int i,u=>∃ t,u=Value.int i t
  | .str x,u=>∃ t,u=Value.str x t
  | .byt b,u=>∃ t,u=Value.bytes b t
  | .flt b,u=>∃ t,u=Value.float b t
  | .ref a,u=>u=Value.ref a
  | .ty n,u=>u=Value.type n
abbrev Vals:List V->List Value->Prop:=Paired RelV
theorem Vals.length {xs:List V} {us:List Value} (r:Vals xs us):xs.length=us.length:=Paired.length r
theorem Vals.get:∀ {xs:List V} {us:List Value} {i:Nat} {x:V},Vals xs us->xs[i]?=some x->∃ u,us[i]?=some u/\RelV x u
  | _,_,_,_,.nil,e=>by simp at e
  | _,_,0,_,.cons r _,e=>by simp at e;subst e;exact ⟨_,rfl,r⟩
  | _,_,i+1,x,.cons _ t,e=>by
    obtain ⟨u,h1,h2⟩:=Vals.get (i:=i) (x:=x) t (by simpa using e)
    exact ⟨u,by simpa using h1,h2⟩
theorem Vals.set {x:V} {u:Value} (r:RelV x u):∀ {xs:List V} {us:List Value} (i:Nat),Vals xs us->Vals (xs.set i x) (us.set i u)
  | _,_,_,.nil=>.nil
  | _,_,0,.cons _ t=>.cons r t
  | _,_,i+1,.cons q t=>.cons q (Vals.set r i t)
theorem Vals.append:∀ {xs ys:List V} {us ws:List Value},Vals xs us->Vals ys ws->Vals (xs++ys) (us++ws)
  | _,_,_,_,.nil,s=>s
  | _,_,_,_,.cons r t,s=>.cons r (Vals.append t s)
theorem Vals.take:∀ {xs:List V} {us:List Value} (n:Nat),Vals xs us->Vals (xs.take n) (us.take n)
  | _,_,0,_=>.nil
  | _,_,_+1,.nil=>.nil
  | _,_,n+1,.cons r t=>.cons r (Vals.take n t)
theorem Vals.drop:∀ {xs:List V} {us:List Value} (n:Nat),Vals xs us->Vals (xs.drop n) (us.drop n)
  | _,_,0,r=>r
  | _,_,_+1,.nil=>.nil
  | _,_,n+1,.cons _ t=>Vals.drop n t
def RelO:Option V->Option Value->Prop
  | some v,some u=>RelV v u
  | none,none=>True
  | _,_=>False
def KV {κ:Type}:List (κ × V)->List (κ × Value)->Prop:=Paired λ(p:κ × V) (q:κ × Value)=>p.1=q.1/\RelV p.2 q.2
def kV:Key->V
  | .inl i=>.int i
  | .inr x=>.str x
inductive HO where
  | lst (xs:List V)
  | tup (xs:List V)
  | dK (kvs:List (Key × V)) | dT (kvs:List (List Key × V))
  | set (S:Int->Bool) (n:Nat)
  | ins (C dx:Addr) (fs:List (Str × V))
  | own (x:Addr)
  | xd (fs:List (Str × V))
  | met (f x:Addr)
  | rng (lo hi:Int)
  | frz (o:Obj) (u:HO)
  | tbl (ps:Array Value)
  | ext (φ:Heap->Prop)
abbrev Hp:=Addr->Option HO
def upd (H:Hp) (a:Addr) (o:HO):Hp:=λ b=>if b=a then some o else H b
theorem bHq {H:Hp} {a:Addr} {o:HO}:upd H a o a=some o:=by unfold upd;rw [if_pos rfl]
theorem b0q {H:Hp} {a b:Addr} {o:HO} (h:b≠a):upd H a o b=H b:=by unfold upd;rw [if_neg h]
theorem b1q {H:Hp} {a b:Addr} {o:HO} (h:H a=some o) (h':H b=none):a≠b:=by
  intro e;subst e;rw [h] at h';cases h'
section
variable (P:Program) (w:World)
def ObjOk (H:Hp) (h:Heap) (a:Addr):HO->Prop
  | .lst xs=>xs.length<=sizeLine/\∃ (its:List Value) (n:Nat),Vals xs its/\h.get? a=some { cls:=.type "list", data:=.seq its.toArray n }
  | .tup xs=>xs.length<=sizeLine/\∃ its:List Value,Vals xs its/\IsTup h a its.toArray
  | .dK kvs=>kvs.length<=sizeLine/\(a==sysModules)=false/\∃ vs,KV kvs vs/\h.DictOf (k8q P w) a vs
  | .dT kvs=>kvs.length<=sizeLine/\(a==sysModules)=false/\∃ xs:List (List Key × Addr × Value),
      Paired (λ(p:List Key × V) (q:List Key × Addr × Value)=>p.1=q.1/\H q.2.1=some (.tup (p.1.map kV))/\RelV p.2 q.2.2) kvs xs ∧
      ∃ o es ep,h.get? a=some o/\o.ExactDict/\o.data=.dict es ep/\es.toList=xs.map (entryOfKey (tupleKind (k8q P w)))/\(xs.map (·.1)).Nodup
  | .set S n=>h.SetOf (intKind P w) a S n
  | .ins C dx fs=>H dx=some (.own a)/\fs.length<=1000/\dx≠a/\h.get? a=some (PySem.W.instObj C dx) ∧
      ∃ mA,h.Ns1 dx mA/\(∀ f,RelO (fs.lookup f) (mA f))/\PySem.Within mA (fs.map (·.1))
  | .own _=>∃ o,h.get? a=some o
  | .xd fs=>∃ mA,h.Ns1 a mA/\∀ f,RelO (fs.lookup f) (mA f)
  | .rng lo hi=>∃ t u v,h.get? a=some { cls:=.type "range", data:=.fields #[.int lo t,.int hi u,.int 1 v] }
  | .frz o u=>h.get? a=some o/\ObjOk H h a u
  | .tbl ps=>h.get? a=some { cls:=.none,data:=.fields ps }
  | .met f x=>h.get? a=some (PySem.W.methodObj (.ref f) (.ref x))
  | .ext φ=>φ h/\(∃ o,h.get? a=some o)/\∀ h1 h2:Heap,φ h1->(∀ o,h1.get? a=some o->h2.get? a=some o)->φ h2
def HOk (H:Hp) (h:Heap):Prop:=∀ a o,H a=some o->ObjOk P w H h a o
end
section
variable {P:Program} {w:World} {H H':Hp} {h h':Heap} {a:Addr} {o:HO}
theorem ObjOk.lt (x:ObjOk P w H h a o):a < h.objs.size:=by
  cases o with
  | lst xs=>obtain ⟨_,_,_,_,e⟩:=x;exact Heap.lt_size e
  | tup xs=>obtain ⟨_,_,_,p⟩:=x;exact p.lt
  | dK kvs=>obtain ⟨_,_,_,_,o,_,_,e,_⟩:=x;exact Heap.lt_size e
  | dT kvs=>obtain ⟨_,_,_,_,o,_,_,e,_⟩:=x;exact Heap.lt_size e
  | set S n=>obtain ⟨o,_,_,_,e,_⟩:=x;exact Heap.lt_size e
  | ins C dx fs=>obtain ⟨_,_,_,e,_⟩:=x;exact Heap.lt_size e
  | own y=>obtain ⟨_,e⟩:=x;exact Heap.lt_size e
  | xd fs=>obtain ⟨_,⟨_,_,_,e,_⟩,_⟩:=x;exact Heap.lt_size e
  | rng lo hi=>obtain ⟨_,_,_,e⟩:=x;exact Heap.lt_size e
  | frz ob u=>obtain ⟨e,_⟩:=x;exact Heap.lt_size e
  | tbl ps=>exact Heap.lt_size (show h.get? a=some _ from x)
  | met f y=>exact Heap.lt_size (show h.get? a=some _ from x)
  | ext φ=>obtain ⟨_,⟨_,e⟩,_⟩:=x;exact Heap.lt_size e
theorem Paired.mapP {α β:Type} {F G:α->β->Prop}:∀ {l₁:List α} {l₂:List β},Paired F l₁ l₂->(∀ a b,F a b->G a b)->Paired G l₁ l₂
  | _,_,.nil,_=>.nil
  | _,_,.cons r t,f=>.cons (f _ _ r) (Paired.mapP t f)
theorem ObjOk.stay (x:ObjOk P w H h a o) (k:∀ b u,(b=a\/H b=some (.own a))->h.get? b=some u->h'.get? b=some u)
    (ho:∀ b,H b=some (.own a)->H' b=some (.own a)) (ht:∀ b xs,H b=some (.tup xs)->H' b=some (.tup xs)):ObjOk P w H' h' a o:=by
  induction o with
  | lst xs=>obtain ⟨z,its,n,r,e⟩:=x;exact ⟨z,its,n,r,k _ _ (.inl rfl) e⟩
  | tup xs=>obtain ⟨z,its,r,ob,e,c⟩:=x;exact ⟨z,its,r,ob,k _ _ (.inl rfl) e,c⟩
  | dK kvs=>obtain ⟨z,y,vs,r,ob,es,ep,e,c⟩:=x;exact ⟨z,y,vs,r,ob,es,ep,k _ _ (.inl rfl) e,c⟩
  | dT kvs=>
    obtain ⟨z,y,xs,r,ob,es,ep,e,c⟩:=x
    exact ⟨z,y,xs,Paired.mapP r λ p q z=>⟨z.1,ht _ _ z.2.1,z.2.2⟩,ob,es,ep,k _ _ (.inl rfl) e,c⟩
  | set S n=>obtain ⟨ob,es,ep,t,e,c⟩:=x;exact ⟨ob,es,ep,t,k _ _ (.inl rfl) e,c⟩
  | ins C dx fs=>
    obtain ⟨d,z,ne,e,mA,⟨od,es,ep,e2,c⟩,r⟩:=x
    exact ⟨ho _ d,z,ne,k _ _ (.inl rfl) e,mA,⟨od,es,ep,k _ _ (.inr d) e2,c⟩,r⟩
  | own y=>obtain ⟨ob,e⟩:=x;exact ⟨ob,k _ _ (.inl rfl) e⟩
  | xd fs=>obtain ⟨mA,⟨od,es,ep,e,c⟩,r⟩:=x;exact ⟨mA,⟨od,es,ep,k _ _ (.inl rfl) e,c⟩,r⟩
  | rng lo hi=>obtain ⟨t,u,v,e⟩:=x;exact ⟨t,u,v,k _ _ (.inl rfl) e⟩
  | frz ob u ih=>obtain ⟨e,q⟩:=x;exact ⟨k _ _ (.inl rfl) e,ih q⟩
  | tbl ps=>
    have e:h.get? a=some { cls:=.none,data:=.fields ps }:=x
    show h'.get? a=some { cls:=.none,data:=.fields ps }
    exact k a _ (.inl rfl) e
  | met f y=>
    have e:h.get? a=some (PySem.W.methodObj (.ref f) (.ref y)):=x
    show h'.get? a=some (PySem.W.methodObj (.ref f) (.ref y))
    exact k a _ (.inl rfl) e
  | ext φ=>obtain ⟨p,⟨o,e⟩,st⟩:=x;exact ⟨st _ _ p λ o q=>k _ _ (.inl rfl) q,⟨o,k _ _ (.inl rfl) e⟩,st⟩
theorem HOk.lt (x:HOk P w H h) (e:H a=some o):a < h.objs.size:=(x a o e).lt
theorem HOk.fresh (x:HOk P w H h) (e:h.objs.size<=a):H a=none:=by
  cases q:H a with
  | none=>rfl
  | some u=>exact absurd (Nat.lt_of_lt_of_le (x.lt q) e) (Nat.lt_irrefl _)
theorem HOk.kept (x:HOk P w H h) (k:∀ b u,h.get? b=some u->h'.get? b=some u):HOk P w H h':=λ a o e=>
  (x a o e).stay (λ b u _ q=>k b u q) (λ _ q=>q) λ _ _ q=>q
theorem HOk.laid (x:HOk P w H h) (k:∀ b u,h.get? b=some u->h'.get? b=some u) (hp:h.objs.size<=a) (new:ObjOk P w (upd H a o) h' a o):HOk P w (upd H a o) h':=λ b u e=>by
  have hn:=x.fresh hp
  by_cases hb:b=a
  . subst hb;rw [bHq] at e;cases e;exact new
  . rw [b0q hb] at e
    exact (x b u e).stay (λ c v _ q=>k c v q) (λ c q=>by rw [b0q (b1q q hn)];exact q) λ c xs q=>by rw [b0q (b1q q hn)];exact q
end
def Rd (H:Hp) (a:Addr) (u:HO):Prop:=H a=some u\/∃ o,H a=some (.frz o u)
theorem Rd.ok {P:Program} {w:World} {H:Hp} {h:Heap} {a:Addr} {u:HO} (r:Rd H a u) (x:HOk P w H h):ObjOk P w H h a u:=by
  rcases r with r | ⟨o,r⟩
  . exact x a u r
  . obtain ⟨_,q⟩:=x a _ r
    exact q
def Mut:Option HO->Prop
  | some (.lst _)=>True
  | some (.dK _)=>True
  | some (.dT _)=>True
  | some (.set _ _)=>True
  | some (.ins _ _ _)=>True
  | some (.ext _)=>True
  | _=>False
section
variable {P:Program} {w:World} {H:Hp} {h h':Heap} {x e:Addr} {o':HO}
theorem HOk.write (ok:HOk P w H h) (mu:Mut (H x)) (he:e=x\/H e=some (.own x)) (k:∀ b u,b≠e->h.get? b=some u->h'.get? b=some u) (heo:∃ u,h'.get? e=some u)
    (new:ObjOk P w (upd H x o') h' x o'):HOk P w (upd H x o') h':=λ b u q=>by
  have nown:∀ c y,H c=some (.own y)->c≠x:=λ c y r z=>by subst z;rw [r] at mu;exact mu
  have ntup:∀ c xs,H c=some (.tup xs)->c≠x:=λ c xs r z=>by subst z;rw [r] at mu;exact mu
  by_cases hb:b=x
  . subst hb;rw [bHq] at q;cases q;exact new
  . rw [b0q hb] at q
    by_cases hbe:b=e
    . have q':H b=some (.own x):=by
        rcases he with z | z
        . exact absurd (hbe.trans z) hb
        . rw [hbe];exact z
      rw [q] at q';cases q'
      obtain ⟨v,hv⟩:=heo
      exact ⟨v,by rw [hbe];exact hv⟩
    . refine (ok b u q).stay (λ c v hc r=>k c v ?_ r) (λ c r=>by rw [b0q (nown c b r)];exact r) λ c xs r=>by rw [b0q (ntup c xs r)];exact r
      rcases hc with rfl | hc
      . exact hbe
      . rintro rfl
        rcases he with z | z
        . exact nown c b hc z
        . rw [hc] at z;cases z;exact hb rfl
end
structure Un (fs ex:List Addr) (H H':Hp) (h h':Heap):Prop where
  keep:∀ b o,h.get? b=some o->H b=none->b ∉ fs->b ∉ ex->h'.get? b=some o
  slot:∀ b o,h.get? b=some o->H b=none->b∈fs->b ∉ ex->∃ sl,h'.get? b=some { o with slots:=sl }
  free:∀ b o,h.get? b=some o->H b=none->b ∉ ex->H' b=none
  there:∀ b o,h.get? b=some o->b ∉ ex->∃ o',h'.get? b=some o'
  tups:∀ b xs,H b=some (.tup xs)->H' b=some (.tup xs)
  frzs:∀ b o u,H b=some (.frz o u)->H' b=some (.frz o u)
  tbls:∀ b ps,H b=some (.tbl ps)->∃ more,H' b=some (.tbl (ps++more))
section
variable {fs fs' ex ex':List Addr} {H H1 H2:Hp} {h h1 h2 h':Heap} {a x e:Addr} {o:HO}
theorem Un.any (u:Un fs ex H H1 h h1) {b:Addr} {ob:Obj} (q:h.get? b=some ob) (n:H b=none) (hx:b ∉ ex):∃ sl,h1.get? b=some { ob with slots:=sl }:=by
  by_cases hb:b∈fs
  . exact u.slot b ob q n hb hx
  . exact ⟨ob.slots,u.keep b ob q n hb hx⟩
theorem Un.kept (k:∀ b u,h.get? b=some u->h'.get? b=some u):Un fs ex H H h h':=
  ⟨λ b ob q _ _ _=>k b ob q,λ b ob q _ _ _=>⟨ob.slots,k b ob q⟩,λ _ _ _ n _=>n,λ b ob q _=>⟨ob,k b ob q⟩,λ _ _ q=>q,λ _ _ _ q=>q,λ _ ps q=>⟨#[],by rw [q];simp⟩⟩
theorem Un.refl:Un fs ex H H h h:=Un.kept λ _ _ q=>q
theorem Un.laid (k:∀ b u,h.get? b=some u->h'.get? b=some u) (hp:h.objs.size<=a) (hn:H a=none):Un fs ex H (upd H a o) h h' where
  keep:=λ b u q _ _ _=>k b u q
  slot:=λ b u q _ _ _=>⟨u.slots,k b u q⟩
  free:=λ b u q n _=>by rw [b0q (Nat.ne_of_lt (Nat.lt_of_lt_of_le (Heap.lt_size q) hp))];exact n
  there:=λ b u q _=>⟨u,k b u q⟩
  tups:=λ b xs q=>by rw [b0q (b1q q hn)];exact q
  frzs:=λ b u xs q=>by rw [b0q (b1q q hn)];exact q
  tbls:=λ b ps q=>⟨#[],by rw [b0q (b1q q hn),q];simp⟩
theorem Un.write (mu:Mut (H x)) (he:e=x\/H e=some (.own x)) (k:∀ b u,b≠e->h.get? b=some u->h'.get? b=some u) (heo:∃ u,h'.get? e=some u):Un fs ex H (upd H x o) h h':=by
  have hx:∀ b,H b=none->b≠x:=λ b n z=>by subst z;rw [n] at mu;exact mu
  have hb:∀ b,H b=none->b≠e:=λ b n z=>by
    subst z
    rcases he with r | r
    . exact hx b n r
    . rw [n] at r;cases r
  have hm:∀ b u,H b=some u->¬ Mut (some u)->b≠x:=λ b u q nm z=>by subst z;rw [q] at mu;exact nm mu
  refine ⟨λ b u q n _ _=>k b u (hb b n) q,λ b u q n _ _=>⟨u.slots,k b u (hb b n) q⟩,λ b u q n _=>by rw [b0q (hx b n)];exact n,λ b u q _=>?_,
    λ b xs q=>by rw [b0q (hm b _ q λ z=>z)];exact q,λ b u xs q=>by rw [b0q (hm b _ q λ z=>z)];exact q,λ b ps q=>⟨#[],by rw [b0q (hm b _ q λ z=>z),q];simp⟩⟩
  by_cases hbe:b=e
  . subst hbe;exact heo
  . exact ⟨u,k b u hbe q⟩
end
def trk (h:Heap) (H:Hp):List Addr:=(List.range h.objs.size).filter λ a=>(H a).isSome
def qRq (h:Heap) (H:Hp):Heap:=PySem.W.hideAll h (trk h H)
theorem oJq (h:Heap) (H:Hp):(qRq h H).objs.size=h.objs.size:=PySem.W.hideAll_size _ _
theorem rYq {h:Heap} {H:Hp} {b:Addr} {o:Obj} (e:h.get? b=some o) (n:H b=none):(qRq h H).get? b=some o:=
  PySem.W.hideAll_get _ e λ hm=>by
    have q:(H b).isSome=true:=(List.mem_filter.mp hm).2
    rw [n] at q;simp at q
theorem t1q {h:Heap} {H:Hp} {b:Addr} {o:Obj} (e:(qRq h H).get? b=some o):h.get? b=some o/\H b=none:=by
  have e':h.get? b=some o:=PySem.W.of_hideAll (trk h H) e
  refine ⟨e',?_⟩
  cases q:H b with
  | none=>rfl
  | some x=>
    have hm:b∈trk h H:=List.mem_filter.mpr ⟨List.mem_range.mpr (Heap.lt_size e'),by simp [q]⟩
    have z:(qRq h H).get? b=none:=PySem.W.hideAll_none (trk h H) hm
    rw [z] at e;cases e
structure Mod (K:PySem.W.Frag) (mg:Str->Option Value) (base:Heap):Prop where
  kin:K.In base
  glob:base.Ns mainGlobals mg
  blt:∃ mb,base.Ns builtinsNs mb/\∀ x:Str,x≠"__name__"->mb x=bootBuiltins x
  nolimit:base.NoLimit
structure Cx where
  prog:Program
  w:World
  K:PySem.W.Frag
  mg:Str->Option Value
  base:Heap
  A:Around
  N:List Str
  s₀:Shared
  H₀:Hp
  env:Env
  outer:List Env
  stack:List Env
  ex:List Addr
  fn:Str->Bool
  calm:Bool
  pn:List (Addr × Obj)
  xe:Value->Shared->Prop
def frs (l:List Env):List Addr:=l.filterMap (·.frame)
abbrev Cx.fs (X:Cx):List Addr:=frs X.outer
def Vis (sc:Scope) (x:Str):Prop:=sc.names.lookup x=some .local\/sc.names.lookup x=some .cell\/sc.names.lookup x=some .free
def Loc (sc:Scope) (x:Str):Prop:=sc.names.lookup x=some .local\/sc.names.lookup x=some .cell
def Look (env:Env) (h:Heap) (m:Str->Option Value) (x:Str) (u:Value):Prop:=
  (env.kindOf x=some .local/\m x=some u)\/((env.kindOf x=some .cell\/env.kindOf x=some .free)/\∃ c,env.cells.lookup x=some c/\h.IsCell c (some u))
structure Cx.Ok (X:Cx):Prop where
  mod:Mod X.K X.mg X.base
  kind:X.env.scope.kind=.function
  glob:X.env.globals=mainGlobals
  blt:X.env.builtins=builtinsNs
  above:X.s₀.heap.objs.size<=X.env.locals
  inj:∀ x y c,X.env.cells.lookup x=some c->X.env.cells.lookup y=some c->x=y
  has:∀ x,(X.env.kindOf x=some .cell\/X.env.kindOf x=some .free)->∃ c,X.env.cells.lookup x=some c
  cab:∀ x c,X.fn x=true->X.env.cells.lookup x=some c->X.s₀.heap.objs.size<=c
  hd:X.calm=true->X.A.handled=none
  frames:X.A.frames=some X.stack
  stk:X.stack=X.outer\/(X.stack=X.env::X.outer/\X.env.frame=some X.env.locals)
  exf:∀ b∈X.ex,b≠X.env.locals/\∀ x c,X.env.cells.lookup x=some c->c≠b
  bs:∀ b o,X.base.get? b=some o->X.s₀.heap.get? b=some o/\X.H₀ b=none
  bsz:X.base.objs.size<=X.s₀.heap.objs.size
  noex:∀ b o,X.base.get? b=some o->b ∉ X.ex
  exfs:∀ b∈X.ex,b ∉ X.fs
  funs:X.s₀.heap.FunFrames X.base X.outer
  frf:∀ b∈X.fs,X.H₀ b=none
structure Inv (X:Cx) (pins:List (Addr × Obj)) (σ:List (Option V)) (H:Hp) (s:Shared):Prop where
  ok:X.Ok
  os:s.os=X.s₀.os
  bare:AllBare s.gens
  base:Un X.fs X.ex X.H₀ H X.s₀.heap s.heap
  loc:∃ m,s.heap.Ns X.env.locals m/\∀ (i:Nat) (x:Str) (v:V),X.N[i]?=some x->σ[i]?=some (some v)->Vis X.env.scope x->∃ u,RelV v u/\Look X.env s.heap m x u
  cell:∀ x c,X.env.cells.lookup x=some c->∃ v,s.heap.IsCell c v
  free:H X.env.locals=none
  freeC:∀ x c,X.env.cells.lookup x=some c->H c=none
  pin:∀ p∈X.pn++pins,s.heap.get? p.1=some p.2/\H p.1=none/\p.1≠X.env.locals/\p.1 ∉ X.fs/\∀ v,p.2.data≠.cell v
  hok:HOk X.prog X.w H s.heap
  len:σ.length=X.N.length
section
variable {X:Cx} {pins:List (Addr × Obj)} {σ:List (Option V)} {H H':Hp} {s:Shared} {h':Heap}
theorem Cx.Ok.nofr (ok:X.Ok) {b:Addr} {o:Obj} (e:X.base.get? b=some o):b ∉ X.fs:=λ hb=>by
  have:=(ok.funs.mem hb).1
  rw [e] at this;cases this
theorem Inv.bs (I:Inv X pins σ H s):∀ b o,X.base.get? b=some o->s.heap.get? b=some o/\H b=none:=λ b o e=>
  ⟨I.base.keep b o (I.ok.bs b o e).1 (I.ok.bs b o e).2 (I.ok.nofr e) (I.ok.noex b o e),I.base.free b o (I.ok.bs b o e).1 (I.ok.bs b o e).2 (I.ok.noex b o e)⟩
theorem Inv.bk (I:Inv X pins σ H s):∀ b o,X.base.get? b=some o->s.heap.get? b=some o:=λ b o e=>(I.bs b o e).1
theorem Inv.mod (I:Inv X pins σ H s):Mod X.K X.mg X.base:=I.ok.mod
theorem Inv.kIn (I:Inv X pins σ H s):X.K.In s.heap:=I.ok.mod.kin.keeps I.bk
theorem Inv.lt (I:Inv X pins σ H s):X.env.locals < s.heap.objs.size:=let ⟨_,hn,_⟩:=I.loc;hn.lt
theorem Inv.sz (I:Inv X pins σ H s):X.s₀.heap.objs.size<=s.heap.objs.size:=Nat.le_trans I.ok.above (Nat.le_of_lt I.lt)
theorem Inv.nofs (I:Inv X pins σ H s) {a:Addr} (h:s.heap.objs.size<=a):a ∉ X.fs:=λ hb=>by
  obtain ⟨_,o,ho,_⟩:=I.ok.funs.mem hb
  exact absurd (Nat.lt_of_lt_of_le (Heap.lt_size ho) (Nat.le_trans I.sz h)) (Nat.lt_irrefl _)
theorem Inv.cne (I:Inv X pins σ H s):∀ x c,X.env.cells.lookup x=some c->c≠X.env.locals:=λ x c e z=>by
  obtain ⟨v,o,ho,hd⟩:=I.cell x c e
  obtain ⟨m,⟨o',es,ep,ho',hd',_⟩,_⟩:=I.loc
  rw [z,ho'] at ho;cases ho;rw [hd'] at hd;cases hd
theorem Inv.funs (I:Inv X pins σ H s):s.heap.FunFrames X.base X.outer:=by
  have all:∀ (l:List Env),(∀ b∈frs l,b∈X.fs)->X.s₀.heap.FunFrames X.base l->s.heap.FunFrames X.base l:=by
    intro l
    induction l with
    | nil=>intro _ _;trivial
    | cons env r ih=>
      intro hs hl
      obtain ⟨hk,⟨L,o,hf,hn,ho,hd⟩,hr⟩:=hl
      have hL:L∈X.fs:=hs L (by unfold frs;rw [List.filterMap_cons,hf];exact List.mem_cons_self)
      obtain ⟨sl,e⟩:=I.base.slot L o ho (I.ok.frf L hL) hL λ z=>I.ok.exfs L z hL
      exact ⟨hk,⟨L,_,hf,hn,e,hd⟩,ih (λ b hb=>hs b (by unfold frs;rw [List.filterMap_cons,hf];exact List.mem_cons_of_mem _ hb)) hr⟩
  exact all X.outer (λ _ hb=>hb) I.ok.funs
theorem Inv.stack (I:Inv X pins σ H s):s.heap.FunFrames X.base X.stack:=by
  rcases I.ok.stk with e | ⟨e,hf⟩
  . rw [e];exact I.funs
  . rw [e]
    obtain ⟨m,hn,_⟩:=I.loc
    refine .cons (by rw [I.ok.kind];decide) hf hn ?_ I.funs
    exact Heap.get?_none_of_le (Nat.le_trans I.ok.bsz I.ok.above)
theorem Inv.stkSub (I:Inv X pins σ H s):∀ b∈frs X.stack,b∈X.env.locals::X.fs:=λ b hb=>by
  rcases I.ok.stk with e | ⟨e,hf⟩
  . rw [e] at hb;exact List.mem_cons_of_mem _ hb
  . rw [e] at hb
    unfold frs at hb
    rw [List.filterMap_cons,hf] at hb
    exact hb
theorem Inv.stkFree (I:Inv X pins σ H s):∀ b∈frs X.stack,H b=none:=λ b hb=>by
  rcases List.mem_cons.mp (I.stkSub b hb) with e | hb
  . rw [e];exact I.free
  . obtain ⟨_,o,ho,_⟩:=I.ok.funs.mem hb
    exact I.base.free b o ho (I.ok.frf b hb) λ z=>I.ok.exfs b z hb
theorem Inv.step {g':Array GenState} {t':Nat} {d':Drawn} {ch:List Addr} (I:Inv X pins σ H s)
    (hch:∀ b∈ch,(b∈X.ex\/X.s₀.heap.objs.size<=b)/\b≠X.env.locals/\(∀ x c,X.env.cells.lookup x=some c->c≠b)/\∀ p∈X.pn++pins,p.1≠b)
    (keep:∀ b o,b≠X.env.locals->b ∉ X.fs->b ∉ ch->s.heap.get? b=some o->H b=none->h'.get? b=some o)
    (slot:∀ b o,b≠X.env.locals->b∈X.fs->b ∉ ch->s.heap.get? b=some o->H b=none->∃ sl,h'.get? b=some { o with slots:=sl }) (free:∀ b o,b ∉ ch->s.heap.get? b=some o->H b=none->H' b=none)
    (there:∀ b o,b ∉ ch->s.heap.get? b=some o->∃ o',h'.get? b=some o')
    (tups:∀ b xs,H b=some (.tup xs)->H' b=some (.tup xs)) (frzs:∀ b o u,H b=some (.frz o u)->H' b=some (.frz o u)) (tbls:∀ b ps,H b=some (.tbl ps)->∃ more,H' b=some (.tbl (ps++more)))
    (ns:∀ m,s.heap.Ns X.env.locals m->h'.Ns X.env.locals m) (hok:HOk X.prog X.w H' h') (hg:AllBare g') :
    Inv X pins σ H' { s with heap:=h',gens:=g',drawn:=d',toks:=t' }:=by
  have neL:∀ b o,X.s₀.heap.get? b=some o->b≠X.env.locals:=λ b o e=>Nat.ne_of_lt (Nat.lt_of_lt_of_le (Heap.lt_size e) I.ok.above)
  have neC:∀ b o,X.s₀.heap.get? b=some o->b ∉ X.ex->b ∉ ch:=λ b o e hx hb=>by
    rcases (hch b hb).1 with z | z
    . exact hx z
    . exact absurd (Nat.lt_of_lt_of_le (Heap.lt_size e) z) (Nat.lt_irrefl _)
  have cellK:∀ x c,X.env.cells.lookup x=some c->∀ v,s.heap.IsCell c v->h'.IsCell c v:=λ x c e v ⟨o,ho,hd⟩=>by
    have nch:c ∉ ch:=λ z=>(hch c z).2.2.1 x c e rfl
    by_cases hc:c∈X.fs
    . obtain ⟨sl,q⟩:=slot c o (I.cne x c e) hc nch ho (I.freeC x c e)
      exact ⟨_,q,hd⟩
    . exact ⟨o,keep c o (I.cne x c e) hc nch ho (I.freeC x c e),hd⟩
  refine ⟨I.ok,I.os,hg,⟨λ b o e n hb hx=>?_,λ b o e n hb hx=>?_,λ b o e n hx=>?_,λ b o e hx=>?_,λ b xs e=>tups b xs (I.base.tups b xs e),λ b o xs e=>frzs b o xs (I.base.frzs b o xs e),λ b ps e=>?_⟩,?_,λ x c e=>?_,?_,λ x c e=>?_,λ p hp=>?_,hok,I.len⟩
  . exact keep b o (neL b o e) hb (neC b o e hx) (I.base.keep b o e n hb hx) (I.base.free b o e n hx)
  . obtain ⟨sl,e1⟩:=I.base.slot b o e n hb hx
    obtain ⟨sl',e2⟩:=slot b _ (neL b o e) hb (neC b o e hx) e1 (I.base.free b o e n hx)
    exact ⟨sl',e2⟩
  . obtain ⟨o',e1⟩:=I.base.there b o e hx
    exact free b o' (neC b o e hx) e1 (I.base.free b o e n hx)
  . obtain ⟨o',e1⟩:=I.base.there b o e hx
    exact there b o' (neC b o e hx) e1
  . obtain ⟨m1,e1⟩:=I.base.tbls b ps e
    obtain ⟨m2,e2⟩:=tbls b _ e1
    exact ⟨m1++m2,by rw [e2,Array.append_assoc]⟩
  . obtain ⟨m,hn,hl⟩:=I.loc
    refine ⟨m,ns m hn,λ i x v e1 e2 e3=>?_⟩
    obtain ⟨u,r,l⟩:=hl i x v e1 e2 e3
    refine ⟨u,r,?_⟩
    rcases l with l | ⟨k,c,e,z⟩
    . exact .inl l
    . exact .inr ⟨k,c,e,cellK x c e _ z⟩
  . obtain ⟨v,z⟩:=I.cell x c e
    exact ⟨v,cellK x c e v z⟩
  . obtain ⟨m,⟨o,_,_,ho,_⟩,_⟩:=I.loc
    exact free _ o (λ z=>(hch _ z).2.1 rfl) ho I.free
  . obtain ⟨v,o,ho,hd⟩:=I.cell x c e
    exact free c o (λ z=>(hch c z).2.2.1 x c e rfl) ho (I.freeC x c e)
  . obtain ⟨e,n,ne,nf,d⟩:=I.pin p hp
    have nch:p.1 ∉ ch:=λ z=>(hch p.1 z).2.2.2 p hp rfl
    exact ⟨keep p.1 p.2 ne nf nch e n,free p.1 p.2 nch e n,ne,nf,d⟩
theorem Inv.un {t':Nat} (I:Inv X pins σ H s) (u:Un X.fs [] H H' s.heap h') (hok:HOk X.prog X.w H' h'):Inv X pins σ H' { s with heap:=h',toks:=t' }:=by
  obtain ⟨m,⟨o,es,ep,ho,r⟩,_⟩:=id I.loc
  obtain ⟨sl,hL⟩:=u.any ho I.free (by simp)
  exact I.step (g':=s.gens) (d':=s.drawn) (ch:=[]) (λ _ z=>nomatch z) (λ b o _ hb _ e n=>u.keep b o e n hb (by simp)) (λ b o _ hb _ e n=>u.slot b o e n hb (by simp)) (λ b o _ e n=>u.free b o e n (by simp)) (λ b o _ e=>u.there b o e (by simp)) u.tups u.frzs u.tbls (λ m' hm=>by
    obtain ⟨o',es',ep',ho',r'⟩:=hm
    rw [ho] at ho';cases ho'
    exact ⟨_,es',ep',hL,r'⟩) hok I.bare
theorem Inv.call {g':Array GenState} {t':Nat} {d':Drawn} {ch:List Addr} (I:Inv X pins σ H s) (u:Un (frs X.stack) ch H H' s.heap h') (hok:HOk X.prog X.w H' h') (hg:AllBare g')
    (hch:∀ b∈ch,(b∈X.ex\/X.s₀.heap.objs.size<=b)/\b≠X.env.locals/\(∀ x c,X.env.cells.lookup x=some c->c≠b)/\∀ p∈X.pn++pins,p.1≠b) :
    Inv X pins σ H' { s with heap:=h',gens:=g',drawn:=d',toks:=t' }:=by
  obtain ⟨m,⟨o,es,ep,ho,r⟩,_⟩:=id I.loc
  obtain ⟨sl,hL⟩:=u.any ho I.free λ z=>(hch _ z).2.1 rfl
  exact I.step (ch:=ch) hch (λ b o hL hb hc e n=>u.keep b o e n (λ z=>(List.mem_cons.mp (I.stkSub b z)).elim hL hb) hc) (λ b o _ _ hc e n=>u.any e n hc) (λ b o hc e n=>u.free b o e n hc) (λ b o hc e=>u.there b o e hc) u.tups u.frzs u.tbls (λ m' hm=>by
    obtain ⟨o',es',ep',ho',r'⟩:=hm
    rw [ho] at ho';cases ho'
    exact ⟨_,es',ep',hL,r'⟩) hok hg
theorem Inv.turned {t':Nat} {it:Addr} (I:Inv X pins σ H s) (k:∀ b o,b≠it->s.heap.get? b=some o->h'.get? b=some o) (hn:H it=none) (hL:it≠X.env.locals)
    (h1:it∈X.ex\/X.s₀.heap.objs.size<=it) (h2:∀ x c,X.env.cells.lookup x=some c->c≠it) (h3:∀ p∈X.pn++pins,p.1≠it):Inv X pins σ H { s with heap:=h',toks:=t' }:=by
  have nit:∀ b u,H b=some u->b≠it:=λ b u e z=>by rw [z,hn] at e;cases e
  refine I.step (g':=s.gens) (d':=s.drawn) (ch:=[it]) (λ b hb=>?_) (λ b o _ _ hc e _=>k b o (λ z=>hc (by simp [z])) e) (λ b o _ _ hc e _=>⟨o.slots,k b o (λ z=>hc (by simp [z])) e⟩) (λ _ _ _ _ n=>n)
    (λ b o hc e=>⟨o,k b o (λ z=>hc (by simp [z])) e⟩) (λ _ _ e=>e) (λ _ _ _ e=>e) (λ b ps e=>⟨#[],by rw [e];simp⟩) (λ m hm=>?_) (λ b u e=>?_) I.bare
  . have e:b=it:=by simpa using hb
    subst e
    exact ⟨h1,hL,h2,h3⟩
  . obtain ⟨o,es,ep,ho,r⟩:=hm
    exact ⟨o,es,ep,k _ o (Ne.symm hL) ho,r⟩
  . refine (I.hok b u e).stay (λ c v hc q=>k c v ?_ q) (λ _ q=>q) λ _ _ q=>q
    rcases hc with z | z
    . rw [z];exact nit b u e
    . exact nit c _ z
theorem Inv.tok (I:Inv X pins σ H s) (t:Nat):Inv X pins σ H { s with toks:=t }:=I.un (h':=s.heap) (t':=t) Un.refl I.hok
theorem Inv.kept {t':Nat} (I:Inv X pins σ H s) (k:∀ b u,s.heap.get? b=some u->h'.get? b=some u):Inv X pins σ H { s with heap:=h',toks:=t' }:=I.un (Un.kept k) (I.hok.kept k)
theorem Inv.laid {a:Addr} {o:HO} {t':Nat} (I:Inv X pins σ H s) (k:∀ b u,s.heap.get? b=some u->h'.get? b=some u) (hp:s.heap.objs.size<=a) (new:ObjOk X.prog X.w (upd H a o) h' a o) :
    Inv X pins σ (upd H a o) { s with heap:=h',toks:=t' }:=I.un (Un.laid k hp (I.hok.fresh hp)) (I.hok.laid k hp new)
theorem Inv.write {x e:Addr} {o:HO} {t':Nat} (I:Inv X pins σ H s) (mu:Mut (H x)) (he:e=x\/H e=some (.own x)) (k:∀ b u,b≠e->s.heap.get? b=some u->h'.get? b=some u) (heo:∃ u,h'.get? e=some u)
    (new:ObjOk X.prog X.w (upd H x o) h' x o):Inv X pins σ (upd H x o) { s with heap:=h',toks:=t' }:=I.un (Un.write mu he k heo) (I.hok.write mu he k heo new)
theorem Inv.pins_of {pins':List (Addr × Obj)} (I:Inv X pins σ H s) (h:∀ p∈pins',s.heap.get? p.1=some p.2/\H p.1=none/\p.1≠X.env.locals/\p.1 ∉ X.fs/\∀ v,p.2.data≠.cell v):Inv X pins' σ H s:=
  ⟨I.ok,I.os,I.bare,I.base,I.loc,I.cell,I.free,I.freeC,λ p hp=>(List.mem_append.mp hp).elim (λ z=>I.pin p (List.mem_append_left _ z)) (h p),I.hok,I.len⟩
theorem lBq {N:List Str} (hN:N.Nodup) {i j:Nat} {x:Str} (a:N[i]?=some x) (b:N[j]?=some x):i=j:=by
  obtain ⟨h1,e1⟩:=List.getElem?_eq_some_iff.mp a
  obtain ⟨h2,e2⟩:=List.getElem?_eq_some_iff.mp b
  exact (List.getElem_inj hN).mp (e1.trans e2.symm)
theorem jBq {M:Model} {A:Around} {E:Value->Shared->Prop} {i:Nat} {x:Str} {v:V} {u:Value} {Q:Unit->Shared->Prop} (I:Inv X pins σ H s) (hN:X.N.Nodup) (hi:X.N[i]?=some x) (hx:Loc X.env.scope x) (r:RelV v u)
    (h:∀ s',Inv X pins (σ.set i (some v)) H s'->(∃ a,Heap.SameBut a s.heap s'.heap/\(a=X.env.locals\/X.env.cells.lookup x=some a))->Q () s') (hf:X.fn x=true\/X.env.scope.names.lookup x=some .local:=by first | exact .inl rfl | exact .inr rfl | assumption):wpAny M A (storeName X.env x u) Q E s:=by
  obtain ⟨m,hn,hl⟩:=id I.loc
  have hcls:(X.env.scope.kind==.class||(X.env.scope.kind==.module&&X.env.locals !=X.env.globals))=false:=by rw [I.ok.kind];rfl
  have hiσ:i < σ.length:=by rw [I.len];exact (List.getElem?_eq_some_iff.mp hi).1
  have cne:=I.cne
  have tracked:∀ {a:Addr} {h':Heap},(∃ o,s.heap.get? a=some o/\H a=none)->Heap.SameBut a s.heap h'->HOk X.prog X.w H h':=λ{a h'} ha hs b ob e=>by
    obtain ⟨_,_,hfree⟩:=ha
    refine (I.hok b ob e).stay (λ c w' hc q=>(hs.2 c ?_).trans q) (λ _ q=>q) λ _ _ q=>q
    rintro rfl
    rcases hc with rfl | hc
    . rw [hfree] at e;cases e
    . rw [hfree] at hc;cases hc
  rcases hx with hk | hk
  . refine wpAny_storeName_local hk hn (λ h' hn' hs=>?_) hcls
    obtain ⟨oL,_,_,hoL,_⟩:=id hn
    refine h _ ⟨I.ok,I.os,I.bare,⟨λ b o e n hb hx=>?_,λ b o e n hb hx=>?_,I.base.free,λ b o e hx=>?_,I.base.tups,I.base.frzs,I.base.tbls⟩,⟨_,hn',λ j y v' e1 e2 e3=>?_⟩,λ y c e=>?_,I.free,I.freeC,λ p hp=>?_,tracked ⟨oL,hoL,I.free⟩ hs,by simpa using I.len⟩ ⟨_,hs,.inl rfl⟩
    . exact (hs.2 b (Nat.ne_of_lt (Nat.lt_of_lt_of_le (Heap.lt_size e) I.ok.above))).trans (I.base.keep b o e n hb hx)
    . obtain ⟨sl,e1⟩:=I.base.slot b o e n hb hx
      exact ⟨sl,(hs.2 b (Nat.ne_of_lt (Nat.lt_of_lt_of_le (Heap.lt_size e) I.ok.above))).trans e1⟩
    . obtain ⟨o',e1⟩:=I.base.there b o e hx
      exact ⟨o',(hs.2 b (Nat.ne_of_lt (Nat.lt_of_lt_of_le (Heap.lt_size e) I.ok.above))).trans e1⟩
    . by_cases hj:j=i
      . subst hj
        rw [hi] at e1;cases e1
        rw [List.getElem?_set_self hiσ] at e2
        cases e2
        exact ⟨u,r,.inl ⟨hk,by simp⟩⟩
      . rw [List.getElem?_set_ne (Ne.symm hj)] at e2
        obtain ⟨u',r',q⟩:=hl j y v' e1 e2 e3
        refine ⟨u',r',?_⟩
        rcases q with ⟨k,e⟩ | ⟨k,c,e,z⟩
        . refine .inl ⟨k,?_⟩
          have:y≠x:=λ e=>hj (lBq hN e1 (e ▸ hi))
          simp [this,e]
        . exact .inr ⟨k,c,e,z.sameBut hs (cne y c e)⟩
    . obtain ⟨w',z⟩:=I.cell y c e
      exact ⟨w',z.sameBut hs (cne y c e)⟩
    . obtain ⟨e,n,ne,nf,d⟩:=I.pin p hp
      exact ⟨(hs.2 p.1 ne).trans e,n,ne,nf,d⟩
  . have hfn:X.fn x=true:=by
      rcases hf with z | z
      . exact z
      . rw [z] at hk;cases hk
    obtain ⟨c,hc⟩:=I.ok.has x (.inl hk)
    obtain ⟨w',z⟩:=I.cell x c hc
    refine wpAny_storeName_cell I.ok.kind hk hc z (λ h' hc' hs=>?_)
    obtain ⟨oc,hoc,hocd⟩:=id z
    refine h { s with heap:=h' } ⟨I.ok,I.os,I.bare,⟨λ b o e n hb hx=>?_,λ b o e n hb hx=>?_,I.base.free,λ b o e hx=>?_,I.base.tups,I.base.frzs,I.base.tbls⟩,⟨m,hn.sameBut hs (Ne.symm (cne x c hc)),λ j y v' e1 e2 e3=>?_⟩,λ y c' e=>?_,I.free,I.freeC,λ p hp=>?_,tracked ⟨oc,hoc,I.freeC x c hc⟩ hs,by simpa using I.len⟩ ⟨c,hs,.inr hc⟩
    . exact (hs.2 b (Nat.ne_of_lt (Nat.lt_of_lt_of_le (Heap.lt_size e) (I.ok.cab x c hfn hc)))).trans (I.base.keep b o e n hb hx)
    . obtain ⟨sl,e1⟩:=I.base.slot b o e n hb hx
      exact ⟨sl,(hs.2 b (Nat.ne_of_lt (Nat.lt_of_lt_of_le (Heap.lt_size e) (I.ok.cab x c hfn hc)))).trans e1⟩
    . obtain ⟨o',e1⟩:=I.base.there b o e hx
      exact ⟨o',(hs.2 b (Nat.ne_of_lt (Nat.lt_of_lt_of_le (Heap.lt_size e) (I.ok.cab x c hfn hc)))).trans e1⟩
    . by_cases hj:j=i
      . subst hj
        rw [hi] at e1;cases e1
        rw [List.getElem?_set_self hiσ] at e2
        cases e2
        exact ⟨u,r,.inr ⟨.inl hk,c,hc,hc'⟩⟩
      . rw [List.getElem?_set_ne (Ne.symm hj)] at e2
        obtain ⟨u',r',q⟩:=hl j y v' e1 e2 e3
        refine ⟨u',r',?_⟩
        rcases q with q | ⟨k,c',e,z'⟩
        . exact .inl q
        . refine .inr ⟨k,c',e,z'.sameBut hs ?_⟩
          rintro rfl
          exact hj (lBq hN e1 (I.ok.inj _ _ _ e hc ▸ hi))
    . by_cases hcc:c'=c
      . subst hcc;exact ⟨_,hc'⟩
      . obtain ⟨w2,z2⟩:=I.cell y c' e
        exact ⟨w2,z2.sameBut hs hcc⟩
    . obtain ⟨e,n,ne,nf,d⟩:=I.pin p hp
      refine ⟨(hs.2 p.1 ?_).trans e,n,ne,nf,d⟩
      intro q
      rw [q,hoc] at e
      have q':oc=p.2:=Option.some.inj e
      exact d w' (by rw [<- q'];exact hocd)
theorem hFq {M:Model} {A:Around} {E:Value->Shared->Prop} {i:Nat} {x:Str} {v:V} {u:Value} {Q:Unit->Shared->Prop} (I:Inv X pins σ H s) (hN:X.N.Nodup) (hi:X.N[i]?=some x) (hx:Loc X.env.scope x) (r:RelV v u)
    (h:∀ s',Inv X pins (σ.set i (some v)) H s'->Q () s') (hf:X.fn x=true\/X.env.scope.names.lookup x=some .local:=by first | exact .inl rfl | exact .inr rfl | assumption):wpAny M A (storeName X.env x u) Q E s:=
  jBq I hN hi hx r (λ s' I' _=>h s' I') hf
theorem Inv.call' {s':Shared} {ch:List Addr} (I:Inv X pins σ H s) (ho:s'.os=s.os) (u:Un (frs X.stack) ch H H' s.heap s'.heap) (hok:HOk X.prog X.w H' s'.heap) (hg:AllBare s'.gens)
    (hch:∀ b∈ch,(b∈X.ex\/X.s₀.heap.objs.size<=b)/\b≠X.env.locals/\(∀ x c,X.env.cells.lookup x=some c->c≠b)/\∀ p∈X.pn++pins,p.1≠b):Inv X pins σ H' s':=by
  obtain ⟨h',g',d',t',o'⟩:=s'
  have e:o'=s.os:=ho
  subst e
  exact I.call (g':=g') (t':=t') (d':=d') u hok hg hch
end
abbrev XK:=Value->Option Addr->Hp->Prop
abbrev St:=List (Option V)
abbrev VK:=V->Hp->Prop
abbrev TE:=St->Hp->VK->Prop
abbrev TT:=St->Hp->(Bool->Hp->Prop)->Prop
abbrev TA:=St->Hp->(List V->Hp->Prop)->Prop
structure Ends where
  nx:St->Hp->Prop
  rt:VK
  bk:St->Hp->Prop:=λ _ _=>False
  ct:St->Hp->Prop:=λ _ _=>False
abbrev TS:=Ends->St->Hp->Prop
def EP (X:Cx) (pins:List (Addr × Obj)) (σ:St) (Q:VK) (u:Value) (s':Shared):Prop:=∃ v H',Inv X pins σ H' s'/\RelV v u/\Q v H'
def TP (X:Cx) (pins:List (Addr × Obj)) (σ:St) (Q:Bool->Hp->Prop) (b:Bool) (s':Shared):Prop:=∃ H',Inv X pins σ H' s'/\Q b H'
def AP (X:Cx) (pins:List (Addr × Obj)) (σ:St) (Q:List V->Hp->Prop) (us:List Value) (s':Shared):Prop:=∃ vs H',Inv X pins σ H' s'/\Vals vs us/\Q vs H'
def SP (X:Cx) (pins:List (Addr × Obj)) (D:Ends) (f:Flow) (s':Shared):Prop:=
  match f with
  | .next=>∃ σ' H',Inv X pins σ' H' s'/\D.nx σ' H'
  | .brk=>∃ σ' H',Inv X pins σ' H' s'/\D.bk σ' H'
  | .cont=>∃ σ' H',Inv X pins σ' H' s'/\D.ct σ' H'
  | .ret u=>∃ v σ' H',Inv X pins σ' H' s'/\RelV v u/\D.rt v H'
def PE (X:Cx) (e:Expr) (t:TE):Prop:=
  ∀ (pins:List (Addr × Obj)) (s:Shared) (σ:St) (H:Hp) (Q:VK),Inv X pins σ H s->t σ H Q->wpAny (model X.prog X.w) X.A (eval e X.env) (EP X pins σ Q) X.xe s
def PT (X:Cx) (e:Expr) (t:TT):Prop:=
  ∀ (pins:List (Addr × Obj)) (s:Shared) (σ:St) (H:Hp) (Q:Bool->Hp->Prop),Inv X pins σ H s->t σ H Q->wpAny (model X.prog X.w) X.A (isTrue e X.env (eval e X.env)) (TP X pins σ Q) X.xe s
def PW (X:Cx) (e:Expr) (t:TT):Prop:=
  ∀ (whole:Sem Value) (pins:List (Addr × Obj)) (s:Shared) (σ:St) (H:Hp) (Q:Bool->Hp->Prop),Inv X pins σ H s->t σ H Q->wpAny (model X.prog X.w) X.A (isTrue e X.env whole) (TP X pins σ Q) X.xe s
theorem PW.pt {X:Cx} {e:Expr} {t:TT} (h:PW X e t):PT X e t:=h _
def PA (X:Cx) (es:List Expr) (t:TA):Prop:=
  ∀ (pos:Pos) (pins:List (Addr × Obj)) (s:Shared) (σ:St) (H:Hp) (Q:List V->Hp->Prop),Inv X pins σ H s->t σ H Q->wpAny (model X.prog X.w) X.A (spliced (backTo pos (starEach es X.env))) (AP X pins σ Q) X.xe s
def PS (X:Cx) (st:Stmt) (t:TS):Prop:=
  ∀ (pins:List (Addr × Obj)) (s:Shared) (σ:St) (H:Hp) (D:Ends),Inv X pins σ H s->t D σ H->wpAny (model X.prog X.w) X.A (exec st X.env) (SP X pins D) X.xe s
def PSs (X:Cx) (st:List Stmt) (t:TS):Prop:=
  ∀ (pins:List (Addr × Obj)) (s:Shared) (σ:St) (H:Hp) (D:Ends),Inv X pins σ H s->t D σ H->wpAny (model X.prog X.w) X.A (execs st X.env) (SP X pins D) X.xe s
theorem thn {α:Type} {t:Sem α} {Q Q':α->Shared->Prop} {M:Model} {A:Around} {E:Value->Shared->Prop} {s:Shared} (h:wpAny M A t Q E s) (hQ:∀ a s,Q a s->Q' a s):wpAny M A t Q' E s:=wpAny_mono h hQ λ _ _ x=>x
section
variable {X:Cx}
theorem bin {a b:Expr} {ta tb:TE} (ha:PE X a ta) (hb:PE X b tb) {pins:List (Addr × Obj)} {s:Shared} {σ:St} {H:Hp} {R:V->V->Hp->Prop} (I:Inv X pins σ H s) (h:ta σ H λ x H1=>tb σ H1 λ y H2=>R x y H2)
    {α:Type} {Q:α->Shared->Prop} {f:Value->Value->Sem α}
    (hf:∀ v u s2 x y H2,Inv X pins σ H2 s2->RelV x v->RelV y u->R x y H2->wpAny (model X.prog X.w) X.A (f v u) Q X.xe s2) :
    wpAny (model X.prog X.w) X.A (eval a X.env) (λ v s₁=>wpAny (model X.prog X.w) X.A (eval b X.env) (λ u s₂=>wpAny (model X.prog X.w) X.A (f v u) Q X.xe s₂) X.xe s₁) X.xe s:=by
  refine thn (ha pins s σ H _ I h) λ v s1 ⟨x,H1,I1,r1,q1⟩=>?_
  refine thn (hb pins s1 σ H1 _ I1 q1) λ u s2 ⟨y,H2,I2,r2,q2⟩=>?_
  exact hf v u s2 x y H2 I2 r1 r2 q2
def tVar (i:Nat):TE:=λ σ H Q=>∃ v,σ[i]?=some (some v)/\Q v H
def tC (v:V):TE:=λ _ H Q=>Q v H
theorem sVq {i:Nat} {x:Str} {pos:Pos} (hN:X.N[i]?=some x) (hv:Vis X.env.scope x) (hd:(x==("__debug__" : Str))=false:=by decide) (hcd:(x==("__classdict__" : Str))=false:=by decide):PE X (.Name x pos) (tVar i):=by
  intro pins s σ H Q I h
  obtain ⟨v,e,h⟩:=h
  obtain ⟨m,hn,hl⟩:=I.loc
  obtain ⟨u,r,l⟩:=hl i x v hN e hv
  have fin:EP X pins σ Q u s:=⟨v,H,I,r,h⟩
  rcases l with ⟨hk,hm⟩ | ⟨hk,c,hc,hcell⟩
  . exact wpAny_Name (wpAny_loadName_local I.ok.kind hk hn hm fin) hd
  . rcases hk with hk | hk
    . exact wpAny_Name (wpAny_loadName_cell I.ok.kind hk hc hcell fin) hd
    . exact wpAny_Name (wpAny_loadName_free I.ok.kind hk hc hcell fin hcd) hd
theorem yDq {i j pos}:PE X (.Constant (.int i) j pos) (tC (.int i)):=λ _ _ _ H _ I h=>wpAny_Constant_int ⟨.int i,H,I.tok _,⟨_,rfl⟩,h⟩
theorem aI7q {b j pos}:PE X (.Constant (.bool b) j pos) (tC (.bl b)):=λ _ _ _ H _ I h=>Constant_bool ⟨.bl b,H,I,rfl,h⟩
theorem zJq {x j pos}:PE X (.Constant (.str x) j pos) (tC (.str x)):=λ _ _ _ H _ I h=>Calls.Constant_str ⟨.str x,H,I.tok _,⟨_,rfl⟩,h⟩
def Gl (X:Cx) (x:Str):Prop:=X.env.kindOf x=some .globalImplicit
theorem n7q {E:Value->Shared->Prop} {pins:List (Addr × Obj)} {s:Shared} {σ:St} {H:Hp} {x:Str} {u:Value} {pos:Pos} {Q:Value->Shared->Prop} (I:Inv X pins σ H s) (hg:Gl X x) (hm:X.mg x=some u) (h:Q u s)
    (hd:(x==("__debug__" : Str))=false:=by decide):wpAny (model X.prog X.w) X.A (eval (.Name x pos) X.env) Q E s:=
  Calls.Name_function_global I.ok.kind hg (Calls.loadGlobal_global (by rw [I.ok.glob];exact I.mod.glob.keeps I.bk) hm h) hd
theorem e6q {E:Value->Shared->Prop} {pins:List (Addr × Obj)} {s:Shared} {σ:St} {H:Hp} {x:Str} {u:Value} {pos:Pos} {Q:Value->Shared->Prop} (I:Inv X pins σ H s) (hg:Gl X x) (hm:X.mg x=none) (hv:bootBuiltins x=some u) (h:Q u s)
    (hn:x≠"__name__":=by decide) (hd:(x==("__debug__" : Str))=false:=by decide):wpAny (model X.prog X.w) X.A (eval (.Name x pos) X.env) Q E s:=by
  obtain ⟨mb,h1,h2⟩:=I.mod.blt
  exact Calls.Name_function_global I.ok.kind hg (Calls.loadGlobal_builtin (by rw [I.ok.glob];exact I.mod.glob.keeps I.bk) hm (by rw [I.ok.blt];exact h1.keeps I.bk) ((h2 x hn).trans hv) h) hd
theorem kZq {x:Str} {v:V} {u:Value} {pos:Pos} (hg:Gl X x) (hm:X.mg x=some u) (r:RelV v u) (hd:(x==("__debug__" : Str))=false:=by decide):PE X (.Name x pos) (tC v):=
  λ _ _ _ H _ I h=>n7q I hg hm ⟨v,H,I,r,h⟩ hd
theorem tRq {x:Str} {v:V} {u:Value} {pos:Pos} (hg:Gl X x) (hm:X.mg x=none) (hv:bootBuiltins x=some u) (r:RelV v u) (hn:x≠"__name__":=by decide) (hd:(x==("__debug__" : Str))=false:=by decide):PE X (.Name x pos) (tC v):=
  λ _ _ _ H _ I h=>e6q I hg hm hv ⟨v,H,I,r,h⟩ hn hd
variable {a b:Expr} {ta tb:TE} {pos:Pos}
variable {tA tB':TT} {rest:List Expr}
def tAnd (t u:TT):TT:=λ σ H Q=>t σ H λ c H1=>if c=true then u σ H1 Q else Q false H1
def tOr (t u:TT):TT:=λ σ H Q=>t σ H λ c H1=>if c=true then Q true H1 else u σ H1 Q
def tNot (t:TT):TT:=λ σ H Q=>t σ H λ c H1=>Q (!c) H1
theorem tKq (ha:PT X a tA):PW X (.BoolOp .And [a] pos) tA:=by
  intro wh pins s σ H Q I h
  refine isTrue_and (thn (ha pins s σ H Q I h) λ c s1 e=>?_)
  cases c with
  | true=>exact isTrue_and_nil e
  | false=>exact e
theorem aB6q (ha:PT X a tA):PW X (.BoolOp .Or [a] pos) tA:=by
  intro wh pins s σ H Q I h
  refine isTrue_or (thn (ha pins s σ H Q I h) λ c s1 e=>?_)
  cases c with
  | false=>exact isTrue_or_nil e
  | true=>exact e
theorem zUq (ha:PT X a tA) (hb:PW X (.BoolOp .And (b::rest) pos) tB'):PW X (.BoolOp .And (a::b::rest) pos) (tAnd tA tB'):=by
  intro wh pins s σ H Q I h
  refine isTrue_and (thn (ha pins s σ H _ I h) λ c s1 ⟨H1,I1,q1⟩=>?_)
  cases c with
  | true=>exact hb wh pins s1 σ H1 Q I1 q1
  | false=>exact ⟨H1,I1,q1⟩
theorem aH0q (ha:PT X a tA) (hb:PW X (.BoolOp .Or (b::rest) pos) tB'):PW X (.BoolOp .Or (a::b::rest) pos) (tOr tA tB'):=by
  intro wh pins s σ H Q I h
  refine isTrue_or (thn (ha pins s σ H _ I h) λ c s1 ⟨H1,I1,q1⟩=>?_)
  cases c with
  | true=>exact ⟨H1,I1,q1⟩
  | false=>exact hb wh pins s1 σ H1 Q I1 q1
theorem z0q (ha:PT X a tA):PT X (.UnaryOp .Not a pos) (tNot tA):=by
  intro pins s σ H Q I h
  exact isTrue_not (ha pins s σ H (λ c H1=>Q (!c) H1) I h)
def wHq (ta tb:TE):TE:=λ σ H Q=>ta σ H λ x H1=>∃ c,x=.bl c/\if c=true then tb σ H1 Q else Q (.bl false) H1
def tOrV (ta tb:TE):TE:=λ σ H Q=>ta σ H λ x H1=>∃ c,x=.bl c/\if c=true then Q (.bl true) H1 else tb σ H1 Q
def x1q (ta:TE):TE:=λ σ H Q=>ta σ H λ x H1=>∃ c,x=.bl c/\Q (.bl (!c)) H1
theorem zGq {op} {t:TE} (h:PE X a t):PE X (.BoolOp op [a] pos) t:=λ pins s σ H Q I hw=>BoolOp_one (h pins s σ H Q I hw)
theorem xZq (ha:PE X a ta) (hb:PE X (.BoolOp .And (b::rest) pos) tb):PE X (.BoolOp .And (a::b::rest) pos) (wHq ta tb):=by
  intro pins s σ H Q I h
  refine BoolOp_and (thn (ha pins s σ H _ I h) λ v s1 ⟨x,H1,I1,r1,q1⟩=>?_)
  obtain ⟨c,rfl,q1⟩:=q1
  cases r1
  refine wpAny_truthy_bool ?_
  cases c with
  | true=>exact hb pins s1 σ H1 Q I1 q1
  | false=>exact ⟨.bl false,H1,I1,rfl,q1⟩
theorem aH2q (ha:PE X a ta) (hb:PE X (.BoolOp .Or (b::rest) pos) tb):PE X (.BoolOp .Or (a::b::rest) pos) (tOrV ta tb):=by
  intro pins s σ H Q I h
  refine BoolOp_or (thn (ha pins s σ H _ I h) λ v s1 ⟨x,H1,I1,r1,q1⟩=>?_)
  obtain ⟨c,rfl,q1⟩:=q1
  cases r1
  refine wpAny_truthy_bool ?_
  cases c with
  | false=>exact hb pins s1 σ H1 Q I1 q1
  | true=>exact ⟨.bl true,H1,I1,rfl,q1⟩
theorem z2q (ha:PE X a ta):PE X (.UnaryOp .Not a pos) (x1q ta):=by
  intro pins s σ H Q I h
  refine UnaryOp_ (thn (ha pins s σ H _ I h) λ v s1 ⟨x,H1,I1,r1,q1⟩=>?_)
  obtain ⟨c,rfl,q1⟩:=q1
  cases r1
  exact not_of (wpAny_truthy_bool ⟨.bl (!c),H1,I1,rfl,q1⟩)
def tIf (t:TT) (ta tb:TE):TE:=λ σ H Q=>t σ H λ c H1=>if c=true then ta σ H1 Q else tb σ H1 Q
theorem rVq {c:Expr} (hc:PT X c tA) (ha:PE X a ta) (hb:PE X b tb):PE X (.IfExp c a b pos) (tIf tA ta tb):=by
  intro pins s σ H Q I h
  refine wpAny_IfExp (thn (hc pins s σ H _ I h) λ d s1 ⟨H1,I1,q1⟩=>?_)
  cases d with
  | true=>exact ha pins s1 σ H1 Q I1 q1
  | false=>exact hb pins s1 σ H1 Q I1 q1
end
def SqL (K:PySem.W.Frag) (H:Hp) (a:Addr) (xs:List V):Prop:=
  Rd H a (.lst xs) ∨
    ∃ (o:Obj) (its:Array Value) (n:Nat),K.lookup a=some o/\o.cls=.type "list"/\o.dict=none/\o.data=.seq its n/\its.size<=sizeLine/\Vals xs its.toList
def SqT (K:PySem.W.Frag) (H:Hp) (a:Addr) (xs:List V):Prop:=
  Rd H a (.tup xs) ∨
    ∃ (o:Obj) (its:Array Value) (n:Nat),K.lookup a=some o/\o.cls=.type "tuple"/\o.data=.seq its n/\its.size<=sizeLine/\Vals xs its.toList
def absV:Value->Option V
  | .none=>some .non
  | .bool b=>some (.bl b)
  | .int i _=>some (.int i)
  | .str x _=>some (.str x)
  | .bytes b _=>some (.byt b)
  | .float b _=>some (.flt b)
  | .ref a=>some (.ref a)
  | .type n=>some (.ty n)
  | _=>none
theorem RelV.abs {x:V} {u:Value} (r:RelV x u):absV u=some x:=by
  cases x with
  | non=>cases r;rfl
  | bl _=>cases r;rfl
  | int _=>obtain ⟨t,rfl⟩:=r;rfl
  | str _=>obtain ⟨t,rfl⟩:=r;rfl
  | byt _=>obtain ⟨t,rfl⟩:=r;rfl
  | flt _=>obtain ⟨t,rfl⟩:=r;rfl
  | ref _=>cases r;rfl
  | ty _=>cases r;rfl
theorem RelV.inj {x y:V} {u:Value} (r:RelV x u) (q:RelV y u):x=y:=Option.some.inj (r.abs.symm.trans q.abs)
theorem Vals.inj:∀ {xs ys:List V} {us:List Value},Vals xs us->Vals ys us->xs=ys
  | _,_,_,.nil,.nil=>rfl
  | _,_,_,.cons r t,.cons r' t'=>by rw [r.inj r',Vals.inj t t']
section
variable {X:Cx} {pins:List (Addr × Obj)} {σ:St} {H:Hp} {s:Shared} {a:Addr} {xs ys:List V}
theorem SqL.of {K:PySem.W.Frag} (h:H a=some (.lst xs)):SqL K H a xs:=.inl (.inl h)
theorem SqT.of {K:PySem.W.Frag} (h:H a=some (.tup xs)):SqT K H a xs:=.inl (.inl h)
theorem Inv.list (I:Inv X pins σ H s) (h:SqL X.K H a xs):∃ its:List Value,Vals xs its/\PlainL s.heap a its.toArray/\xs.length<=sizeLine:=by
  rcases h with h | ⟨o,its,n,hk,hc,hd,hs,hz,r⟩
  . obtain ⟨z,its,n,r,e⟩:=h.ok I.hok
    exact ⟨its,r,⟨_,n,e,rfl,rfl,rfl⟩,z⟩
  . refine ⟨its.toList,r,⟨o,n,I.kIn a o hk,hc,hd,by simpa using hs⟩,?_⟩
    have e:=r.length
    simp only [Array.length_toList] at e
    omega
theorem Inv.tuple (I:Inv X pins σ H s) (h:SqT X.K H a xs):∃ its:List Value,Vals xs its/\IsTup s.heap a its.toArray/\xs.length<=sizeLine:=by
  rcases h with h | ⟨o,its,n,hk,hc,hs,hz,r⟩
  . obtain ⟨z,its,r,p⟩:=h.ok I.hok
    exact ⟨its,r,p,z⟩
  . refine ⟨its.toList,r,⟨o,I.kIn a o hk,hc,n,by simpa using hs⟩,?_⟩
    have e:=r.length
    simp only [Array.length_toList] at e
    omega
theorem Inv.list_inj (I:Inv X pins σ H s) (h:SqL X.K H a xs) (h':SqL X.K H a ys):xs=ys:=by
  obtain ⟨its,r,⟨o,n,e,_,_,d⟩,_⟩:=I.list h
  obtain ⟨its',r',⟨o',n',e',_,_,d'⟩,_⟩:=I.list h'
  rw [e] at e';cases e'
  rw [d] at d'
  injection d' with d1 _
  have:its=its':=by simpa using congrArg Array.toList d1
  subst this
  exact r.inj r'
theorem Inv.tuple_inj (I:Inv X pins σ H s) (h:SqT X.K H a xs) (h':SqT X.K H a ys):xs=ys:=by
  obtain ⟨its,r,⟨o,e,_,n,d⟩,_⟩:=I.tuple h
  obtain ⟨its',r',⟨o',e',_,n',d'⟩,_⟩:=I.tuple h'
  rw [e] at e';cases e'
  rw [d] at d'
  injection d' with d1 _
  have:its=its':=by simpa using congrArg Array.toList d1
  subst this
  exact r.inj r'
end
abbrev Cx.wish (X:Cx) (E:Value->Shared->Prop):Cx:={ X with xe:=E }
abbrev Cx.nox (X:Cx):Cx:=X.wish λ _ _=>False
theorem Cx.Ok.wish {X:Cx} (ok:X.Ok) (E:Value->Shared->Prop):(X.wish E).Ok:=
  ⟨ok.mod,ok.kind,ok.glob,ok.blt,ok.above,ok.inj,ok.has,ok.cab,ok.hd,ok.frames,ok.stk,ok.exf,ok.bs,ok.bsz,ok.noex,ok.exfs,ok.funs,ok.frf⟩
theorem Cx.Ok.unwish {X:Cx} {E:Value->Shared->Prop} (ok:(X.wish E).Ok):X.Ok:=
  ⟨ok.mod,ok.kind,ok.glob,ok.blt,ok.above,ok.inj,ok.has,ok.cab,ok.hd,ok.frames,ok.stk,ok.exf,ok.bs,ok.bsz,ok.noex,ok.exfs,ok.funs,ok.frf⟩
section
variable {X:Cx} {pins:List (Addr × Obj)} {σ:St} {H:Hp} {s:Shared} {E:Value->Shared->Prop}
theorem Inv.wish (I:Inv X pins σ H s) (E:Value->Shared->Prop):Inv (X.wish E) pins σ H s:=⟨I.ok.wish E,I.os,I.bare,I.base,I.loc,I.cell,I.free,I.freeC,I.pin,I.hok,I.len⟩
theorem Inv.unwish (I:Inv (X.wish E) pins σ H s):Inv X pins σ H s:=⟨I.ok.unwish,I.os,I.bare,I.base,I.loc,I.cell,I.free,I.freeC,I.pin,I.hok,I.len⟩
theorem SP.unwish {D:Ends} {f:Flow} {s':Shared} (h:SP (X.wish E) pins D f s'):SP X pins D f s':=by
  cases f with
  | next=>obtain ⟨σ',H',I,q⟩:=h;exact ⟨σ',H',I.unwish,q⟩
  | brk=>obtain ⟨σ',H',I,q⟩:=h;exact ⟨σ',H',I.unwish,q⟩
  | cont=>obtain ⟨σ',H',I,q⟩:=h;exact ⟨σ',H',I.unwish,q⟩
  | ret u=>obtain ⟨v,σ',H',I,r,q⟩:=h;exact ⟨v,σ',H',I.unwish,r,q⟩
theorem PSs.nox {st:List Stmt} {t:TS} (h:PSs X.nox st t):PSs X st t:=λ pins s σ H D I hw=>
  wpAny_mono (h pins s σ H D (I.wish _) hw) (λ _ _ q=>q.unwish) λ _ _ z=>False.elim z
end
section
variable {X:Cx} {st:Stmt} {rest:List Stmt} {t u:TS} {e:Expr} {te:TE} {pos:Pos}
def yPq:TS:=λ D σ H=>D.nx σ H
def tSeq (t u:TS):TS:=λ D σ H=>t { D with nx:=u D } σ H
theorem vZq:PSs X [] yPq:=λ _ _ σ H _ I h=>wpAny_execs_nil ⟨σ,H,I,h⟩
theorem r9q (h1:PS X st t) (h2:PSs X rest u):PSs X (st::rest) (tSeq t u):=by
  intro pins s σ H D I h
  refine wpAny_execs_cons (thn (h1 pins s σ H { D with nx:=u D } I h) λ f s1 q=>?_)
  cases f with
  | next=>
    obtain ⟨σ',H',I',q⟩:=q
    exact h2 pins s1 σ' H' D I' q
  | ret v=>exact q
  | brk=>exact q
  | cont=>exact q
theorem tYq (h1:PS X st t):PSs X [st] t:=by
  intro pins s σ H D I h
  refine wpAny_execs_cons (thn (h1 pins s σ H D I h) λ f s1 q=>?_)
  cases f with
  | next=>exact wpAny_execs_nil q
  | ret v=>exact q
  | brk=>exact q
  | cont=>exact q
theorem Inv.quiet {pins:List (Addr × Obj)} {σ:St} {H:Hp} {s:Shared} (I:Inv X pins σ H s):interactive X.env=false:=by simp [interactive,I.ok.kind]
def wNq (te:TE):TS:=λ D σ H=>te σ H λ _ H1=>D.nx σ H1
theorem tWq (he:PE X e te) (hs:swapsWith e none pos.line X.env=pure false:=by rfl):PS X (.Expr e pos) (wNq te):=by
  intro pins s σ H D I h
  exact wpAny_Expr_any (thn (he pins s σ H _ I h) λ v s1 ⟨x,H1,I1,r1,q1⟩=>⟨σ,H1,I1,q1⟩) I.quiet hs
def tRet (te:TE):TS:=λ D σ H=>te σ H D.rt
theorem y9q (he:PE X e te):PS X (.Return (some e) pos) (tRet te):=by
  intro pins s σ H D I h
  exact wpAny_Return_some (thn (he pins s σ H _ I h) λ v s1 ⟨x,H1,I1,r1,q1⟩=>⟨x,σ,H1,I1,r1,q1⟩)
def tIfS (c:TT) (t u:TS):TS:=λ D σ H=>c σ H λ b H1=>if b=true then t D σ H1 else u D σ H1
theorem aL5q {c:Expr} {a b:List Stmt} {tc:TT} (hc:PT X c tc) (ha:PSs X a t) (hb:PSs X b u):PS X (.If c a b pos) (tIfS tc t u):=by
  intro pins s σ H D I h
  refine wpAny_If (thn (hc pins s σ H _ I h) λ d s1 ⟨H1,I1,q1⟩=>?_)
  cases d with
  | true=>exact ha pins s1 σ H1 D I1 q1
  | false=>exact hb pins s1 σ H1 D I1 q1
end
abbrev TG:=V->St->Hp->(St->Hp->Prop)->Prop
abbrev TGs:=List V->St->Hp->(St->Hp->Prop)->Prop
def PG (X:Cx) (target:Expr) (t:TG):Prop:=
  ∀ (pins:List (Addr × Obj)) (s:Shared) (σ:St) (H:Hp) (v:V) (u:Value) (Q:St->Hp->Prop),Inv X pins σ H s->RelV v u->t v σ H Q →
    wpAny (model X.prog X.w) X.A (assign target X.env u) (λ _ s'=>∃ σ' H',Inv X pins σ' H' s'/\Q σ' H') X.xe s
def PGs (X:Cx) (ts:List Expr) (t:TGs):Prop:=
  ∀ (pins:List (Addr × Obj)) (s:Shared) (σ:St) (H:Hp) (vs:List V) (us:List Value) (Q:St->Hp->Prop),Inv X pins σ H s->Vals vs us->t vs σ H Q →
    wpAny (model X.prog X.w) X.A (assignInOrder ((assignEach ts X.env).map (·.2)) us) (λ _ s'=>∃ σ' H',Inv X pins σ' H' s'/\Q σ' H') X.xe s
abbrev TSet:=V->V->V->Hp->(Hp->Prop)->Prop
def PSet (X:Cx) (t:TSet):Prop:=
  ∀ (pins:List (Addr × Obj)) (s:Shared) (σ:St) (H:Hp) (o i v:V) (ov iv u:Value) (Q:Hp->Prop),Inv X pins σ H s->RelV o ov->RelV i iv->RelV v u->t o i v H Q →
    wpAny (model X.prog X.w) X.A (setItem ov iv u) (λ _ s'=>∃ H',Inv X pins σ H' s'/\Q H') X.xe s
abbrev TIp:=V->V->Hp->VK->Prop
def PIp (X:Cx) (op:Operator) (t:TIp):Prop:=
  ∀ (pins:List (Addr × Obj)) (s:Shared) (σ:St) (H:Hp) (x y:V) (v u:Value) (Q:VK),Inv X pins σ H s->RelV x v->RelV y u->t x y H Q →
    wpAny (model X.prog X.w) X.A (inplaceOp op v u) (EP X pins σ Q) X.xe s
section
variable {X:Cx} {pos:Pos}
def mVq (i:Nat):TG:=λ v σ H Q=>Q (σ.set i (some v)) H
theorem vWq {i:Nat} {x:Str} (hN:X.N.Nodup) (hi:X.N[i]?=some x) (hx:Loc X.env.scope x) (hf:X.fn x=true\/X.env.scope.names.lookup x=some .local:=by first | exact .inl rfl | exact .inr rfl | assumption):PG X (.Name x pos) (mVq i):=by
  intro pins s σ H v u Q I r h
  exact wpAny_assign_Name (hFq I hN hi hx r (λ s' I'=>⟨_,H,I',h⟩) hf)
def gNil:TGs:=λ vs σ H Q=>vs=[]/\Q σ H
def aA1q (t:TG) (u:TGs):TGs:=λ vs σ H Q=>∃ v r,vs=v::r/\t v σ H λ σ' H'=>u r σ' H' Q
theorem vBq:PGs X [] gNil:=by
  intro pins s σ H vs us Q I r h
  obtain ⟨e,h⟩:=h
  subst e
  cases r
  exact assignInOrder_nil ⟨σ,H,I,h⟩
theorem rNq {e:Expr} {es:List Expr} {t:TG} {u:TGs} (h1:PG X e t) (h2:PGs X es u)
    (hs:(assignEach (e::es) X.env).map (·.2)=assign e X.env::(assignEach es X.env).map (·.2):=by rfl):PGs X (e::es) (aA1q t u):=by
  intro pins s σ H vs us Q I r h
  obtain ⟨v,vr,e1,h⟩:=h
  subst e1
  cases r with
  | cons r rr=>
    rw [hs]
    refine assignInOrder_cons (thn (h1 pins s σ H _ _ _ I r h) λ _ s1 ⟨σ1,H1,I1,q1⟩=>?_)
    exact h2 pins s1 σ1 H1 _ _ Q I1 rr q1
def gTup (K:PySem.W.Frag) (n:Nat) (t:TGs):TG:=λ v σ H Q=>∃ a xs,v=.ref a/\SqT K H a xs/\xs.length=n/\t xs σ H Q
theorem z5q {es:List Expr} {k:Nat} {t:TGs} {n:Nat} (hc:X.calm=true) (h:PGs X es t)
    (hn:(assignEach es X.env).length=n:=by rfl) (hst:(assignEach es X.env).findIdx? (·.1)=none:=by rfl):PG X (.Tuple es k pos) (gTup X.K n t):=by
  intro pins s σ H v u Q I r hw
  obtain ⟨a,xs,e1,hq,hl,hw⟩:=hw
  subst e1
  cases r
  obtain ⟨its,rv,ht,hz⟩:=I.tuple hq
  refine assign_Tuple_tuple (I.ok.hd hc) ht (by simp [hn,<- hl,rv.length]) hst λ h' hx=>?_
  have I1:Inv X pins σ H { s with heap:=h' }:=I.kept (t':=s.toks) λ b o e=>hx b o (Nat.ne_of_lt (Heap.lt_size e)) e
  exact h pins _ σ H xs _ Q I1 (by simpa using rv) hw
def gSub (to ti:TE) (t:TSet):TG:=λ v σ H Q=>to σ H λ o H1=>ti σ H1 λ i H2=>t o i v H2 λ H3=>Q σ H3
theorem z7q {o i:Expr} {to ti:TE} {t:TSet} (ho:PE X o to) (hi:PE X i ti) (hs:PSet X t)
    (ha:∀ v,assign (.Subscript o i pos) X.env v=(do
      let ov ← holding [v] (eval o X.env)
      let iv ← holding [v,ov] (eval i X.env)
      standAt pos
      holding [v,ov,iv] (setItem ov iv v)
      release [v,ov,iv] []):=by intro _;rfl):PG X (.Subscript o i pos) (gSub to ti t):=by
  intro pins s σ H v u Q I r h
  rw [ha]
  refine wpAny_bind (wpAny_holding (thn (ho pins s σ H _ I h) λ ov s1 ⟨x,H1,I1,r1,q1⟩=>?_))
  refine wpAny_bind (wpAny_holding (thn (hi pins s1 σ H1 _ I1 q1) λ iv s2 ⟨y,H2,I2,r2,q2⟩=>?_))
  refine wpAny_bind (wpAny_standAt (wpAny_bind (wpAny_holding (thn (hs pins s2 σ H2 x y v ov iv u _ I2 r1 r2 r q2) λ _ s3 ⟨H3,I3,q3⟩=>?_))))
  exact wpAny_release ⟨σ,H3,I3,q3⟩
def w9q (te:TE) (g:TG):TS:=λ D σ H=>te σ H λ x H1=>g x σ H1 D.nx
theorem aC4q {tg e:Expr} {te:TE} {g:TG} (he:PE X e te) (hg:PG X tg g) (hs:swapsWithSole [tg] e pos.line X.env=pure false:=by rfl) (hw:swappedStores [tg] e X.env=pure none:=by rfl)
    (h1:(assignEach [tg] X.env).map (·.2)=[assign tg X.env]:=by rfl):PS X (.Assign [tg] e pos) (w9q te g):=by
  intro pins s σ H D I h
  refine wpAny_Assign_stores (thn (he pins s σ H _ I h) λ v s1 ⟨x,H1,I1,r1,q1⟩=>?_) hs hw
  rw [h1]
  exact thn (hg pins s1 σ H1 x v _ I1 r1 q1) λ _ s2 q=>q
theorem y0q {i:Nat} {x:Str} {e:Expr} {te:TE} {pos':Pos} (hN:X.N.Nodup) (hi:X.N[i]?=some x) (hx:Loc X.env.scope x) (he:PE X e te) (hs:swapsWith e (some (.Name x pos')) pos.line X.env=pure false:=by rfl) (hf:X.fn x=true\/X.env.scope.names.lookup x=some .local:=by first | exact .inl rfl | exact .inr rfl | assumption) :
    PS X (.Assign [.Name x pos'] e pos) (w9q te (mVq i)):=by
  intro pins s σ H D I h
  refine wpAny_Assign_Name (thn (he pins s σ H _ I h) λ v s1 ⟨y,H1,I1,r1,q1⟩=>?_) hs
  exact hFq I1 hN hi hx r1 (λ s2 I2=>⟨_,H1,I2,q1⟩) hf
def tAug (i:Nat) (te:TE) (ti:TIp):TS:=λ D σ H=>∃ x,σ[i]?=some (some x)/\te σ H λ y H1=>ti x y H1 λ z H2=>D.nx (σ.set i (some z)) H2
theorem yKq {i:Nat} {x:Str} {e:Expr} {te:TE} {op:Operator} {ti:TIp} {pos':Pos} (hN:X.N.Nodup) (hi:X.N[i]?=some x) (hx:Loc X.env.scope x) (he:PE X e te) (ho:PIp X op ti) (hf:X.fn x=true\/X.env.scope.names.lookup x=some .local:=by first | exact .inl rfl | exact .inr rfl | assumption) :
    PS X (.AugAssign (.Name x pos') op e pos) (tAug i te ti):=by
  intro pins s σ H D I h
  obtain ⟨v,e1,h⟩:=h
  obtain ⟨m,hn,hl⟩:=I.loc
  have vis:Vis X.env.scope x:=by rcases hx with k | k;exact .inl k;exact .inr (.inl k)
  obtain ⟨u,r,l⟩:=hl i x v hi e1 vis
  refine wpAny_AugAssign_Name ?_
  have go:wpAny (model X.prog X.w) X.A (eval e X.env) (λ w s₂=>wpAny (model X.prog X.w) X.A (inplaceOp op u w) (λ r s₃=>wpAny (model X.prog X.w) X.A (storeName X.env x r) (λ _=>SP X pins D .next) X.xe s₃) X.xe s₂) X.xe s:=by
    refine thn (he pins s σ H _ I h) λ w s1 ⟨y,H1,I1,r1,q1⟩=>?_
    refine thn (ho pins s1 σ H1 v y u w _ I1 r r1 q1) λ z s2 ⟨zv,H2,I2,r2,q2⟩=>?_
    exact hFq I2 hN hi hx r2 (λ s3 I3=>⟨_,H2,I3,q2⟩) hf
  rcases l with ⟨hk,hm⟩ | ⟨hk,c,hc,hcell⟩
  . exact wpAny_loadName_local I.ok.kind hk hn hm go
  . rcases hk with hk | hk
    . exact wpAny_loadName_cell I.ok.kind hk hc hcell go
    . rcases hx with k | k
      . have:X.env.scope.names.lookup x=some .free:=hk
        rw [k] at this;cases this
      . have:X.env.scope.names.lookup x=some .free:=hk
        rw [k] at this;cases this
def ipI (f:Int->Int->Int):TIp:=λ x y H Q=>∃ i j,x=.int i/\y=.int j/\Q (.int (f i j)) H
theorem yIq:PIp X .Add (ipI λ i j=>i+j):=by
  intro pins s σ H x y v u Q I r1 r2 h
  obtain ⟨i,j,e1,e2,q⟩:=h
  subst e1;subst e2
  obtain ⟨t,rfl⟩:=r1
  obtain ⟨t',rfl⟩:=r2
  exact iadd_int ⟨.int _,H,I.tok _,⟨_,rfl⟩,q⟩
theorem y3q:PIp X .Sub (ipI λ i j=>i - j):=by
  intro pins s σ H x y v u Q I r1 r2 h
  obtain ⟨i,j,e1,e2,q⟩:=h
  subst e1;subst e2
  obtain ⟨t,rfl⟩:=r1
  obtain ⟨t',rfl⟩:=r2
  exact isub_int ⟨.int _,H,I.tok _,⟨_,rfl⟩,q⟩
end
section
variable {X:Cx} {pos:Pos}
def sMq (c:TT) (tb:TS):TS:=λ D σ H=>∃ W:Nat->St->Hp->Prop,(∃ m,W m σ H)/\∀ m σ H,W m σ H →
  c σ H λ b H1=>if b=true then ∃ N:St->Hp->Prop,(∀ σ' H',N σ' H'->∃ m',m' < m/\W m' σ' H')/\tb { D with nx:=N,ct:=N,bk:=D.nx } σ H1 else D.nx σ H1
theorem qYq {c:Expr} {body:List Stmt} {tc:TT} {tb:TS} (hp:PassesOwn (model X.prog X.w) X.A X.env X.xe) (hc:PT X c tc) (hb:PSs X body tb):PS X (.While c body [] pos) (sMq tc tb):=by
  intro pins s σ H D I h
  obtain ⟨W,⟨m0,w0⟩,turn⟩:=h
  refine wpAny_While (codeAny_whileLoop (λ n s'=>∃ σ' H',Inv X pins σ' H' s'/\W n σ' H') ?_ m0 ⟨σ,H,I,w0⟩)
  rintro n s1 ⟨σ1,H1,I1,w1⟩
  refine wpAny_passesOwn hp (thn (hc pins s1 σ1 H1 _ I1 (turn n σ1 H1 w1)) λ b s2 ⟨H2,I2,q2⟩=>?_)
  cases b with
  | true=>
    obtain ⟨N,hN,q2⟩:=q2
    rw [if_pos rfl]
    refine wpAny_passesOwn hp (thn (hb pins s2 σ1 H2 _ I2 q2) λ f s3 q3=>?_)
    cases f with
    | next=>
      obtain ⟨σ3,H3,I3,n3⟩:=q3
      obtain ⟨m',hm,w3⟩:=hN σ3 H3 n3
      exact ⟨m',hm,σ3,H3,I3,w3⟩
    | cont=>
      obtain ⟨σ3,H3,I3,n3⟩:=q3
      obtain ⟨m',hm,w3⟩:=hN σ3 H3 n3
      exact ⟨m',hm,σ3,H3,I3,w3⟩
    | brk=>exact q3
    | ret v=>exact q3
  | false=>
    rw [if_neg Bool.false_ne_true]
    exact wpAny_execs_nil ⟨σ1,H2,I2,q2⟩
end
structure It where
  go:Nat->Hp->Prop
  yld:Nat->Hp->V->Hp->Prop
  stop:Nat->Hp->Prop
def jRq (X:Cx) (pins:List (Addr × Obj)) (H:Hp) (b:Addr):Prop:=
  H b=none/\b≠X.env.locals/\b ∉ X.fs/\(b∈X.ex\/X.s₀.heap.objs.size<=b)/\(∀ x c,X.env.cells.lookup x=some c->c≠b)/\∀ p∈X.pn++pins,p.1≠b
theorem Inv.fpOk {X:Cx} {pins:List (Addr × Obj)} {σ:St} {H H':Hp} {s:Shared} {b:Addr} (I:Inv X pins σ H s) (hb:s.heap.objs.size<=b) (hn:H' b=none):jRq X pins H' b:=by
  refine ⟨hn,Nat.ne_of_gt (Nat.lt_of_lt_of_le I.lt hb),I.nofs hb,.inr (Nat.le_trans I.sz hb),λ x c e z=>?_,λ p hp z=>?_⟩
  . obtain ⟨v,q⟩:=I.cell x c e
    exact absurd (Nat.lt_of_lt_of_le q.lt (by rw [z];exact hb)) (Nat.lt_irrefl _)
  . exact absurd (Nat.lt_of_lt_of_le (Heap.lt_size (I.pin p hp).1) (by rw [z];exact hb)) (Nat.lt_irrefl _)
structure Turn (P:Program) (w:World) (K:PySem.W.Frag) (tg:Expr) (J:It) (fp:List Addr) (it:Addr) (tn:Nat->Heap->Prop):Prop where
  mem:it∈fp
  obj:∀ i h,tn i h->∀ b∈fp,∃ o,h.get? b=some o/\∀ v,o.data≠.cell v
  keep:∀ i h h',tn i h->(∀ b∈fp,∀ o,h.get? b=some o->h'.get? b=some o)->tn i h'
  item:∀ (X:Cx),X.prog=P->X.w=w->X.K=K->X.calm=true->∀ (i:Nat) (pins:List (Addr × Obj)) (s:Shared) (σ:St) (H:Hp) (E:Value->Shared->Prop),Inv X pins σ H s->(∀ b∈fp,jRq X pins H b)->tn i s.heap->J.go i H →
    wpAny (model P w) X.A (pyNext (.ref it)) (λ r s1=>∃ u,r=some u ∧
      wpAny (model P w) X.A (letOwnedTupleGo tg (.ref it) u) (λ _ s2=>∃ x H',Inv X pins σ H' s2/\RelV x u/\J.yld i H x H'/\tn (i+1) s2.heap/\∀ b∈fp,H' b=none) E s1) E s
  done:∀ (X:Cx),X.prog=P->X.w=w->X.K=K->X.calm=true->∀ (i:Nat) (pins:List (Addr × Obj)) (s:Shared) (σ:St) (H:Hp) (E:Value->Shared->Prop),Inv X pins σ H s->(∀ b∈fp,jRq X pins H b)->tn i s.heap->J.stop i H →
    wpAny (model P w) X.A (pyNext (.ref it)) (λ r s1=>r=none/\Inv X pins σ H s1) E s
  self:∀ (A:Around) (i:Nat) (s:Shared) (Q:Value->Shared->Prop) (E:Value->Shared->Prop),tn i s.heap->Q (.ref it) s->wpAny (model P w) A (pyIter (.ref it)) Q E s
abbrev TI:=St->Hp->(It->Hp->Prop)->Prop
def PIE (X:Cx) (pins:List (Addr × Obj)) (σ:St) (tg:Expr) (R:It->Hp->Prop) (itv:Value) (s2:Shared):Prop:=
  ∃ (it:Addr) (fp:List Addr) (tn:Nat->Heap->Prop) (J:It) (H':Hp),itv=.ref it/\Inv X pins σ H' s2/\Turn X.prog X.w X.K tg J fp it tn/\tn 0 s2.heap/\(∀ b∈fp,jRq X pins H' b)/\R J H'
def PI (X:Cx) (tg iter:Expr) (wi:TI):Prop:=
  ∀ (pins:List (Addr × Obj)) (s:Shared) (σ:St) (H:Hp) (R:It->Hp->Prop),Inv X pins σ H s->wi σ H R →
    wpAny (model X.prog X.w) X.A (eval iter X.env) (λ v s1=>wpAny (model X.prog X.w) X.A (pyIter v) (PIE X pins σ tg R) X.xe s1) X.xe s
theorem pUq {M:Model} {A:Around} {E:Value->Shared->Prop} {s:Shared} {tg:Expr} {it:Addr} {u:Value} {o:Obj} {n:String} {vs:Array Value} {Q:Unit->Shared->Prop} (ho:s.heap.get? it=some o) (hc:o.cls=.type n) (hd:o.data=.fields vs)
    (hn:["enumerate", "zip", "dict_itemiterator", "dict_reverseitemiterator", "odict_iterator", "itertools.zip_longest", "itertools.pairwise"].contains n=false) (hQ:Q () s):wpAny M A (letOwnedTupleGo tg (.ref it) u) Q E s:=by
  unfold letOwnedTupleGo
  cases tg<;>first
    | exact wpAny_pure hQ
    | (cases u<;>first
        | exact wpAny_pure hQ
        | (refine wpAny_bind (wpAny_load ho ?_)
           rw [hc,hd]
           show wpAny M A (if (["enumerate", "zip", "dict_itemiterator", "dict_reverseitemiterator", "odict_iterator", "itertools.zip_longest", "itertools.pairwise"].contains n&&vs[0]?==some (rawInt _))=true then _ else _) Q E s
           rw [if_neg (by intro h;rw [hn,Bool.false_and] at h;cases h)]
           exact wpAny_pure hQ))
def Itl (K:PySem.W.Frag) (a:Addr):It:=
  ⟨λ i H=>∃ xs x,SqL K H a xs/\xs[i]?=some x,λ i H x H'=>H'=H/\∀ xs,SqL K H a xs->xs[i]?=some x,λ i H=>∃ xs,SqL K H a xs/\xs.length<=i⟩
def Itt (K:PySem.W.Frag) (a:Addr):It:=
  ⟨λ i H=>∃ xs x,SqT K H a xs/\xs[i]?=some x,λ i H x H'=>H'=H/\∀ xs,SqT K H a xs->xs[i]?=some x,λ i H=>∃ xs,SqT K H a xs/\xs.length<=i⟩
def Itr (lo:Int) (n:Nat):It:=⟨λ i _=>i < n,λ i H x H'=>H'=H/\x=.int (lo+i),λ i _=>n<=i⟩
theorem nBq {P:Program} {w:World} {K:PySem.W.Frag} {tg:Expr} (a it:Addr):Turn P w K tg (Itl K a) [it] it (λ i h=>h.IsListIter it a i) where
  mem:=by simp
  obj:=λ i h st b hb=>by
    have e:b=it:=by simpa using hb
    subst e
    obtain ⟨o,e,c,d⟩:=st
    exact ⟨o,e,λ v z=>by rw [d] at z;cases z⟩
  keep:=λ i h h' st k=>st.at λ o e=>k it (by simp) o e
  item:=by
    intro X hP hw hK hc i pins s σ H E I hf st hg
    subst hP hw hK
    obtain ⟨xs,x,hq,hx⟩:=hg
    obtain ⟨its,rv,p,hz⟩:=I.list hq
    obtain ⟨u,hu,ru⟩:=rv.get hx
    obtain ⟨f0,f1,f2,f3,f4,f5⟩:=hf it (by simp)
    refine wpAny_pyNext_list_item st p.isList (x:=u) (by simpa using hu) λ h' st' sb=>?_
    have I1:Inv X pins σ H { s with heap:=h' }:=I.turned (t':=s.toks) (λ b o hb e=>(sb.2 b hb).trans e) f0 f1 f3 f4 f5
    obtain ⟨o,e,c,d⟩:=id st'
    exact ⟨u,rfl,pUq (s:={ s with heap:=h' }) e c d (by decide) ⟨x,H,I1,ru,⟨rfl,λ ys hy=>by rw [I.list_inj hy hq];exact hx⟩,st',λ b hb=>(hf b hb).1⟩⟩
  done:=by
    intro X hP hw hK hc i pins s σ H E I hf st hg
    subst hP hw hK
    obtain ⟨xs,hq,hx⟩:=hg
    obtain ⟨its,rv,p,hz⟩:=I.list hq
    obtain ⟨f0,f1,f2,f3,f4,f5⟩:=hf it (by simp)
    have hl:=rv.length
    exact wpAny_pyNext_list_end (I.ok.hd hc) st p.isList (by simp;omega) λ h' eb=>⟨rfl,I.turned (t':=s.toks) (λ b o hb e=>eb b o hb e) f0 f1 f3 f4 f5⟩
  self:=λ _ _ _ _ _ st h=>wpAny_pyIter_listiter st h
theorem mNq {P:Program} {w:World} {K:PySem.W.Frag} {tg:Expr} (a it:Addr):Turn P w K tg (Itt K a) [it] it (λ i h=>h.IsTupleIter it a i) where
  mem:=by simp
  obj:=λ i h st b hb=>by
    have e:b=it:=by simpa using hb
    subst e
    obtain ⟨o,e,c,d⟩:=st
    exact ⟨o,e,λ v z=>by rw [d] at z;cases z⟩
  keep:=λ i h h' st k=>st.at λ o e=>k it (by simp) o e
  item:=by
    intro X hP hw hK hc i pins s σ H E I hf st hg
    subst hP hw hK
    obtain ⟨xs,x,hq,hx⟩:=hg
    obtain ⟨its,rv,p,hz⟩:=I.tuple hq
    obtain ⟨u,hu,ru⟩:=rv.get hx
    obtain ⟨f0,f1,f2,f3,f4,f5⟩:=hf it (by simp)
    refine wpAny_pyNext_tuple_item st (show s.heap.IsTuple a its.toArray from p) (x:=u) (by simpa using hu) λ h' st' sb=>?_
    have I1:Inv X pins σ H { s with heap:=h' }:=I.turned (t':=s.toks) (λ b o hb e=>(sb.2 b hb).trans e) f0 f1 f3 f4 f5
    obtain ⟨o,e,c,d⟩:=id st'
    exact ⟨u,rfl,pUq (s:={ s with heap:=h' }) e c d (by decide) ⟨x,H,I1,ru,⟨rfl,λ ys hy=>by rw [I.tuple_inj hy hq];exact hx⟩,st',λ b hb=>(hf b hb).1⟩⟩
  done:=by
    intro X hP hw hK hc i pins s σ H E I hf st hg
    subst hP hw hK
    obtain ⟨xs,hq,hx⟩:=hg
    obtain ⟨its,rv,p,hz⟩:=I.tuple hq
    obtain ⟨f0,f1,f2,f3,f4,f5⟩:=hf it (by simp)
    have hl:=rv.length
    exact wpAny_pyNext_tuple_end (I.ok.hd hc) st (show s.heap.IsTuple a its.toArray from p) (by simp;omega) λ h' eb=>⟨rfl,I.turned (t':=s.toks) (λ b o hb e=>eb b o hb e) f0 f1 f3 f4 f5⟩
  self:=λ _ _ _ _ _ st h=>wpAny_pyIter_tupleiter st h
theorem mPq {P:Program} {w:World} {K:PySem.W.Frag} {tg:Expr} (it:Addr) (lo:Int) (n:Nat):Turn P w K tg (Itr lo n) [it] it (λ i h=>IsRangeIter h it (lo+(i:Nat) * 1) ((n:Int) - (i:Nat)) 1) where
  mem:=by simp
  obj:=λ i h st b hb=>by
    have e:b=it:=by simpa using hb
    subst e
    exact ⟨_,st,λ v z=>by
      have z':Data.fields _=Data.cell v:=z
      cases z'⟩
  keep:=λ i h h' st k=>k it (by simp) _ st
  item:=by
    intro X hP hw hK hc i pins s σ H E I hf st hg
    subst hP hw hK
    obtain ⟨f0,f1,f2,f3,f4,f5⟩:=hf it (by simp)
    have W:=Walks.range (prog:=X.prog) (w:=X.w) (I.ok.hd hc) it lo 1 n
    refine W.item i s _ _ hg st λ v h' tk hv st' kk=>?_
    obtain ⟨t,rfl⟩:=hv
    have I1:Inv X pins σ H { s with heap:=h',toks:=tk }:=I.turned (λ b o hb e=>kk b o (by simpa using hb) e) f0 f1 f3 f4 f5
    refine ⟨_,rfl,pUq (s:={ s with heap:=h',toks:=tk }) (n:="range_iterator") st' rfl rfl (by decide) ⟨.int (lo+i),H,I1,⟨t,?_⟩,⟨rfl,rfl⟩,st',λ b hb=>(hf b hb).1⟩⟩
    rw [Int.mul_one]
  done:=by
    intro X hP hw hK hc i pins s σ H E I hf st hg
    subst hP hw hK
    obtain ⟨f0,f1,f2,f3,f4,f5⟩:=hf it (by simp)
    exact wpAny_pyNext_range_end (I.ok.hd hc) st (by have:n<=i:=hg;omega) λ h' eb=>⟨rfl,I.turned (t':=s.toks) (λ b o hb e=>eb b o hb e) f0 f1 f3 f4 f5⟩
  self:=λ _ _ _ _ _ st h=>wpAny_pyIter_rangeiter st h
section
variable {X:Cx} {tg:Expr}
theorem rFq {pins:List (Addr × Obj)} {σ:St} {H:Hp} {s:Shared} {R:It->Hp->Prop} {E:Value->Shared->Prop} {lo hi:Int} {t u v:Tok} {tk:Nat} (I:Inv X pins σ H s) (h1:-(2 ^ 62)<=lo) (h2:lo < 2 ^ 62) (h3:-(2 ^ 62)<=hi) (h4:hi < 2 ^ 62)
    (q:R (Itr lo (hi - lo).toNat) H):wpAny (model X.prog X.w) X.A (pyIter (.ref s.heap.objs.size)) (PIE X pins σ tg R) E { s with heap:=s.heap.push { cls:=.type "range", data:=.fields #[.int lo t,.int hi u,.int 1 v] },toks:=tk }:=by
  refine wpAny_pyIter_range (IsRange.new ..) (small_one h1 h2 h3 h4) ?_
  have I1:Inv X pins σ H { s with heap:=s.heap.push { cls:=.type "range", data:=.fields #[.int lo t,.int hi u,.int 1 v] },toks:=tk }:=I.kept λ b o e=>Heap.get?_push_of_some _ e
  refine ⟨(s.heap.push { cls:=.type "range", data:=.fields #[.int lo t,.int hi u,.int 1 v] }).objs.size,[(s.heap.push { cls:=.type "range", data:=.fields #[.int lo t,.int hi u,.int 1 v] }).objs.size],_,_,H,rfl,
    I1.kept (t':=tk) λ b o e=>Heap.get?_push_of_some _ e,mPq _ lo (hi - lo).toNat,?_,λ b hb=>?_,q⟩
  . have e1:lo+((0:Nat):Int) * 1=lo:=by simp
    have e2:(((hi - lo).toNat:Nat):Int) - ((0:Nat):Int)=Builtin.Range.rangeSize lo hi 1:=by rw [rangeSize_one];split<;>omega
    show IsRangeIter _ _ (lo+((0:Nat):Int) * 1) ((((hi - lo).toNat:Nat):Int) - ((0:Nat):Int)) 1
    rw [e1,e2]
    exact Heap.get?_push_size _ rfl
  . have e:b=(s.heap.push { cls:=.type "range", data:=.fields #[.int lo t,.int hi u,.int 1 v] }).objs.size:=by simpa using hb
    subst e
    exact I1.fpOk (Nat.le_refl _) (I1.hok.fresh (Nat.le_refl _))
def aB5q (ta:TA):TI:=λ σ H R=>ta σ H λ vs H1=>∃ j:Int,vs=[.int j]/\-(2 ^ 62)<=j/\j < 2 ^ 62/\R (Itr 0 j.toNat) H1
theorem p5q {a:Expr} {ta:TA} {p pos:Pos} (hg:Gl X "range") (hm:X.mg "range" = none) (ha:PA X [a] ta) (hs:starEach [a] X.env=[(false,eval a X.env)]:=by rfl):PI X tg (.Call (.Name "range" p) [a] [] pos) (aB5q ta):=by
  intro pins s σ H R I h
  refine Call_ (e6q I hg hm boot_range (PyProof.Rows.callWith_type1 (thn (ha pos pins s σ H _ I h) λ us s1 ⟨vs,H1,I1,r1,q1⟩=>?_) hs rfl))
  obtain ⟨j,e,q1,q2,q⟩:=q1
  subst e
  cases r1 with
  | cons r rr=>
    cases rr
    obtain ⟨t,rfl⟩:=r
    exact call_range_1 (rFq I1 (by omega) (by omega) q1 q2 (by simpa using q))
def tFor (wi:TI) (g:TG) (tb:TS):TS:=λ D σ H=>wi σ H λ J H1=>∃ W:Nat->Nat->St->Hp->Prop,(∃ m,W 0 m σ H1)/\∀ i m σ H,W i m σ H →
  (J.stop i H/\D.nx σ H)\/(J.go i H/\∃ N:St->Hp->Prop,(∀ σ' H',N σ' H'->∃ m',m' < m/\W (i+1) m' σ' H')/\∀ x H',J.yld i H x H'->g x σ H' λ σ2 H2=>tb { D with nx:=N,ct:=N,bk:=D.nx } σ2 H2)
def lSq (fp:List Addr) (h:Heap):List (Addr × Obj):=fp.filterMap λ b=>(h.get? b).map λ o=>(b,o)
theorem c2q {fp:List Addr} {h:Heap} {b:Addr} {o:Obj} (hb:b∈fp) (e:h.get? b=some o):(b,o)∈lSq fp h:=List.mem_filterMap.mpr ⟨b,hb,by rw [e];rfl⟩
theorem pIq {fp:List Addr} {h:Heap} {p:Addr × Obj} (hp:p∈lSq fp h):p.1∈fp/\h.get? p.1=some p.2:=by
  obtain ⟨b,hb,e⟩:=List.mem_filterMap.mp hp
  cases q:h.get? b with
  | none=>rw [q] at e;cases e
  | some o=>
    rw [q] at e
    have e':(b,o)=p:=Option.some.inj e
    subst e'
    exact ⟨hb,q⟩
theorem Inv.pinned {pins:List (Addr × Obj)} {σ:St} {H:Hp} {s:Shared} {fp:List Addr} (I:Inv X pins σ H s) (hf:∀ b∈fp,jRq X pins H b) (ho:∀ b∈fp,∃ o,s.heap.get? b=some o/\∀ v,o.data≠.cell v):Inv X (pins++lSq fp s.heap) σ H s:=
  I.pins_of λ p hp=>(List.mem_append.mp hp).elim (λ z=>I.pin p (List.mem_append_right _ z)) λ z=>by
    obtain ⟨hb,e⟩:=pIq z
    obtain ⟨f0,f1,f2,_⟩:=hf p.1 hb
    obtain ⟨o,e',d⟩:=ho p.1 hb
    rw [e] at e';cases e'
    exact ⟨e,f0,f1,f2,d⟩
theorem Inv.unpinned {pins pl:List (Addr × Obj)} {σ:St} {H:Hp} {s:Shared} (I:Inv X (pins++pl) σ H s):Inv X pins σ H s:=I.pins_of λ p hp=>I.pin p (List.mem_append_right _ (List.mem_append_left _ hp))
theorem aA6q {iter:Expr} {body:List Stmt} {wi:TI} {g:TG} {tb:TS} {pos:Pos} (hp:PassesOwn (model X.prog X.w) X.A X.env X.xe) (hc:X.calm=true) (hi:PI X tg iter wi) (hg:PG X tg g) (hb:PSs X body tb)
    (hs:∀ x,foldedSetIterable iter X.env x=pure x:=by intro _;rfl):PS X (.For tg iter body [] pos) (tFor wi g tb):=by
  intro pins s σ H D I h
  refine wpAny_For (thn (hi pins s σ H _ I h) λ v s1 h1=>thn h1 λ itv s2 h2=>?_) hs
  obtain ⟨it,fp,tn,J,H2,e,I2,T,st2,f2,W,⟨m0,w0⟩,turn⟩:=h2
  subst e
  have stat:∀ {H':Hp},(∀ b∈fp,H' b=none)->∀ b∈fp,jRq X pins H' b:=λ hn b hb=>⟨hn b hb,(f2 b hb).2⟩
  refine codeAny_forLoop_any (λ n s'=>∃ i σ' H',Inv X pins σ' H' s'/\tn i s'.heap/\(∀ b∈fp,H' b=none)/\W i n σ' H') ?_ m0 ⟨0,σ,H2,I2,st2,λ b hb=>(f2 b hb).1,w0⟩
  rintro n s3 ⟨i,σ3,H3,I3,st3,fr3,w3⟩
  rcases turn i n σ3 H3 w3 with ⟨stop,qn⟩ | ⟨go,N,hN,step⟩
  . refine wpAny_passesOwn hp (thn (T.done X rfl rfl rfl hc i pins s3 σ3 H3 X.xe I3 (stat fr3) st3 stop) λ r s4 ⟨hr,I4⟩=>?_)
    subst hr
    exact wpAny_execs_nil ⟨σ3,H3,I4,qn⟩
  . refine wpAny_passesOwn hp (thn (T.item X rfl rfl rfl hc i pins s3 σ3 H3 X.xe I3 (stat fr3) st3 go) λ r s4 ⟨u,hr,h4⟩=>?_)
    subst hr
    refine wpAny_passesOwn hp (thn h4 λ _ s5 ⟨x,H5,I5,r5,y5,st5,fr5⟩=>?_)
    have I5':=I5.pinned (stat fr5) (T.obj _ _ st5)
    refine wpAny_passesOwn hp (thn (hg _ s5 σ3 H5 x u _ I5' r5 (step x H5 y5)) λ _ s6 ⟨σ6,H6,I6,q6⟩=>?_)
    refine wpAny_passesOwn hp (thn (hb _ s6 σ6 H6 _ I6 q6) λ f s7 q7=>?_)
    have again:∀ {σ7:St} {H7:Hp},Inv X (pins++lSq fp s5.heap) σ7 H7 s7->N σ7 H7->∃ m,m < n/\∃ i σ' H',Inv X pins σ' H' s7/\tn i s7.heap/\(∀ b∈fp,H' b=none)/\W i m σ' H':=λ{σ7 H7} I7 n7=>by
      obtain ⟨m',hm,w7⟩:=hN σ7 H7 n7
      refine ⟨m',hm,i+1,σ7,H7,I7.unpinned,T.keep _ _ _ st5 λ b hb o e=>(I7.pin (b,o) (List.mem_append_right _ (List.mem_append_right _ (c2q hb e)))).1,λ b hb=>?_,w7⟩
      obtain ⟨o,e,d⟩:=T.obj _ _ st5 b hb
      exact (I7.pin (b,o) (List.mem_append_right _ (List.mem_append_right _ (c2q hb e)))).2.1
    cases f with
    | next=>obtain ⟨σ7,H7,I7,n7⟩:=q7;exact again I7 n7
    | cont=>obtain ⟨σ7,H7,I7,n7⟩:=q7;exact again I7 n7
    | brk=>obtain ⟨σ7,H7,I7,q7⟩:=q7;exact ⟨σ7,H7,I7.unpinned,q7⟩
    | ret v=>obtain ⟨x7,σ7,H7,I7,r7,q7⟩:=q7;exact ⟨x7,σ7,H7,I7.unpinned,r7,q7⟩
end
abbrev R2:=V->V->Hp->VK->Prop
def OpR (X:Cx) (f:Value->Value->Sem Value) (r:R2):Prop:=
  ∀ (pins:List (Addr × Obj)) (s:Shared) (σ:St) (H:Hp) (x y:V) (v u:Value) (Q:VK),Inv X pins σ H s->RelV x v->RelV y u->r x y H Q →
    wpAny (model X.prog X.w) X.A (f v u) (EP X pins σ Q) X.xe s
def UnR (X:Cx) (f:Value->Sem Value) (r:V->Hp->VK->Prop):Prop:=
  ∀ (pins:List (Addr × Obj)) (s:Shared) (σ:St) (H:Hp) (x:V) (v:Value) (Q:VK),Inv X pins σ H s->RelV x v->r x H Q →
    wpAny (model X.prog X.w) X.A (f v) (EP X pins σ Q) X.xe s
def CallR (X:Cx) (f:Value) (r:List V->Hp->VK->Prop):Prop:=
  ∀ (pins:List (Addr × Obj)) (s:Shared) (σ:St) (H:Hp) (xs:List V) (us:List Value) (Q:VK),Inv X pins σ H s->Vals xs us->r xs H Q →
    wpAny (model X.prog X.w) X.A (call f us) (EP X pins σ Q) X.xe s
def TruR (X:Cx) (r:V->Hp->(Bool->Hp->Prop)->Prop):Prop:=
  ∀ (pins:List (Addr × Obj)) (s:Shared) (σ:St) (H:Hp) (x:V) (v:Value) (Q:Bool->Hp->Prop),Inv X pins σ H s->RelV x v->r x H Q →
    wpAny (model X.prog X.w) X.A (truthy v) (TP X pins σ Q) X.xe s
def tOp (r:R2) (ta tb:TE):TE:=λ σ H Q=>ta σ H λ x H1=>tb σ H1 λ y H2=>r x y H2 Q
def tUn (r:V->Hp->VK->Prop) (ta:TE):TE:=λ σ H Q=>ta σ H λ x H1=>r x H1 Q
def rI (C:Int->Int->Prop) (g:Int->Int->V):R2:=λ x y H Q=>∃ i j,x=.int i/\y=.int j/\C i j/\Q (g i j) H
def rI0 (g:Int->Int->V):R2:=λ x y H Q=>∃ i j,x=.int i/\y=.int j/\Q (g i j) H
def rU (g:Int->V):V->Hp->VK->Prop:=λ x H Q=>∃ i,x=.int i/\Q (g i) H
section
variable {X:Cx} {a b c:Expr} {ta tb tc:TE} {pos:Pos}
theorem binT (ha:PE X a ta) (hb:PE X b tb) {pins:List (Addr × Obj)} {s:Shared} {σ:St} {H:Hp} {R:V->V->Hp->Prop} (I:Inv X pins σ H s)
    (h:ta σ H λ x H1=>tb σ H1 λ y H2=>R x y H2) {Q:Value->Shared->Prop} {f:Value->Value->Sem Value}
    (hf:∀ v u s2 x y H2,Inv X pins σ H2 s2->RelV x v->RelV y u->R x y H2->wpAny (model X.prog X.w) X.A (f v u) Q X.xe s2) :
    wpAny (model X.prog X.w) X.A (eval a X.env) (λ v s₁=>wpAny (model X.prog X.w) X.A (eval b X.env) (λ u s₂=>wpAny (model X.prog X.w) X.A (f v u) Q X.xe s₂) X.xe s₁) X.xe s:=by
  refine thn (ha pins s σ H _ I h) λ v s1 ⟨x,H1,I1,r1,q1⟩=>?_
  refine thn (hb pins s1 σ H1 _ I1 q1) λ u s2 ⟨y,H2,I2,r2,q2⟩=>?_
  exact hf v u s2 x y H2 I2 r1 r2 q2
theorem aJ2q {op:Operator} {r:R2} (ho:OpR X (binaryOp op) r) (ha:PE X a ta) (hb:PE X b tb):PE X (.BinOp a op b pos) (tOp r ta tb):=by
  intro pins s σ H Q I h
  exact wpAny_BinOp (binT ha hb I h λ v u s2 x y H2 I2 rx ry q=>ho pins s2 σ H2 x y v u Q I2 rx ry q)
theorem aI8q {op:UnaryOp} {r:V->Hp->VK->Prop} (ho:UnR X (unaryOp op) r) (ha:PE X a ta):PE X (.UnaryOp op a pos) (tUn r ta):=by
  intro pins s σ H Q I h
  exact UnaryOp_ (thn (ha pins s σ H _ I h) λ v s1 ⟨x,H1,I1,r1,q1⟩=>ho pins s1 σ H1 x v Q I1 r1 q1)
theorem opI {f:Value->Value->Sem Value} {C:Int->Int->Prop} {g:Int->Int->Int}
    (rule:∀ (i j:Int) (t u:Tok) (s:Shared) (Q:Value->Shared->Prop) (E:Value->Shared->Prop),C i j->Q (.int (g i j) s.toks) { s with toks:=s.toks+1 }->wpAny (model X.prog X.w) X.A (f (.int i t) (.int j u)) Q E s) :
    OpR X f (rI C λ i j=>.int (g i j)):=by
  intro pins s σ H x y v u Q I rx ry h
  obtain ⟨i,j,rfl,rfl,hc,q⟩:=h
  obtain ⟨t,rfl⟩:=rx
  obtain ⟨t',rfl⟩:=ry
  exact rule i j t t' s _ _ hc ⟨.int (g i j),H,I.tok _,⟨_,rfl⟩,q⟩
theorem opI0 {f:Value->Value->Sem Value} {g:Int->Int->Int}
    (rule:∀ (i j:Int) (t u:Tok) (s:Shared) (Q:Value->Shared->Prop) (E:Value->Shared->Prop),Q (.int (g i j) s.toks) { s with toks:=s.toks+1 }->wpAny (model X.prog X.w) X.A (f (.int i t) (.int j u)) Q E s) :
    OpR X f (rI0 λ i j=>.int (g i j)):=by
  intro pins s σ H x y v u Q I rx ry h
  obtain ⟨i,j,rfl,rfl,q⟩:=h
  obtain ⟨t,rfl⟩:=rx
  obtain ⟨t',rfl⟩:=ry
  exact rule i j t t' s _ _ ⟨.int (g i j),H,I.tok _,⟨_,rfl⟩,q⟩
theorem opB0 {f:Value->Value->Sem Value} {g:Int->Int->Bool}
    (rule:∀ (i j:Int) (t u:Tok) (s:Shared) (Q:Value->Shared->Prop) (E:Value->Shared->Prop),Q (.bool (g i j)) s->wpAny (model X.prog X.w) X.A (f (.int i t) (.int j u)) Q E s) :
    OpR X f (rI0 λ i j=>.bl (g i j)):=by
  intro pins s σ H x y v u Q I rx ry h
  obtain ⟨i,j,rfl,rfl,q⟩:=h
  obtain ⟨t,rfl⟩:=rx
  obtain ⟨t',rfl⟩:=ry
  exact rule i j t t' s _ _ ⟨.bl (g i j),H,I,rfl,q⟩
def CPow (i j:Int):Prop:=0<=j/\j<=1000000/\i.natAbs < 2 ^ 64
def CMul (i j:Int):Prop:=(-(2 ^ 64) < i/\i < 2 ^ 64)\/(-(2 ^ 64) < j/\j < 2 ^ 64)
theorem CMul.ok {i j:Int} (h:CMul i j):IntMulOk i j:=by
  rcases h with ⟨h1,h2⟩ | ⟨h1,h2⟩
  . exact .of_left (intBits_le_64 h1 h2)
  . exact .of_right (intBits_le_64 h1 h2)
theorem op_add:OpR X (binaryOp .Add) (rI0 λ i j=>.int (i+j)):=opI0 λ _ _ _ _ _ _ _ q=>add_int q
theorem aA7q:OpR X (binaryOp .Sub) (rI0 λ i j=>.int (i - j)):=opI0 λ _ _ _ _ _ _ _ q=>sub_int q
theorem xWq:OpR X (binaryOp .Mult) (rI CMul λ i j=>.int (i * j)):=opI λ _ _ _ _ _ _ _ hc q=>mul_int q hc.ok
theorem aC2q:OpR X (binaryOp .Mod) (rI (λ _ j=>0 < j) λ i j=>.int (i % j)):=opI λ i j _ _ _ _ _ hc q=>by
  have h1:(0:Int) < j:=hc
  exact mod_int' (by omega) (by rw [Int.fmod_eq_emod_of_nonneg i (by omega)];exact q)
theorem z4q:OpR X (binaryOp .Pow) (rI CPow λ i j=>.int (i ^ j.toNat)):=opI λ _ _ _ _ _ _ _ hc q=>pow_int_small hc.1 hc.2.1 hc.2.2 q
theorem unI {f:Value->Sem Value} {g:Int->Int}
    (rule:∀ (i:Int) (t:Tok) (s:Shared) (Q:Value->Shared->Prop) (E:Value->Shared->Prop),Q (.int (g i) s.toks) { s with toks:=s.toks+1 }->wpAny (model X.prog X.w) X.A (f (.int i t)) Q E s) :
    UnR X f (rU λ i=>.int (g i)):=by
  intro pins s σ H x v Q I rx h
  obtain ⟨i,rfl,q⟩:=h
  obtain ⟨t,rfl⟩:=rx
  exact rule i t s _ _ ⟨.int (g i),H,I.tok _,⟨_,rfl⟩,q⟩
theorem zWq:UnR X (unaryOp .USub) (rU λ i=>.int (-i)):=unI λ _ _ _ _ _ q=>neg_int q
end
section
variable {X:Cx} {a b c:Expr} {ta tb tc:TE} {pos:Pos}
theorem aB8q {pins:List (Addr × Obj)} {σ:St} {H:Hp} {s:Shared} {Q:VK} {k k':Bool} (I:Inv X pins σ H s) (q:Q (.bl k) H) (e:k=k'):EP X pins σ Q (.bool k') s:=by
  subst e
  exact ⟨.bl k,H,I,rfl,q⟩
theorem aH4q:OpR X (compareOp .Lt) (rI0 λ i j=>.bl (decide (i < j))):=opB0 λ _ _ _ _ _ _ _ q=>lt_int q
theorem aJ7q:OpR X (compareOp .LtE) (rI0 λ i j=>.bl (decide (i<=j))):=opB0 λ _ _ _ _ _ _ _ q=>le_int q
theorem aJ4q:OpR X (compareOp .Gt) (rI0 λ i j=>.bl (decide (j < i))):=opB0 λ _ _ _ _ _ _ _ q=>gt_int q
theorem aE3q:OpR X (compareOp .GtE) (rI0 λ i j=>.bl (decide (j<=i))):=opB0 λ _ _ _ _ _ _ _ q=>ge_int q
theorem pZq:OpR X (compareOp .In) (λ x y H Q=>∃ i j,x=.str i/\y=.str j/\Q (.bl (!(Builtin.Str.occurrences j i 0 j.length 1).isEmpty)) H):=by
  intro pins s σ H x y v u Q I rx ry h
  obtain ⟨i,j,rfl,rfl,q⟩:=h
  obtain ⟨t,rfl⟩:=rx
  obtain ⟨t',rfl⟩:=ry
  exact in_str (aB8q I q rfl)
theorem OpR.or {f:Value->Value->Sem Value} {r r':R2} (h:OpR X f r) (h':OpR X f r'):OpR X f (λ x y H Q=>r x y H Q\/r' x y H Q):=by
  intro pins s σ H x y v u Q I rx ry q
  rcases q with q | q
  . exact h pins s σ H x y v u Q I rx ry q
  . exact h' pins s σ H x y v u Q I rx ry q
theorem aAq (b:Expr) {op:CmpOp} (h:op≠.In:=by decide) (h2:op≠.NotIn:=by decide):behindInMarks op b=false:=by
  have e1:(op==CmpOp.In)=false:=by cases op<;>first | rfl | exact absurd rfl h
  have e2:(op==CmpOp.NotIn)=false:=by cases op<;>first | rfl | exact absurd rfl h2
  cases b<;>simp [behindInMarks,e1,e2]
theorem vEq {op:CmpOp} {r:R2} (ho:OpR X (compareOp op) r) (ha:PE X a ta) (hb:PE X b tb) (hm:behindInMarks op b=false):PE X (.Compare a [op] [b] pos) (tOp r ta tb):=by
  intro pins s σ H Q I h
  exact wpAny_Compare1 (binT ha hb I h λ v u s2 x y H2 I2 rx ry q=>ho pins s2 σ H2 x y v u Q I2 rx ry q) hm
def vUq (t:TE):TT:=λ σ H Q=>t σ H λ x H'=>∃ k,x=.bl k/\Q k H'
theorem v3q {op:CmpOp} {r:R2} (ho:OpR X (compareOp op) r) (ha:PE X a ta) (hb:PE X b tb) (hm:behindInMarks op b=false):PT X (.Compare a [op] [b] pos) (vUq (tOp r ta tb)):=by
  intro pins s σ H Q I h
  refine wpAny_isTrue_Compare1 (thn (ha pins s σ H _ I h) λ v s1 ⟨x,H1,I1,r1,q1⟩=>thn (hb pins s1 σ H1 _ I1 q1) λ u s2 ⟨y,H2,I2,r2,q2⟩=>
    thn (ho pins s2 σ H2 x y v u _ I2 r1 r2 q2) λ c s3 ⟨z,H3,I3,r3,k,e,q3⟩=>?_) hm
  subst e
  cases r3
  exact wpAny_truthy_bool ⟨H3,I3,q3⟩
def zDq (r r':R2) (ta tb tc:TE):TE:=λ σ H Q=>ta σ H λ x H1=>tb σ H1 λ y H2=>r x y H2 λ z H3=>∃ k,z=.bl k ∧
  (if k=true then tc σ H3 λ w' H4=>r' y w' H4 Q else Q (.bl false) H3)
theorem qTq {op op':CmpOp} {r r':R2} (ho:OpR X (compareOp op) r) (ho':OpR X (compareOp op') r') (ha:PE X a ta) (hb:PE X b tb) (hc:PE X c tc)
    (hm:lastMarks [op,op'] [b,c]=false:=by with_unfolding_all rfl):PT X (.Compare a [op,op'] [b,c] pos) (vUq (zDq r r' ta tb tc)):=by
  intro pins s σ H Q I h
  refine isTrue_chain (thn (ha pins s σ H _ I h) λ v s1 ⟨x,H1,I1,r1,q1⟩=>test_link (thn (hb pins s1 σ H1 _ I1 q1) λ u s2 ⟨y,H2,I2,r2,q2⟩=>
    thn (ho pins s2 σ H2 x y v u _ I2 r1 r2 q2) λ d s3 ⟨z,H3,I3,r3,k,e,q3⟩=>?_)) hm
  subst e
  cases r3
  refine wpAny_truthy_bool ?_
  cases k with
  | false=>
    obtain ⟨k',e',q'⟩:=q3
    cases e'
    exact ite_ff ⟨H3,I3,q'⟩
  | true=>
    refine ite_tt (test_last (thn (hc pins s3 σ H3 _ I3 q3) λ w' s4 ⟨z',H4,I4,r4,q4⟩=>thn (ho' pins s4 σ H4 y z' u w' _ I4 r2 r4 q4) λ d' s5 ⟨z2,H5,I5,r5,k2,e2,q5⟩=>?_))
    subst e2
    cases r5
    exact wpAny_truthy_bool ⟨H5,I5,q5⟩
def TruV (K:PySem.W.Frag) (x:V) (H:Hp) (k:Bool):Prop:=
  match x with
  | .non=>k=false
  | .bl b=>k=b
  | .int i=>k=(i !=0)
  | .str y=>y.length<=sizeLine/\k=((y.length:Int) !=0)
  | .byt y=>y.size<=sizeLine/\k=((y.size:Int) !=0)
  | .ref p=>(∃ xs,SqL K H p xs/\k=!xs.isEmpty)\/(∃ xs,SqT K H p xs/\k=!xs.isEmpty)\/∃ kvs,H p=some (.dK kvs)/\k=!kvs.isEmpty
  | _=>False
theorem mHq {κ:Type} {kvs:List (κ × V)} {vs:List (κ × Value)} (r:KV kvs vs):(!vs.isEmpty)=!kvs.isEmpty:=by
  cases r<;>rfl
theorem gHq {xs:List V} {its:List Value} (r:Vals xs its):(!its.toArray.isEmpty)=!xs.isEmpty:=by
  cases r<;>simp
theorem dRq:(sizeLine:Nat) < 2 ^ 63:=by rw [sizeLine_eq];decide
theorem y2q:TruR X (λ x H Q=>∃ k,TruV X.K x H k/\Q k H):=by
  intro pins s σ H x v Q I rx h
  obtain ⟨k,e,q⟩:=h
  have hl:=dRq
  have hs:sizeLine=16777216:=sizeLine_eq
  cases x with
  | non=>
    cases rx
    have e':k=false:=e
    subst e'
    exact truthy_none ⟨H,I,q⟩
  | bl b=>
    cases rx
    have e':k=b:=e
    subst e'
    exact wpAny_truthy_bool ⟨H,I,q⟩
  | int i=>
    obtain ⟨t,rfl⟩:=rx
    have e':k=(i !=0):=e
    subst e'
    exact PySem.P.truthy_int ⟨H,I,q⟩
  | str y=>
    obtain ⟨t,rfl⟩:=rx
    obtain ⟨hy,e'⟩:y.length<=sizeLine/\k=((y.length:Int) !=0):=e
    subst e'
    exact PySem.P.truthy_str (by omega) ⟨H,I.tok _,q⟩
  | byt y=>
    obtain ⟨t,rfl⟩:=rx
    obtain ⟨hy,e'⟩:y.size<=sizeLine/\k=((y.size:Int) !=0):=e
    subst e'
    exact PySem.W.truthy_bytes (by omega) ⟨H,I.tok _,q⟩
  | ref p=>
    cases rx
    have e':(∃ xs,SqL X.K H p xs/\k=!xs.isEmpty)\/(∃ xs,SqT X.K H p xs/\k=!xs.isEmpty)\/∃ kvs,H p=some (.dK kvs)/\k=!kvs.isEmpty:=e
    rcases e' with ⟨xs,hx,e'⟩ | ⟨xs,hx,e'⟩ | ⟨kvs,hx,e'⟩
    . subst e'
      obtain ⟨its,r,pl,hz⟩:=I.list hx
      have hlen:=r.length
      exact wpAny_truthy_list pl.isList (by simp only [List.size_toArray];omega) ⟨H,I.tok _,by rw [gHq r];exact q⟩
    . subst e'
      obtain ⟨its,r,pl,hz⟩:=I.tuple hx
      have hlen:=r.length
      exact truthy_tuple pl (by simp only [List.size_toArray];omega) ⟨H,I.tok _,by rw [gHq r];exact q⟩
    . subst e'
      obtain ⟨hz,hS,vs,r,m⟩:kvs.length<=sizeLine/\(p==sysModules)=false/\∃ vs,KV kvs vs/\s.heap.DictOf (k8q X.prog X.w) p vs:=I.hok p _ hx
      have hlen:kvs.length=vs.length:=Paired.length r
      exact wpAny_truthy_dict hS m (by omega) ⟨H,I.tok _,by rw [mHq r];exact q⟩
  | _=>exact (show False from e).elim
theorem r3q (ha:PE X a ta) (he:∀ whole,isTrue a X.env whole=(do let v ← whole;standAt a.pos;holding [v] (truthy v))) :
    PT X a (λ σ H Q=>ta σ H λ x H'=>∃ k,TruV X.K x H' k/\Q k H'):=by
  intro pins s σ H Q I h
  exact isTrue_plain (thn (ha pins s σ H _ I h) λ v s1 ⟨x,H1,I1,r1,q1⟩=>y2q pins s1 σ H1 x v Q I1 r1 q1) (he _)
theorem op_add_str:OpR X (binaryOp .Add) (λ x y H Q=>∃ i j,x=.str i/\y=.str j/\i.length+j.length<=sizeLine/\Q (.str (i++j)) H):=by
  intro pins s σ H x y v u Q I rx ry h
  obtain ⟨i,j,rfl,rfl,hz,q⟩:=h
  obtain ⟨t,rfl⟩:=rx
  obtain ⟨t',rfl⟩:=ry
  exact add_str (λ t' tk=>⟨.str (i++j),H,I.tok _,⟨_,rfl⟩,q⟩) hz
theorem g9q {x:V} {us:List Value} (r:Vals [x] us):∃ u,us=[u]/\RelV x u:=by
  cases r with
  | cons r1 r2=>cases r2;exact ⟨_,rfl,r1⟩
theorem zIq {x y:V} {us:List Value} (r:Vals [x,y] us):∃ u w',us=[u,w']/\RelV x u/\RelV y w':=by
  cases r with
  | cons r1 r2=>
    cases r2 with
    | cons r3 r4=>cases r4;exact ⟨_,_,rfl,r1,r3⟩
theorem pEq (hc:X.calm=true):CallR X (.builtin "max") (λ xs H Q=>∃ i j,xs=[.int i,.int j]/\Q (.int (if j > i then j else i)) H):=by
  intro pins s σ H xs us Q I r h
  obtain ⟨i,j,rfl,q⟩:=h
  obtain ⟨u,w',rfl,⟨t,rfl⟩,⟨t',rfl⟩⟩:=zIq r
  refine max_two_ints (I.ok.hd hc) λ h' tk k=>⟨_,H,I.kept k,?_,q⟩
  by_cases hj:j > i
  . rw [if_pos hj,if_pos hj];exact ⟨_,rfl⟩
  . rw [if_neg hj,if_neg hj];exact ⟨_,rfl⟩
theorem pBq (hc:X.calm=true):CallR X (.builtin "min") (λ xs H Q=>∃ i j,xs=[.int i,.int j]/\Q (.int (if j < i then j else i)) H):=by
  intro pins s σ H xs us Q I r h
  obtain ⟨i,j,rfl,q⟩:=h
  obtain ⟨u,w',rfl,⟨t,rfl⟩,⟨t',rfl⟩⟩:=zIq r
  refine min_two_ints (I.ok.hd hc) λ h' tk k=>⟨_,H,I.kept k,?_,q⟩
  by_cases hj:j < i
  . rw [if_pos hj,if_pos hj];exact ⟨_,rfl⟩
  . rw [if_neg hj,if_neg hj];exact ⟨_,rfl⟩
theorem oVq:CallR X (.type "int") (λ xs H Q=>(∃ i,xs=[.int i]/\Q (.int i) H)\/∃ k,xs=[.bl k]/\Q (.int (if k then 1 else 0)) H):=by
  intro pins s σ H xs us Q I r h
  rcases h with ⟨i,rfl,q⟩ | ⟨k,rfl,q⟩
  . obtain ⟨u,rfl,t,rfl⟩:=g9q r
    exact call_int_int ⟨.int i,H,I,⟨_,rfl⟩,q⟩
  . obtain ⟨u,rfl,r1⟩:=g9q r
    cases r1
    exact call_int_bool ⟨.int (if k then 1 else 0),H,I.tok _,⟨_,rfl⟩,q⟩
theorem jCq:CallR X (.type "str") (λ xs H Q=>∃ i,xs=[.int i]/\i.natAbs.log2 < 1920/\Q (.str (toString i)) H):=by
  intro pins s σ H xs us Q I r h
  obtain ⟨i,rfl,hz,q⟩:=h
  obtain ⟨u,rfl,t,rfl⟩:=g9q r
  exact PySem.P.str_of_int hz ⟨.str _,H,I.tok _,⟨_,rfl⟩,q⟩
end
structure ObjM (h:Heap) (x dx C:Addr) (mA:Str->Option Value):Prop where
  obj:h.get? x=some (PySem.W.instObj C dx)
  ns:h.Ns1 dx mA
  ne:dx≠x
theorem oRq {h:Heap} {dx:Addr} {mA:Str->Option Value} (n:h.Ns1 dx mA):∃ od,h.get? dx=some od/\∀ name,PySem.W.lookIn name od=some (mA name):=by
  obtain ⟨o,es,ep,ho,hd,hk,_,hm⟩:=n
  refine ⟨o,ho,λ name=>?_⟩
  have e:=hm name
  unfold nsFind findBy at e
  rw [<- Array.find?_toList] at e
  unfold PySem.W.lookIn
  rw [hd]
  dsimp only
  split
  . rename_i y q
    rw [q] at e
    exact congrArg some e
  . rename_i q
    rw [q] at e
    have a:es.toList.any (·.refKey)=false:=by
      rw [List.any_eq_false]
      intro y hy
      obtain ⟨z,t,hkey⟩:=hk y (Array.mem_toList_iff.mp hy)
      simp [DictEntry.refKey,hkey]
    have a':¬ es.toList.any (·.refKey)=true:=by rw [a];exact Bool.false_ne_true
    rw [if_neg a']
    exact congrArg some e
theorem ObjM.look {h:Heap} {x dx C:Addr} {mA:Str->Option Value} (I:ObjM h x dx C mA):∃ od,PySem.W.InstAt h x (PySem.W.instObj C dx) C (some od)/\∀ name,PySem.W.lookIn name od=some (mA name):=
  let ⟨od,ho,hl⟩:=oRq I.ns
  ⟨od,⟨I.obj,rfl,rfl,ho⟩,hl⟩
section
variable {prog:Program} {w:World} {A:Around} {E:Value->Shared->Prop} {s:Shared} {K:PySem.W.Frag} {x dx C f:Addr} {mA:Str->Option Value} {name:Str} {v:Value}
end
section
variable {P:Program} {w:World} {H H':Hp} {h h':Heap} {a C dx:Addr} {fs fs':List (Str × V)}
theorem uRq (hok:HOk P w H h) (e:H a=some (.ins C dx fs)):∃ mA,ObjM h a dx C mA/\(∀ f,RelO (fs.lookup f) (mA f))/\PySem.Within mA (fs.map (·.1))/\fs.length<=1000/\H dx=some (.own a):=by
  obtain ⟨d,z,ne,ob,mA,n,r,q⟩:=(show ObjOk P w H h a (.ins C dx fs) from hok a _ e)
  exact ⟨mA,⟨ob,n,ne⟩,r,q,z,d⟩
end
structure Cls (K:PySem.W.Frag) (C:Addr):Prop where
  pg:PySem.W.plainGet K C Str.empty=true
  hd:PySem.W.hasDictIn K C=true
  po:PySem.W.plainOver K C=true
  sa:PySem.W.findIn K (.ref C) "__setattr__" = some (some (.builtin "object.__setattr__"))
theorem Cls.get {K:PySem.W.Frag} {C:Addr} (c:Cls K C) (f:Str):PySem.W.plainGet K C f=true:=c.pg
section
variable {X:Cx} {pins:List (Addr × Obj)} {σ:St} {H:Hp} {s:Shared} {a C dx:Addr} {fs:List (Str × V)} {f:Str} {v:V} {A:Around} {E:Value->Shared->Prop}
end
section
variable {X:Cx} {o e value:Expr} {f:Str} {pos pos' tpos:Pos} {ta tv:TE}
end
section
variable {X:Cx} {pins:List (Addr × Obj)} {σ:St} {H:Hp} {s:Shared} {A:Around} {E:Value->Shared->Prop} {Q:Value->Shared->Prop} {c:Value} {b:Bool}
inductive TyOf (K:PySem.W.Frag) (H:Hp):V->Value->Prop where
  | non:TyOf K H .non (.type "NoneType")
  | bl (x:Bool):TyOf K H (.bl x) (.type "bool")
  | int (i:Int):TyOf K H (.int i) (.type "int")
  | str (x:Str):TyOf K H (.str x) (.type "str")
  | flt (x:UInt64):TyOf K H (.flt x) (.type "float")
  | lst {a:Addr} {xs:List V} (e:H a=some (.lst xs)):TyOf K H (.ref a) (.type "list")
  | frz {a:Addr} {o:Obj} {xs:List V} (e:H a=some (.frz o (.lst xs))):TyOf K H (.ref a) (.type "list")
  | tup {a:Addr} {xs:List V} (e:H a=some (.tup xs)):TyOf K H (.ref a) (.type "tuple")
  | dK {a:Addr} {kvs:List (Key × V)} (e:H a=some (.dK kvs)):TyOf K H (.ref a) (.type "dict")
  | dT {a:Addr} {kvs:List (List Key × V)} (e:H a=some (.dT kvs)):TyOf K H (.ref a) (.type "dict")
  | ins {a C dx:Addr} {fs:List (Str × V)} (e:H a=some (.ins C dx fs)) (cl:Cls K C) (ha:PySem.W.findIn K (.ref C) "__class__" = some (some (.builtin "object.__class__")))
      (hn:PySem.W.specialIn K (.builtin "object.__class__") "__get__" = some (some (.builtin "getset_descriptor.__get__"))) (htk:PySem.W.takesIn K (.builtin "object.__class__")=some true)
      (hm:PySem.W.mroIn K C (.type "object")=some true):TyOf K H (.ref a) (.ref C)
theorem n9q {x:V} {u t:Value} (I:Inv X pins σ H s) (rx:RelV x u) (ty:TyOf X.K H x t) (e:PySem.W.kitOne X.K t c=some b) (h:∀ tk,Q (.bool b) { s with toks:=tk }) :
    wpAny (model X.prog X.w) A (call (.builtin "isinstance") [u,c]) Q E s:=by
  cases ty with
  | non=>cases (show u=Value.none from rx);exact PySem.W.kia_one PySem.W.kitx_none I.kIn True.intro e (λ z=>nomatch z) h
  | bl y=>cases (show u=Value.bool y from rx);exact PySem.W.kia_one PySem.W.kitx_bool I.kIn True.intro e (λ z=>nomatch z) h
  | int i=>obtain ⟨t,q⟩:=(show ∃ t,u=Value.int i t from rx);cases q;exact PySem.W.kia_one PySem.W.kitx_int I.kIn True.intro e (λ z=>nomatch z) h
  | str y=>obtain ⟨t,q⟩:=(show ∃ t,u=Value.str y t from rx);cases q;exact PySem.W.kia_one PySem.W.kitx_str I.kIn True.intro e (λ z=>nomatch z) h
  | flt y=>obtain ⟨t,q⟩:=(show ∃ t,u=Value.float y t from rx);cases q;exact PySem.W.kia_one PySem.W.kitx_float I.kIn True.intro e (λ z=>nomatch z) h
  | @lst a xs ea=>
    cases (show u=Value.ref a from rx)
    obtain ⟨_,_,n,_,h1⟩:=(show ObjOk X.prog X.w H s.heap a (.lst xs) from I.hok a _ ea)
    exact PySem.W.kia_one PySem.W.kitx_list I.kIn ⟨_,h1,rfl⟩ e (λ z=>nomatch z) h
  | @frz a ob xs ea=>
    cases (show u=Value.ref a from rx)
    obtain ⟨_,_,_,n,_,h1⟩:=(show ObjOk X.prog X.w H s.heap a (.frz ob (.lst xs)) from I.hok a _ ea)
    exact PySem.W.kia_one PySem.W.kitx_list I.kIn ⟨_,h1,rfl⟩ e (λ z=>nomatch z) h
  | @tup a xs ea=>
    cases (show u=Value.ref a from rx)
    obtain ⟨_,_,_,p⟩:=(show ObjOk X.prog X.w H s.heap a (.tup xs) from I.hok a _ ea)
    obtain ⟨o,h1,h2,_⟩:=p
    exact PySem.W.kia_one PySem.W.kitx_tuple I.kIn ⟨o,h1,h2⟩ e (λ z=>nomatch z) h
  | @dK a kvs ea=>
    cases (show u=Value.ref a from rx)
    obtain ⟨_,_,vs,_,p⟩:=(show ObjOk X.prog X.w H s.heap a (.dK kvs) from I.hok a _ ea)
    obtain ⟨o,es,ep,h1,h2,_⟩:=p
    exact PySem.W.kia_one PySem.W.kitx_dict I.kIn ⟨o,h1,h2.1⟩ e (λ z=>nomatch z) h
  | @dT a kvs ea=>
    cases (show u=Value.ref a from rx)
    obtain ⟨_,_,xs,_,o,es,ep,h1,h2,_⟩:=(show ObjOk X.prog X.w H s.heap a (.dT kvs) from I.hok a _ ea)
    exact PySem.W.kia_one PySem.W.kitx_dict I.kIn ⟨o,h1,h2.1⟩ e (λ z=>nomatch z) h
  | @ins a C dx fs ea cl ha hn htk hm=>
    cases (show u=Value.ref a from rx)
    obtain ⟨mA,O,_⟩:=uRq I.hok ea
    obtain ⟨od,J,_⟩:=O.look
    exact PySem.W.kia_one (PySem.W.kitx_own (cl.get _) cl.hd ha hn htk hm) I.kIn J e (λ z=>nomatch z) h
end
structure Room (k:Nat) (A:Around):Prop where
  hd:A.handled=none
  dp:A.depth+3 * k+5 < recursionLimit
  un:A.units+16 * k+200 < cLine
theorem Room.mono {j k:Nat} {A:Around} (r:Room k A) (h:j<=k):Room j A:=⟨r.hd,by have:=r.dp;omega,by have:=r.un;omega⟩
theorem Room.deeper {k:Nat} {A:Around} (r:Room (k+1) A) (env:Env):Room k (A.deeper env):=
  ⟨r.hd,by have:=r.dp;show A.depth+1+3 * k+5 < _;omega,by have:=r.un;show A.units+3+16 * k+200 < _;omega⟩
theorem Room.depth {k:Nat} {A:Around} (r:Room k A):A.depth < recursionLimit:=by have:=r.dp;omega
def tNil:TA:=λ _ H Q=>Q [] H
def xKq (ta:TE) (tr:TA):TA:=λ σ H Q=>ta σ H λ x H1=>tr σ H1 λ xs H2=>Q (x::xs) H2
section
variable {X:Cx} {e:Expr} {es:List Expr} {te:TE} {t:TA} {pos:Pos}
theorem y7q:PA X [] tNil:=λ _ _ _ _ H Q I h=>Calls.spliced_nil ⟨[],H,I,.nil,h⟩
theorem vLq (ha:PE X e te) (hr:PA X es t) (hs:starEach (e::es) X.env=(false,eval e X.env)::starEach es X.env:=by rfl):PA X (e::es) (xKq te t):=by
  intro pos pins s σ H Q I h
  rw [hs]
  show wpAny _ _ (spliced ((false,eval e X.env)::backTo pos (starEach es X.env))) _ _ s
  refine Calls.spliced_cons (thn (ha pins s σ H _ I h) λ u s1 ⟨x,H1,I1,r1,q1⟩=>?_)
  exact thn (hr pos pins s1 σ H1 _ I1 q1) λ us s2 ⟨xs,H2,I2,r2,q2⟩=>⟨x::xs,H2,I2,.cons r1 r2,q2⟩
def tTup (t:TA):TE:=λ σ H Q=>t σ H λ xs H1=>xs.length<=sizeLine/\∀ p,H1 p=none->Q (.ref p) (upd H1 p (.tup xs))
def tLst (t:TA):TE:=λ σ H Q=>t σ H λ xs H1=>xs.length<=sizeLine/\∀ p,H1 p=none->Q (.ref p) (upd H1 p (.lst xs))
theorem x6q {x1} (h:PA X es t):PE X (.Tuple es x1 pos) (tTup t):=by
  intro pins s σ H Q I hq
  refine wpAny_Tuple_spliced (thn (h pos pins s σ H _ I hq) λ us s1 ⟨xs,H1,I1,r,z,q⟩=>⟨by rw [<- r.length];exact z,?_⟩)
  have hf:H1 s1.heap.objs.size=none:=I1.hok.fresh (Nat.le_refl _)
  refine ⟨.ref s1.heap.objs.size,upd H1 s1.heap.objs.size (.tup xs),I1.laid (t':=s1.toks) (λ b u e=>Heap.get?_push_of_some _ e) (Nat.le_refl _) ?_,rfl,q _ hf⟩
  exact ⟨z,us,r,⟨_,Heap.get?_push_size _ rfl,rfl,_,rfl⟩⟩
theorem xYq (h:PA X es t):PE X (.List es pos) (tLst t):=by
  intro pins s σ H Q I hq
  refine wpAny_List_spliced (thn (h pos pins s σ H _ I hq) λ us s1 ⟨xs,H1,I1,r,z,q⟩=>⟨by rw [<- r.length];exact z,?_⟩)
  have hf:H1 s1.heap.objs.size=none:=I1.hok.fresh (Nat.le_refl _)
  refine ⟨.ref s1.heap.objs.size,upd H1 s1.heap.objs.size (.lst xs),I1.laid (t':=s1.toks) (λ b u e=>Heap.get?_push_of_some _ e) (Nat.le_refl _) ?_,rfl,q _ hf⟩
  exact ⟨z,us,0,r,Heap.get?_push_size _ rfl⟩
end
abbrev Sp:=List V->Hp->VK->XK->Prop
abbrev CXT:=List Env->Hp->Shared->XK->Value->Shared->Prop
structure Env0 (P:Program) (w:World) (K:PySem.W.Frag) (mg:Str->Option Value) (base:Heap) (A:Around) (outer:List Env) (s:Shared) (H:Hp):Prop where
  frames:A.frames=some outer
  mod:Mod K mg base
  bs:∀ b o,base.get? b=some o->s.heap.get? b=some o/\H b=none
  bsz:base.objs.size<=s.heap.objs.size
  funs:s.heap.FunFrames base outer
  frf:∀ b∈frs outer,H b=none
  hok:HOk P w H s.heap
  bare:AllBare s.gens
def CE (outer:List Env) (P:Program) (w:World) (H:Hp) (s:Shared) (Q:VK) (u:Value) (s':Shared):Prop:=
  ∃ v H',s'.os=s.os/\AllBare s'.gens/\Un (frs outer) [] H H' s.heap s'.heap/\HOk P w H' s'.heap/\RelV v u/\Q v H'
def CR (CX:CXT) (outer:List Env) (P:Program) (w:World) (H:Hp) (s:Shared) (Q:VK) (E:XK) (r:Result) (s':Shared):Prop:=
  match r with
  | .ok (.ret u)=>CE outer P w H s Q u s'
  | .ok _=>False
  | .error e=>CX outer H s E e s'
structure FnOk (P:Program) (w:World) (K:PySem.W.Frag) (mg:Str->Option Value) (base:Heap) (CX:CXT) (k:Nat) (f:Addr) (fd:FuncData) (ps:List Str) (sp:Sp):Prop where
  len:∀ vs H Q E,sp vs H Q E->vs.length=ps.length
  run:∀ (A:Around) (outer:List Env) (s:Shared) (H:Hp) (args:Args) (us:List Value) (vs:List V) (Q:VK) (E:XK),Room k A->Env0 P w K mg base A outer s H->BindsTo s fd args (ps.zip us)->Vals vs us->sp vs H Q E →
    codeAny (model P w) A (.call (.ref f) args) (CR CX outer P w H s Q E) s
section
variable {X:Cx} {pins:List (Addr × Obj)} {σ:St} {H:Hp} {s s':Shared}
theorem Inv.env0 (I:Inv X pins σ H s):Env0 X.prog X.w X.K X.mg X.base X.A X.stack s H:=
  ⟨I.ok.frames,I.ok.mod,I.bs,Nat.le_trans I.ok.bsz I.sz,I.stack,I.stkFree,I.hok,I.bare⟩
theorem Inv.after {Q:VK} {u:Value} (I:Inv X pins σ H s) (h:CE X.stack X.prog X.w H s Q u s'):EP X pins σ Q u s':=by
  obtain ⟨v,H',os,bare,un,hok,r,q⟩:=h
  obtain ⟨hh,g,d,t,os'⟩:=s'
  obtain rfl:os'=s.os:=os
  exact ⟨v,H',I.call (h':=hh) (g':=g) (d':=d) (t':=t) (ch:=[]) un hok bare (λ b z=>absurd z (by simp)),r,q⟩
end
def rBq (sp:Sp) (dvs:List V) (E:XK) (t:TA):TE:=λ σ H Q=>t σ H λ vs H1=>sp (vs++dvs) H1 Q E
def Binds (K:PySem.W.Frag) (fd:FuncData) (ps:List Str) (ds:List Value):Prop:=
  ∀ (s:Shared) (us:List Value),K.In s.heap->(us++ds).length=ps.length->BindsTo s fd ⟨us,[]⟩ (ps.zip (us++ds))
theorem Binds.all {K:PySem.W.Frag} {fd:FuncData} {ps:List Str} (h:∀ us:List Value,us.length=ps.length->bindArgs fd ⟨us,[]⟩=pure (ps.zip us)):Binds K fd ps []:=λ s us _ hl=>by
  rw [List.append_nil] at hl ⊢
  exact .of_eq (h us hl)
def pNq (CX:CXT) (X:Cx) (E:XK):Prop:=∀ (pins:List (Addr × Obj)) (σ:St) (H:Hp) (s:Shared) (e:Value) (s':Shared),Inv X pins σ H s->CX X.stack H s E e s'->X.xe e s'
section
variable {X:Cx} {CX:CXT} {k:Nat} {f C:Addr} {fd:FuncData} {ps:List Str} {sp:Sp} {dvs:List V} {ds:List Value} {E:XK} {x m:Str} {p pos apos:Pos} {e o:Expr} {es:List Expr} {ta:TE} {t:TA}
theorem sDq {pins:List (Addr × Obj)} {σ:St} {H:Hp} {s:Shared} {Q:VK} {us:List Value} {vs:List V} (F:FnOk X.prog X.w X.K X.mg X.base CX k f fd ps sp) (hr:Room k X.A) (hb:Binds X.K fd ps ds) (hd:Vals dvs ds) (hx:pNq CX X E)
    (I:Inv X pins σ H s) (r:Vals vs us) (h:sp (vs++dvs) H Q E):wpAny (model X.prog X.w) X.A (call (.ref f) us) (EP X pins σ Q) X.xe s:=by
  have r2:Vals (vs++dvs) (us++ds):=r.append hd
  have hl:(us++ds).length=ps.length:=by rw [<- r2.length];exact F.len _ _ _ _ h
  refine wpAny_call (codeAny_mono (F.run X.A X.stack s H ⟨us,[]⟩ (us++ds) (vs++dvs) Q E hr I.env0 (hb s us I.kIn hl) r2 h) λ r s' hq=>?_)
  cases r with
  | error e=>exact hx pins σ H s e s' I hq
  | ok fl=>
    cases fl with
    | ret u=>exact I.after hq
    | next=>exact False.elim hq
    | brk=>exact False.elim hq
    | cont=>exact False.elim hq
theorem w3q (F:FnOk X.prog X.w X.K X.mg X.base CX k f fd ps sp) (hr:Room k X.A) (hg:Gl X x) (hm:X.mg x=some (.ref f)) (hk:PySem.W.keepIn X.K (.ref f)=true) (hb:Binds X.K fd ps ds) (hd:Vals dvs ds) (hx:pNq CX X E)
    (ha:PA X (e::es) t) (hdb:(x==("__debug__" : Str))=false:=by decide) (he:starEach (e::es) X.env=(false,eval e X.env)::starEach es X.env:=by rfl) (hpl:(backTo pos (starEach es X.env)).any (·.1)=false:=by rfl) :
    PE X (.Call (.Name x p) (e::es) [] pos) (rBq sp dvs E t):=by
  intro pins s σ H Q I h
  refine wpAny_Call_Name_kw (n7q I hg hm ?_ hdb)
  refine PySem.W.callWith_K (h₀:=X.base) I.ok.mod.kin hk (thn (ha pos pins s σ H _ I h) λ us s1 ⟨vs,H1,I1,r,q⟩=>⟨I1.kIn,?_⟩) he hpl
  exact sDq F hr hb hd hx I1 r q
end
section
variable {X:Cx} {CX:CXT} {k:Nat} {f C:Addr} {fd:FuncData} {ps ks:List Str} {sp:Sp} {E:XK} {x m:Str} {p pos apos kpos:Pos} {e o:Expr} {es:List Expr} {kws:List Keyword} {te ta:TE} {t tk:TA} {nm:Option Str}
variable {g:List Value->List Value->List Value} {gV:List V->List V->List V}
end
structure FnScope (N P:List Str) (sc:Scope):Prop where
  kind:sc.kind=.function
  co:sc.isCoroutine=false
  gen:sc.isGenerator=false
  nd:N.Nodup
  pre:N.take P.length=P
  par:∀ x∈P,sc.names.lookup x=some .local\/sc.names.lookup x=some .cell
  nofree:∀ y∈sc.names,y.2≠.free
theorem iHq {kindOf:Str->Option NameKind} {x:Str}:∀ {binds:List (Str × Value)} {m:Str->Option Value},(∀ v,(x,v) ∉ binds)->bindL kindOf binds m x=m x
  | [],_,_=>rfl
  | (n,v)::r,m,h=>by
    unfold bindL
    rw [iHq λ w hw=>h w (List.mem_cons_of_mem _ hw)]
    split
    . have:x≠n:=by rintro rfl;exact h v List.mem_cons_self
      simp [this]
    . rfl
theorem jNq {kindOf:Str->Option NameKind} {x:Str}:∀ {binds:List (Str × Value)} {m:Str->Option Value},(∀ v,(x,v) ∉ binds)->bindC kindOf binds m x=m x
  | [],_,_=>rfl
  | (n,v)::r,m,h=>by
    unfold bindC
    rw [jNq λ w hw=>h w (List.mem_cons_of_mem _ hw)]
    split
    . rfl
    . have:x≠n:=by rintro rfl;exact h v List.mem_cons_self
      simp [this]
theorem iUq {kindOf:Str->Option NameKind} {x:Str} {v:Value}:∀ {P:List Str} {vs:List Value} {i:Nat} {m:Str->Option Value},P.Nodup->P[i]?=some x->vs[i]?=some v->kindOf x=some .local →
    bindL kindOf (P.zip vs) m x=some v
  | [],_,_,_,_,h,_,_=>by simp at h
  | _::_,[],_,_,_,_,h,_=>by simp at h
  | p::P,w::vs,0,m,nd,h1,h2,hk=>by
    simp at h1 h2;subst h1;subst h2
    show bindL kindOf ((p,w)::P.zip vs) m p=_
    unfold bindL
    rw [iHq λ v hv=>(List.nodup_cons.mp nd).1 (List.of_mem_zip hv).1,if_pos hk]
    simp
  | p::P,w::vs,i+1,m,nd,h1,h2,hk=>by
    show bindL kindOf ((p,w)::P.zip vs) m x=_
    unfold bindL
    exact iUq (i:=i) (List.nodup_cons.mp nd).2 (by simpa using h1) (by simpa using h2) hk
theorem j0q {kindOf:Str->Option NameKind} {x:Str} {v:Value}:∀ {P:List Str} {vs:List Value} {i:Nat} {m:Str->Option Value},P.Nodup->P[i]?=some x->vs[i]?=some v->kindOf x≠some .local →
    bindC kindOf (P.zip vs) m x=some v
  | [],_,_,_,_,h,_,_=>by simp at h
  | _::_,[],_,_,_,_,h,_=>by simp at h
  | p::P,w::vs,0,m,nd,h1,h2,hk=>by
    simp at h1 h2;subst h1;subst h2
    show bindC kindOf ((p,w)::P.zip vs) m p=_
    unfold bindC
    rw [jNq λ v hv=>(List.nodup_cons.mp nd).1 (List.of_mem_zip hv).1,if_neg hk]
    simp
  | p::P,w::vs,i+1,m,nd,h1,h2,hk=>by
    show bindC kindOf ((p,w)::P.zip vs) m x=_
    unfold bindC
    exact j0q (i:=i) (List.nodup_cons.mp nd).2 (by simpa using h1) (by simpa using h2) hk
def eMq (N:List Str) (vs:List V):St:=vs.map some++List.replicate (N.length - vs.length) none
def sGq (CX:CXT) (P:Program) (w:World) (K:PySem.W.Frag) (mg:Str->Option Value) (base:Heap) (N:List Str) (qual:Str) (scope:Scope) (f:Addr) (cd:Value) (A:Around) (outer:List Env) (s:Shared) (H:Hp) (E:XK):Cx where
  prog:=P
  w:=w
  K:=K
  mg:=mg
  base:=base
  A:=A.deeper (envOfC qual scope s.heap.objs.size f cd)
  N:=N
  s₀:=s
  H₀:=H
  env:=envOfC qual scope s.heap.objs.size f cd
  outer:=outer
  stack:=envOfC qual scope s.heap.objs.size f cd::outer
  ex:=[]
  calm:=true
  fn:=λ _=>true
  pn:=[]
  xe:=λ e s'=>wpAny (model P w) (A.deeper (envOfC qual scope s.heap.objs.size f cd)) (leaving (envOfC qual scope s.heap.objs.size f cd) e) (λ _ s''=>CX outer H s E e s'') (λ e' s''=>CX outer H s E e' s'') s'
theorem l8q {sc:Scope} {n:Nat} {x:Str} (h:sc.names.lookup x=some .cell):∃ c,(cellsFrom n sc.names []).lookup x=some c:=by
  have q:=PySem.W.cellsFrom_some sc.names n [] (.inl h)
  exact Option.isSome_iff_exists.mp q
theorem oWq {CX:CXT} {P:Program} {w:World} {K:PySem.W.Frag} {mg:Str->Option Value} {base:Heap} {N ps:List Str} {qual:Str} {scope:Scope} {f:Addr} {cd:Value} {A:Around} {outer:List Env} {s s1:Shared} {H:Hp} {E:XK} {us:List Value} {vs:List V}
    (S:FnScope N ps scope) (hd:A.handled=none) (e0:Env0 P w K mg base A outer s H) (hl:vs.length=ps.length) (r:Vals vs us)
    (x:InCallC s s.heap.objs.size (bindL (envOfC qual scope s.heap.objs.size f cd).kindOf (ps.zip us) λ _=>none) (cellsFrom (s.heap.objs.size+1) scope.names []) (bindC (envOfC qual scope s.heap.objs.size f cd).kindOf (ps.zip us) λ _=>none) s1) :
    Inv (sGq CX P w K mg base N qual scope f cd A outer s H E) [] (eMq N vs) H s1:=by
  have hpl:ps.length<=N.length:=by have:=congrArg List.length S.pre;rw [List.length_take] at this;omega
  obtain ⟨h1,tk,rfl,hk⟩:=x.done
  have noA:∀ b:Addr,b ∉ (sGq CX P w K mg base N qual scope f cd A outer s H E).ex:=λ b z=>absurd (show b∈([]:List Addr) from z) (by simp)
  refine ⟨⟨e0.mod,S.kind,rfl,rfl,Nat.le_refl _,λ y z c h1 h2=>?_,λ y hy=>?_,λ y c _ h=>?_,λ _=>hd,Around.frames_deeper e0.frames,.inr ⟨rfl,rfl⟩,λ b z=>absurd z (noA b),e0.bs,e0.bsz,λ b _ _=>noA b,λ b z=>absurd z (noA b),e0.funs,e0.frf⟩,
    rfl,e0.bare,Un.kept hk,⟨_,x.toInCall.ns,λ i y v h1 h2 h3=>?_⟩,λ y c h=>⟨_,x.cell y c h⟩,e0.hok.fresh (Nat.le_refl _),λ y c h=>?_,λ p hp=>absurd (show p∈([]:List (Addr × Obj)) from hp) (by simp),e0.hok.kept hk,?_⟩
  . exact name_of_addr x.apart (PySem.mem_of_lookup h1) (PySem.mem_of_lookup h2)
  . have hy:scope.names.lookup y=some .cell\/scope.names.lookup y=some .free:=hy
    rcases hy with hy | hy
    . exact l8q hy
    . exact absurd rfl (S.nofree _ (PySem.mem_of_lookup hy))
  . exact Nat.le_of_lt (x.above y c (PySem.mem_of_lookup h))
  . have hi:i < vs.length:=by
      unfold eMq at h2
      by_cases hi:i < vs.length
      . exact hi
      . rw [List.getElem?_append_right (by simpa using hi)] at h2
        rw [List.getElem?_replicate] at h2
        split at h2<;>cases h2
    have ha:vs[i]?=some v:=by
      unfold eMq at h2
      rw [List.getElem?_append_left (by simpa using hi),List.getElem?_map] at h2
      cases e:vs[i]? with
      | none=>rw [e] at h2;cases h2
      | some a=>rw [e] at h2;cases h2;rfl
    obtain ⟨u,hu,rv⟩:=r.get ha
    have hp:ps[i]?=some y:=by
      rw [<- S.pre,List.getElem?_take_of_lt (by omega)];exact h1
    have ndP:ps.Nodup:=by rw [<- S.pre];exact S.nd.sublist (List.take_sublist _ _)
    refine ⟨u,rv,?_⟩
    rcases S.par y (List.mem_of_getElem? hp) with k | k
    . exact .inl ⟨k,iUq ndP hp hu k⟩
    . obtain ⟨c,e⟩:=l8q (n:=s.heap.objs.size+1) k
      refine .inr ⟨.inl k,c,e,?_⟩
      have q:=x.cell y c e
      rw [j0q ndP hp hu (by show scope.names.lookup y≠_;rw [k];decide)] at q
      exact q
  . exact e0.hok.fresh (Nat.le_of_lt (x.above y c (PySem.mem_of_lookup h)))
  . unfold eMq
    show _=N.length
    rw [List.length_append,List.length_map,List.length_replicate]
    omega
theorem aG9q {CX:CXT} {P:Program} {w:World} {K:PySem.W.Frag} {mg:Str->Option Value} {base:Heap} {k:Nat} {f:Addr} {name qual:Str} {params:Arguments} {body:List Stmt} {scope:Scope} {dV kV doc pm cdv ct oc:Value} {an od:Option Addr}
    {osl:Array (Option Value)} {N ps:List Str} {sp:Sp} (lk:K.lookup f=some ⟨oc,od,.func (PySem.W.fnOf name qual params body scope dV kV doc pm an cdv ct),osl⟩) (hcd:PySem.W.codeIn K cdv qual=true) (S:FnScope N ps scope)
    (len:∀ vs H Q E,sp vs H Q E->vs.length=ps.length)
    (hbody:∀ (A:Around) (outer:List Env) (s:Shared) (H:Hp) (vs:List V) (Q:VK) (E:XK),Room k (A.deeper (envOfC qual scope s.heap.objs.size f cdv))->sp vs H Q E →
      ∃ t,PSs (sGq CX P w K mg base N qual scope f cdv A outer s H E) body t/\t { nx:=λ _ H'=>Q .non H',rt:=Q } (eMq N vs) H) :
    FnOk P w K mg base CX (k+1) f (PySem.W.fnOf name qual params body scope dV kV doc pm an cdv ct) ps sp:=by
  refine ⟨len,λ A outer s H args us vs Q E hr e0 hb r hsp=>?_⟩
  have hl:=len _ _ _ _ hsp
  have KX:K.In s.heap:=e0.mod.kin.keeps λ b o e=>(e0.bs b o e).1
  have lim:s.heap.NoLimit:=e0.mod.nolimit.keeps λ b o e=>(e0.bs b o e).1
  have hkind:∀ y∈ps.zip us,scope.names.lookup y.1=some .local\/(scope.names.lookup y.1=some .cell/\((cellsFrom (s.heap.objs.size+1) scope.names []).lookup y.1).isSome=true):=λ⟨n,v⟩ hy=>by
    rcases S.par n (List.of_mem_zip hy).1 with q | q
    . exact .inl q
    . exact .inr ⟨q,PySem.W.cellsFrom_some _ _ _ (.inl q)⟩
  refine codeAny_call_function hr.depth (KX _ _ lk) rfl S.co S.gen rfl (PySem.W.codeRec_of KX hcd) (hb _ _ _ _ ?_)
  refine wpAny_newFunctionEnv_cells S.kind hkind λ env he s1 x=>?_
  subst he
  refine ⟨lim.keeps x.toInCall.keep,codeAny_func ?_⟩
  obtain ⟨t,ht,hq⟩:=hbody A outer s H vs Q E (hr.deeper _) hsp
  have I:Inv (sGq CX P w K mg base N qual scope f cdv A outer s H E) [] (eMq N vs) H s1:=oWq S hr.hd e0 hl r x
  refine wpAny_mono (ht [] s1 (eMq N vs) H _ I hq) (λ fl s' hs=>?_) λ e s' hs=>hs
  have fin:∀ {σ':St} {H':Hp} {v:V} {u:Value},Inv (sGq CX P w K mg base N qual scope f cdv A outer s H E) [] σ' H' s'->RelV v u->Q v H'->CE outer P w H s Q u s':=
    λ{σ' H' v u} J rv q=>⟨v,H',J.os,J.bare,J.base,J.hok,rv,q⟩
  cases fl with
  | ret u=>
    obtain ⟨v,σ',H',J,rv,q⟩:=hs
    exact fin J rv q
  | next=>
    obtain ⟨σ',H',J,q⟩:=hs
    exact fin (v:=V.non) (u:=Value.none) J rfl q
  | brk=>
    obtain ⟨_,_,_,q⟩:=hs
    exact False.elim q
  | cont=>
    obtain ⟨_,_,_,q⟩:=hs
    exact False.elim q
section
variable {X:Cx} {x:Str} {p pos:Pos} {e:Expr} {es:List Expr} {t:TA} {id T:String} {r:List V->Hp->VK->Prop}
def tCB (r:List V->Hp->VK->Prop) (t:TA):TE:=λ σ H Q=>t σ H λ vs H1=>r vs H1 Q
theorem rKq (hc:CallR X (.builtin id) r) (hg:Gl X x) (hm:X.mg x=none) (hv:bootBuiltins x=some (.builtin id)) (ha:PA X (e::es) t) (hn:x≠"__name__":=by decide) (hdb:(x==("__debug__" : Str))=false:=by decide)
    (he:starEach (e::es) X.env=(false,eval e X.env)::starEach es X.env:=by rfl) (hpl:(backTo pos (starEach es X.env)).any (·.1)=false:=by rfl):PE X (.Call (.Name x p) (e::es) [] pos) (tCB r t):=by
  intro pins s σ H Q I h
  refine wpAny_Call_Name_kw (e6q I hg hm hv ?_ hn hdb)
  exact PyProof.Rows.callWith_builtin1 (thn (ha pos pins s σ H _ I h) λ us s1 ⟨vs,H1,I1,r1,q1⟩=>hc pins s1 σ H1 vs us Q I1 r1 q1) he hpl
theorem o2q (hc:CallR X (.type T) r) (hg:Gl X x) (hm:X.mg x=none) (hv:bootBuiltins x=some (.type T)) (ha:PA X (e::es) t) (hn:x≠"__name__":=by decide) (hdb:(x==("__debug__" : Str))=false:=by decide)
    (he:starEach (e::es) X.env=(false,eval e X.env)::starEach es X.env:=by rfl) (hpl:(backTo pos (starEach es X.env)).any (·.1)=false:=by rfl):PE X (.Call (.Name x p) (e::es) [] pos) (tCB r t):=by
  intro pins s σ H Q I h
  refine wpAny_Call_Name_kw (e6q I hg hm hv ?_ hn hdb)
  exact PyProof.Rows.callWith_type1 (thn (ha pos pins s σ H _ I h) λ us s1 ⟨vs,H1,I1,r1,q1⟩=>hc pins s1 σ H1 vs us Q I1 r1 q1) he hpl
end
end L2
namespace HT
open PySem PyProof.Rows
section
open PySem.SeqAt
open PySem.AutoSeq1 (wpAny_loadPart')
open PySem.MeetsSeq PySem.MeetsSeq2 PySem.MeetsSeq3
end
section
variable {prog:Program} {w:World} {A:Around} {E:Value->Shared->Prop} {s:Shared}
theorem cat_tup {t b:Addr} {vs ws:List Value} {Q:Value->Shared->Prop} (ht:IsTup s.heap t vs.toArray) (hb:IsTup s.heap b ws.toArray) (hv:vs≠[])
    (h1:ws=[]->Q (.ref t) s) (h2:ws≠[]->Q (.ref s.heap.objs.size) { s with heap:=s.heap.push { cls:=.type "tuple", data:=.seq (vs++ws).toArray } })
    (hsz:vs.length+ws.length<=sizeLine):wpAny (model prog w) A (binaryOp .Add (.ref t) (.ref b)) Q E s:=by
  obtain ⟨⟨cls,dd,data,sl⟩,ho,hc,n,hd⟩:=id ht
  obtain ⟨⟨cls2,dd2,data2,sl2⟩,ho2,hc2,n2,hd2⟩:=id hb
  simp only at hc hd hc2 hd2
  subst hc hd hc2 hd2
  have e:vs.toArray++ws.toArray=(vs++ws).toArray:=by simp
  by_cases hw:ws=[]
  . exact concat_meets ⟨_,ho,rfl⟩ ⟨_,ho2,rfl⟩ noFill_tuple_add seq_tuple_add PySem.F.slot_tuple_add PySem.F.entry_tuple_add (PySem.F.args_tuple_add_2 _ _)
      (tuple_addW1 t b vs.toArray ws.toArray n n2 dd dd2 sl sl2 (by simpa using hv) (by simp [hw])) ⟨ho,ho2,h1 hw⟩
  . refine concat_meets ⟨_,ho,rfl⟩ ⟨_,ho2,rfl⟩ noFill_tuple_add seq_tuple_add PySem.F.slot_tuple_add PySem.F.entry_tuple_add (PySem.F.args_tuple_add_2 _ _)
      (tuple_addW2 t b vs.toArray ws.toArray n n2 dd dd2 sl sl2 (by simpa using hv) (by simpa using hw) (by rw [List.size_toArray,List.size_toArray];exact hsz)) ⟨ho,ho2,?_⟩
    rw [e]
    exact h2 hw
def sIx (n d:Nat):Option Int->Nat
  | none=>d
  | some v=>if v < 0 then (v+(n:Int)).toNat else min v.toNat n
theorem wJq (n d:Nat) (hd:d<=n) (o:Option Int):sIx n d o<=n:=by
  cases o with
  | none=>exact hd
  | some v=>
    show (if v < 0 then (v+(n:Int)).toNat else min v.toNat n)<=n
    by_cases hv:v < 0
    . rw [if_pos hv];omega
    . rw [if_neg hv];exact Nat.min_le_right _ _
theorem oYq (v:Int) (n d:Nat):(if v < 0 then max (v+(n:Int)) 0 else min v (n:Int))=((sIx n d (some v):Nat):Int):=by
  show (if v < 0 then max (v+(n:Int)) 0 else min v (n:Int))=(((if v < 0 then (v+(n:Int)).toNat else min v.toNat n):Nat):Int)
  by_cases hv:v < 0
  . simp only [if_pos hv];omega
  . simp only [if_neg hv];omega
theorem mEq (lo hi:Option Int) (n:Nat):Builtin.Slice.sliceAdjust lo hi 1 (n:Int)=(((sIx n 0 lo:Nat):Int),((sIx n n hi:Nat):Int)):=by
  have h1:¬ ((1:Int) < 0):=by omega
  unfold Builtin.Slice.sliceAdjust
  simp only [h1,if_false]
  refine Prod.ext ?_ ?_
  . cases lo with
    | none=>rfl
    | some v=>exact oYq v n 0
  . cases hi with
    | none=>rfl
    | some v=>exact oYq v n n
theorem mIq (i j:Nat):Builtin.Slice.slicePlaces (i:Int) (j:Int) 1=j - i:=by
  unfold Builtin.Slice.slicePlaces
  have h1:(1:Int) > 0:=by omega
  simp only [h1,if_true,Int.ediv_one]
  split<;>omega
theorem slicePart_ {v:Value} {o:Option Int} {Q:Option Int->Shared->Prop} (p:IsPart v o) (h:Q o s):wpAny (model prog w) A (Builtin.Slice.slicePartIndex v) Q E s:=by
  cases p with
  | none=>exact slicePart_none h
  | int i t=>exact slicePart_int h
theorem sliceApplied_gen {sl:Addr} {vl vu:Value} {lo hi:Option Int} {n:Nat} {Q:Int × Int × Nat->Shared->Prop} (hs:s.heap.IsSliceOf sl vl vu .none) (pl:IsPart vl lo) (pu:IsPart vu hi)
    (h:Q (((sIx n 0 lo:Nat):Int),1,sIx n n hi - sIx n 0 lo) s):wpAny (model prog w) A (Builtin.Slice.sliceApplied (.ref sl) (pure (n:Int))) Q E s:=by
  obtain ⟨os,hos,hcs,hds⟩:=id hs
  unfold Builtin.Slice.sliceApplied Builtin.Slice.sliceFields
  refine wpAny_bind (wpAny_bind (wpAny_field hos hds (x:=vl) rfl (wpAny_bind (wpAny_field hos hds (x:=vu) rfl (wpAny_bind (wpAny_field hos hds (x:=.none) rfl (wpAny_pure ?_)))))))
  refine wpAny_bind (slicePart_none ?_)
  show wpAny _ _ (if ((1:Int)==0)=true then _ else _) _ _ s
  rw [if_neg (by decide)]
  refine wpAny_bind (slicePart_ pl (wpAny_bind (slicePart_ pu (wpAny_bind (wpAny_pure ?_)))))
  show wpAny _ _ (match Builtin.Slice.sliceAdjust lo hi 1 (n:Int) with | (lo,hi)=>pure (lo,(1:Int),Builtin.Slice.slicePlaces lo hi 1)) _ _ s
  rw [mEq lo hi n]
  show wpAny _ _ (pure (((sIx n 0 lo:Nat):Int),(1:Int),Builtin.Slice.slicePlaces ((sIx n 0 lo:Nat):Int) ((sIx n n hi:Nat):Int) 1)) _ _ s
  rw [mIq]
  exact wpAny_pure h
theorem qGq (xs:Array Value) (i k:Nat):((List.range k).filterMap λ(m:Nat)=>xs[((i:Int)+(m:Int) * 1).toNat]?).toArray=((xs.toList.drop i).take k).toArray:=by
  have e:(λ(m:Nat)=>xs[((i:Int)+(m:Int) * 1).toNat]?)=λ m=>xs[i+m]?:=by
    funext m
    have:((i:Int)+(m:Int) * 1).toNat=i+m:=by omega
    rw [this]
  rw [e]
  have:=pick_run xs i k
  rw [List.filterMap_map] at this
  have e2:((λ x=>xs[x]?) ∘ λ x=>i+x)=λ m=>xs[i+m]?:=rfl
  rw [e2] at this
  rw [this]
theorem getItem_tuple_cut {t sl:Addr} {items:Array Value} {vl vu:Value} {lo hi:Option Int} {Q:Value->Shared->Prop} (ht:IsTup s.heap t items) (hs:s.heap.IsSliceOf sl vl vu .none) (pl:IsPart vl lo) (pu:IsPart vu hi)
    (hw:¬ (sIx items.size 0 lo=0/\sIx items.size items.size hi=items.size))
    (h:Q (.ref s.heap.objs.size) { s with heap:=s.heap.push { cls:=.type "tuple", data:=.seq ((items.toList.drop (sIx items.size 0 lo)).take (sIx items.size items.size hi - sIx items.size 0 lo)).toArray } })
    (hsz:items.size<=sizeLine):wpAny (model prog w) A (getItem (.ref t) (.ref sl)) Q E s:=by
  have htake:sizeOk (.seq ((items.toList.drop (sIx items.size 0 lo)).take (sIx items.size items.size hi - sIx items.size 0 lo)).toArray):=by
    show ((items.toList.drop (sIx items.size 0 lo)).take (sIx items.size items.size hi - sIx items.size 0 lo)).toArray.size<=sizeLine
    rw [List.size_toArray,List.length_take,List.length_drop,Array.length_toList]
    omega
  have hj:sIx items.size items.size hi<=items.size:=wJq _ _ (Nat.le_refl _) hi
  obtain ⟨os,hos,hcs,hds⟩:=id hs
  have hTs:s.TypeIs (.ref sl) "slice":=⟨os,hos,hcs⟩
  unfold getItem
  try with_reducible refine wpAny_holding ?_
  first | refine wpAny_bind (wpAny_pure ?_) | skip
  refine wpAny_bind (wpAny_sequenceKey ht.typeIs (by decide) ?_)
  refine wpAny_bind (wpAny_callSpecial?_slot (name:=Str.ofString "__getitem__") ht.typeIs PyProof.Rows.slot_tuple_getitem
    (wpAny_call_entry PyProof.Rows.slot_tuple_getitem ht.typeIs entry_tuple_getitem ?_ (args_tuple_getitem _ _)))
  show wpAny _ _ (Builtin.Tuple.tupleItemsOf (.ref t) >>= _) _ _ s
  refine wpAny_bind (tupleItemsOf_ ht ?_)
  refine wpAny_bind (wpAny_typeOf hTs ?_)
  rw [if_pos (by decide)]
  refine wpAny_bind (sliceApplied_gen hs pl pu ?_)
  have hno:¬ ((((sIx items.size 0 lo:Nat):Int)==0&&(1:Int)==1&&(sIx items.size items.size hi - sIx items.size 0 lo)==items.size)=true):=by
    intro q
    rw [Bool.and_eq_true,Bool.and_eq_true] at q
    have q1:((sIx items.size 0 lo:Nat):Int)=0:=eq_of_beq q.1.1
    have q2:sIx items.size items.size hi - sIx items.size 0 lo=items.size:=eq_of_beq q.2
    exact hw ⟨by omega,by omega⟩
  show wpAny _ _ (if (((sIx items.size 0 lo:Nat):Int)==0&&(1:Int)==1&&(sIx items.size items.size hi - sIx items.size 0 lo)==items.size)=true then _ else _) _ _ s
  rw [if_neg hno,qGq]
  first
    | exact wpAny_bind (m:=Builtin.Tuple.tupleExact _) (wpAny_newObj_type (wpAny_pure ⟨_,rfl,wpAny_pure h⟩) htake)
    | exact wpAny_bind (m:=Builtin.Tuple.tupleExact _) (wpAny_newObj_type (wpAny_bind (wpAny_pure (wpAny_pure ⟨_,rfl,wpAny_pure h⟩))) htake)
    | exact wpAny_bind (wpAny_bind (m:=Builtin.Tuple.tupleExact _) (wpAny_newObj_type (wpAny_pure (wpAny_pure ⟨_,rfl,wpAny_pure h⟩)) htake))
    | exact wpAny_bind (wpAny_bind (m:=Builtin.Tuple.tupleExact _) (wpAny_newObj_type (wpAny_pure ⟨_,rfl,wpAny_pure h⟩) htake))
end
end HT
namespace L2
open PySem PySem.Spec PyProof.Rows
abbrev TO:=St->Hp->(Option Int->Hp->Prop)->Prop
def PO (X:Cx) (e:Option Expr) (t:TO):Prop:=
  ∀ (pins:List (Addr × Obj)) (s:Shared) (σ:St) (H:Hp) (Q:Option Int->Hp->Prop),Inv X pins σ H s->t σ H Q →
    wpAny (model X.prog X.w) X.A (evalPart e X.env) (λ u s'=>∃ o H',Inv X pins σ H' s'/\IsPart u o/\Q o H') X.xe s
def oCq:TO:=λ _ H Q=>Q none H
def xCq (t:TE):TO:=λ σ H Q=>t σ H λ x H1=>∃ i,x=.int i/\Q (some i) H1
section
variable {X:Cx} {e:Expr} {te:TE} {lo hi:Option Expr} {tl th:TO} {pos p2:Pos}
theorem t8q:PO X none oCq:=by
  intro pins s σ H Q I h
  rw [evalPart_none]
  exact wpAny_pure ⟨none,H,I,.none,h⟩
theorem tQq (h:PE X e te):PO X (some e) (xCq te):=by
  intro pins s σ H Q I hw
  rw [evalPart_some]
  refine thn (h pins s σ H _ I hw) λ u s1 ⟨x,H1,I1,r1,q1⟩=>?_
  obtain ⟨i,rfl,q⟩:=q1
  obtain ⟨t,rfl⟩:=r1
  exact ⟨some i,H1,I1,.int i t,q⟩
def SlR (X:Cx) (r:V->Option Int->Option Int->Hp->VK->Prop):Prop:=
  ∀ (pins:List (Addr × Obj)) (s:Shared) (σ:St) (H:Hp) (x:V) (v vl vu:Value) (lo hi:Option Int) (sl:Addr) (Q:VK),Inv X pins σ H s->RelV x v->s.heap.IsSliceOf sl vl vu .none->IsPart vl lo->IsPart vu hi->r x lo hi H Q →
    ∃ T id,typeLookup (.type T) "__getitem__" = pure (some (.builtin id))/\s.TypeIs v T/\wpAny (model X.prog X.w) X.A (getItem v (.ref sl)) (EP X pins σ Q) X.xe s
theorem SlR.or {r r':V->Option Int->Option Int->Hp->VK->Prop} (h:SlR X r) (h':SlR X r'):SlR X (λ x lo hi H Q=>r x lo hi H Q\/r' x lo hi H Q):=by
  intro pins s σ H x v vl vu lo hi sl Q I rx hs pl pu q
  rcases q with q | q
  . exact h pins s σ H x v vl vu lo hi sl Q I rx hs pl pu q
  . exact h' pins s σ H x v vl vu lo hi sl Q I rx hs pl pu q
def tSl (r:V->Option Int->Option Int->Hp->VK->Prop) (te:TE) (tl th:TO):TE:=λ σ H Q=>te σ H λ x H1=>tl σ H1 λ l H2=>th σ H2 λ u H3=>r x l u H3 Q
theorem r6q {r:V->Option Int->Option Int->Hp->VK->Prop} (hr:SlR X r) (he:PE X e te) (hl:PO X lo tl) (hu:PO X hi th):PE X (.Subscript e (.Slice lo hi none p2) pos) (tSl r te tl th):=by
  intro pins s σ H Q I h
  refine Subscript_ (thn (he pins s σ H _ I h) λ v s1 ⟨x,H1,I1,r1,q1⟩=>?_)
  refine wpAny_Slice (thn (hl pins s1 σ H1 _ I1 q1) λ vl s2 ⟨l,H2,I2,pl,q2⟩=>thn (hu pins s2 σ H2 _ I2 q2) λ vu s3 ⟨u,H3,I3,pu,q3⟩=>?_)
  rw [evalPart_none]
  refine wpAny_pure ?_
  have I4:Inv X pins σ H3 { s3 with heap:=s3.heap.push { cls:=.type "slice", data:=.fields #[vl,vu,.none] } }:=I3.kept (t':=s3.toks) λ b ob q=>Heap.get?_push_of_some _ q
  obtain ⟨T,id,hT,ht,hg⟩:=hr pins { s3 with heap:=s3.heap.push { cls:=.type "slice", data:=.fields #[vl,vu,.none] } } σ H3 x v vl vu l u s3.heap.objs.size Q I4 r1 (Heap.IsSliceOf.new ..) pl pu q3
  show wpAny (model X.prog X.w) X.A (subscriptTail e (.Slice lo hi none p2) v (.ref s3.heap.objs.size)) (EP X pins σ Q) X.xe { s3 with heap:=s3.heap.push { cls:=.type "slice", data:=.fields #[vl,vu,.none] } }
  exact tail_any (ops:=[.ref s3.heap.objs.size,v]) ht hT hg (by with_unfolding_all rfl)
def mZq (xs:List V) (lo hi:Option Int):List V:=(xs.drop (HT.sIx xs.length 0 lo)).take (HT.sIx xs.length xs.length hi - HT.sIx xs.length 0 lo)
theorem fDq (xs:List V) (lo hi:Option Int):(mZq xs lo hi).length<=xs.length:=by
  unfold mZq
  rw [List.length_take,List.length_drop]
  omega
def rSlT (K:PySem.W.Frag):V->Option Int->Option Int->Hp->VK->Prop:=λ x lo hi H Q=>∃ a xs,x=.ref a/\SqT K H a xs ∧
  ¬ (HT.sIx xs.length 0 lo=0/\HT.sIx xs.length xs.length hi=xs.length)/\∀ p,H p=none->Q (.ref p) (upd H p (.tup (mZq xs lo hi)))
theorem wVq:SlR X (rSlT X.K):=by
  intro pins s σ H x v vl vu lo hi sl Q I rx hs pl pu h
  obtain ⟨a,xs,rfl,hx,hw,q⟩:=h
  cases rx
  obtain ⟨its,r,ht,hz⟩:=I.tuple hx
  have hlen:its.toArray.size=xs.length:=by rw [List.size_toArray];exact r.length.symm
  refine ⟨"tuple", _,PyProof.Rows.slot_tuple_getitem.lookup,ht.typeIs,?_⟩
  refine HT.getItem_tuple_cut ht hs pl pu (by rw [hlen];exact hw) ?_ (by rw [hlen];exact hz)
  rw [hlen]
  refine ⟨.ref s.heap.objs.size,_,I.laid (t':=s.toks) (o:=.tup (mZq xs lo hi)) (λ b ob q=>Heap.get?_push_of_some _ q) (Nat.le_refl _) ?_,rfl,q _ (I.hok.fresh (Nat.le_refl _))⟩
  exact ⟨Nat.le_trans (fDq xs lo hi) hz,_,(r.drop (HT.sIx xs.length 0 lo)).take (HT.sIx xs.length xs.length hi - HT.sIx xs.length 0 lo),IsTup.new _ _⟩
def aE7q (K:PySem.W.Frag):R2:=λ x y H Q=>∃ a b xs ys,x=.ref a/\y=.ref b/\SqT K H a xs/\SqT K H b ys/\xs≠[]/\xs.length+ys.length<=sizeLine ∧
  (ys=[]->Q (.ref a) H)/\(ys≠[]->∀ p,H p=none->Q (.ref p) (upd H p (.tup (xs++ys))))
theorem Vals.nil_iff {xs:List V} {us:List Value} (r:Vals xs us):us=[] ↔ xs=[]:=by
  cases r with
  | nil=>simp
  | cons _ _=>simp
theorem uNq:OpR X (binaryOp .Add) (aE7q X.K):=by
  intro pins s σ H x y v u Q I rx ry h
  obtain ⟨a,b,xs,ys,rfl,rfl,ha,hb,hx,hz,q1,q2⟩:=h
  cases rx
  cases ry
  obtain ⟨its,r1,p1,_⟩:=I.tuple ha
  obtain ⟨its2,r2,p2,_⟩:=I.tuple hb
  refine HT.cat_tup p1 p2 (λ z=>hx (r1.nil_iff.mp z)) (λ z=>⟨.ref a,H,I,rfl,q1 (r2.nil_iff.mp z)⟩) (λ z=>?_) (by rw [<- r1.length,<- r2.length];exact hz)
  refine ⟨.ref s.heap.objs.size,_,I.laid (t':=s.toks) (o:=.tup (xs++ys)) (λ b ob q=>Heap.get?_push_of_some _ q) (Nat.le_refl _) ?_,rfl,q2 (λ w=>z (r2.nil_iff.mpr w)) _ (I.hok.fresh (Nat.le_refl _))⟩
  exact ⟨by rw [List.length_append];exact hz,_,r1.append r2,IsTup.new _ _⟩
end
def ixN (n:Nat) (i:Int):Option Nat:=if 0<=i then (if i < n then some i.toNat else none) else if -(n:Int)<=i then some (i+n).toNat else none
def atI {α:Type} (xs:List α) (i:Int):Option α:=(ixN xs.length i).bind λ j=>xs[j]?
theorem pOq {n:Nat} {i:Int} {j:Nat} (h:ixN n i=some j):seqIndex? i n=some j/\j < n/\-(n:Int)<=i/\i < n:=by
  unfold ixN at h
  by_cases h0:0<=i
  . rw [if_pos h0] at h
    by_cases h1:i < n
    . rw [if_pos h1] at h
      have e:i.toNat=j:=Option.some.inj h
      exact ⟨by rw [seqIndex_of h0 h1,e],by omega,by omega,h1⟩
    . rw [if_neg h1] at h;cases h
  . rw [if_neg h0] at h
    by_cases h1:-(n:Int)<=i
    . rw [if_pos h1] at h
      have e:(i+n).toNat=j:=Option.some.inj h
      exact ⟨by rw [seqIndex_neg (by omega) h1,e],by omega,h1,by omega⟩
    . rw [if_neg h1] at h;cases h
theorem kOq {α:Type} {xs:List α} {i:Int} {v:α} (h:atI xs i=some v):∃ j,seqIndex? i xs.length=some j/\xs[j]?=some v/\j < xs.length/\-(xs.length:Int)<=i/\i < xs.length:=by
  unfold atI at h
  cases e:ixN xs.length i with
  | none=>rw [e] at h;cases h
  | some j=>
    rw [e] at h
    obtain ⟨h1,h2,h3,h4⟩:=pOq e
    exact ⟨j,h1,h,h2,h3,h4⟩
theorem bCq {α:Type} {xs:List α} {j:Nat} {v:α} (h:xs[j]?=some v):atI xs (j:Int)=some v:=by
  have hj:j < xs.length:=(List.getElem?_eq_some_iff.mp h).1
  have e:ixN xs.length (j:Int)=some j:=by
    unfold ixN
    rw [if_pos (by omega),if_pos (by omega)];simp
  unfold atI;rw [e];exact h
def i7q (b:Expr):Prop:=∀ o i,subscripted b false o i=operate [o,i] (getItem o i)
def IxR (X:Cx) (r:R2):Prop:=
  ∀ (value slice:Expr) (pins:List (Addr × Obj)) (s:Shared) (σ:St) (H:Hp) (x y:V) (v u:Value) (Q:VK),Inv X pins σ H s->RelV x v->RelV y u->r x y H Q →
    subscripted slice false v u=operate [v,u] (getItem v u)->wpAny (model X.prog X.w) X.A (subscriptTail value slice v u) (EP X pins σ Q) X.xe s
def MtR (X:Cx) (id:String) (r:V->List V->Hp->VK->Prop):Prop:=
  ∀ (pins:List (Addr × Obj)) (s:Shared) (σ:St) (H:Hp) (x:V) (xs:List V) (v:Value) (us:List Value) (Q:VK),Inv X pins σ H s->RelV x v->Vals xs us->r x xs H Q →
    wpAny (model X.prog X.w) X.A (call (.builtin id) (v::us)) (EP X pins σ Q) X.xe s
section
variable {X:Cx} {a b:Expr} {ta tb:TE} {pos:Pos}
theorem IxR.or {r r':R2} (h:IxR X r) (h':IxR X r'):IxR X (λ x y H Q=>r x y H Q\/r' x y H Q):=by
  intro value slice pins s σ H x y v u Q I rx ry q hs
  rcases q with q | q
  . exact h value slice pins s σ H x y v u Q I rx ry q hs
  . exact h' value slice pins s σ H x y v u Q I rx ry q hs
theorem MtR.or {id:String} {r r':V->List V->Hp->VK->Prop} (h:MtR X id r) (h':MtR X id r'):MtR X id (λ x xs H Q=>r x xs H Q\/r' x xs H Q):=by
  intro pins s σ H x xs v us Q I rx rs q
  rcases q with q | q
  . exact h pins s σ H x xs v us Q I rx rs q
  . exact h' pins s σ H x xs v us Q I rx rs q
theorem aD7q {r:R2} (hr:IxR X r) (ha:PE X a ta) (hb:PE X b tb) (hs:i7q b):PE X (.Subscript a b pos) (tOp r ta tb):=by
  intro pins s σ H Q I h
  exact Subscript_ (binT ha hb I h λ v u s2 x y H2 I2 rx ry q=>hr a b pins s2 σ H2 x y v u Q I2 rx ry q (hs _ _))
def rIxL (K:PySem.W.Frag):R2:=λ x y H Q=>∃ p xs i v,x=.ref p/\y=.int i/\SqL K H p xs/\atI xs i=some v/\Q v H
def rIxT (K:PySem.W.Frag):R2:=λ x y H Q=>∃ p xs i v,x=.ref p/\y=.int i/\SqT K H p xs/\atI xs i=some v/\Q v H
def rIxS:R2:=λ x y H Q=>∃ z i c,x=.str z/\y=.int i/\z.length<=sizeLine/\atI z.cps.toList i=some c/\Q (.str ⟨#[c]⟩) H
theorem ix_list:IxR X (rIxL X.K):=by
  intro value slice pins s σ H x y v u Q I rx ry h hs
  obtain ⟨p,xs,i,z,rfl,rfl,hq,he,q⟩:=h
  cases rx
  obtain ⟨t,rfl⟩:=ry
  obtain ⟨its,r,pl,hz⟩:=I.list hq
  obtain ⟨j,h1,h2,h3,h4,h5⟩:=kOq he
  obtain ⟨w,ew,rw'⟩:=r.get h2
  have hl:=r.length
  have hn:=dRq
  have fin:EP X pins σ Q w s:=⟨z,H,I,rw',q⟩
  by_cases h0:0<=i
  . have hj:i.toNat=j:=by
      rw [seqIndex_of h0 h5] at h1
      exact Option.some.inj h1
    exact item_listR pl.isList h0 (by omega) (by rw [hj];simpa using ew) fin hs
  . have hj:(i+(its.toArray.size:Int)).toNat=j:=by
      rw [seqIndex_neg (by omega) h4] at h1
      rw [List.size_toArray,<- hl]
      exact Option.some.inj h1
    exact subscriptTail_builtinR (x:=w) pl.isList.typeIs slot_list_getitem.lookup
      (wpAny_getItem_list_neg (Q:=λ r s'=>r=w/\EP X pins σ Q r s') pl.isList (by omega) (by rw [List.size_toArray]<;>omega) (by omega) (by rw [hj];simpa using ew) ⟨rfl,fin⟩) hs
theorem ix_tup:IxR X (rIxT X.K):=by
  intro value slice pins s σ H x y v u Q I rx ry h hs
  obtain ⟨p,xs,i,z,rfl,rfl,hq,he,q⟩:=h
  cases rx
  obtain ⟨t,rfl⟩:=ry
  obtain ⟨its,r,pl,hz⟩:=I.tuple hq
  obtain ⟨j,h1,h2,h3,h4,h5⟩:=kOq he
  obtain ⟨w,ew,rw'⟩:=r.get h2
  have hl:=r.length
  have hn:=dRq
  have fin:EP X pins σ Q w s:=⟨z,H,I,rw',q⟩
  exact subscriptTail_builtinR (x:=w) pl.typeIs slot_tuple_getitem.lookup
    (getItem_tuple (j:=j) (Q:=λ r s'=>r=w/\EP X pins σ Q r s') pl (by omega) (by omega) (by rw [List.size_toArray,<- hl];exact h1) (by simpa using ew) ⟨rfl,fin⟩) hs
theorem wZq:IxR X rIxS:=by
  intro value slice pins s σ H x y v u Q I rx ry h hs
  obtain ⟨z,i,c,rfl,rfl,hz,he,q⟩:=h
  obtain ⟨t,rfl⟩:=rx
  obtain ⟨t',rfl⟩:=ry
  obtain ⟨j,h1,h2,h3,h4,h5⟩:=kOq he
  have hl:z.cps.toList.length=z.length:=by simp [Str.length]
  rw [hl] at h1 h4 h5
  have hn:=dRq
  exact tail_any (typeIs_str s z t) slot_str_getitem.lookup (getItem_str (c:=c) (by
    have e1:decide (i < -(2 ^ 63:Int))=false:=decide_eq_false (by omega)
    have e2:decide (i ≥ 2 ^ 63)=false:=decide_eq_false (by omega)
    rw [e1,e2,Bool.or_false]) (by rw [h1];simpa using h2) ⟨.str ⟨#[c]⟩,H,I.tok _,⟨_,rfl⟩,q⟩) hs
def rIx (K:PySem.W.Frag):R2:=λ x y H Q=>rIxL K x y H Q\/rIxT K x y H Q\/rIxS x y H Q
theorem sLq:IxR X (rIx X.K):=ix_list.or (ix_tup.or wZq)
theorem mYq (its:List Value) (n j:Nat) (u:Value):Obj.mapSeq (·.setIfInBounds j u) { cls:=.type "list", data:=.seq its.toArray n }={ cls:=.type "list", data:=.seq (its.set j u).toArray n }:=by
  simp [Obj.mapSeq]
theorem Inv.lst {pins:List (Addr × Obj)} {σ:St} {H:Hp} {s:Shared} {p:Addr} {xs:List V} (I:Inv X pins σ H s) (h:H p=some (.lst xs)) :
    ∃ (its:List Value) (n:Nat),Vals xs its/\s.heap.get? p=some { cls:=.type "list", data:=.seq its.toArray n }/\xs.length<=sizeLine:=by
  obtain ⟨z,its,n,r,e⟩:=I.hok p _ h
  exact ⟨its,n,r,e,z⟩
theorem Inv.lstUpd {pins:List (Addr × Obj)} {σ:St} {H:Hp} {s:Shared} {p:Addr} {xs ys:List V} {its its':List Value} {n n':Nat} {f:Obj->Obj} (I:Inv X pins σ H s) (h:H p=some (.lst xs))
    (ho:s.heap.get? p=some { cls:=.type "list", data:=.seq its.toArray n }) (hf:f { cls:=.type "list", data:=.seq its.toArray n }={ cls:=.type "list", data:=.seq its'.toArray n' }) (r:Vals ys its') (hz:ys.length<=sizeLine) (t:Nat) :
    Inv X pins σ (upd H p (.lst ys)) { s with heap:=s.heap.update p f,toks:=t }:=by
  have e:(s.heap.update p f).get? p=some { cls:=.type "list", data:=.seq its'.toArray n' }:=by
    rw [Heap.get?_update_self f ho (by rw [hf]<;>rfl),hf]
  refine I.write (x:=p) (e:=p) (by rw [h];trivial) (.inl rfl) (λ b u hb q=>(Heap.get?_update_other _ _ (Ne.symm hb)).trans q) ⟨_,e⟩ ?_
  exact ⟨hz,its',n',r,e⟩
def aI4q:V->V->V->Hp->(Hp->Prop)->Prop:=λ o i v H Q=>∃ p xs k j,o=.ref p/\i=.int k/\H p=some (.lst xs)/\ixN xs.length k=some j/\Q (upd H p (.lst (xs.set j v)))
theorem qMq:PSet X aI4q:=by
  intro pins s σ H o i v ov iv u Q I ro ri rv h
  obtain ⟨p,xs,k,j,rfl,rfl,hp,hj,q⟩:=h
  cases ro
  obtain ⟨t,rfl⟩:=ri
  obtain ⟨its,n,r,ho,hz⟩:=I.lst hp
  obtain ⟨h1,h2,h3,h4⟩:=pOq hj
  have hl:=r.length
  have hn:=dRq
  have I':Inv X pins σ (upd H p (.lst (xs.set j v))) { s with heap:=s.heap.update p (Obj.mapSeq (·.setIfInBounds j u)) }:=
    I.lstUpd hp ho (mYq its n j u) (r.set rv j) (by rw [List.length_set];exact hz) s.toks
  by_cases h0:0<=k
  . have hk:k.toNat=j:=by
      rw [seqIndex_of h0 h4] at h1
      exact Option.some.inj h1
    exact PySem.W.ki_setAt ho h0 (by omega) (by rw [List.size_toArray,<- hl];exact h4) (by rw [hk];exact ⟨_,I',q⟩)
  . have hk:(k+(its.toArray.size:Int)).toNat=j:=by
      rw [seqIndex_neg (by omega) h3] at h1
      rw [List.size_toArray,<- hl]
      exact Option.some.inj h1
    exact PySem.W.ki_setBack ho (by omega) (by rw [List.size_toArray,<- hl];exact h3) (by omega) (by rw [hk];exact ⟨_,I',q⟩)
theorem jDq (lo hi:Option Int) (n:Nat):(sliceBounds lo hi none n).1=((HT.sIx n 0 lo:Nat):Int)/\(sliceBounds lo hi none n).2.1=((HT.sIx n n hi:Nat):Int)/\(sliceBounds lo hi none n).2.2=1:=by
  refine ⟨?_,?_,rfl⟩
  . cases lo with
    | none=>simp [sliceBounds,HT.sIx]
    | some i=>
      simp only [sliceBounds,HT.sIx,Option.getD_none,show (1:Int) > 0 by decide,if_true]
      by_cases h:i < 0
      . simp only [h,if_true]<;>omega
      . simp only [h,if_false]<;>omega
  . cases hi with
    | none=>simp [sliceBounds,HT.sIx]
    | some i=>
      simp only [sliceBounds,HT.sIx,Option.getD_none,show (1:Int) > 0 by decide,if_true]
      by_cases h:i < 0
      . simp only [h,if_true]<;>omega
      . simp only [h,if_false]<;>omega
theorem hCq (its:List Value) (lo hi:Option Int):slicePick its.toArray lo hi none=((its.drop (HT.sIx its.length 0 lo)).take (HT.sIx its.length its.length hi - HT.sIx its.length 0 lo)).toArray:=by
  obtain ⟨h1,h2,h3⟩:=jDq lo hi its.toArray.size
  unfold slicePick
  rw [h1,h2,h3]
  simp only [sliceRange_one,pick_run,List.size_toArray]<;>rfl
def rSlL (K:PySem.W.Frag):V->Option Int->Option Int->Hp->VK->Prop:=λ x lo hi H Q=>∃ a xs,x=.ref a/\SqL K H a xs/\∀ p,H p=none->Q (.ref p) (upd H p (.lst (mZq xs lo hi)))
theorem vIq:SlR X (rSlL X.K):=by
  intro pins s σ H x v vl vu lo hi sl Q I rx hs pl pu h
  obtain ⟨a,xs,rfl,hx,q⟩:=h
  cases rx
  obtain ⟨its,r,ht,hz⟩:=I.list hx
  have hlen:=r.length
  refine ⟨"list", _,slot_list_getitem.lookup,ht.isList.typeIs,?_⟩
  refine wpAny_getItem_list_slice ht.isList hs pl pu .none (by simp) ?_ (by rw [List.size_toArray]<;>omega)
  rw [hCq,<- hlen]
  refine ⟨.ref s.heap.objs.size,_,I.laid (t':=s.toks) (o:=.lst (mZq xs lo hi)) (λ b ob q=>Heap.get?_push_of_some _ q) (Nat.le_refl _) ?_,rfl,q _ (I.hok.fresh (Nat.le_refl _))⟩
  exact ⟨Nat.le_trans (fDq xs lo hi) hz,_,0,(r.drop (HT.sIx xs.length 0 lo)).take (HT.sIx xs.length xs.length hi - HT.sIx xs.length 0 lo),Heap.get?_push_size _ rfl⟩
def gCq:V->Bool
  | .non=>true
  | .bl _=>true
  | .int _=>true
  | .str _=>true
  | _=>false
def eqV:V->V->Bool
  | .non,.non=>true
  | .bl a,.bl b=>a==b
  | .bl a,.int b=>(if a then 1 else 0)==b
  | .int a,.bl b=>a==(if b then 1 else 0)
  | .int a,.int b=>a==b
  | .str a,.str b=>a==b
  | _,_=>false
theorem xRq {A:Around} {s:Shared} {y x:V} {u v:Value} (ry:RelV y u) (rx:RelV x v) (fy:gCq y=true) (fx:gCq x=true):SeqAt.EqAt A s u v (eqV y x):=by
  cases y with
  | non=>
    cases ry
    cases x with
    | non=>cases rx;exact SeqAt.EqAt.same _
    | bl b=>cases rx;exact SeqAt.EqAt.none_bool b
    | int b=>obtain ⟨t,rfl⟩:=rx;exact SeqAt.EqAt.none_int b t
    | str b=>obtain ⟨t,rfl⟩:=rx;exact SeqAt.EqAt.none_str b t
    | _=>exact absurd (show false=true from fx) Bool.false_ne_true
  | bl a=>
    cases ry
    cases x with
    | non=>cases rx;exact SeqAt.EqAt.bool_none a
    | bl b=>cases rx;exact SeqAt.EqAt.bool_bool a b
    | int b=>obtain ⟨t,rfl⟩:=rx;exact SeqAt.EqAt.bool_int a b t
    | str b=>obtain ⟨t,rfl⟩:=rx;exact SeqAt.EqAt.bool_str a b t
    | _=>exact absurd (show false=true from fx) Bool.false_ne_true
  | int a=>
    obtain ⟨t',rfl⟩:=ry
    cases x with
    | non=>cases rx;exact SeqAt.EqAt.int_none a t'
    | bl b=>cases rx;exact SeqAt.EqAt.int_bool a t' b
    | int b=>obtain ⟨t,rfl⟩:=rx;exact SeqAt.EqAt.int_int a t' b t
    | str b=>obtain ⟨t,rfl⟩:=rx;exact SeqAt.EqAt.int_str a t' b t
    | _=>exact absurd (show false=true from fx) Bool.false_ne_true
  | str a=>
    obtain ⟨t',rfl⟩:=ry
    cases x with
    | non=>cases rx;exact SeqAt.EqAt.str_none a t'
    | bl b=>cases rx;exact SeqAt.EqAt.str_bool a t' b
    | int b=>obtain ⟨t,rfl⟩:=rx;exact SeqAt.EqAt.str_int a t' b t
    | str b=>obtain ⟨t,rfl⟩:=rx;exact SeqAt.EqAt.str_str a t' b t
    | _=>exact absurd (show false=true from fx) Bool.false_ne_true
  | _=>exact absurd (show false=true from fy) Bool.false_ne_true
def eqU (x:V) (u:Value):Bool:=match u with
  | .none=>eqV .non x
  | .bool b=>eqV (.bl b) x
  | .int i _=>eqV (.int i) x
  | .str z _=>eqV (.str z) x
  | _=>false
theorem s4q {x y:V} {u:Value} (r:RelV y u) (f:gCq y=true):eqU x u=eqV y x:=by
  cases y with
  | non=>cases r;rfl
  | bl b=>cases r;rfl
  | int i=>obtain ⟨t,rfl⟩:=r;rfl
  | str z=>obtain ⟨t,rfl⟩:=r;rfl
  | _=>exact absurd (show false=true from f) Bool.false_ne_true
theorem g6q {x:V}:∀ {xs:List V} {us:List Value},Vals xs us->xs.all gCq=true->us.any (eqU x)=xs.any λ y=>eqV y x
  | _,_,.nil,_=>rfl
  | y::xs,u::us,.cons r t,f=>by
    rw [List.all_cons,Bool.and_eq_true] at f
    rw [List.any_cons,List.any_cons,s4q r f.1,g6q t f.2]
theorem e7q {A:Around} {s:Shared} {x:V} {v:Value} (rx:RelV x v) (fx:gCq x=true):∀ {xs:List V} {us:List Value},Vals xs us->xs.all gCq=true->∀ u∈us,SeqAt.EqAt A s u v (eqU x u)
  | _,_,.nil,_=>λ u hu=>by cases hu
  | y::xs,u::us,.cons r t,f=>λ u' hu=>by
    rw [List.all_cons,Bool.and_eq_true] at f
    rcases List.mem_cons.mp hu with rfl | hu
    . rw [s4q r f.1];exact xRq r rx f.1 fx
    . exact e7q rx fx t f.2 u' hu
def inV (x:V) (xs:List V):Bool:=xs.any λ y=>eqV y x
def rIn (K:PySem.W.Frag) (neg:Bool):R2:=λ x y H Q=>∃ p xs,y=.ref p/\(SqL K H p xs\/SqT K H p xs)/\gCq x=true/\xs.all gCq=true/\Q (.bl (if neg then !inV x xs else inV x xs)) H
theorem op_in_seq:OpR X (compareOp .In) (rIn X.K false):=by
  intro pins s σ H x y v u Q I rx ry h
  obtain ⟨p,xs,rfl,hq,fx,fs,q⟩:=h
  cases ry
  rcases hq with hq | hq
  . obtain ⟨its,r,pl,hz⟩:=I.list hq
    refine SeqAt.in_listAt (eqU x) pl.isList (λ w hw=>e7q rx fx r fs w (by simpa using hw)) ⟨.bl _,H,I,rfl,?_⟩
    rw [show its.toArray.any (eqU x)=its.any (eqU x) by simp,g6q r fs]
    exact q
  . obtain ⟨its,r,pl,hz⟩:=I.tuple hq
    refine SeqAt.in_tupleAt (eqU x) pl (λ w hw=>e7q rx fx r fs w (by simpa using hw)) ⟨.bl _,H,I,rfl,?_⟩
    rw [show its.toArray.any (eqU x)=its.any (eqU x) by simp,g6q r fs]
    exact q
theorem op_notIn_seq:OpR X (compareOp .NotIn) (rIn X.K true):=by
  intro pins s σ H x y v u Q I rx ry h
  obtain ⟨p,xs,rfl,hq,fx,fs,q⟩:=h
  cases ry
  rcases hq with hq | hq
  . obtain ⟨its,r,pl,hz⟩:=I.list hq
    refine SeqAt.notIn_listAt (eqU x) pl.isList (λ w hw=>e7q rx fx r fs w (by simpa using hw)) ⟨.bl _,H,I,rfl,?_⟩
    rw [show its.toArray.any (eqU x)=its.any (eqU x) by simp,g6q r fs]
    exact q
  . obtain ⟨its,r,pl,hz⟩:=I.tuple hq
    refine SeqAt.notIn_tupleAt (eqU x) pl (λ w hw=>e7q rx fx r fs w (by simpa using hw)) ⟨.bl _,H,I,rfl,?_⟩
    rw [show its.toArray.any (eqU x)=its.any (eqU x) by simp,g6q r fs]
    exact q
theorem iLq:OpR X (compareOp .NotIn) (λ x y H Q=>∃ i j,x=.str i/\y=.str j/\Q (.bl (!(!(Builtin.Str.occurrences j i 0 j.length 1).isEmpty))) H):=by
  intro pins s σ H x y v u Q I rx ry h
  obtain ⟨i,j,rfl,rfl,q⟩:=h
  obtain ⟨t,rfl⟩:=rx
  obtain ⟨t',rfl⟩:=ry
  exact notIn_str ⟨.bl _,H,I,rfl,q⟩
theorem call_len_seq:CallR X (.builtin "len") (λ xs H Q=>∃ p ys,xs=[.ref p]/\(SqL X.K H p ys\/SqT X.K H p ys)/\Q (.int ys.length) H):=by
  intro pins s σ H xs us Q I r h
  obtain ⟨p,ys,rfl,hq,q⟩:=h
  obtain ⟨u,rfl,rx⟩:=g9q r
  cases rx
  have hn:=dRq
  rcases hq with hq | hq
  . obtain ⟨its,r',pl,hz⟩:=I.list hq
    have hlen:=r'.length
    exact Calls.call_len_list pl.isList (by simp only [List.size_toArray]<;>omega) ⟨.int ys.length,H,I.tok _,⟨s.toks+1,by rw [List.size_toArray,hlen]⟩,q⟩
  . obtain ⟨its,r',pl,hz⟩:=I.tuple hq
    have hlen:=r'.length
    exact len_tuple pl (by simp only [List.size_toArray]<;>omega) ⟨.int ys.length,H,I.tok _,⟨s.toks+1,by rw [List.size_toArray,hlen]⟩,q⟩
theorem iXq:CallR X (.builtin "len") (λ xs H Q=>∃ z,xs=[.str z]/\z.length<=sizeLine/\Q (.int z.length) H):=by
  intro pins s σ H xs us Q I r h
  obtain ⟨z,rfl,hz,q⟩:=h
  obtain ⟨u,rfl,t,rfl⟩:=g9q r
  have hn:=dRq
  exact len_str (by omega) ⟨.int z.length,H,I.tok _,⟨_,rfl⟩,q⟩
theorem CallR.or {f:Value} {r r':List V->Hp->VK->Prop} (h:CallR X f r) (h':CallR X f r'):CallR X f (λ xs H Q=>r xs H Q\/r' xs H Q):=by
  intro pins s σ H xs us Q I rs q
  rcases q with q | q
  . exact h pins s σ H xs us Q I rs q
  . exact h' pins s σ H xs us Q I rs q
theorem iYq:CallR X (.type "list") (λ xs H Q=>∃ p ys,xs=[.ref p]/\(SqL X.K H p ys\/SqT X.K H p ys)/\∀ l,H l=none->Q (.ref l) (upd H l (.lst ys))):=by
  intro pins s σ H xs us Q I r h
  obtain ⟨p,ys,rfl,hq,q⟩:=h
  obtain ⟨u,rfl,rx⟩:=g9q r
  cases rx
  have fin:∀ (its:List Value),Vals ys its->ys.length<=sizeLine->∀ (h':Heap) (c':Nat),(∀ b o',s.heap.get? b=some o'->h'.get? b=some o') →
      h'.get? s.heap.objs.size=some { cls:=.type "list", dict:=none,data:=.seq its.toArray c',slots:=#[] }->EP X pins σ Q (.ref s.heap.objs.size) { s with heap:=h' }:=λ its r' hz h' c' kp e=>
    ⟨.ref s.heap.objs.size,_,I.laid (t':=s.toks) kp (Nat.le_refl _) (show ObjOk X.prog X.w _ h' _ (.lst ys) from ⟨hz,its,c',r',e⟩),rfl,q _ (I.hok.fresh (Nat.le_refl _))⟩
  rcases hq with hq | hq
  . obtain ⟨its,r',pl,hz⟩:=I.list hq
    have hlen:=r'.length
    obtain ⟨o,ho,hc,n,hd⟩:=pl.isList
    exact call_list_seq p (.inl rfl) ho hc hd (λ h' c' kp e=>fin its r' hz h' c' kp e) (by simp only [List.size_toArray]<;>omega)
  . obtain ⟨its,r',pl,hz⟩:=I.tuple hq
    have hlen:=r'.length
    obtain ⟨o,ho,hc,n,hd⟩:=pl
    exact call_list_seq p (.inr rfl) ho hc hd (λ h' c' kp e=>fin its r' hz h' c' kp e) (by simp only [List.size_toArray]<;>omega)
theorem h8q:CallR X (.type "tuple") (λ xs H Q=>∃ p ys,xs=[.ref p]/\((SqL X.K H p ys/\∀ l,H l=none->Q (.ref l) (upd H l (.tup ys)))\/(SqT X.K H p ys/\Q (.ref p) H))):=by
  intro pins s σ H xs us Q I r h
  obtain ⟨p,ys,rfl,h⟩:=h
  obtain ⟨u,rfl,rx⟩:=g9q r
  cases rx
  rcases h with ⟨hq,q⟩ | ⟨hq,q⟩
  . obtain ⟨its,r',pl,hz⟩:=I.list hq
    have hlen:=r'.length
    refine call_tuple_list pl.isList (λ h' kp=>?_) (by simp only [List.size_toArray]<;>omega)
    have I1:Inv X pins σ H { s with heap:=h' }:=I.kept (t':=s.toks) kp
    have I2:Inv X pins σ (upd H h'.objs.size (.tup ys)) { s with heap:=h'.push { cls:=.type "tuple", data:=.seq its.toArray } }:=
      I1.laid (t':=s.toks) (λ b o e=>Heap.get?_push_of_some _ e) (Nat.le_refl _) (show ObjOk X.prog X.w _ _ _ (.tup ys) from ⟨hz,its,r',IsTup.new _ _⟩)
    exact ⟨.ref h'.objs.size,_,I2,rfl,q _ (I1.hok.fresh (Nat.le_refl _))⟩
  . obtain ⟨its,r',pl,hz⟩:=I.tuple hq
    exact call_tuple_same pl ⟨.ref p,H,I,rfl,q⟩
def tyV (K:PySem.W.Frag) (T:String) (x:V) (H:Hp):Prop:=match x with
  | .str _=>T = "str"
  | .int _=>T = "int"
  | .ref p=>(T = "list"/\∃ xs,SqL K H p xs)\/(T = "tuple"/\∃ o,K.lookup p=some o/\o.cls=.type "tuple"/\o.dict=none) ∨
      (T = "dict"/\((∃ kvs,H p=some (.dK kvs))\/∃ kvs,H p=some (.dT kvs)))\/(T = "set"/\∃ S n,H p=some (.set S n))
  | _=>False
theorem sPq {pins:List (Addr × Obj)} {σ:St} {H:Hp} {s:Shared} {T:String} {x:V} {v:Value} (I:Inv X pins σ H s) (r:RelV x v) (ty:tyV X.K T x H) :
    s.TypeIs v T/\∀ a,v=.ref a->∃ ob,s.heap.get? a=some ob/\ob.dict=none:=by
  cases x with
  | str z=>
    obtain ⟨t,rfl⟩:=r
    cases (show T = "str" from ty)
    exact ⟨typeIs_str s z t,λ _ e=>nomatch e⟩
  | int i=>
    obtain ⟨t,rfl⟩:=r
    cases (show T = "int" from ty)
    exact ⟨typeIs_int s i t,λ _ e=>nomatch e⟩
  | ref p=>
    cases r
    rcases ty with ⟨rfl,xs,hq⟩ | ⟨rfl,o,hk,hc,hd⟩ | ⟨rfl,hk⟩ | ⟨rfl,S,n,hk⟩
    . obtain ⟨its,_,pl,_⟩:=I.list hq
      refine ⟨pl.isList.typeIs,λ a e=>?_⟩
      cases e
      obtain ⟨o,n,e,c,hd,_⟩:=pl
      exact ⟨o,e,hd⟩
    . refine ⟨⟨o,I.kIn p o hk,hc⟩,λ a e=>?_⟩
      cases e
      exact ⟨o,I.kIn _ o hk,hd⟩
    . have z:∃ o,s.heap.get? p=some o/\o.ExactDict:=by
        rcases hk with ⟨kvs,hk⟩ | ⟨kvs,hk⟩
        . obtain ⟨_,_,_,_,o,_,_,e,ex,_⟩:=I.hok p _ hk
          exact ⟨o,e,ex⟩
        . obtain ⟨_,_,_,_,o,_,_,e,ex,_⟩:=I.hok p _ hk
          exact ⟨o,e,ex⟩
      obtain ⟨o,e,ex⟩:=z
      refine ⟨⟨o,e,ex.1⟩,λ a e2=>?_⟩
      cases e2
      exact ⟨o,e,ex.2.1⟩
    . obtain ⟨o,_,_,_,e,ex,_⟩:=I.hok p _ hk
      refine ⟨⟨o,e,ex.1⟩,λ a e2=>?_⟩
      cases e2
      exact ⟨o,e,ex.2.1⟩
  | _=>exact False.elim ty
def tBM0 (K:PySem.W.Frag) (T:String) (r:V->List V->Hp->VK->Prop) (to:TE):TE:=λ σ H Q=>to σ H λ x H1=>tyV K T x H1/\r x [] H1 Q
def tBM (K:PySem.W.Frag) (T:String) (r:V->List V->Hp->VK->Prop) (to:TE) (t:TA):TE:=λ σ H Q=>to σ H λ x H1=>tyV K T x H1/\t σ H1 λ xs H2=>r x xs H2 Q
variable {o e:Expr} {es:List Expr} {to:TE} {t:TA} {name:Str} {apos cpos:Pos} {T id:String} {r:V->List V->Hp->VK->Prop}
theorem yEq (pa:PlainAttrs T) (slot:Slot T name id) (hty:typeOf (.builtin id)=pure (.type "method_descriptor")) (hm:MtR X id r) (ho:PE X o to)
    (hbase:attributeBase o name X.env (eval o X.env)=eval o X.env:=by rfl) (hline:(apos.endLine==cpos.line)=true:=by rfl):PE X (.Call (.Attribute o name apos) [] [] cpos) (tBM0 X.K T r to):=by
  intro pins s σ H Q I h
  refine wpAny_Call_method0_late hbase hline (thn (ho pins s σ H _ I h) λ v s1 ⟨x,H1,I1,r1,ty,q1⟩=>?_)
  obtain ⟨h1,h2⟩:=sPq I1 r1 ty
  exact ⟨T,id,pa,slot,hty,h1,h2,Calls.callWith_builtin rfl (PySem.evalArgs_none (hm pins s1 σ H1 x [] v [] Q I1 r1 .nil q1))⟩
theorem aL9q (pa:PlainAttrs T) (slot:Slot T name id) (hty:typeOf (.builtin id)=pure (.type "method_descriptor")) (hm:MtR X id r) (ho:PE X o to) (ha:PA X (e::es) t)
    (hbase:attributeBase o name X.env (eval o X.env)=eval o X.env:=by rfl)
    (hfew:((backTo cpos (starEach (e::es) X.env)).all (λ x=>!x.1)&&(backToKw cpos (keywordEach [] X.env)).all (λ x=>x.1.isSome)
     &&decide ((e::es).length+([]:List Keyword).length+(if ([]:List Keyword).isEmpty then 0 else 1) < 30))=true:=by rfl)
    (hline:(apos.endLine==cpos.line)=true:=by rfl) (hs:starEach (e::es) X.env=(false,eval e X.env)::starEach es X.env:=by rfl) (hplain:(backTo cpos (starEach es X.env)).any (·.1)=false:=by rfl) :
    PE X (.Call (.Attribute o name apos) (e::es) [] cpos) (tBM X.K T r to t):=by
  intro pins s σ H Q I h
  refine wpAny_Call_method_late hbase hfew hline rfl (thn (ho pins s σ H _ I h) λ v s1 ⟨x,H1,I1,r1,ty,q1⟩=>?_)
  obtain ⟨h1,h2⟩:=sPq I1 r1 ty
  refine ⟨T,id,pa,slot,hty,h1,h2,?_⟩
  have hA:=ha cpos pins s1 σ H1 _ I1 q1
  rw [hs] at hA ⊢
  refine Calls.callWith_builtin (by show (false||(backTo cpos (starEach es X.env)).any (·.1))=false;rw [hplain]<;>rfl) (Calls.evalArgs_plain ?_)
  exact thn hA λ us s2 ⟨vs,H2,I2,r2,q2⟩=>hm pins s2 σ H2 x vs v us Q I2 r1 r2 q2
end
def MtM (X:Cx) (id:String) (r:V->List V->Hp->VK->Prop):Prop:=
  ∀ (pins:List (Addr × Obj)) (s:Shared) (σ:St) (H:Hp) (x:V) (xs:List V) (v:Value) (us:List Value) (Q:VK),Inv X pins σ H s->RelV x v->Vals xs us->r x xs H Q →
    wpAny (model X.prog X.w) X.A (call (.builtin id) (v::us)) (EP X pins σ Q) X.xe s
theorem Vals.one:∀ {x:V} {us:List Value},Vals [x] us->∃ u,us=[u]/\RelV x u
  | _,_,.cons r .nil=>⟨_,rfl,r⟩
theorem Vals.two:∀ {x y:V} {us:List Value},Vals [x,y] us->∃ u v,us=[u,v]/\RelV x u/\RelV y v
  | _,_,_,.cons r (.cons q .nil)=>⟨_,_,rfl,r,q⟩
theorem Vals.zero:∀ {us:List Value},Vals [] us->us=[]
  | _,.nil=>rfl
theorem Vals.dropLast {xs:List V} {us:List Value} (h:Vals xs us):Vals xs.dropLast us.dropLast:=by
  induction h with
  | nil=>exact .nil
  | cons r t ih=>
    cases t with
    | nil=>exact .nil
    | cons q t'=>exact .cons r ih
theorem Vals.reverse {xs:List V} {us:List Value} (h:Vals xs us):Vals xs.reverse us.reverse:=by
  induction h with
  | nil=>exact .nil
  | cons r t ih=>rw [List.reverse_cons,List.reverse_cons];exact Vals.append ih (.cons r .nil)
theorem mCq {α:Type} (l:List α):l.eraseIdx (l.length - 1)=l.dropLast:=by
  induction l with
  | nil=>rfl
  | cons a r ih=>
    cases r with
    | nil=>rfl
    | cons b r=>
      have e:(a::b::r).length - 1=((b::r).length - 1)+1:=by
        have h1:(a::b::r).length=r.length+2:=rfl
        have h2:(b::r).length=r.length+1:=rfl
        omega
      rw [e,List.eraseIdx_cons_succ,ih]
      all_goals rfl
section
variable {X:Cx} {pins:List (Addr × Obj)} {σ:St} {H:Hp} {s:Shared} {l b:Addr} {xs ys zs:List V}
theorem Inv.lset {its its':List Value} {n:Nat} {f:Array Value->Array Value} {t':Nat} (I:Inv X pins σ H s) (hH:H l=some (.lst xs))
    (e:s.heap.get? l=some { cls:=.type "list", data:=.seq its.toArray n }) (hf:f its.toArray=its'.toArray) (hv:Vals ys its') (hz:ys.length<=sizeLine) :
    Inv X pins σ (upd H l (.lst ys)) { s with heap:=s.heap.update l (Obj.mapSeq f),toks:=t' }:=by
  have q:=PySem.IsL.update e f
  rw [hf] at q
  refine I.write (x:=l) (e:=l) (by rw [hH];exact trivial) (.inl rfl) (λ b' u hb hu=>(Heap.get?_update_other s.heap (Obj.mapSeq f) (Ne.symm hb)).trans hu) ⟨_,q⟩ ?_
  exact ⟨hz,its',_,hv,q⟩
theorem Inv.lnew {its:List Value} {t':Nat} (I:Inv X pins σ H s) (hv:Vals ys its) (hz:ys.length<=sizeLine) :
    Inv X pins σ (upd H s.heap.objs.size (.lst ys)) { s with heap:=s.heap.push { cls:=.type "list", data:=.seq its.toArray },toks:=t' }:=
  I.laid (λ _ _ q=>Heap.get?_push_of_some _ q) (Nat.le_refl _) ⟨hz,its,0,hv,Heap.get?_push_size _ rfl⟩
theorem Inv.fresh (I:Inv X pins σ H s):H s.heap.objs.size=none:=I.hok.fresh (Nat.le_refl _)
theorem Inv.lstM (I:Inv X pins σ H s) (hH:H l=some (.lst xs)):xs.length<=sizeLine/\∃ (its:List Value) (n:Nat),Vals xs its/\xs.length=its.length/\s.heap.get? l=some { cls:=.type "list", data:=.seq its.toArray n }:=by
  obtain ⟨z,its,n,r,e⟩:=I.hok l _ hH
  exact ⟨z,its,n,r,r.length,e⟩
theorem m1q {n:Nat} (h:n<=sizeLine):Builtin.List.listTooLong n=false:=by
  unfold Builtin.List.listTooLong
  exact decide_eq_false (by omega)
end
section
variable {X:Cx}
def vOq:V->List V->Hp->VK->Prop:=λ x vs H Q=>∃ l xs y,x=.ref l/\vs=[y]/\H l=some (.lst xs)/\xs.length < sizeLine/\Q .non (upd H l (.lst (xs++[y])))
theorem fLq:MtM X "list.append" vOq:=by
  intro pins s σ H x vs v us Q I rx rv h
  obtain ⟨l,xs,y,rfl,rfl,hH,hz,q⟩:=h
  cases rx
  obtain ⟨u,rfl,ru⟩:=rv.one
  obtain ⟨z,its,n,r,hl,e⟩:=I.lstM hH
  refine call_meets F.slot_list_append ⟨_,e,rfl⟩ F.entry_list_append (F.args_list_append_2 _ _) (PySem.list_append l its.toArray n u (by rw [List.size_toArray];omega)) ⟨e,?_⟩
  refine ⟨.non,_,I.lset (its':=its++[u]) hH e (by simp) (r.append (.cons ru .nil)) ?_,rfl,q⟩
  rw [List.length_append,List.length_singleton]
  omega
def tMq:V->List V->Hp->VK->Prop:=λ x vs H Q=>∃ l b xs zs,x=.ref l/\vs=[.ref b]/\H l=some (.lst xs)/\H b=some (.lst zs)/\xs.length+zs.length<=sizeLine/\Q .non (upd H l (.lst (xs++zs)))
theorem oMq:MtM X "list.extend" tMq:=by
  intro pins s σ H x vs v us Q I rx rv h
  obtain ⟨l,b,xs,zs,rfl,rfl,hH,hB,hz,q⟩:=h
  cases rx
  obtain ⟨u,rfl,ru⟩:=rv.one
  cases ru
  obtain ⟨z,its,n,r,hl,e⟩:=I.lstM hH
  obtain ⟨z2,its2,n2,r2,hl2,e2⟩:=I.lstM hB
  have hsz:its.toArray.size+its2.toArray.size<=sizeLine:=by rw [List.size_toArray,List.size_toArray];omega
  have hlong:¬ (!its.toArray.isEmpty&&Builtin.List.listTooLong (its.toArray.size+its2.toArray.size))=true:=by
    rw [m1q hsz,Bool.and_false]
    exact Bool.false_ne_true
  refine call_meets F.slot_list_extend ⟨_,e,rfl⟩ F.entry_list_extend (F.args_list_extend_2 _ _)
    (AutoSeq1.list_extend_list_list_0 l its.toArray n b its2.toArray n2 hlong (by rw [List.size_toArray];omega) (by omega)) ⟨e,e2,?_⟩
  refine ⟨.non,_,I.lset (its':=its++its2) hH e (by simp) (r.append r2) ?_,rfl,q⟩
  rw [List.length_append]
  omega
def rPop:V->List V->Hp->VK->Prop:=λ x vs H Q=>∃ l xs y,x=.ref l/\vs=[]/\H l=some (.lst xs)/\xs[xs.length - 1]?=some y/\Q y (upd H l (.lst xs.dropLast))
theorem zZq:MtM X "list.pop" rPop:=by
  intro pins s σ H x vs v us Q I rx rv h
  obtain ⟨l,xs,y,rfl,rfl,hH,hy,q⟩:=h
  cases rx
  have hus:=rv.zero
  subst hus
  obtain ⟨z,its,n,r,hl,e⟩:=I.lstM hH
  obtain ⟨u,hu,ru⟩:=r.get hy
  have hy':its.toArray[its.toArray.size - 1]?=some u:=by
    show its.toArray[its.length - 1]?=some u
    rw [<- Array.getElem?_toList,<- hl]
    exact hu
  refine call_meets F.slot_list_pop ⟨_,e,rfl⟩ F.entry_list_pop (F.args_list_pop_1 _) (MeetsSeq.list_pop_last l its.toArray n u hy' (by rw [List.size_toArray];omega)) ⟨e,?_⟩
  refine ⟨y,_,I.lset (its':=its.dropLast) hH e ?_ r.dropLast ?_,ru,q⟩
  . show its.toArray.eraseIdxIfInBounds (its.toArray.size - 1)=its.dropLast.toArray
    rw [List.size_toArray,List.eraseIdxIfInBounds_toArray,mCq]
  . rw [List.length_dropLast]
    omega
def rCat:R2:=λ x y H Q=>∃ l b xs zs,x=.ref l/\y=.ref b/\H l=some (.lst xs)/\H b=some (.lst zs)/\xs.length+zs.length<=sizeLine/\∀ p,H p=none->Q (.ref p) (upd H p (.lst (xs++zs)))
theorem yBq:OpR X (binaryOp .Add) rCat:=by
  intro pins s σ H x y v u Q I rx ry h
  obtain ⟨l,b,xs,zs,rfl,rfl,hH,hB,hz,q⟩:=h
  cases rx
  cases ry
  obtain ⟨z,its,n,r,hl,e⟩:=I.lstM hH
  obtain ⟨z2,its2,n2,r2,hl2,e2⟩:=I.lstM hB
  refine PySem.P.add_list e e2 ?_ (by rw [List.size_toArray,List.size_toArray];omega)
  have ea:its.toArray++its2.toArray=(its++its2).toArray:=by simp
  rw [ea]
  exact ⟨.ref _,_,I.lnew (t':=s.toks) (r.append r2) (by rw [List.length_append];omega),rfl,q _ I.fresh⟩
end
section
variable {prog:Program} {w:World} {A:Around} {E:Value->Shared->Prop} {s:Shared}
end
section
variable {X:Cx}
end
end L2
namespace Att
open PySem PySem.W PySem.Calls PyProof.Rows
theorem fPq {P:Params} {h:Heap}:∀ (ns:List Int) (vs:List Value),WellAll P h vs (ns.map WData.int)->IntsAre vs ns:=by
  intro ns
  induction ns with
  | nil=>
    intro vs w
    rw [List.map_nil] at w
    cases w
    exact .nil
  | cons n ns ih=>
    intro vs w
    rw [List.map_cons] at w
    cases w with
    | cons a b=>
      cases a
      exact .cons _ _ (ih _ b)
theorem n8q {l:OpenLaw} {n:Nat} (hn:l.most=some n) {P:Params} {h:Heap} {args:List WData} {vals:List Value}
    (hpre:l.row.toRowW.claim.pre args=true) (hwl:WellAll P h vals args) :
    ∃ a vs ns,vals=[Value.ref a]/\args=[WData.list (ns.map WData.int)]/\h.get? a=some { cls:=.type "list", data:=.seq vs.toArray }/\IntsAre vs ns/\ns.length<=n:=by
  have hsh:WShape.hasAll [] args [.list .int]=true:=(pre_splitW hpre).1
  have hc:l.pre.holds [] { args:=args }=true:=(pre_splitW hpre).2
  obtain ⟨d,r,rfl,h1,h2⟩:=hasAllW_cons hsh
  obtain rfl:=hasAllW_nil h2
  obtain ⟨xs,rfl,h3⟩:=hasW_list h1
  obtain ⟨ns,rfl⟩:=items_int h3
  have hlen:ns.length<=n:=by
    unfold OpenLaw.pre at hc
    have h4:(WTm.not (.lt (.lit (.int (n:Int))) (.len (.arg 0)))).holds [] { args:=[.list (ns.map .int)] }=true:=by
      have h4:=(holds_andW hc).1
      rw [hn] at h4
      exact h4
    have h5:=condW_of h4 (w_not (w_lt w_lit (w_len_list (w_arg rfl))))
    rw [List.length_map] at h5
    refine Nat.le_of_not_lt λ q=>?_
    have q':(n:Int) < ((ns.length:Nat):Int):=by omega
    first
      | (rw [decide_eq_true q'] at h5;exact absurd h5 (by decide))
      | (simp at h5;omega)
  cases hwl with
  | cons w1 w2=>
    cases w2
    cases w1 with
    | list ho hall=>exact ⟨_,_,ns,rfl,rfl,ho,fPq ns _ hall,hlen⟩
theorem pQq (l:OpenLaw) (args:List WData):l.row.toRowW.claim.post args (.bool true) args=true:=
  postW_of (r:=l.row.toRowW) (X:=(true==true))
    (show WShape.has [] (.bool true) .bool=true by first | rfl | decide | simp [WShape.has,WShape.arms,WShape.armsAll])
    (show (WTm.eq .res (.lit (.bool true))).value [] { args:=args,res:=some (.bool true),after:=args }=some (.bool (true==true)) from w_eq_bool (w_res rfl) w_lit) rfl
theorem attach_call {l:OpenLaw} {n:Nat} {q:Program} {loose:List Str} {XP:(Str->Option Value)->Heap->Prop} {YP:World->Heap->Prop} {d:DefRec}
    (hn:l.most=some n) (hdf:d.params.defaults=[])
    (call:∀ (w:World) (s₀ s₁:Shared) (mg mb:Str->Option Value) (fa:Addr) (o:Obj) (pm cd doc:Value) (a:Addr) (vs:List Value) (ns:List Int),
      Ground q loose [] XP w s₀ mg mb s₁.heap->YP w s₁.heap →
      s₁.heap.get? fa=some o->o.data=.func (docDef d.name d.params d.body d.scope pm cd doc)->s₁.heap.CodeRec cd d.name->mg d.name=some (.ref fa) →
      s₁.heap.get? a=some { cls:=.type "list", data:=.seq vs.toArray }->IntsAre vs ns->ns.length<=n->s₁.gens=#[] →
      codeAny (model l.prog w) callerA (.call (.ref fa) ⟨[.ref a],[]⟩) (λ r s'=>r=.ok (.ret (.bool true))/\OldK s₁.heap s'.heap/\s'.os=s₁.os/\AllBare s'.gens) s₁) :
    WalkO q loose XP YP l.row.toRowW d [] (λ f vs=>PySem.call f vs):=by
  intro w s₀ s₁ mg mb G Y fa o pm cd doc dV kV ho hd hcd hD hmg hg args vals as hpre hlay hrd hwl hlo
  obtain rfl:dV=.none:=Dflts.none hD hdf
  obtain rfl:kV=.none:=Dflts.noKw hD
  obtain ⟨a,vs,ns,rfl,rfl,hobj,hints,hlen⟩:=n8q hn hpre hwl
  refine enter_call (codeAny_mono (call w s₀ s₁ mg mb fa o pm cd doc a vs ns G Y ho (fd_plain hd) hcd hmg hobj hints hlen hg) λ r s' hq=>?_)
  obtain ⟨rfl,h2,h3,h4⟩:=hq
  exact ⟨.inl ⟨.bool true,.bool true,[],rfl,λ _=>rfl,.bool true,pQq l _,λ _=>⟨List.Pairwise.nil,λ _ hm=>(nomatch hm)⟩⟩,h2,h3,h4⟩
section
variable {prog:Program} {w:World} {A:Around} {E:Value->Shared->Prop} {s:Shared} {K:Frag}
end
end Att
namespace L2
open PySem PySem.Spec PyProof.Rows
theorem iMq:∀ {vs:List Value} {ns:List Int},IntsAre vs ns->Vals (ns.map V.int) vs
  | _,_,.nil=>.nil
  | _,_,.cons n t h=>.cons ⟨t,rfl⟩ (iMq h)
def Only (H:Hp):Prop:=∀ b,H b=none\/∃ o xs,H b=some (.frz o (.lst xs))
theorem r4q {P:Program} {w:World} {K:PySem.W.Frag} {mg mb:Str->Option Value} {CX:CXT} {k:Nat} {fa a:Addr} {fd:FuncData} {x:Str} {sp:Sp} {s₁:Shared} {vs:List Value} {ns:List Int}
    (KX:K.In s₁.heap) (hns:s₁.heap.Ns mainGlobals mg) (hb:s₁.heap.Ns builtinsNs mb) (hbb:∀ x:Str,x≠"__name__"->mb x=bootBuiltins x) (hlim:s₁.heap.NoLimit) (hg:s₁.gens=#[])
    (ha:s₁.heap.get? a=some { cls:=.type "list", data:=.seq vs.toArray }) (hi:IntsAre vs ns) (hl:ns.length<=sizeLine) (hr:Room k callerA)
    (F:∀ base:Heap,K.In base->base.Ns mainGlobals mg->FnOk P w K mg base CX k fa fd [x] sp) (hbind:∀ (s:Shared) (u:Value),BindsTo s fd ⟨[u],[]⟩ [(x,u)])
    (hsp:∀ H:Hp,Only H->SqL K H a (ns.map V.int)->sp [.ref a] H (λ v _=>v=.bl true) λ _ _ _=>False)
    (hCX:∀ H e s',CX [] H s₁ (λ _ _ _=>False) e s'->False) :
    codeAny (model P w) callerA (.call (.ref fa) ⟨[.ref a],[]⟩) (λ r s'=>r=.ok (.ret (.bool true))/\OldK s₁.heap s'.heap/\s'.os=s₁.os/\AllBare s'.gens) s₁:=by
  have rv:=iMq hi
  have lenV:=hi.length
  have core:∀ H:Hp,Only H->SqL K H a (ns.map V.int)->HOk P w H s₁.heap->(∀ b,H b≠none->b=a)->(H a≠none->K.lookup a=none) →
      codeAny (model P w) callerA (.call (.ref fa) ⟨[.ref a],[]⟩) (λ r s'=>r=.ok (.ret (.bool true))/\OldK s₁.heap s'.heap/\s'.os=s₁.os/\AllBare s'.gens) s₁:=by
    intro H hO hS hok hA hK
    have base_of:∀ {b:Addr} {o:Obj},s₁.heap.get? b=some o->H b=none->(qRq s₁.heap H).get? b=some o:=λ e n=>rYq e n
    have noA:∀ {b:Addr} {o:Obj} {es:Array DictEntry} {ep:Nat},s₁.heap.get? b=some o->o.data=.dict es ep->H b=none:=λ{b o es ep} e d=>by
      cases q:H b with
      | none=>rfl
      | some u=>
        have e':b=a:=hA b (by rw [q];simp)
        subst e'
        rw [ha] at e;cases e
        have d':Data.seq vs.toArray _=Data.dict es ep:=d
        cases d'
    have nsK:∀ {b:Addr} {m:Str->Option Value},s₁.heap.Ns b m->(qRq s₁.heap H).Ns b m:=λ{b m} ⟨o,es,ep,e,d,r⟩=>⟨o,es,ep,base_of e (noA e d),d,r⟩
    have hKb:K.In (qRq s₁.heap H):=λ b o e=>base_of (KX b o e) (by
      cases q:H b with
      | none=>rfl
      | some u=>
        have e':b=a:=hA b (by rw [q];simp)
        subst e'
        rw [hK (by rw [q];simp)] at e;cases e)
    have hM:Mod K mg (qRq s₁.heap H):=⟨hKb,nsK hns,⟨mb,nsK hb,hbb⟩,let ⟨mc,h1,h2⟩:=hlim;⟨mc,nsK h1,h2⟩⟩
    have e0:Env0 P w K mg (qRq s₁.heap H) callerA [] s₁ H:=⟨rfl,hM,λ b o e=>t1q e,Nat.le_of_eq (oJq _ _),trivial,λ b hb=>absurd (show b∈([]:List Addr) from hb) (by simp),hok,.of_eq hg⟩
    refine codeAny_mono ((F _ hKb (nsK hns)).run callerA [] s₁ H ⟨[.ref a],[]⟩ [.ref a] [.ref a] _ _ hr e0 (hbind s₁ (.ref a)) (.cons rfl .nil) (hsp H hO hS)) λ r s' h=>?_
    cases r with
    | error e=>exact (hCX H e s' h).elim
    | ok fl=>
      cases fl with
      | next=>exact False.elim h
      | brk=>exact False.elim h
      | cont=>exact False.elim h
      | ret u=>
        obtain ⟨v,H',os,bare,un,hok',r',q⟩:=h
        have q':v=.bl true:=q
        subst q'
        obtain rfl:u=Value.bool true:=r'
        refine ⟨rfl,OldK.of_keep λ b o e=>?_,os,bare⟩
        cases q:H b with
        | none=>exact un.keep b o e q (by intro z;exact absurd (show b∈([]:List Addr) from z) (by simp)) (by simp)
        | some u=>
          rcases hO b with z | ⟨ob,xs,z⟩
          . rw [q] at z;cases z
          . have z2:=un.frzs b ob _ z
            obtain ⟨e1,_⟩:=hok b _ z
            obtain ⟨e2,_⟩:=hok' b _ z2
            rw [e] at e1;cases e1
            exact e2
  cases hk:K.lookup a with
  | some o=>
    have e:=KX a o hk
    rw [ha] at e
    cases e
    refine core (λ _=>none) (λ _=>.inl rfl) (.inr ⟨_,vs.toArray,_,hk,rfl,rfl,rfl,by rw [List.size_toArray,lenV];exact hl,by simpa using rv⟩) (λ b u z=>by have z':(none:Option HO)=some u:=z;cases z') (λ b z=>absurd rfl z) λ z=>absurd rfl z
  | none=>
    refine core (λ b=>if b=a then some (.frz { cls:=.type "list", data:=.seq vs.toArray } (.lst (ns.map V.int))) else none) (λ b=>?_) (.inl (.inr ⟨{ cls:=.type "list", data:=.seq vs.toArray },if_pos rfl⟩)) (λ b u z=>?_) (λ b z=>?_) λ _=>hk
    . by_cases hb:b=a
      . exact .inr ⟨_,_,if_pos hb⟩
      . exact .inl (if_neg hb)
    . by_cases hb:b=a
      . have z':=(if_pos hb).symm.trans z
        cases z'
        subst hb
        exact ⟨ha,by rw [List.length_map];exact hl,vs,_,rv,ha⟩
      . have z':=(if_neg hb).symm.trans z
        cases z'
    . by_cases hb:b=a
      . exact hb
      . exact absurd (if_neg hb) z
theorem uSq {l:PySem.W.OpenLaw} {n k:Nat} {q:Program} {loose:List Str} {XP:(Str->Option Value)->Heap->Prop} {YP:World->Heap->Prop} {d:DefRec} {K:Params->PySem.W.Frag} {CX:World->CXT} {sp:World->Sp} {x:Str}
    (hn:l.most=some n) (hn2:n<=sizeLine) (hdf:d.params.defaults=[]) (hr:Room k callerA)
    (hY:∀ (w:World) (h:Heap),YP w h->(K w.params).In h)
    (F:∀ (w:World) (mg:Str->Option Value) (fa:Addr) (h:Heap),(K w.params).In h->h.Ns mainGlobals mg->mg d.name=some (.ref fa) →
      ∃ fd:FuncData,(∀ (s:Shared) (u:Value),BindsTo s fd ⟨[u],[]⟩ [(x,u)]) ∧
        ∀ base:Heap,(K w.params).In base->base.Ns mainGlobals mg->FnOk l.prog w (K w.params) mg base (CX w) k fa fd [x] (sp w))
    (hsp:∀ (w:World) (H:Hp) (a:Addr) (ns:List Int),ns.length<=n->Only H->SqL (K w.params) H a (ns.map V.int)->sp w [.ref a] H (λ v _=>v=.bl true) λ _ _ _=>False)
    (hCX:∀ (w:World) (H:Hp) (s:Shared) (e:Value) (s':Shared),CX w [] H s (λ _ _ _=>False) e s'->False) :
    PySem.W.WalkO q loose XP YP l.row.toRowW d [] (λ f vs=>PySem.call f vs):=by
  refine Att.attach_call hn hdf λ w s₀ s₁ mg mb fa o pm cd doc a vs ns G Y ho hd hcd hmg hobj hints hlen hg=>?_
  have KX:=hY w _ Y
  obtain ⟨fd,hb,hF⟩:=F w mg fa _ KX G.T.g hmg
  exact r4q KX G.T.g G.T.b G.T.builtins G.T.nolimit hg hobj hints (Nat.le_trans hlen hn2) hr hF hb (λ H hO hS=>hsp w H a ns hlen hO hS) λ H e s'=>hCX w H s₁ e s'
def cRq (s:Stmt):Arguments:=match s with
  | .FunctionDef _ a _ _ _ _ _ _ _ _=>a
  | _=>{ posonlyargs:=[],args:=[],vararg:=none,kwonlyargs:=[],kw_defaults:=[],kwarg:=none,defaults:=[] }
def bTq (s:Stmt):List Stmt:=match s with
  | .FunctionDef _ _ b _ _ _ _ _ _ _=>b
  | _=>[]
def aDq (s:Stmt):Scope:=match s with
  | .FunctionDef _ _ _ _ _ _ sc _ _ _=>sc
  | _=>{ kind:=.function,names:=[],isGenerator:=false,isCoroutine:=false }
abbrev CX0:CXT:=λ _ _ _ _ _ _=>False
abbrev E0:XK:=λ _ _ _=>False
theorem wXq {X:Cx}:pNq CX0 X E0:=λ _ _ _ _ _ _ _ h=>h.elim
structure Fun (K:PySem.W.Frag) (x qual:Str) (st:Stmt) (f:Addr) (fd:FuncData):Prop where
  ex:∃ (oc:Value) (od:Option Addr) (kV doc pm:Value) (an:Option Addr) (cdv ct:Value) (osl:Array (Option Value)),
    fd=PySem.W.fnOf x qual (cRq st) (bTq st) (aDq st) .none kV doc pm an cdv ct/\K.lookup f=some ⟨oc,od,.func fd,osl⟩/\PySem.W.codeIn K cdv qual=true
  kp:PySem.W.keepIn K (.ref f)=true
section
variable {P:Program} {w:World} {K:PySem.W.Frag} {mg:Str->Option Value} {base:Heap}
theorem Fun.ok {x qual:Str} {st:Stmt} {f:Addr} {fd:FuncData} {N ps:List Str} {k:Nat} {sp:Sp} (F:Fun K x qual st f fd) (S:FnScope N ps (aDq st)) (len:∀ vs H Q E,sp vs H Q E->vs.length=ps.length)
    (hbody:∀ (cdv:Value) (A:Around) (outer:List Env) (s:Shared) (H:Hp) (vs:List V) (Q:VK) (E:XK),Room k (A.deeper (envOfC qual (aDq st) s.heap.objs.size f cdv))->sp vs H Q E →
      ∃ t,PSs (sGq CX0 P w K mg base N qual (aDq st) f cdv A outer s H E).nox (bTq st) t/\t { nx:=λ _ H'=>Q .non H',rt:=Q } (eMq N vs) H):FnOk P w K mg base CX0 (k+1) f fd ps sp:=by
  obtain ⟨oc,od,kV,doc,pm,an,cdv,ct,osl,rfl,lk,hcd⟩:=F.ex
  refine aG9q lk hcd S len λ A outer s H vs Q E hr hsp=>?_
  obtain ⟨t,h,q⟩:=hbody cdv A outer s H vs Q E hr hsp
  exact ⟨t,h.nox,q⟩
theorem Fun.binds {x qual:Str} {st:Stmt} {f:Addr} {fd:FuncData} {ps:List Str} (F:Fun K x qual st f fd)
    (h:∀ (kV doc pm:Value) (an:Option Addr) (cdv ct:Value) (us:List Value),us.length=ps.length->bindArgs (PySem.W.fnOf x qual (cRq st) (bTq st) (aDq st) .none kV doc pm an cdv ct) ⟨us,[]⟩=pure (ps.zip us)):Binds K fd ps []:=by
  obtain ⟨oc,od,kV,doc,pm,an,cdv,ct,osl,rfl,lk,hcd⟩:=F.ex
  exact .all (h kV doc pm an cdv ct)
theorem xXq {x qual:Str} {st:Stmt} {f:Addr} {oc:Value} {od an:Option Addr} {osl:Array (Option Value)} {kV doc pm cdv ct:Value} (l:K.lookup f=some ⟨oc,od,.func (PySem.W.fnOf x qual (cRq st) (bTq st) (aDq st) .none kV doc pm an cdv ct),osl⟩)
 (c:PySem.W.codeIn K cdv qual=true) (k:PySem.W.keepIn K (.ref f)=true):Fun K x qual st f (PySem.W.fnOf x qual (cRq st) (bTq st) (aDq st) .none kV doc pm an cdv ct):=⟨⟨oc,od,kV,doc,pm,an,cdv,ct,osl,rfl,l,c⟩,k⟩
end
section
variable {X:Cx}
end
def Same (H H':Hp):Prop:=∀ b o,H b=some o->H' b=some o
theorem Same.refl (H:Hp):Same H H:=λ _ _ h=>h
def cUq (cells:List (Str × Addr)):List (Str × NameKind)->List (Str × Addr)->List (Str × Addr)
  | [],acc=>acc
  | (n,k)::r,acc=>cUq cells r (if k=.free then (n,(cells.lookup n).getD 0)::acc else acc)
theorem gNq {α β:Type} {f:α->β->Sem (ForInStep β)} (g:β->α->β):∀ (l:List α) (c:β),(∀ x∈l,∀ c,f x c=pure (.yield (g c x)))->forIn l c f=pure (l.foldl g c)
  | [],_,_=>rfl
  | x::l,c,h=>by
    rw [List.forIn_cons,h x List.mem_cons_self,pure_bind]
    exact gNq g l _ λ y hy=>h y (List.mem_cons_of_mem _ hy)
theorem gJq (cells:List (Str × Addr)):∀ (names:List (Str × NameKind)) (acc:List (Str × Addr)),
    names.foldl (λ c y=>if y.2=.free then (y.1,(cells.lookup y.1).getD 0)::c else c) acc=cUq cells names acc
  | [],_=>rfl
  | (n,k)::r,acc=>by
    rw [List.foldl_cons,cUq]
    exact gJq cells r _
theorem oTq {scope:Scope} {env:Env} (h:∀ y∈scope.names,y.2=.free->∃ c,env.cells.lookup y.1=some c):closureFor scope env=pure (cUq env.cells scope.names []):=by
  rw [<- gJq]
  simp only [closureFor]
  rw [gNq (λ c y=>if y.2=.free then (y.1,(env.cells.lookup y.1).getD 0)::c else c) scope.names [] λ x hx c=>?_]
  . rfl
  . obtain ⟨n,k⟩:=x
    by_cases hk:k=.free
    . subst hk
      obtain ⟨a,e⟩:=h _ hx rfl
      have e':env.cells.lookup n=some a:=e
      simp [cellOf,e']
    . have hb:(k==NameKind.free)=false:=by simpa using hk
      simp [hb,hk]
theorem lIq {cells:List (Str × Addr)}:∀ (names:List (Str × NameKind)) (acc:List (Str × Addr)),(∀ y∈names,y.2=.free->∃ c,cells.lookup y.1=some c)->(∀ x c,acc.lookup x=some c->cells.lookup x=some c) →
    ∀ x c,(cUq cells names acc).lookup x=some c->cells.lookup x=some c
  | [],_,_,ha=>ha
  | (n,k)::r,acc,h,ha=>by
    rw [cUq]
    refine lIq r _ (λ y hy=>h y (List.mem_cons_of_mem _ hy)) λ x c e=>?_
    by_cases hk:k=.free
    . rw [if_pos hk] at e
      obtain ⟨a,ea⟩:=h (n,k) List.mem_cons_self hk
      have ea':cells.lookup n=some a:=ea
      rw [List.lookup_cons] at e
      cases hx:x==n with
      | true=>
        rw [hx] at e
        have e2:some ((cells.lookup n).getD 0)=some c:=e
        rw [ea'] at e2
        have e3:a=c:=Option.some.inj e2
        rw [eq_of_beq hx,ea',e3]
      | false=>
        rw [hx] at e
        exact ha x c e
    . rw [if_neg hk] at e
      exact ha x c e
theorem iOq {cells:List (Str × Addr)} {x:Str}:∀ (names:List (Str × NameKind)) (acc:List (Str × Addr)),(acc.lookup x).isSome=true->((cUq cells names acc).lookup x).isSome=true
  | [],_,h=>h
  | (n,k)::r,acc,h=>by
    rw [cUq]
    refine iOq r _ ?_
    by_cases hk:k=.free
    . rw [if_pos hk,List.lookup_cons]
      cases hx:x==n with
      | true=>rfl
      | false=>exact h
    . rw [if_neg hk];exact h
theorem f8q {cells:List (Str × Addr)} {x:Str}:∀ (names:List (Str × NameKind)) (acc:List (Str × Addr)),(x,NameKind.free)∈names->((cUq cells names acc).lookup x).isSome=true
  | [],_,h=>nomatch h
  | (n,k)::r,acc,h=>by
    rw [cUq]
    rcases List.mem_cons.mp h with e | h
    . cases e
      refine iOq r _ ?_
      rw [if_pos rfl,List.lookup_cons,beq_self_eq_true];rfl
    . exact f8q r _ h
theorem gVq {g:Str->NameKind->NameKind} {x:Str}:∀ names:List (Str × NameKind),(names.map λ y=>(y.1,g y.1 y.2)).lookup x=(names.lookup x).map (g x)
  | []=>rfl
  | (n,k)::r=>by
    rw [List.map_cons,List.lookup_cons,List.lookup_cons]
    cases hx:x==n with
    | true=>
      have e:=eq_of_beq hx
      subst e;rfl
    | false=>exact gVq r
theorem hDq (scope:Scope) (env:Env):(relabel scope env).names=scope.names.map λ y=>(y.1,if (y.2==.free&&env.scope.kind==.function&&env.kindOf y.1==some .cell)=true then NameKind.cell else y.2):=by
  unfold relabel
  refine List.map_congr_left λ y _=>?_
  obtain ⟨n,k⟩:=y
  show (if (k==.free&&env.scope.kind==.function&&env.kindOf n==some .cell)=true then (n,NameKind.cell) else (n,k))=_
  split<;>simp_all
theorem eUq (scope:Scope) (env:Env) (x:Str):(relabel scope env).names.lookup x=(scope.names.lookup x).map λ k=>if (k==.free&&env.scope.kind==.function&&env.kindOf x==some .cell)=true then NameKind.cell else k:=by
  rw [hDq]
  exact gVq (g:=λ n k=>if (k==.free&&env.scope.kind==.function&&env.kindOf n==some .cell)=true then NameKind.cell else k) scope.names
def b6q (X:Cx) (scope:Scope) (N':List Str) (C:Addr) (ex:List Addr) (s:Shared) (H:Hp):Cx:=
  { X with N:=N',s₀:=s,H₀:=H,env:=compEnvC scope (cUq X.env.cells scope.names []) C X.env,outer:=X.stack,stack:=X.stack,ex:=ex,fn:=λ _=>false,pn:=[],xe:=λ _ _=>False }
def e2q (nt:Nat) (cap:List Nat) (σ:St):St:=List.replicate nt none++cap.map λ i=>(σ[i]?).join
structure CompOk (X:Cx) (scope:Scope) (N':List Str) (nt:Nat) (cap:List Nat):Prop where
  kind:scope.kind=.function
  nocell:∀ y∈scope.names,y.2≠.cell
  locs:∀ y∈scope.names,y.2=.local->scope.names.lookup y.1=some .local
  frees:∀ y∈scope.names,y.2=.free->X.env.scope.names.lookup y.1=some .cell\/X.env.scope.names.lookup y.1=some .free
  len:N'.length=nt+cap.length
  caps:∀ (j i:Nat) (x:Str),cap[j]?=some i->N'[nt+j]?=some x->X.N[i]?=some x/\scope.names.lookup x=some .free
section
variable {X:Cx} {scope:Scope} {N':List Str} {nt:Nat} {cap:List Nat} {pins:List (Addr × Obj)} {σ:St} {H:Hp} {s:Shared}
theorem CompOk.has (c:CompOk X scope N' nt cap) (ok:X.Ok):∀ y∈scope.names,y.2=.free->∃ a,X.env.cells.lookup y.1=some a:=λ y hy hk=>ok.has y.1 (c.frees y hy hk)
theorem CompOk.cells (c:CompOk X scope N' nt cap) (ok:X.Ok) {x:Str} {a:Addr} (e:(cUq X.env.cells scope.names []).lookup x=some a):X.env.cells.lookup x=some a:=
  lIq scope.names [] (c.has ok) (λ _ _ z=>by simp at z) x a e
theorem CompOk.free_of (c:CompOk X scope N' nt cap) {x:Str} (h:(relabel scope X.env).names.lookup x=some .cell\/(relabel scope X.env).names.lookup x=some .free):(x,NameKind.free)∈scope.names:=by
  rw [eUq] at h
  cases q:scope.names.lookup x with
  | none=>rw [q] at h;simp at h
  | some k=>
    have hm:=PySem.mem_of_lookup q
    have nc:k≠.cell:=c.nocell _ hm
    rw [q] at h
    by_cases hk:k=.free
    . subst hk;exact hm
    . have hb:(k==NameKind.free)=false:=by simpa using hk
      simp only [Option.map_some,hb,Bool.false_and,Bool.false_eq_true,if_false,Option.some.injEq] at h
      rcases h with h | h
      . exact absurd h nc
      . exact absurd h hk
theorem Inv.comp (I:Inv X pins σ H s) (c:CompOk X scope N' nt cap) {fp:List Addr} (hf:∀ b∈fp,jRq X pins H b) (hfs:∀ b∈fp,b < s.heap.objs.size) {h':Heap} {m:Str->Option Value} {t':Nat}
    (hk:∀ b o,s.heap.get? b=some o->h'.get? b=some o) (hn:h'.Ns s.heap.objs.size m) :
    Inv (b6q X scope N' s.heap.objs.size fp s H) [] (e2q nt cap σ) H { s with heap:=h',toks:=t' }:=by
  have cl:=λ{x:Str} {a:Addr} (e:(cUq X.env.cells scope.names []).lookup x=some a)=>c.cells I.ok e
  have cellLt:∀ x a,X.env.cells.lookup x=some a->a < s.heap.objs.size:=λ x a e=>by
    obtain ⟨v,q⟩:=I.cell x a e
    exact q.lt
  refine ⟨⟨I.ok.mod,c.kind,I.ok.glob,I.ok.blt,Nat.le_refl _,λ x y a e1 e2=>I.ok.inj x y a (cl e1) (cl e2),λ x hx=>?_,λ x a hx=>absurd hx Bool.false_ne_true,I.ok.hd,I.ok.frames,.inl rfl,λ b hb=>⟨?_,λ x a e=>?_⟩,
      λ b o e=>I.bs b o e,Nat.le_trans I.ok.bsz I.sz,λ b o e hb=>?_,λ b hb hbf=>?_,I.stack,λ b hb=>I.stkFree b hb⟩,
    rfl,I.bare,Un.kept hk,⟨m,hn,λ i x v e1 e2 e3=>?_⟩,λ x a e=>?_,I.hok.fresh (Nat.le_refl _),λ x a e=>I.freeC x a (cl e),λ p hp=>absurd (show p∈([]:List (Addr × Obj)) from hp) (by simp),I.hok.kept hk,?_⟩
  . exact Option.isSome_iff_exists.mp (f8q scope.names [] (c.free_of hx))
  . exact Nat.ne_of_lt (hfs b hb)
  . exact (hf b hb).2.2.2.2.1 x a (cl e)
  . obtain ⟨f0,f1,f2,f3,_⟩:=hf b hb
    rcases f3 with z | z
    . exact I.ok.noex b o e z
    . exact absurd (Nat.lt_of_lt_of_le (Heap.lt_size e) (Nat.le_trans I.ok.bsz z)) (Nat.lt_irrefl _)
  . obtain ⟨f0,f1,f2,_⟩:=hf b hb
    rcases List.mem_cons.mp (I.stkSub b hbf) with z | z
    . exact f1 z
    . exact f2 z
  .
    have e1':N'[i]?=some x:=e1
    have hi:nt<=i:=by
      refine Nat.le_of_not_lt λ q=>?_
      unfold e2q at e2
      rw [List.getElem?_append_left (by simpa using q),List.getElem?_replicate,if_pos q] at e2
      cases e2
    obtain ⟨j,rfl⟩:=Nat.exists_eq_add_of_le hi
    unfold e2q at e2
    rw [List.getElem?_append_right (by simp),List.length_replicate,Nat.add_sub_cancel_left,List.getElem?_map] at e2
    cases q:cap[j]? with
    | none=>rw [q] at e2;cases e2
    | some k=>
      rw [q] at e2
      have e2':(σ[k]?).join=some v:=Option.some.inj e2
      have e4:σ[k]?=some (some v):=by
        cases z:σ[k]? with
        | none=>rw [z] at e2';cases e2'
        | some w'=>rw [z] at e2';exact congrArg some e2'
      obtain ⟨n1,n2⟩:=c.caps j k x q e1'
      have hmem:=PySem.mem_of_lookup n2
      have hkind:=c.frees _ hmem rfl
      obtain ⟨m0,_,hl⟩:=I.loc
      obtain ⟨u,r,lk⟩:=hl k x v n1 e4 (.inr hkind)
      refine ⟨u,r,.inr ⟨?_,?_⟩⟩
      . show (relabel scope X.env).names.lookup x=some .cell\/(relabel scope X.env).names.lookup x=some .free
        rw [eUq,n2]
        by_cases z:((NameKind.free==.free&&X.env.scope.kind==.function&&X.env.kindOf x==some .cell)=true)
        . exact .inl (by rw [Option.map_some,if_pos z])
        . exact .inr (by rw [Option.map_some,if_neg z])
      . rcases lk with ⟨k1,_⟩ | ⟨_,a,e,z⟩
        . have k1':X.env.scope.names.lookup x=some .local:=k1
          rcases hkind with y | y<;>(rw [k1'] at y;cases y)
        . obtain ⟨a',ea⟩:=Option.isSome_iff_exists.mp (f8q (cells:=X.env.cells) scope.names [] hmem)
          have e':=cl ea
          rw [e] at e';cases e'
          obtain ⟨o,ho,hd⟩:=z
          exact ⟨a,ea,o,hk _ _ ho,hd⟩
  . obtain ⟨v,o,ho,hd⟩:=I.cell x a (cl e)
    exact ⟨v,o,hk _ _ ho,hd⟩
  . show (e2q nt cap σ).length=N'.length
    unfold e2q
    rw [List.length_append,List.length_replicate,List.length_map,c.len]
theorem Inv.uncomp {C:Addr} {fp:List Addr} {σ':St} {H':Hp} {s':Shared} (I:Inv X pins σ H s) (hC:C=s.heap.objs.size) (hf:∀ b∈fp,jRq X pins H b) {N':List Str} (J:Inv (b6q X scope N' C fp s H) [] σ' H' s') :
    ∃ m,s'.heap.Ns C m/\∀ h',Heap.SameBut C s'.heap h'->Inv X pins σ H' { s' with heap:=h' }:=by
  subst hC
  obtain ⟨m,hn,_⟩:=J.loc
  refine ⟨m,hn,λ h' hs=>?_⟩
  have ne:∀ b o,s.heap.get? b=some o->b≠s.heap.objs.size:=λ b o e=>Nat.ne_of_lt (Heap.lt_size e)
  have B:=J.base
  refine I.call' (ch:=fp) J.os ⟨λ b o e n hb hx=>?_,λ b o e n hb hx=>?_,B.free,λ b o e hx=>?_,B.tups,B.frzs,B.tbls⟩ (λ b u e=>?_) J.bare λ b hb=>?_
  . exact (hs.2 b (ne b o e)).trans (B.keep b o e n hb hx)
  . obtain ⟨sl,q⟩:=B.slot b o e n hb hx
    exact ⟨sl,(hs.2 b (ne b o e)).trans q⟩
  . obtain ⟨o',q⟩:=B.there b o e hx
    exact ⟨o',(hs.2 b (ne b o e)).trans q⟩
  . have hCn:H' s.heap.objs.size=none:=J.free
    refine (J.hok b u e).stay (λ d w' hd q=>(hs.2 d ?_).trans q) (λ _ q=>q) λ _ _ q=>q
    intro z
    subst z
    rcases hd with z | z
    . rw [<- z,hCn] at e;cases e
    . rw [hCn] at z;cases z
  . obtain ⟨f0,f1,f2,f3,f4,f5⟩:=hf b hb
    exact ⟨f3,f1,f4,f5⟩
end
def pDq (wi:TI) (g:TG) (te:TE) (nt:Nat) (cap:List Nat):TE:=λ σ H Q=>wi σ H λ J H1=>∀ acc,H1 acc=none →
  ∃ W:Nat->Nat->List V->St->Hp->Prop,(∃ m,W 0 m [] (e2q nt cap σ) (upd H1 acc (.lst [])))/\∀ i m ys σ' H',W i m ys σ' H' →
    (J.stop i H'/\Q (.ref acc) H')\/(J.go i H'/\∀ x H2,J.yld i H' x H2->g x σ' H2 λ σ3 H3=>te σ3 H3 λ y H4=>
      H4 acc=some (.lst ys)/\ys.length < sizeLine/\∃ m',m' < m/\W (i+1) m' (ys++[y]) σ3 (upd H4 acc (.lst (ys++[y]))))
section
variable {X:Cx} {scope:Scope} {N':List Str} {nt:Nat} {cap:List Nat} {elt iter tg:Expr} {pos:Pos} {wi:TI} {g:TG} {te:TE}
theorem vRq (hc:X.calm=true) (c:CompOk X scope N' nt cap) (hi:PI X tg iter wi) (hg:∀ C ex s H,PG (b6q X scope N' C ex s H) tg g) (he:∀ C ex s H,PE (b6q X scope N' C ex s H) elt te)
    (hs:∀ x,foldedSetIterable iter X.env x=pure x:=by intro _;rfl):PE X (.ListComp elt [⟨tg,iter,[],0⟩] scope pos) (pDq wi g te nt cap):=by
  intro pins s σ H Q I h
  rw [eval_ListComp]
  refine wpAny_comprehension_free (use:=none) rfl hs (oTq (c.has I.ok)) c.kind c.locs (thn (hi pins s σ H _ I h) λ v s1 h1=>thn h1 λ itv s2 h2=>?_)
  obtain ⟨it,fp,tn,J,H2,rfl,I2,T,st2,f2,R⟩:=h2
  have hD:H2 s2.heap.objs.size=none:=I2.hok.fresh (Nat.le_refl _)
  obtain ⟨W,⟨m0,w0⟩,turn⟩:=R _ hD
  have I3:Inv X pins σ (upd H2 s2.heap.objs.size (.lst [])) { s2 with heap:=s2.heap.push { cls:=.type "list", dict:=none,data:=.seq ([]:List Value).toArray } }:=
    I2.laid (t':=s2.toks) (λ b u e=>Heap.get?_push_of_some _ e) (Nat.le_refl _) ⟨Nat.zero_le _,[],0,.nil,Heap.get?_push_size _ rfl⟩
  have fpLt:∀ b∈fp,b < s2.heap.objs.size:=λ b hb=>by
    obtain ⟨o,e,_⟩:=T.obj _ _ st2 b hb
    exact Heap.lt_size e
  have f3:∀ b∈fp,jRq X pins (upd H2 s2.heap.objs.size (.lst [])) b:=λ b hb=>⟨by rw [b0q (Nat.ne_of_lt (fpLt b hb))];exact (f2 b hb).1,(f2 b hb).2⟩
  have st3:tn 0 (s2.heap.push { cls:=.type "list", dict:=none,data:=.seq ([]:List Value).toArray }):=T.keep _ _ _ st2 λ b _ o e=>Heap.get?_push_of_some _ e
  generalize hh3:s2.heap.push { cls:=.type "list", dict:=none,data:=.seq ([]:List Value).toArray }=h3 at I3 st3
  have sz3:s2.heap.objs.size < h3.objs.size:=by rw [<- hh3,Heap.size_push];exact Nat.lt_succ_self _
  generalize hDD:s2.heap.objs.size=D at I3 f3 hD w0 turn sz3 fpLt
  refine wpAny_newObj_type ?_
  rw [hDD,hh3]
  refine wpAny_newFunctionEnv c.nocell (by intro y hy;simp at hy) (λ h4 hns4 hsb4=>?_) c.kind
  dsimp only at hns4 hsb4 ⊢
  have keep4:∀ b o,h3.get? b=some o->h4.get? b=some o:=λ b o e=>(hsb4.2 b (Nat.ne_of_lt (Heap.lt_size e))).trans (Heap.get?_push_of_some _ e)
  have I4:=I3.comp (t':=s2.toks+([]:List (Str × Value)).length) c f3 (λ b hb=>Nat.lt_trans (fpLt b hb) sz3) keep4 hns4
  have st4:tn 0 h4:=T.keep _ _ _ st3 λ b _ o e=>keep4 b o e
  dsimp only at I4
  have fin:∀ {σ':St} {H':Hp} {s':Shared},Inv (b6q X scope N' h3.objs.size fp { s2 with heap:=h3 } (upd H2 D (.lst []))) [] σ' H' s'->Q (.ref D) H' →
      compPost (model X.prog X.w) X.A X.xe none (EP X pins σ Q) (.ref D) h3.objs.size (.ok .next) s':=λ{σ' H' s'} J' q=>by
    obtain ⟨m,hn,hh⟩:=I3.uncomp rfl f3 J'
    exact ⟨m,hn,λ h' hs'=>⟨.ref D,H',hh h' hs',rfl,q⟩⟩
  have stat:∀ {H':Hp},(∀ b∈fp,H' b=none)->∀ b∈fp,jRq (b6q X scope N' h3.objs.size fp { s2 with heap:=h3 } (upd H2 D (.lst []))) [] H' b:=λ{H'} hn b hb=>by
    refine ⟨hn b hb,Nat.ne_of_lt (Nat.lt_trans (fpLt b hb) sz3),λ z=>?_,.inl hb,λ x a e=>(f3 b hb).2.2.2.2.1 x a (c.cells I.ok e),λ p hp=>absurd (show p∈([]:List (Addr × Obj)) from hp) (by simp)⟩
    rcases List.mem_cons.mp (I.stkSub b z) with y | y
    . exact (f3 b hb).2.1 y
    . exact (f3 b hb).2.2.1 y
  have loop:codeAny (model X.prog X.w) X.A (.compLoop (.ListComp elt [⟨tg,iter,[],0⟩] scope pos) 0 (.ref it) (.ref D) (compEnvC scope (cUq X.env.cells scope.names []) h3.objs.size X.env))
      (compPost (model X.prog X.w) X.A X.xe none (EP X pins σ Q) (.ref D) h3.objs.size) { s2 with heap:=h4,toks:=s2.toks+([]:List (Str × Value)).length }:=by
    refine codeAny_loop rfl (λ n s'=>∃ i ys σ' H',Inv (b6q X scope N' h3.objs.size fp { s2 with heap:=h3 } (upd H2 D (.lst []))) [] σ' H' s'/\tn i s'.heap/\(∀ b∈fp,H' b=none)/\W i n ys σ' H') (λ n s5 hI=>?_) m0 ⟨0,[],_,_,I4,st4,λ b hb=>(f3 b hb).1,w0⟩
    obtain ⟨i,ys,σ5,H5,I5,st5,fr5,w5⟩:=hI
    show wpAny _ X.A ((compTurn (.ListComp elt [⟨tg,iter,[],0⟩] scope pos) 0 (.ref it) (.ref D) (compEnvC scope (cUq X.env.cells scope.names []) h3.objs.size X.env)).onRaise (λ x=>do noteFrame x (compEnvC scope (cUq X.env.cells scope.names []) h3.objs.size X.env);theTreesLotGoes x)) _ _ s5
    refine wpAny_noted ?_
    rw [compTurn_list1]
    rcases turn i n ys σ5 H5 w5 with ⟨stop,qn⟩ | ⟨go,step⟩
    . refine wpAny_bind (wpAny_standAt (wpAny_bind (wpAny_mono (T.done (b6q X scope N' h3.objs.size fp { s2 with heap:=h3 } (upd H2 D (.lst []))) rfl rfl rfl hc i [] s5 σ5 H5 (λ _ _=>False) I5 (stat fr5) st5 stop) (λ r s6 ⟨hr,I6⟩=>?_) λ _ _ z=>z.elim)))
      subst hr
      exact wpAny_pure (fin I6 qn)
    . refine wpAny_bind (wpAny_standAt (wpAny_bind (wpAny_mono (T.item (b6q X scope N' h3.objs.size fp { s2 with heap:=h3 } (upd H2 D (.lst []))) rfl rfl rfl hc i [] s5 σ5 H5 (λ _ _=>False) I5 (stat fr5) st5 go) (λ r s6 ⟨u,hr,h6⟩=>?_) λ _ _ z=>z.elim)))
      subst hr
      refine wpAny_bind (wpAny_mono h6 (λ _ s7 ⟨x,H7,I7,r7,y7,st7,fr7⟩=>?_) λ _ _ z=>z.elim)
      have I7':=I7.pinned (stat fr7) (T.obj _ _ st7)
      refine wpAny_bind (wpAny_mono (hg _ _ _ _ _ s7 σ5 H7 x u _ I7' r7 (step x H7 y7)) (λ _ s8 ⟨σ8,H8,I8,q8⟩=>?_) λ _ _ z=>z.elim)
      refine wpAny_bind (wpAny_bind (wpAny_mono (he _ _ _ _ _ s8 σ8 H8 _ I8 q8) (λ yv s9 ⟨y,H9,I9,r9,e9,z9,m',hm',w9⟩=>?_) λ _ _ z=>z.elim))
      refine wpAny_bind (wpAny_mono (fLq (X:=b6q X scope N' h3.objs.size fp { s2 with heap:=h3 } (upd H2 D (.lst []))) _ s9 σ8 H9 (.ref D) [y] (.ref D) [yv] (λ v H10=>v=.non/\H10=upd H9 D (.lst (ys++[y]))) I9 rfl (.cons r9 .nil) ⟨D,ys,y,rfl,rfl,e9,z9,rfl,rfl⟩)
        (λ _ s10 ⟨v10,H10,I10,_,_,e10⟩=>?_) λ _ _ z=>z.elim)
      subst e10
      refine wpAny_pure (wpAny_pure ⟨rfl,m',hm',i+1,ys++[y],σ8,_,I10.unpinned,?_,λ b hb=>?_,w9⟩)
      . exact T.keep _ _ _ st7 λ b hb o e=>(I10.pin (b,o) (List.mem_append_right _ (List.mem_append_right _ (c2q hb e)))).1
      . obtain ⟨o,e,d⟩:=T.obj _ _ st7 b hb
        exact (I10.pin (b,o) (List.mem_append_right _ (List.mem_append_right _ (c2q hb e)))).2.1
  exact codeAny_compStart_list loop (T.self _ 0 _ _ _ st4 loop)
end
structure Got (P:Program) (w:World) (K:PySem.W.Frag) (mg:Str->Option Value) (base:Heap) (k:Nat) (x:Str) (ps:List Str) (sp:Sp):Prop where
  ex:∃ (f:Addr) (fd:FuncData),FnOk P w K mg base CX0 k f fd ps sp/\mg x=some (.ref f)/\PySem.W.keepIn K (.ref f)=true/\Binds K fd ps []
section
variable {X:Cx} {k j:Nat} {x:Str} {ps:List Str} {sp:Sp} {p pos:Pos} {e:Expr} {es:List Expr} {t:TA}
theorem aG1q (G:Got X.prog X.w X.K X.mg X.base k x ps sp) (hr:Room j X.A) (hk:k<=j) (hg:Gl X x) (ha:PA X (e::es) t) (hdb:(x==("__debug__" : Str))=false:=by decide)
    (he:starEach (e::es) X.env=(false,eval e X.env)::starEach es X.env:=by rfl) (hpl:(backTo pos (starEach es X.env)).any (·.1)=false:=by rfl) :
    PE X (.Call (.Name x p) (e::es) [] pos) (rBq sp [] E0 t):=by
  obtain ⟨f,fd,F,hm,kp,b⟩:=G.ex
  exact w3q F (hr.mono hk) hg hm kp b .nil wXq ha hdb he hpl
end
section
variable {X:Cx}
theorem qDq:OpR X (binaryOp .FloorDiv) (rI (λ _ j=>0 < j/\j < 2 ^ 64) λ i j=>.int (i / j)):=opI λ i j t u s E Q hc q=>by
  have h0:j≠0:=by omega
  have h1:j.natAbs.log2 < 9000:=by
    have e1:j.natAbs < 2 ^ 64:=by omega
    exact Nat.lt_trans ((Nat.log2_lt (by omega)).mpr e1) (by decide)
  have e:i.fdiv j=i / j:=Int.fdiv_eq_ediv_of_nonneg i (by omega)
  exact floordiv_int h0 (by rw [e];exact q) (.inl (PyProof.noPylong_of_log2 h1))
theorem u2q (l b:Addr) (items items2:Array Value) (n n2:Nat) (dd2:Option Addr) (sl2:Array (Option Value)) (h0:¬(!items.isEmpty&&Builtin.List.listTooLong (items.size+items2.size))=true) (h1:items.size<=sizeLine) (h2:items.size+items2.size<=sizeLine+1) :
    Meets (Builtin.«list.extend» ⟨[.ref l,.ref b],[]⟩) (λ _ R s=>s.heap.get? l=some { cls:=.type "list", dict:=none,data:=.seq items n,slots:=#[] } ∧
      s.heap.get? b=some { cls:=.type "tuple", dict:=dd2,data:=.seq items2 n2,slots:=sl2 }/\R (.ok (.ret Value.none)) { s with heap:=s.heap.update l (Obj.mapSeq λ x=>x++items2),toks:=s.toks }):=
  .of_wp λ prog w A R s h=>by
    obtain ⟨hp,g,d,tk,os⟩:=s
    obtain ⟨hl,hb,h⟩:=h
    have f1:=AutoSeq1.idx_int
    have f2:=AutoSeq1.sub_tuple_tuple
    have f3:=AutoSeq1.sub_list_list
    have f4:=AutoSeq1.sub_tuple_list
    have f5:=AutoSeq1.sub_list_tuple
    have hz':(items++items2).size<=sizeLine+1:=by rw [Array.size_append];exact h2
    wp_walk using (wpAny_updateSeq hl rfl (hz:=h1) (_hz':=hz')),wpAny_loadPart' hl,wpAny_loadPart' hb
    exact ⟨_,rfl,h⟩
def aF6q (K:PySem.W.Frag):V->List V->Hp->VK->Prop:=λ x vs H Q=>∃ l b xs zs,x=.ref l/\vs=[.ref b]/\H l=some (.lst xs)/\SqT K H b zs/\xs.length+zs.length<=sizeLine/\Q .non (upd H l (.lst (xs++zs)))
theorem vJq:MtM X "list.extend" (aF6q X.K):=by
  intro pins s σ H x vs v us Q I rx rv h
  obtain ⟨l,b,xs,zs,rfl,rfl,hH,hB,hz,q⟩:=h
  cases rx
  obtain ⟨u,rfl,ru⟩:=rv.one
  cases ru
  obtain ⟨z,its,n,r,hl,e⟩:=I.lstM hH
  obtain ⟨its2,r2,⟨⟨c2,dd2,da2,sl2⟩,e2,hc2,n2,hd2⟩,hz2⟩:=I.tuple hB
  simp only at hc2 hd2
  subst hc2 hd2
  have hl2:=r2.length
  have hsz:its.toArray.size+its2.toArray.size<=sizeLine:=by rw [List.size_toArray,List.size_toArray];omega
  have hlong:¬ (!its.toArray.isEmpty&&Builtin.List.listTooLong (its.toArray.size+its2.toArray.size))=true:=by
    rw [m1q hsz,Bool.and_false]
    exact Bool.false_ne_true
  refine call_meets F.slot_list_extend ⟨_,e,rfl⟩ F.entry_list_extend (F.args_list_extend_2 _ _) (u2q l b its.toArray its2.toArray n n2 dd2 sl2 hlong (by rw [List.size_toArray];omega) (by omega)) ⟨e,e2,?_⟩
  refine ⟨.non,_,I.lset (its':=its++its2) hH e (by simp) (r.append r2) ?_,rfl,q⟩
  rw [List.length_append]
  omega
end
section
variable {X:Cx} {scope:Scope} {N':List Str} {nt:Nat} {cap:List Nat} {elt iter tg:Expr} {pos:Pos} {wi:TI} {g:TG} {te:TE}
end
def bAq:Expr->Bool
  | .Starred ..=>false
  | _=>true
theorem aLq {e:Expr} {es:List Expr} {env:Env} (h:bAq e=true):starEach (e::es) env=(false,eval e env)::starEach es env:=by
  cases e<;>first | rfl | cases h
section
variable {κ:Type} [DecidableEq κ]
theorem RelO.getD {o:Option V} {u:Option Value} {d:V} {d':Value} (r:RelO o u) (rd:RelV d d'):RelV (o.getD d) (u.getD d'):=by
  cases o with
  | none=>cases u with
    | none=>exact rd
    | some _=>exact (show False from r).elim
  | some _=>cases u with
    | none=>exact (show False from r).elim
    | some _=>exact r
end
section
variable {P:Program} {w:World} {H:Hp} {h:Heap} {a:Addr}
end
section
variable {X:Cx} {pins:List (Addr × Obj)} {σ:St} {H:Hp} {s:Shared} {a:Addr} {y v:V} {u r:Value} {o:Option V} {A:Around} {E:Value->Shared->Prop}
end
section
variable {X:Cx} {pins:List (Addr × Obj)} {σ:St} {H:Hp} {s:Shared} {a:Addr} {kvs:List (Key × V)} {k:Key} {u:Value} {A:Around} {E:Value->Shared->Prop}
end
section
variable {X:Cx} {o i e value:Expr} {pos pos' tpos:Pos} {td ty tv:TE}
end
section
variable {X:Cx} {pos:Pos}
end
structure M1 (X:Cx) (o:Expr) (m:Str) (apos:Pos) (e:Expr) (cpos:Pos):Prop where
  base:attributeBase o m X.env (eval o X.env)=eval o X.env
  few:((backTo cpos (starEach [e] X.env)).all (λ x=>!x.1)&&(backToKw cpos (keywordEach [] X.env)).all (λ x=>x.1.isSome)
   &&decide (([e]:List Expr).length+([]:List Keyword).length+(if ([]:List Keyword).isEmpty then 0 else 1) < 30))=true
  line:(apos.endLine==cpos.line)=true
  trees:backTo cpos (starEach [e] X.env)=[(false,eval e X.env)]
structure M2 (X:Cx) (o:Expr) (m:Str) (apos:Pos) (e f:Expr) (cpos:Pos):Prop where
  base:attributeBase o m X.env (eval o X.env)=eval o X.env
  few:((backTo cpos (starEach [e,f] X.env)).all (λ x=>!x.1)&&(backToKw cpos (keywordEach [] X.env)).all (λ x=>x.1.isSome)
   &&decide (([e,f]:List Expr).length+([]:List Keyword).length+(if ([]:List Keyword).isEmpty then 0 else 1) < 30))=true
  line:(apos.endLine==cpos.line)=true
  trees:backTo cpos (starEach [e,f] X.env)=[(false,eval e X.env),(false,eval f X.env)]
section
variable {X:Cx} {pins:List (Addr × Obj)} {σ:St} {H:Hp} {s:Shared} {a:Addr} {y d:V} {u r:Value} {o:Option V} {A:Around} {E:Value->Shared->Prop}
end
section
variable {X:Cx} {o e f:Expr} {apos cpos:Pos} {td ty tx:TE}
end
section
variable {X:Cx} {pins:List (Addr × Obj)} {σ:St} {H:Hp} {s:Shared} {a:Addr} {kvs:List (Key × V)} {A:Around} {E:Value->Shared->Prop}
end
section
variable {X:Cx} {pins:List (Addr × Obj)} {σ:St} {H:Hp} {s:Shared} {a:Addr} {y:V} {u:Value} {A:Around} {E:Value->Shared->Prop}
end
section
variable {κ:Type} [DecidableEq κ]
end
section
variable {prog:Program} {w:World} {A:Around} {E:Value->Shared->Prop} {s:Shared}
theorem dOq {t sl:Addr} {items:Array Value} {vl vu:Value} {lo hi:Option Int} {Q:Value->Shared->Prop} (ht:IsTup s.heap t items) (hs:s.heap.IsSliceOf sl vl vu .none) (pl:IsPart vl lo) (pu:IsPart vu hi)
    (hw:HT.sIx items.size 0 lo=0/\HT.sIx items.size items.size hi=items.size) (h:Q (.ref t) s):wpAny (model prog w) A (getItem (.ref t) (.ref sl)) Q E s:=by
  obtain ⟨os,hos,hcs,hds⟩:=id hs
  have hTs:s.TypeIs (.ref sl) "slice":=⟨os,hos,hcs⟩
  unfold getItem
  try with_reducible refine wpAny_holding ?_
  first | refine wpAny_bind (wpAny_pure ?_) | skip
  refine wpAny_bind (wpAny_sequenceKey ht.typeIs (by decide) ?_)
  refine wpAny_bind (wpAny_callSpecial?_slot (name:=Str.ofString "__getitem__") ht.typeIs PyProof.Rows.slot_tuple_getitem (wpAny_call_entry PyProof.Rows.slot_tuple_getitem ht.typeIs entry_tuple_getitem ?_ (args_tuple_getitem _ _)))
  show wpAny _ _ (Builtin.Tuple.tupleItemsOf (.ref t) >>= _) _ _ s
  refine wpAny_bind (tupleItemsOf_ ht ?_)
  refine wpAny_bind (wpAny_typeOf hTs ?_)
  rw [if_pos (by decide)]
  refine wpAny_bind (HT.sliceApplied_gen hs pl pu ?_)
  have hyes:(((HT.sIx items.size 0 lo:Nat):Int)==0&&(1:Int)==1&&(HT.sIx items.size items.size hi - HT.sIx items.size 0 lo)==items.size)=true:=by
    rw [hw.1,hw.2];simp
  show wpAny _ _ (if (((HT.sIx items.size 0 lo:Nat):Int)==0&&(1:Int)==1&&(HT.sIx items.size items.size hi - HT.sIx items.size 0 lo)==items.size)=true then _ else _) _ _ s
  rw [if_pos hyes]
  have ex:∀ {Q':Bool->Shared->Prop},Q' true s->wpAny (model prog w) A.in1 (Builtin.Tuple.tupleIsExact (.ref t)) Q' E s:=λ{Q'} q=>by
    unfold Builtin.Tuple.tupleIsExact
    refine wpAny_bind (wpAny_typeOf ht.typeIs (wpAny_pure ?_))
    have e:(Value.type "tuple"==Value.type "tuple")=true:=beq_self_eq_true _
    rw [e];exact q
  first
    | exact wpAny_bind (ex (wpAny_bind (wpAny_rule (wpAny_pure ⟨_,rfl,wpAny_pure h⟩))))
    | (unfold Builtin.Tuple.tupleIsExact
       refine wpAny_bind (wpAny_bind (wpAny_typeOf ht.typeIs (wpAny_pure ?_)))
       have e:(Value.type "tuple"==Value.type "tuple")=true:=beq_self_eq_true _
       rw [e,if_pos rfl]
       first
         | exact wpAny_bind (wpAny_rule (wpAny_pure ⟨_,rfl,wpAny_pure h⟩))
         | exact wpAny_bind (wpAny_rule (wpAny_bind (wpAny_pure (wpAny_pure ⟨_,rfl,wpAny_pure h⟩))))
         | exact wpAny_bind (wpAny_rule (wpAny_bind (wpAny_bind (wpAny_pure (wpAny_pure ⟨_,rfl,wpAny_pure h⟩))))))
end
section
variable {X:Cx}
def aE0q (K:PySem.W.Frag):V->Option Int->Option Int->Hp->VK->Prop:=λ x lo hi H Q=>∃ a xs,x=.ref a/\SqT K H a xs ∧
  ((HT.sIx xs.length 0 lo=0/\HT.sIx xs.length xs.length hi=xs.length)->Q (.ref a) H)/\(¬ (HT.sIx xs.length 0 lo=0/\HT.sIx xs.length xs.length hi=xs.length)->∀ p,H p=none->Q (.ref p) (upd H p (.tup (mZq xs lo hi))))
theorem vCq:SlR X (aE0q X.K):=by
  intro pins s σ H x v vl vu lo hi sl Q I rx hs pl pu h
  obtain ⟨a,xs,rfl,hx,q1,q2⟩:=h
  by_cases hw:HT.sIx xs.length 0 lo=0/\HT.sIx xs.length xs.length hi=xs.length
  . cases rx
    obtain ⟨its,r,ht,hz⟩:=I.tuple hx
    have hlen:its.toArray.size=xs.length:=by rw [List.size_toArray];exact r.length.symm
    refine ⟨"tuple", _,PyProof.Rows.slot_tuple_getitem.lookup,ht.typeIs,?_⟩
    exact dOq ht hs pl pu (by rw [hlen];exact hw) ⟨.ref a,H,I,rfl,q1 hw⟩
  . exact wVq pins s σ H _ v vl vu lo hi sl Q I rx hs pl pu ⟨a,xs,rfl,hx,hw,q2 hw⟩
def aH9q (K:PySem.W.Frag):R2:=λ x y H Q=>∃ a b xs ys,x=.ref a/\y=.ref b/\SqT K H a xs/\SqT K H b ys/\xs.length+ys.length<=sizeLine ∧
  (xs=[]->Q (.ref b) H)/\(xs≠[]->ys=[]->Q (.ref a) H)/\(xs≠[]->ys≠[]->∀ p,H p=none->Q (.ref p) (upd H p (.tup (xs++ys))))
theorem op_catW:OpR X (binaryOp .Add) (aH9q X.K):=by
  intro pins s σ H x y v u Q I rx ry h
  obtain ⟨a,b,xs,ys,rfl,rfl,ha,hb,hz,q0,q1,q2⟩:=h
  by_cases hx:xs=[]
  . cases rx;cases ry
    obtain ⟨its,r,ht,_⟩:=I.tuple ha
    obtain ⟨its2,r2,ht2,_⟩:=I.tuple hb
    subst hx
    cases r
    obtain ⟨⟨cls,dd,data,sl⟩,ho,hc,n,hd⟩:=id ht
    obtain ⟨⟨cls2,dd2,data2,sl2⟩,ho2,hc2,n2,hd2⟩:=id ht2
    simp only at hc hd hc2 hd2
    subst hc hd hc2 hd2
    refine concat_meets ⟨_,ho,rfl⟩ ⟨_,ho2,rfl⟩ noFill_tuple_add seq_tuple_add PySem.F.slot_tuple_add PySem.F.entry_tuple_add (PySem.F.args_tuple_add_2 _ _) (tuple_addW0 a b _ its2.toArray n n2 dd dd2 sl sl2 (by simp)) ⟨ho,ho2,?_⟩
    exact ⟨.ref b,H,I,rfl,q0 rfl⟩
  . exact uNq pins s σ H _ _ v u Q I rx ry ⟨a,b,xs,ys,rfl,rfl,ha,hb,hx,hz,q1 hx,q2 hx⟩
structure KTab (K:PySem.W.Frag) (w:World) (ad:Addr) (tab:Str->Option V):Prop where
  ex:∃ (es:Array DictEntry) (n:Nat),K.lookup ad=some ⟨.type "dict", none,.dict es n,#[]⟩/\PySem.W.KeysLit w.params es.toList/\∀ x,RelO (tab x) (findBy Value.isStrOf es x)
  low:(ad==sysModules)=false
end
section
variable {X:Cx}
def aG8q (K:PySem.W.Frag):V->Option Int->Option Int->Hp->VK->Prop:=λ x lo hi H Q=>∃ a xs,x=.ref a/\SqT K H a xs/\∀ t H2,Same H H2->SqT K H2 t (mZq xs lo hi)->Q (.ref t) H2
theorem rQq {xs:List V} {lo hi:Option Int} (h:HT.sIx xs.length 0 lo=0/\HT.sIx xs.length xs.length hi=xs.length):mZq xs lo hi=xs:=by
  unfold mZq
  rw [h.1,h.2,List.drop_zero,Nat.sub_zero,List.take_length]
theorem sl_tupU:SlR X (aG8q X.K):=by
  intro pins s σ H x v vl vu lo hi sl Q I rx hs pl pu h
  obtain ⟨a,xs,rfl,hx,q⟩:=h
  refine vCq pins s σ H _ v vl vu lo hi sl Q I rx hs pl pu ⟨a,xs,rfl,hx,λ w=>q a H (Same.refl _) (by rw [rQq w];exact hx),λ _ p hp=>q p _ (λ b u e=>by rw [b0q (b1q e hp)];exact e) (SqT.of bHq)⟩
end
structure JE (X:Cx) (e:Expr) (t:TE):Prop where
  run:PE X e t
structure JT (X:Cx) (e:Expr) (t:TT):Prop where
  run:PT X e t
structure JW (X:Cx) (e:Expr) (t:TT):Prop where
  run:PW X e t
structure JA (X:Cx) (es:List Expr) (t:TA):Prop where
  run:PA X es t
structure JS (X:Cx) (st:Stmt) (t:TS):Prop where
  run:PS X st t
structure JB (X:Cx) (st:List Stmt) (t:TS):Prop where
  run:PSs X st t
structure JG (X:Cx) (e:Expr) (t:TG):Prop where
  run:PG X e t
structure JGs (X:Cx) (es:List Expr) (t:TGs):Prop where
  run:PGs X es t
structure JI (X:Cx) (tg iter:Expr) (wi:TI):Prop where
  run:PI X tg iter wi
structure JO (X:Cx) (e:Option Expr) (t:TO):Prop where
  run:PO X e t
structure JOp (X:Cx) (f:Value->Value->Sem Value) (r:R2):Prop where
  run:OpR X f r
structure JUn (X:Cx) (f:Value->Sem Value) (r:V->Hp->VK->Prop):Prop where
  run:UnR X f r
structure JCall (X:Cx) (f:Value) (r:List V->Hp->VK->Prop):Prop where
  run:CallR X f r
structure JIx (X:Cx) (r:R2):Prop where
  run:IxR X r
structure JSl (X:Cx) (r:V->Option Int->Option Int->Hp->VK->Prop):Prop where
  run:SlR X r
structure JMt (X:Cx) (id:String) (r:V->List V->Hp->VK->Prop):Prop where
  run:MtR X id r
structure JIp (X:Cx) (op:Operator) (t:TIp):Prop where
  run:PIp X op t
structure JSet (X:Cx) (t:TSet):Prop where
  run:PSet X t
section
variable {X:Cx} {a b c e o i:Expr} {es:List Expr} {ta tb te to ti:TE} {t tr:TA} {pos p apos cpos:Pos}
theorem aA4q {n:Int} {j}:JE X (.Constant (.int n) j pos) (tC (.int n)):=⟨yDq⟩
theorem aJ1q {n:Bool} {j}:JE X (.Constant (.bool n) j pos) (tC (.bl n)):=⟨aI7q⟩
theorem ySq {x:Str} {j}:JE X (.Constant (.str x) j pos) (tC (.str x)):=⟨zJq⟩
theorem jv (k:Nat) {x:Str} (hN:X.N[k]?=some x:=by rfl) (hv:Vis X.env.scope x:=by first | exact Or.inl rfl | exact Or.inr (Or.inl rfl) | exact Or.inr (Or.inr rfl)) (hd:(x==("__debug__" : Str))=false:=by decide)
    (hcd:(x==("__classdict__" : Str))=false:=by decide):JE X (.Name x pos) (tVar k):=⟨sVq hN hv hd hcd⟩
theorem v2q {x:Str} {v:V} {u:Value} (hg:Gl X x) (hm:X.mg x=none) (hv:bootBuiltins x=some u) (r:RelV v u) (hn:x≠"__name__":=by decide) (hd:(x==("__debug__" : Str))=false:=by decide):JE X (.Name x pos) (tC v):=⟨tRq hg hm hv r hn hd⟩
theorem uBq {x:Str} {v:V} {u:Value} (hg:Gl X x) (hm:X.mg x=some u) (r:RelV v u) (hd:(x==("__debug__" : Str))=false:=by decide):JE X (.Name x pos) (tC v):=⟨kZq hg hm r hd⟩
theorem wKq:JA X [] tNil:=⟨y7q⟩
theorem tDq (ha:JE X e te) (hr:JA X es t) (hs:bAq e=true:=by rfl):JA X (e::es) (xKq te t):=⟨vLq ha.run hr.run (aLq hs)⟩
theorem aA2q {x1} (h:JA X es t):JE X (.Tuple es x1 pos) (tTup t):=⟨x6q h.run⟩
theorem sYq (h:JA X es t):JE X (.List es pos) (tLst t):=⟨xYq h.run⟩
theorem aF2q {op:Operator} {r:R2} (ho:JOp X (binaryOp op) r) (ha:JE X a ta) (hb:JE X b tb):JE X (.BinOp a op b pos) (tOp r ta tb):=⟨aJ2q ho.run ha.run hb.run⟩
theorem aG7q {op:UnaryOp} {r:V->Hp->VK->Prop} (ho:JUn X (unaryOp op) r) (ha:JE X a ta):JE X (.UnaryOp op a pos) (tUn r ta):=⟨aI8q ho.run ha.run⟩
theorem zNq (ha:JE X a ta):JE X (.UnaryOp .Not a pos) (x1q ta):=⟨z2q ha.run⟩
theorem vGq {op:CmpOp} {r:R2} (ho:JOp X (compareOp op) r) (ha:JE X a ta) (hb:JE X b tb) (hm:behindInMarks op b=false):JE X (.Compare a [op] [b] pos) (tOp r ta tb):=⟨vEq ho.run ha.run hb.run hm⟩
theorem zTq {op} (h:JE X a ta):JE X (.BoolOp op [a] pos) ta:=⟨zGq h.run⟩
theorem yNq {rest:List Expr} (ha:JE X a ta) (hb:JE X (.BoolOp .And (b::rest) pos) tb):JE X (.BoolOp .And (a::b::rest) pos) (wHq ta tb):=⟨xZq ha.run hb.run⟩
theorem aM5q {rest:List Expr} (ha:JE X a ta) (hb:JE X (.BoolOp .Or (b::rest) pos) tb):JE X (.BoolOp .Or (a::b::rest) pos) (tOrV ta tb):=⟨aH2q ha.run hb.run⟩
theorem rGq {tc:TT} (hc:JT X c tc) (ha:JE X a ta) (hb:JE X b tb):JE X (.IfExp c a b pos) (tIf tc ta tb):=⟨rVq hc.run ha.run hb.run⟩
theorem t9q:JO X none oCq:=⟨t8q⟩
theorem uLq (h:JE X e te):JO X (some e) (xCq te):=⟨tQq h.run⟩
theorem qFq {r:V->Option Int->Option Int->Hp->VK->Prop} {lo hi:Option Expr} {tl th:TO} {p2:Pos} (hr:JSl X r) (he:JE X e te) (hl:JO X lo tl) (hu:JO X hi th):JE X (.Subscript e (.Slice lo hi none p2) pos) (tSl r te tl th):=⟨r6q hr.run he.run hl.run hu.run⟩
theorem xNq {r:R2} (hr:JIx X r) (ha:JE X a ta) (hb:JE X b tb) (hs:i7q b):JE X (.Subscript a b pos) (tOp r ta tb):=⟨aD7q hr.run ha.run hb.run hs⟩
theorem cEq {es:List Expr} {env:Env} (h:es.all bAq=true):(backTo pos (starEach es env)).any (·.1)=false:=by
  induction es with
  | nil=>rfl
  | cons x r ih=>
    rw [List.all_cons,Bool.and_eq_true] at h
    rw [aLq h.1]
    exact ih h.2
theorem aL3q {k j:Nat} {x:Str} {ps:List Str} {sp:Sp} (G:Got X.prog X.w X.K X.mg X.base k x ps sp) (hr:Room j X.A) (hk:k<=j) (hg:Gl X x) (ha:JA X (e::es) t) (hdb:(x==("__debug__" : Str))=false:=by decide)
    (hs:(e::es).all bAq=true:=by rfl):JE X (.Call (.Name x p) (e::es) [] pos) (rBq sp [] E0 t):=by
  have h:=hs
  rw [List.all_cons,Bool.and_eq_true] at h
  exact ⟨aG1q G hr hk hg ha.run hdb (aLq h.1) (cEq h.2)⟩
theorem rDq {x:Str} {id:String} {r:List V->Hp->VK->Prop} (hc:JCall X (.builtin id) r) (hg:Gl X x) (hm:X.mg x=none) (hv:bootBuiltins x=some (.builtin id)) (ha:JA X (e::es) t) (hn:x≠"__name__":=by decide) (hdb:(x==("__debug__" : Str))=false:=by decide)
    (hs:(e::es).all bAq=true:=by rfl):JE X (.Call (.Name x p) (e::es) [] pos) (tCB r t):=by
  have h:=hs
  rw [List.all_cons,Bool.and_eq_true] at h
  exact ⟨rKq hc.run hg hm hv ha.run hn hdb (aLq h.1) (cEq h.2)⟩
theorem o6q {x:Str} {T:String} {r:List V->Hp->VK->Prop} (hc:JCall X (.type T) r) (hg:Gl X x) (hm:X.mg x=none) (hv:bootBuiltins x=some (.type T)) (ha:JA X (e::es) t) (hn:x≠"__name__":=by decide) (hdb:(x==("__debug__" : Str))=false:=by decide)
    (hs:(e::es).all bAq=true:=by rfl):JE X (.Call (.Name x p) (e::es) [] pos) (tCB r t):=by
  have h:=hs
  rw [List.all_cons,Bool.and_eq_true] at h
  exact ⟨o2q hc.run hg hm hv ha.run hn hdb (aLq h.1) (cEq h.2)⟩
theorem aM7q {name:Str} {T id:String} {r:V->List V->Hp->VK->Prop} (pa:PlainAttrs T) (slot:Slot T name id) (hty:typeOf (.builtin id)=pure (.type "method_descriptor")) (hm:JMt X id r) (ho:JE X o to) (ha:JA X [e] t)
    (hbase:attributeBase o name X.env (eval o X.env)=eval o X.env:=by rfl) (hline:(apos.endLine==cpos.line)=true:=by rfl) (hs:bAq e=true:=by rfl):JE X (.Call (.Attribute o name apos) [e] [] cpos) (tBM X.K T r to t):=
  ⟨aL9q pa slot hty hm.run ho.run ha.run hbase (by rw [aLq hs];rfl) hline (aLq hs) rfl⟩
theorem xGq {name:Str} {T id:String} {r:V->List V->Hp->VK->Prop} (pa:PlainAttrs T) (slot:Slot T name id) (hty:typeOf (.builtin id)=pure (.type "method_descriptor")) (hm:JMt X id r) (ho:JE X o to)
    (hbase:attributeBase o name X.env (eval o X.env)=eval o X.env:=by rfl) (hline:(apos.endLine==cpos.line)=true:=by rfl):JE X (.Call (.Attribute o name apos) [] [] cpos) (tBM0 X.K T r to):=⟨yEq pa slot hty hm.run ho.run hbase hline⟩
theorem vQq {op:CmpOp} {r:R2} (ho:JOp X (compareOp op) r) (ha:JE X a ta) (hb:JE X b tb) (hm:behindInMarks op b=false):JT X (.Compare a [op] [b] pos) (vUq (tOp r ta tb)):=⟨v3q ho.run ha.run hb.run hm⟩
theorem x5q {tc:TT} (ha:JT X a tc):JT X (.UnaryOp .Not a pos) (tNot tc):=⟨z0q ha.run⟩
theorem rLq (ha:JE X a ta) (he:∀ whole,isTrue a X.env whole=(do let v ← whole;standAt a.pos;holding [v] (truthy v))):JT X a (λ σ H Q=>ta σ H λ x H'=>∃ k,TruV X.K x H' k/\Q k H'):=⟨r3q ha.run he⟩
theorem tZq {tA:TT} (ha:JT X a tA):JW X (.BoolOp .And [a] pos) tA:=⟨tKq ha.run⟩
theorem aA9q {tA:TT} (ha:JT X a tA):JW X (.BoolOp .Or [a] pos) tA:=⟨aB6q ha.run⟩
theorem aB7q {tA tB':TT} {rest:List Expr} (ha:JT X a tA) (hb:JW X (.BoolOp .And (b::rest) pos) tB'):JW X (.BoolOp .And (a::b::rest) pos) (tAnd tA tB'):=⟨zUq ha.run hb.run⟩
theorem aJ5q {tA tB':TT} {rest:List Expr} (ha:JT X a tA) (hb:JW X (.BoolOp .Or (b::rest) pos) tB'):JW X (.BoolOp .Or (a::b::rest) pos) (tOr tA tB'):=⟨aH0q ha.run hb.run⟩
theorem JW.pt {tA:TT} (h:JW X e tA):JT X e tA:=⟨PW.pt h.run⟩
theorem uCq {k:Nat} {x:Str} (hN:X.N.Nodup) (hi:X.N[k]?=some x) (hx:Loc X.env.scope x) (hf:X.fn x=true\/X.env.scope.names.lookup x=some .local:=by first | exact .inl rfl | exact .inr rfl | assumption):JG X (.Name x pos) (mVq k):=⟨vWq hN hi hx hf⟩
theorem uGq:JGs X [] gNil:=⟨vBq⟩
theorem rOq {tg:TG} {u:TGs} (h1:JG X e tg) (h2:JGs X es u) (hs:(assignEach (e::es) X.env).map (·.2)=assign e X.env::(assignEach es X.env).map (·.2):=by rfl):JGs X (e::es) (aA1q tg u):=⟨rNq h1.run h2.run hs⟩
theorem yAq {k n:Nat} {tg:TGs} (hc:X.calm=true) (h:JGs X es tg) (hn:(assignEach es X.env).length=n:=by rfl) (hst:(assignEach es X.env).findIdx? (·.1)=none:=by rfl):JG X (.Tuple es k pos) (gTup X.K n tg):=⟨z5q hc h.run hn hst⟩
theorem xVq {tset:TSet} (ho:JE X o to) (hi:JE X i ti) (hs:JSet X tset) (ha:∀ v,assign (.Subscript o i pos) X.env v=(do
      let ov ← holding [v] (eval o X.env)
      let iv ← holding [v,ov] (eval i X.env)
      standAt pos
      holding [v,ov,iv] (setItem ov iv v)
      release [v,ov,iv] []):=by intro _;rfl):JG X (.Subscript o i pos) (gSub to ti tset):=⟨z7q ho.run hi.run hs.run ha⟩
theorem nJq {tg:Expr} (hg:Gl X "range") (hm:X.mg "range" = none) (ha:JA X [a] t) (hs:bAq a=true:=by rfl):JI X tg (.Call (.Name "range" p) [a] [] pos) (aB5q t):=⟨p5q hg hm ha.run (aLq hs)⟩
theorem wLq:JB X [] yPq:=⟨vZq⟩
theorem tEq {st:Stmt} {rest:List Stmt} {ts us:TS} (h1:JS X st ts) (h2:JB X rest us):JB X (st::rest) (tSeq ts us):=⟨r9q h1.run h2.run⟩
theorem wUq {st:Stmt} {ts:TS} (h1:JS X st ts):JB X [st] ts:=⟨tYq h1.run⟩
theorem u3q (he:JE X e te) (hs:swapsWith e none pos.line X.env=pure false:=by rfl):JS X (.Expr e pos) (wNq te):=⟨tWq he.run hs⟩
theorem x9q (he:JE X e te):JS X (.Return (some e) pos) (tRet te):=⟨y9q he.run⟩
theorem aH1q {ss us:List Stmt} {tc:TT} {ts tu:TS} (hc:JT X c tc) (ha:JB X ss ts) (hb:JB X us tu):JS X (.If c ss us pos) (tIfS tc ts tu):=⟨aL5q hc.run ha.run hb.run⟩
theorem aA8q {k:Nat} {x:Str} {pos':Pos} (hN:X.N.Nodup) (hi:X.N[k]?=some x) (hx:Loc X.env.scope x) (he:JE X e te) (hs:swapsWith e (some (.Name x pos')) pos.line X.env=pure false:=by rfl) (hf:X.fn x=true\/X.env.scope.names.lookup x=some .local:=by first | exact .inl rfl | exact .inr rfl | assumption) :
    JS X (.Assign [.Name x pos'] e pos) (w9q te (mVq k)):=⟨y0q hN hi hx he.run hs hf⟩
theorem yLq {tg:Expr} {g:TG} (he:JE X e te) (hg:JG X tg g) (hs:swapsWithSole [tg] e pos.line X.env=pure false:=by rfl) (hw:swappedStores [tg] e X.env=pure none:=by rfl) (h1:(assignEach [tg] X.env).map (·.2)=[assign tg X.env]:=by rfl):JS X (.Assign [tg] e pos) (w9q te g):=⟨aC4q he.run hg.run hs hw h1⟩
theorem y8q {k:Nat} {x:Str} {op:Operator} {tip:TIp} {pos':Pos} (hN:X.N.Nodup) (hi:X.N[k]?=some x) (hx:Loc X.env.scope x) (he:JE X e te) (ho:JIp X op tip) (hf:X.fn x=true\/X.env.scope.names.lookup x=some .local:=by first | exact .inl rfl | exact .inr rfl | assumption) :
    JS X (.AugAssign (.Name x pos') op e pos) (tAug k te tip):=⟨yKq hN hi hx he.run ho.run hf⟩
theorem r5q {body:List Stmt} {tc:TT} {tb':TS} (hp:PassesOwn (model X.prog X.w) X.A X.env X.xe) (hc:JT X c tc) (hb:JB X body tb'):JS X (.While c body [] pos) (sMq tc tb'):=⟨qYq hp hc.run hb.run⟩
theorem xQq {tg iter:Expr} {body:List Stmt} {wi:TI} {g:TG} {tb':TS} (hp:PassesOwn (model X.prog X.w) X.A X.env X.xe) (hc:X.calm=true) (hi:JI X tg iter wi) (hg:JG X tg g) (hb:JB X body tb') (hs:∀ x,foldedSetIterable iter X.env x=pure x:=by intro _;rfl) :
    JS X (.For tg iter body [] pos) (tFor wi g tb'):=⟨aA6q hp hc hi.run hg.run hb.run hs⟩
theorem vVq {scope:Scope} {N':List Str} {nt:Nat} {cap:List Nat} {elt iter tg:Expr} {wi:TI} {g:TG} (hc:X.calm=true) (ok:CompOk X scope N' nt cap) (hi:JI X tg iter wi) (hg:∀ C ex s H,JG (b6q X scope N' C ex s H) tg g) (he:∀ C ex s H,JE (b6q X scope N' C ex s H) elt te)
    (hs:∀ x,foldedSetIterable iter X.env x=pure x:=by intro _;rfl):JE X (.ListComp elt [⟨tg,iter,[],0⟩] scope pos) (pDq wi g te nt cap):=⟨vRq hc ok hi.run (λ C ex s H=>(hg C ex s H).run) (λ C ex s H=>(he C ex s H).run) hs⟩
end
theorem Fun.okJ {P:Program} {w:World} {K:PySem.W.Frag} {mg:Str->Option Value} {base:Heap} {x qual:Str} {st:Stmt} {f:Addr} {fd:FuncData} {N ps:List Str} {k:Nat} {sp:Sp} (F:Fun K x qual st f fd) (S:FnScope N ps (aDq st)) (len:∀ vs H Q E,sp vs H Q E->vs.length=ps.length)
    (hbody:∀ (cdv:Value) (A:Around) (outer:List Env) (s:Shared) (H:Hp) (vs:List V) (Q:VK) (E:XK),Room k (A.deeper (envOfC qual (aDq st) s.heap.objs.size f cdv))->sp vs H Q E →
      ∃ t,JB (sGq CX0 P w K mg base N qual (aDq st) f cdv A outer s H E).nox (bTq st) t/\t { nx:=λ _ H'=>Q .non H',rt:=Q } (eMq N vs) H):FnOk P w K mg base CX0 (k+1) f fd ps sp:=
  F.ok S len λ cdv A outer s H vs Q E hr h=>let ⟨t,j,q⟩:=hbody cdv A outer s H vs Q E hr h;⟨t,j.run,q⟩
section
variable {X:Cx} {scope:Scope} {N':List Str} {nt:Nat} {cap:List Nat} {elt iter tg:Expr} {pos:Pos} {wi:TI} {g:TG} {te:TE}
theorem mMq {y:Str} {py spos:Pos} {k:Nat} (hc:X.calm=true) (hN:X.N.Nodup) (hk:X.N[k]?=some y) (hy:Loc X.env.scope y) (c:CompOk X scope N' nt cap) (hi:PI X tg iter wi) (hg:∀ C ex s H,PG (b6q X scope N' C ex s H) tg g) (he:∀ C ex s H,PE (b6q X scope N' C ex s H) elt te)
    (hs:∀ x,foldedSetIterable iter X.env x=pure x:=by intro _;rfl) (hsw:swapsWith (.ListComp elt [⟨tg,iter,[],0⟩] scope pos) (some (.Name y py)) spos.line X.env=pure true:=by rfl) (hf:X.fn y=true\/X.env.scope.names.lookup y=some .local:=by first | exact .inl rfl | exact .inr rfl | assumption) :
    PS X (.Assign [.Name y py] (.ListComp elt [⟨tg,iter,[],0⟩] scope pos) spos) (w9q (pDq wi g te nt cap) (mVq k)):=by
  intro pins s σ H D0 I h
  rw [exec_Assign_Name_used _ _ _ _ hsw]
  refine wpAny_bind (wpAny_standAt (wpAny_bind ?_))
  show wpAny _ X.A (do let _ ← comprehension (.ListComp elt [⟨tg,iter,[],0⟩] scope pos) scope X.env _ (newList []) false (eval iter X.env) (some (assign (.Name y py) X.env))) _ _ s
  refine wpAny_bind (wpAny_mono (wpAny_comprehension_free (use:=some (assign (.Name y py) X.env)) (Q:=λ _ s'=>SP X pins D0 .next s') rfl hs (oTq (c.has I.ok)) c.kind c.locs (thn (hi pins s σ H _ I h) λ v s1 h1=>thn h1 λ itv s2 h2=>?_)) (λ _ s' hq=>wpAny_pure (wpAny_pure hq)) λ _ _ e=>e)
  obtain ⟨it,fp,tn,J,H2,rfl,I2,T,st2,f2,R⟩:=h2
  have hD:H2 s2.heap.objs.size=none:=I2.hok.fresh (Nat.le_refl _)
  obtain ⟨W,⟨m0,w0⟩,turn⟩:=R _ hD
  have I3:Inv X pins σ (upd H2 s2.heap.objs.size (.lst [])) { s2 with heap:=s2.heap.push { cls:=.type "list", dict:=none,data:=.seq ([]:List Value).toArray } }:=
    I2.laid (t':=s2.toks) (λ b u e=>Heap.get?_push_of_some _ e) (Nat.le_refl _) ⟨Nat.zero_le _,[],0,.nil,Heap.get?_push_size _ rfl⟩
  have fpLt:∀ b∈fp,b < s2.heap.objs.size:=λ b hb=>by
    obtain ⟨o,e,_⟩:=T.obj _ _ st2 b hb
    exact Heap.lt_size e
  have f3:∀ b∈fp,jRq X pins (upd H2 s2.heap.objs.size (.lst [])) b:=λ b hb=>⟨by rw [b0q (Nat.ne_of_lt (fpLt b hb))];exact (f2 b hb).1,(f2 b hb).2⟩
  have st3:tn 0 (s2.heap.push { cls:=.type "list", dict:=none,data:=.seq ([]:List Value).toArray }):=T.keep _ _ _ st2 λ b _ o e=>Heap.get?_push_of_some _ e
  generalize hh3:s2.heap.push { cls:=.type "list", dict:=none,data:=.seq ([]:List Value).toArray }=h3 at I3 st3
  have sz3:s2.heap.objs.size < h3.objs.size:=by rw [<- hh3,Heap.size_push];exact Nat.lt_succ_self _
  generalize hDD:s2.heap.objs.size=D at I3 f3 hD w0 turn sz3 fpLt
  refine wpAny_newObj_type ?_
  rw [hDD,hh3]
  refine wpAny_newFunctionEnv c.nocell (by intro y hy;simp at hy) (λ h4 hns4 hsb4=>?_) c.kind
  dsimp only at hns4 hsb4 ⊢
  have keep4:∀ b o,h3.get? b=some o->h4.get? b=some o:=λ b o e=>(hsb4.2 b (Nat.ne_of_lt (Heap.lt_size e))).trans (Heap.get?_push_of_some _ e)
  have I4:=I3.comp (t':=s2.toks+([]:List (Str × Value)).length) c f3 (λ b hb=>Nat.lt_trans (fpLt b hb) sz3) keep4 hns4
  have st4:tn 0 h4:=T.keep _ _ _ st3 λ b _ o e=>keep4 b o e
  dsimp only at I4
  have fin:∀ {σ':St} {H':Hp} {s':Shared},Inv (b6q X scope N' h3.objs.size fp { s2 with heap:=h3 } (upd H2 D (.lst []))) [] σ' H' s'->D0.nx (σ.set k (some (.ref D))) H' →
      compPost (model X.prog X.w) X.A X.xe (some (assign (.Name y py) X.env)) (λ _ s'=>SP X pins D0 .next s') (.ref D) h3.objs.size (.ok .next) s':=λ{σ' H' s'} J' q=>by
    obtain ⟨m,hn,hh⟩:=I3.uncomp rfl f3 J'
    have IX:Inv X pins σ H' s':=hh s'.heap (Heap.SameBut.refl ..)
    have hCL:h3.objs.size≠X.env.locals:=Nat.ne_of_gt I3.lt
    have hCc:∀ x a,X.env.cells.lookup x=some a->a≠h3.objs.size:=λ x a e=>by
      obtain ⟨v,z⟩:=I3.cell x a e
      exact Nat.ne_of_lt z.lt
    show wpAny _ X.A (assign (.Name y py) X.env (.ref D)) _ _ s'
    refine wpAny_assign_Name (jBq IX hN hk hy (v:=.ref D) rfl (λ s'' I'' hch=>?_) hf)
    obtain ⟨a,sb,ha⟩:=hch
    have hCa:h3.objs.size≠a:=by
      rcases ha with z | z
      . rw [z];exact hCL
      . exact (hCc _ _ z).symm
    refine ⟨m,hn.sameBut sb hCa,λ h' hs'=>⟨_,H',?_,q⟩⟩
    exact I''.turned (t':=s''.toks) (λ b o hb e=>(hs'.2 b hb).trans e) J'.free hCL (.inr I3.sz) hCc λ p hp z=>by
      have e:=(I3.pin p hp).1
      rw [z] at e
      exact absurd (Heap.lt_size e) (Nat.lt_irrefl _)
  have stat:∀ {H':Hp},(∀ b∈fp,H' b=none)->∀ b∈fp,jRq (b6q X scope N' h3.objs.size fp { s2 with heap:=h3 } (upd H2 D (.lst []))) [] H' b:=λ{H'} hn b hb=>by
    refine ⟨hn b hb,Nat.ne_of_lt (Nat.lt_trans (fpLt b hb) sz3),λ z=>?_,.inl hb,λ x a e=>(f3 b hb).2.2.2.2.1 x a (c.cells I.ok e),λ p hp=>absurd (show p∈([]:List (Addr × Obj)) from hp) (by simp)⟩
    rcases List.mem_cons.mp (I.stkSub b z) with y | y
    . exact (f3 b hb).2.1 y
    . exact (f3 b hb).2.2.1 y
  have loop:codeAny (model X.prog X.w) X.A (.compLoop (.ListComp elt [⟨tg,iter,[],0⟩] scope pos) 0 (.ref it) (.ref D) (compEnvC scope (cUq X.env.cells scope.names []) h3.objs.size X.env))
      (compPost (model X.prog X.w) X.A X.xe (some (assign (.Name y py) X.env)) (λ _ s'=>SP X pins D0 .next s') (.ref D) h3.objs.size) { s2 with heap:=h4,toks:=s2.toks+([]:List (Str × Value)).length }:=by
    refine codeAny_loop rfl (λ n s'=>∃ i ys σ' H',Inv (b6q X scope N' h3.objs.size fp { s2 with heap:=h3 } (upd H2 D (.lst []))) [] σ' H' s'/\tn i s'.heap/\(∀ b∈fp,H' b=none)/\W i n ys σ' H') (λ n s5 hI=>?_) m0 ⟨0,[],_,_,I4,st4,λ b hb=>(f3 b hb).1,w0⟩
    obtain ⟨i,ys,σ5,H5,I5,st5,fr5,w5⟩:=hI
    show wpAny _ X.A ((compTurn (.ListComp elt [⟨tg,iter,[],0⟩] scope pos) 0 (.ref it) (.ref D) (compEnvC scope (cUq X.env.cells scope.names []) h3.objs.size X.env)).onRaise (λ x=>do noteFrame x (compEnvC scope (cUq X.env.cells scope.names []) h3.objs.size X.env);theTreesLotGoes x)) _ _ s5
    refine wpAny_noted ?_
    rw [compTurn_list1]
    rcases turn i n ys σ5 H5 w5 with ⟨stop,qn⟩ | ⟨go,step⟩
    . refine wpAny_bind (wpAny_standAt (wpAny_bind (wpAny_mono (T.done (b6q X scope N' h3.objs.size fp { s2 with heap:=h3 } (upd H2 D (.lst []))) rfl rfl rfl hc i [] s5 σ5 H5 (λ _ _=>False) I5 (stat fr5) st5 stop) (λ r s6 ⟨hr,I6⟩=>?_) λ _ _ z=>z.elim)))
      subst hr
      exact wpAny_pure (fin I6 qn)
    . refine wpAny_bind (wpAny_standAt (wpAny_bind (wpAny_mono (T.item (b6q X scope N' h3.objs.size fp { s2 with heap:=h3 } (upd H2 D (.lst []))) rfl rfl rfl hc i [] s5 σ5 H5 (λ _ _=>False) I5 (stat fr5) st5 go) (λ r s6 ⟨u,hr,h6⟩=>?_) λ _ _ z=>z.elim)))
      subst hr
      refine wpAny_bind (wpAny_mono h6 (λ _ s7 ⟨x,H7,I7,r7,y7,st7,fr7⟩=>?_) λ _ _ z=>z.elim)
      have I7':=I7.pinned (stat fr7) (T.obj _ _ st7)
      refine wpAny_bind (wpAny_mono (hg _ _ _ _ _ s7 σ5 H7 x u _ I7' r7 (step x H7 y7)) (λ _ s8 ⟨σ8,H8,I8,q8⟩=>?_) λ _ _ z=>z.elim)
      refine wpAny_bind (wpAny_bind (wpAny_mono (he _ _ _ _ _ s8 σ8 H8 _ I8 q8) (λ yv s9 ⟨y,H9,I9,r9,e9,z9,m',hm',w9⟩=>?_) λ _ _ z=>z.elim))
      refine wpAny_bind (wpAny_mono (fLq (X:=b6q X scope N' h3.objs.size fp { s2 with heap:=h3 } (upd H2 D (.lst []))) _ s9 σ8 H9 (.ref D) [y] (.ref D) [yv] (λ v H10=>v=.non/\H10=upd H9 D (.lst (ys++[y]))) I9 rfl (.cons r9 .nil) ⟨D,ys,y,rfl,rfl,e9,z9,rfl,rfl⟩)
        (λ _ s10 ⟨v10,H10,I10,_,_,e10⟩=>?_) λ _ _ z=>z.elim)
      subst e10
      refine wpAny_pure (wpAny_pure ⟨rfl,m',hm',i+1,ys++[y],σ8,_,I10.unpinned,?_,λ b hb=>?_,w9⟩)
      . exact T.keep _ _ _ st7 λ b hb o e=>(I10.pin (b,o) (List.mem_append_right _ (List.mem_append_right _ (c2q hb e)))).1
      . obtain ⟨o,e,d⟩:=T.obj _ _ st7 b hb
        exact (I10.pin (b,o) (List.mem_append_right _ (List.mem_append_right _ (c2q hb e)))).2.1
  exact codeAny_compStart_list loop (T.self _ 0 _ _ _ st4 loop)
end
section
variable {X:Cx} {tg:Expr}
end
end L2
namespace L2
open PySem PySem.Spec PyProof.Rows Builtin
section
variable {X:Cx}
theorem lFq {us:List Value} {xs:List V} (r:Vals xs us):∀ k:Nat,Vals (List.replicate k xs).flatten (List.replicate k us).flatten
  | 0=>.nil
  | k+1=>by
    rw [List.replicate_succ,List.replicate_succ,List.flatten_cons,List.flatten_cons]
    exact r.append (lFq r k)
end
section
variable {X:Cx} {a b c e:Expr} {t:TA} {te:TE} {pos p:Pos}
variable {scope:Scope} {N':List Str} {nt:Nat} {cap:List Nat} {elt iter tg:Expr} {wi:TI} {g:TG}
theorem mJq {y:Str} {py spos:Pos} {k:Nat} (hc:X.calm=true) (hN:X.N.Nodup) (hk:X.N[k]?=some y) (hy:Loc X.env.scope y) (ok:CompOk X scope N' nt cap) (hi:JI X tg iter wi) (hg:∀ C ex s H,JG (b6q X scope N' C ex s H) tg g) (he:∀ C ex s H,JE (b6q X scope N' C ex s H) elt te)
    (hs:∀ x,foldedSetIterable iter X.env x=pure x:=by intro _;rfl) (hsw:swapsWith (.ListComp elt [⟨tg,iter,[],0⟩] scope pos) (some (.Name y py)) spos.line X.env=pure true:=by rfl) (hf:X.fn y=true\/X.env.scope.names.lookup y=some .local:=by first | exact .inl rfl | exact .inr rfl | assumption) :
    JS X (.Assign [.Name y py] (.ListComp elt [⟨tg,iter,[],0⟩] scope pos) spos) (w9q (pDq wi g te nt cap) (mVq k)):=⟨mMq hc hN hk hy ok hi.run (λ C ex s H=>(hg C ex s H).run) (λ C ex s H=>(he C ex s H).run) hs hsw hf⟩
end
structure FnV (P:Program) (w:World) (K:PySem.W.Frag) (mg:Str->Option Value) (base:Heap) (k:Nat) (f:Addr) (sp:Sp):Prop where
  ex:∃ (fd:FuncData) (ps:List Str),FnOk P w K mg base CX0 k f fd ps sp/\PySem.W.keepIn K (.ref f)=true/\Binds K fd ps []
theorem Got.fnV {P:Program} {w:World} {K:PySem.W.Frag} {mg:Str->Option Value} {base:Heap} {k:Nat} {x:Str} {ps:List Str} {sp:Sp} (G:Got P w K mg base k x ps sp):∃ f,mg x=some (.ref f)/\FnV P w K mg base k f sp:=by
  obtain ⟨f,fd,F,hm,kp,b⟩:=G.ex
  exact ⟨f,hm,fd,ps,F,kp,b⟩
def sBq (i:Nat) (f:Addr) (sp:Sp) (t:TA):TE:=λ σ H Q=>σ[i]?=some (some (.ref f))/\rBq sp [] E0 t σ H Q
section
variable {X:Cx} {k j:Nat} {f:Addr} {x:Str} {sp:Sp} {p pos:Pos} {e:Expr} {es:List Expr} {t:TA}
theorem aG6q {i:Nat} (G:FnV X.prog X.w X.K X.mg X.base k f sp) (hr:Room j X.A) (hk:k<=j) (hN:X.N[i]?=some x) (hv:Vis X.env.scope x) (ha:PA X (e::es) t) (hd:(x==("__debug__" : Str))=false) (hcd:(x==("__classdict__" : Str))=false)
    (he:starEach (e::es) X.env=(false,eval e X.env)::starEach es X.env) (hpl:(backTo pos (starEach es X.env)).any (·.1)=false) :
    PE X (.Call (.Name x p) (e::es) [] pos) (sBq i f sp t):=by
  intro pins s σ H Q I h
  obtain ⟨e1,h⟩:=h
  obtain ⟨fd,ps,F,kp,b⟩:=G.ex
  refine wpAny_Call_Name_kw (thn (sVq (pos:=p) hN hv hd hcd pins s σ H (λ v H1=>v=.ref f/\H1=H) I ⟨_,e1,rfl,rfl⟩) λ u s1 ⟨v,H1,I1,r1,ev,eH⟩=>?_)
  subst ev eH
  obtain rfl:u=Value.ref f:=r1
  refine PySem.W.callWith_K (h₀:=X.base) I.ok.mod.kin kp (thn (ha pos pins s1 σ H1 _ I1 h) λ us s2 ⟨vs,H2,I2,r,q⟩=>⟨I2.kIn,?_⟩) he hpl
  exact sDq F (hr.mono hk) b .nil wXq I2 r q
theorem aG2q (i:Nat) (G:FnV X.prog X.w X.K X.mg X.base k f sp) (hr:Room j X.A) (hk:k<=j) (ha:JA X (e::es) t) (hN:X.N[i]?=some x:=by rfl) (hv:Vis X.env.scope x:=by first | exact Or.inl rfl | exact Or.inr (Or.inl rfl) | exact Or.inr (Or.inr rfl))
    (hd:(x==("__debug__" : Str))=false:=by decide) (hcd:(x==("__classdict__" : Str))=false:=by decide) (hs:(e::es).all bAq=true:=by rfl):JE X (.Call (.Name x p) (e::es) [] pos) (sBq i f sp t):=by
  have h:=hs
  rw [List.all_cons,Bool.and_eq_true] at h
  exact ⟨aG6q G hr hk hN hv ha.run hd hcd (aLq h.1) (cEq h.2)⟩
end
end L2
namespace KRv
open PySem PyProof.Rows
theorem own:Manifest.owners.lookup (String.ofList ['d', 'e', 's', 'r', 'e', 'v', 'e', 'r'].reverse)=some Manifest.sig_reversed:=by kernel_rfl
theorem sNext:Slot "reversed" "__next__" "reversed.__next__":=.of (owner:="reversed") (n:="__next__") (by rw [typeLookup_type,builtinLookup_eq_fast];kernel_rfl) (by decide +kernel) (by decide +kernel) (by decide +kernel) (by first | exact .inl (by decide +kernel) | exact .inr (by decide +kernel)) (by rw [isSubtype_type];kernel_rfl)
theorem wFq:Slot "reversed" "__iter__" "reversed.__iter__":=.of (owner:="reversed") (n:="__iter__") (by rw [typeLookup_type,builtinLookup_eq_fast];kernel_rfl) (by decide +kernel) (by decide +kernel) (by decide +kernel) (by first | exact .inl (by decide +kernel) | exact .inr (by decide +kernel)) (by rw [isSubtype_type];kernel_rfl)
theorem sHint:Slot "reversed" "__length_hint__" "reversed.__length_hint__":=.of (owner:="reversed") (n:="__length_hint__") (by rw [typeLookup_type,builtinLookup_eq_fast];kernel_rfl) (by decide +kernel) (by decide +kernel) (by decide +kernel) (by first | exact .inl (by decide +kernel) | exact .inr (by decide +kernel)) (by rw [isSubtype_type];kernel_rfl)
theorem aL8q:Slot "reversed" "__init__" "object.__init__":=.of (owner:="object") (n:="__init__") (by rw [typeLookup_type,builtinLookup_eq_fast];kernel_rfl) (by decide +kernel) (by decide +kernel) (by decide +kernel) (by first | exact .inl (by decide +kernel) | exact .inr (by decide +kernel)) (by rw [isSubtype_type];kernel_rfl)
theorem xHq:entryFor table "reversed.__next__" = some Builtin.«reversed.__next__»:=entryFor_of_tree (by kernel_rfl)
theorem aE4q:entryFor table "reversed.__length_hint__" = some Builtin.«reversed.__length_hint__»:=entryFor_of_tree (by kernel_rfl)
theorem aI1q:entryFor table "reversed.__iter__" = some Builtin.«dict_keyiterator.__iter__»:=entryFor_alias (id':="dict_keyiterator.__iter__") (by kernel_rfl) (by first | rfl | decide +kernel | (unfold String.splitOn;simp +decide [String.splitOnAux])) (by decide +kernel) (by kernel_rfl)
theorem wPq (a:Value):argsOk "reversed.__next__" ⟨[a],[]⟩:=by unfold argsOk;rw [signature?_of (id:="reversed.__next__") (n:=['_', '_', 't', 'x', 'e', 'n', '_', '_']) (o:=['d', 'e', 's', 'r', 'e', 'v', 'e', 'r']) (by kernel_rfl) own];kernel_rfl
theorem aD8q (a:Value):argsOk "reversed.__iter__" ⟨[a],[]⟩:=by unfold argsOk;rw [signature?_of (id:="reversed.__iter__") (n:=['_', '_', 'r', 'e', 't', 'i', '_', '_']) (o:=['d', 'e', 's', 'r', 'e', 'v', 'e', 'r']) (by kernel_rfl) own];kernel_rfl
theorem aJ0q (a:Value):argsOk "reversed.__length_hint__" ⟨[a],[]⟩:=by unfold argsOk;rw [signature?_of (id:="reversed.__length_hint__") (n:=['_', '_', 't', 'n', 'i', 'h', '_', 'h', 't', 'g', 'n', 'e', 'l', '_', '_']) (o:=['d', 'e', 's', 'r', 'e', 'v', 'e', 'r']) (by kernel_rfl) own];kernel_rfl
theorem yHq:TypeCalled "reversed" "reversed.__new__" "object.__init__":=⟨by decide +kernel,by decide +kernel,⟨_,_,F.mro_reversed⟩,F.made_reversed,by decide +kernel,by rw [isSubtype_type];kernel_rfl,aL8q⟩
theorem aL7q:typeLookup (.type "reversed") "__len__" = pure none:=by rw [typeLookup_type,builtinLookup_eq_fast];kernel_rfl
theorem yCq:typeLookup (.type "list_reverseiterator") "__len__" = pure none:=by rw [typeLookup_type,builtinLookup_eq_fast];kernel_rfl
theorem aM8q:typeLookup (.type "list_reverseiterator") "__length_hint__" = pure (some (.builtin "list_reverseiterator.__length_hint__")):=by rw [typeLookup_type,builtinLookup_eq_fast];kernel_rfl
theorem aH6q:typeLookup (.type "tuple") "__reversed__" = pure none:=by rw [typeLookup_type,builtinLookup_eq_fast];kernel_rfl
theorem xTq:isSubtype (.type "tuple") (.type "dict")=pure false:=by rw [isSubtype_type];kernel_rfl
abbrev IsRev (h:Heap) (it t:Addr) (k:Int):Prop:=h.get? it=some { cls:=.type "reversed", dict:=none,data:=.fields #[.ref t,rawInt k],slots:=#[] }
section
variable {prog:Program} {w:World} {A:Around} {E:Value->Shared->Prop} {s:Shared} {it t:Addr}
theorem aF9q {α:Type} {Q:α->Shared->Prop} (hh:A.handled=none) (h:∀ h' e,(∀ b o,s.heap.get? b=some o->h'.get? b=some o)->Shared.TypeIs { s with heap:=h' } (.ref e) "StopIteration"->E (.ref e) { s with heap:=h' }):wpAny (model prog w) A (Builtin.SmallTypes.stopIteration:Sem α) Q E s:=by
  unfold Builtin.SmallTypes.stopIteration
  refine wpAny_bind ?_
  unfold newExc newTuple
  refine wpAny_bind (wpAny_newObj_type ?_ (by size_fits))
  rw [show firstArgMember (.type "StopIteration") []=pure Value.none from by unfold firstArgMember;rfl,pure_bind]
  refine wpAny_newObj_type ?_ (by size_fits)
  unfold raiseNew
  refine wpAny_bind (wpAny_handled ?_)
  rw [hh]
  exact wpAny_throw (h _ _ (λ b o e=>Heap.get?_push_of_some _ (Heap.get?_push_of_some _ e)) ⟨_,Heap.get?_push_size _ rfl,rfl⟩)
theorem iterT {k:Int} {Q:Value->Shared->Prop} (hit:IsRev s.heap it t k) (h:Q (.ref it) s):wpAny (model prog w) A (pyIter (.ref it)) Q E s:=
  have hT:s.TypeIs (.ref it) "reversed":=⟨_,hit,rfl⟩
  wpAny_pyIter_slot hT wFq (wpAny_call_entry wFq hT aI1q (wpAny_pure ⟨_,rfl,"reversed", _,hT,sNext.lookup,h⟩) (aD8q _))
theorem nextT {k:Nat} {items:Array Value} {x:Value} {Q:Option Value->Shared->Prop} (hit:IsRev s.heap it t k) (ht:IsTup s.heap t items) (hx:items[k]?=some x) (hk:(k:Int) < 2 ^ 63)
    (hQ:∀ h' tk,IsRev h' it t ((k:Int) - 1)->Heap.SameBut it s.heap h'->Q (some x) { s with heap:=h',toks:=tk }):wpAny (model prog w) A (pyNext (.ref it)) Q E s:=by
  have hT:s.TypeIs (.ref it) "reversed":=⟨_,hit,rfl⟩
  have hlt:k < items.size:=(Array.getElem?_eq_some_iff.mp hx).1
  unfold pyNext
  refine wpAny_bind (wpAny_attempt (wpAny_callSpecial?_slot hT sNext (wpAny_call_entry sNext hT xHq ?_ (wPq _))))
  refine (show wpAny (model prog w) A.in1 (field (.ref it) 0 >>= _) _ _ s from wpAny_bind (wpAny_field hit rfl (x:=.ref t) rfl ?_))
  refine (show wpAny (model prog w) A.in1 (field (.ref it) 1 >>= _) _ _ s from wpAny_bind (wpAny_field hit rfl (x:=rawInt k) rfl ?_))
  refine (show wpAny (model prog w) A.in1 (if (k:Int) < 0 then _ else _) _ _ s from ?_)
  rw [if_neg (by omega)]
  refine wpAny_bind (wpAny_specialOf ht.typeIs slot_tuple_getitem.lookup ?_)
  rw [if_neg (by simp)]
  refine (show wpAny (model prog w) A.in1 (mkInt k >>= _) _ _ s from wpAny_bind (wpAny_mkInt ?_))
  refine wpAny_bind (wpAny_attempt (getItem_tuple (j:=k) (x:=x) (s:={ s with toks:=s.toks+1 }) ht (by omega) hk (by simp [seqIndex?];omega) hx ?_))
  refine (show wpAny (model prog w) A.in1 (field (.ref it) 1 >>= _) _ _ _ from wpAny_bind (wpAny_field hit rfl (x:=rawInt k) rfl ?_))
  exact wpAny_bind (wpAny_setField hit rfl (by simp) (wpAny_pure ⟨x,rfl,wpAny_pure (hQ _ _ (Heap.get?_update_self _ hit rfl) (Heap.SameBut.update ..))⟩))
theorem endT {k:Int} {Q:Option Value->Shared->Prop} (hh:A.handled=none) (hit:IsRev s.heap it t k) (hk:k < 0) (hQ:∀ h',Heap.ExtBut it s.heap h'->Q none { s with heap:=h' }):wpAny (model prog w) A (pyNext (.ref it)) Q E s:=by
  have hT:s.TypeIs (.ref it) "reversed":=⟨_,hit,rfl⟩
  unfold pyNext
  refine wpAny_bind (wpAny_attempt (wpAny_callSpecial?_slot hT sNext (wpAny_call_entry sNext hT xHq ?_ (wPq _))))
  refine (show wpAny (model prog w) A.in1 (field (.ref it) 0 >>= _) _ _ s from wpAny_bind (wpAny_field hit rfl (x:=.ref t) rfl ?_))
  refine (show wpAny (model prog w) A.in1 (field (.ref it) 1 >>= _) _ _ s from wpAny_bind (wpAny_field hit rfl (x:=rawInt k) rfl ?_))
  refine (show wpAny (model prog w) A.in1 (if k < 0 then _ else _) _ _ s from ?_)
  rw [if_pos hk]
  refine wpAny_bind (wpAny_rule (wpAny_bind ?_))
  refine (show wpAny (model prog w) A.in1 (setField (.ref it) 1 (rawInt (-1)) >>= λ _=>setField (.ref it) 0 .none) _ _ s from wpAny_bind (wpAny_setField hit rfl (by simp) ?_))
  refine wpAny_setField (Heap.get?_update_self (Obj.mapFields (·.setIfInBounds 1 (rawInt (-1)))) hit rfl) rfl (by simp) ?_
  refine wpAny_bind (aF9q (A:=A.in1) hh λ h' e kk hs=>?_)
  refine wpAny_bind (wpAny_isInstance (T:="StopIteration") (b:=true) hs isSubtype_stop (wpAny_pure (hQ _ λ b o hb e=>kk b o ?_)))
  exact ((Heap.SameBut.update ..).trans (Heap.SameBut.update ..)).extBut b o hb e
theorem aM4q {k:Int} {items:Array Value} {Q:Value->Shared->Prop} (hit:IsRev s.heap it t k) (ht:IsTup s.heap t items) (hz:(items.size:Int) < 2 ^ 63) (hk:k+1=items.size)
    (h:∀ u tk,s.toks<=tk->Q (.int (items.size:Int) u) { s with toks:=tk }):wpAny (model prog w) A (call (.builtin "reversed.__length_hint__") [.ref it]) Q E s:=by
  have hT:s.TypeIs (.ref it) "reversed":=⟨_,hit,rfl⟩
  refine wpAny_call_entry sHint hT aE4q ?_ (aJ0q _)
  refine (show wpAny (model prog w) A.in1 (field (.ref it) 0 >>= _) _ _ s from wpAny_bind (wpAny_field hit rfl (x:=.ref t) rfl ?_))
  refine (show wpAny (model prog w) A.in1 (if (Value.ref t==Value.none)=true then _ else _) _ _ s from ?_)
  rw [if_neg (show ¬ ((Value.ref t==Value.none)=true) from Bool.false_ne_true)]
  refine (show wpAny (model prog w) A.in1 (call (.builtin "len") [.ref t] >>= _) _ _ s from wpAny_bind (len_tuple ht hz ?_))
  refine wpAny_bind (m:=asInt? (.int (items.size:Int) _)) (wpAny_pure ?_)
  refine (show wpAny (model prog w) A.in1 (field (.ref it) 1 >>= _) _ _ _ from wpAny_bind (wpAny_field hit rfl (x:=rawInt k) rfl ?_))
  refine (show wpAny (model prog w) A.in1 (if (items.size:Int) < k+1 then _ else _) _ _ _ from ?_)
  rw [if_neg (by omega),hk]
  exact wpAny_bind (wpAny_mkInt (wpAny_pure ⟨_,rfl,h _ _ (by simp;omega)⟩))
end
theorem newT (t:Addr) (items:Array Value) (hz:(items.size:Int) < 2 ^ 63) :
    Meets (Builtin.«reversed.__new__» ⟨[.type "reversed", .ref t],[]⟩) (λ _ R s=>IsTup s.heap t items ∧
      ∀ tk,R (.ok (.ret (.ref s.heap.objs.size))) { s with heap:=s.heap.push { cls:=.type "reversed", data:=.fields #[.ref t,rawInt ((items.size:Int) - 1)] },toks:=tk }):=
  .of_wp λ prog w A R s ⟨ht,h⟩=>by
    unfold Builtin.«reversed.__new__»
    refine wpAny_bind (wpAny_of_eq (newClass_reversed _) (wpAny_bind (m:=Builtin.SmallTypes.refuseKeywords _ _ _) (wpAny_pure ?_)))
    refine wpAny_bind (wpAny_of_eq (a:=()) (by rfl) (wpAny_bind (wpAny_specialOf ht.typeIs aH6q (wpAny_bind ?_))))
    refine (show wpAny (model prog w) A.in1 (isInstance (Value.ref t) (.type "dict") >>= _) _ _ s from wpAny_bind (wpAny_isInstance (T:="tuple") (b:=false) ht.typeIs xTq ?_))
    rw [if_neg (by decide)]
    refine wpAny_bind (wpAny_specialOf ht.typeIs slot_tuple_getitem.lookup ?_)
    refine (show wpAny (model prog w) A.in1 (if (["tuple.__getitem__", "str.__getitem__", "bytes.__getitem__", "bytearray.__getitem__", "memoryview.__getitem__", "numpy.ndarray.__getitem__", "sqlite3.Row.__getitem__"].contains "tuple.__getitem__")=true then _ else _) _ _ s from ?_)
    rw [if_pos (by decide)]
    refine wpAny_pure ?_
    rw [if_neg (by decide)]
    refine (show wpAny (model prog w) A.in1 (call (.builtin "len") [.ref t] >>= _) _ _ s from wpAny_bind (len_tuple ht hz ?_))
    refine wpAny_bind (m:=asInt? (.int (items.size:Int) _)) (wpAny_pure ?_)
    refine (show wpAny (model prog w) A.in1 (newObj (.type "reversed") (.fields #[.ref t,rawInt ((items.size:Int) - 1)]) >>= _) _ _ _ from wpAny_bind (wpAny_newObj_type ?_ (by size_fits)))
    exact wpAny_pure ⟨_,rfl,h _⟩
theorem callT {prog:Program} {w:World} {A:Around} {E:Value->Shared->Prop} {s:Shared} {t:Addr} {items:Array Value} {Q:Value->Shared->Prop} (ht:IsTup s.heap t items) (hz:(items.size:Int) < 2 ^ 63)
    (h:∀ tk,Q (.ref s.heap.objs.size) { s with heap:=s.heap.push { cls:=.type "reversed", data:=.fields #[.ref t,rawInt ((items.size:Int) - 1)] },toks:=tk }):wpAny (model prog w) A (call (.type "reversed") [.ref t]) Q E s:=
  callType_new yHq (by decide) (F.typeCall_reversed_1 _) (F.newCall_reversed_1 _) (λ obj=>F.args_object_init_2 obj _) F.entry_reversed_new (newT t items hz) ⟨ht,λ tk=>⟨⟨_,Heap.get?_push_size _ rfl,rfl⟩,h tk⟩⟩
theorem aF1q {prog:Program} {w:World} {A:Around} (hh:A.handled=none) (I t:Addr) (hne:t≠I) (items:Array Value) (hz:(items.size:Int) < 2 ^ 63) :
    Walks prog w A I [I,t] [I] items.size (λ i v=>items[items.size - 1 - i]?=some v) (λ i h=>IsRev h I t ((items.size:Int) - 1 - i)/\IsTup h t items) where
  sub:=λ b hb=>by rw [List.mem_singleton.mp hb];exact List.mem_cons_self
  frame:=λ _ _ _ st hk=>⟨hk I (by simp) _ st.1,let ⟨o,ho,r⟩:=st.2;⟨o,hk t (by simp) _ ho,r⟩⟩
  item:=λ i s Q E hi st hQ=>by
    have st1:IsRev s.heap I t ((items.size - 1 - i:Nat):Int):=by rw [show ((items.size - 1 - i:Nat):Int)=(items.size:Int) - 1 - i by omega];exact st.1
    refine nextT st1 st.2 (x:=items[items.size - 1 - i]) (by simp<;>omega) (by omega) λ h' tk hit' hs'=>?_
    rw [show ((items.size - 1 - i:Nat):Int) - 1=(items.size:Int) - 1 - ((i+1:Nat):Int) by omega] at hit'
    exact hQ _ h' tk (by simp<;>omega) ⟨hit',st.2.extBut hs'.extBut hne⟩ λ b o hb e=>hs'.extBut b o (λ z=>hb (List.mem_singleton.mpr z)) e
  done:=λ s Q E st hQ=>endT hh st.1 (by omega) λ h' he=>hQ h' s.toks λ b o hb e=>he b o (λ z=>hb (List.mem_singleton.mpr z)) e
  self:=λ i s Q E st h=>iterT st.1 h
def v4q (prog:Program) (w:World) (A:Around) (I:Addr) (St:Nat->Shared->Prop):Prop:=
  ∀ (s:Shared) (Q:Bool->Shared->Prop) (E:Value->Shared->Prop),St 0 s->(∀ b tk,s.toks<=tk->Q b { s with toks:=tk })->wpAny (model prog w) A (Builtin.List.listLengthHint (.ref I)) Q E s
structure It (prog:Program) (w:World) (A:Around) (I:Addr) (fp wr:List Addr) (n:Nat) (P:Nat->Value->Prop) (St:Nat->Shared->Prop):Prop where
  walk:WalksS prog w A I fp wr (λ a b=>b=a) n P St
  ty:∃ T,(Value.type T==Value.type "list")=false/\(Value.type T==Value.type "tuple")=false/\∀ i s,St i s->s.TypeIs (.ref I) T
  hint:v4q prog w A I St
  mem:I∈fp
  few:n<=sizeLine
section
variable {prog:Program} {w:World} {A:Around} {E:Value->Shared->Prop} {s:Shared} {R:Result->Shared->Prop} {I S:Addr} {fp wr:List Addr} {n:Nat} {P:Nat->Value->Prop} {St:Nat->Shared->Prop}
abbrev listAt (acc:Array Value) (c:Nat):Obj:={ cls:=.type "list", dict:=none,data:=.seq acc c,slots:=#[] }
theorem aI0q (J:It prog w A.in1 I fp wr n P St) (res:Value) (c₀:Nat) (hst:St 0 s) (hSf:S ∉ fp) (hS:s.heap.get? S=some (listAt #[] c₀))
    (hR:∀ s' acc c,Moved (S::wr) (λ a b=>b=a) s s'->s'.heap.get? S=some (listAt acc c)->ItemsOf P acc n->R (.ok (.ret res)) s') :
    wpAny (model prog w) A.in1 (Builtin.List.listExtendWith (.ref S) (.ref I) res)
      (λ fin s'=>match fin with | .done f=>R (.ok f) s' | .again c'=>c'.quiet=true/\codeAny (model prog w) A c' R s') (λ e s'=>R (.error e) s') s:=by
  obtain ⟨T,t1,t2,hT⟩:=J.ty
  have W:=J.walk
  have h1:Builtin.List.listSameRef (.ref S) (.ref I)=false:=by
    have:S≠I:=λ e=>hSf (e ▸ J.mem)
    simp [Builtin.List.listSameRef,this]
  unfold Builtin.List.listExtendWith
  refine wpAny_bind (wpAny_typeOf (hT 0 _ hst) ?_)
  rw [h1,t1,t2,Bool.or_false,Bool.or_false,if_neg Bool.false_ne_true]
  refine wpAny_bind (W.self 0 _ _ _ hst (wpAny_bind (wpAny_holding (J.hint _ _ _ hst λ b tk htk=>?_))))
  have go:∀ (h':Heap) (c:Nat),(∀ b o,b≠S->s.heap.get? b=some o->h'.get? b=some o)->h'.get? S=some (listAt #[] c) →
      codeAny (model prog w) A (.builtin "list.extend.loop" ⟨[.ref S,.ref I,res],[]⟩) R { s with heap:=h',toks:=tk }:=λ h' c kk e=>
    codeAny_extend_loopS W J.few _ hSf _ n 0 _ _ _ rfl (Nat.zero_le _) (W.frame 0 s h' tk hst htk λ b hb o e=>kk b o (λ z=>hSf (z ▸ hb)) e) e (ItemsOf.nil P) λ s' acc c' hm hS' hacc=>
      hR s' acc c' (Moved.trans (s':={ s with heap:=h',toks:=tk }) W.gtrans ⟨λ b o hb e=>kk b o (λ z=>hb (by rw [z];exact List.mem_cons_self)) e,rfl,rfl,rfl,htk⟩ hm) hS' hacc
  refine wpAny_ite_split (λ _=>wpAny_bind (wpAny_rule (wpAny_bind ?_))) (λ _=>wpAny_pure ⟨plainId_quiet F.plain_extend_loop _,go _ _ (λ _ _ _ e=>e) hS⟩)
  refine (show wpAny (model prog w) A.in1 (updateSeq S (·.push .none) >>= λ _=>updateSeq S (·.pop)) _ _ _ from wpAny_bind (wpAny_updateSeq hS rfl ?_))
  have e2:=Heap.get?_update_self (Obj.mapSeq (·.push Value.none)) hS rfl
  refine wpAny_updateSeq (hz:=by seq_fits) e2 rfl (wpAny_pure ⟨plainId_quiet F.plain_extend_loop _,go _ _ (λ b o hb e=>?_) (Heap.get?_update_self (Obj.mapSeq (·.pop)) e2 rfl)⟩)
  exact (Heap.get?_update_other _ _ (Ne.symm hb)).trans ((Heap.get?_update_other _ _ (Ne.symm hb)).trans e)
theorem listOf {Q:Value->Shared->Prop} (J:It prog w A.in1.in1 I fp wr n P St) (hst:St 0 s) (hfp:∀ b∈fp,b < s.heap.objs.size)
    (hQ:∀ s' acc c,Moved (s.heap.objs.size::wr) (λ a b=>b=a) { s with heap:=s.heap.push (listAt #[] 0) } s'->s'.heap.get? s.heap.objs.size=some (listAt acc c)->ItemsOf P acc n->Q (.ref s.heap.objs.size) s') :
    wpAny (model prog w) A (call (.type "list") [.ref I]) Q E s:=by
  have hSf:s.heap.objs.size ∉ fp:=λ hm=>Nat.lt_irrefl _ (hfp _ hm)
  refine callType_codes (Q₁:=λ obj s₁=>obj=.ref s.heap.objs.size/\s₁={ s with heap:=s.heap.push (listAt #[] 0) }) F.called_list (F.typeCall_list_1 _) F.entry_list_init (code_list_new _ ⟨rfl,rfl⟩) ?_
  rintro obj s₁ ⟨rfl,rfl⟩
  have hS:(s.heap.push (listAt #[] 0)).get? s.heap.objs.size=some (listAt #[] 0):=Heap.get?_push_size _ rfl
  refine ⟨⟨_,hS,rfl⟩,F.args_list_init_2 _ _,?_⟩
  refine (show wpAny (model prog w) A.in1.in1 (Builtin.List.listItems (.ref s.heap.objs.size) >>= λ old=>Builtin.List.listUpdate (.ref s.heap.objs.size) (λ _=>#[]) >>= λ _=>letGo old.toList.reverse >>= λ _=>Builtin.List.listExtendWith (.ref s.heap.objs.size) (.ref I) .none) _ _ _ from wpAny_bind ?_)
  unfold Builtin.List.listItems
  refine wpAny_bind (wpAny_seqItems hS rfl (wpAny_pure ?_))
  refine (show wpAny (model prog w) A.in1.in1 (updateSeq s.heap.objs.size (λ _=>#[]) >>= λ _=>letGo (#[]:Array Value).toList.reverse >>= λ _=>Builtin.List.listExtendWith (.ref s.heap.objs.size) (.ref I) .none) _ _ _ from wpAny_bind (wpAny_updateSeq hS rfl (wpAny_bind (wpAny_letGo ?_))))
  have kk:∀ b o,b≠s.heap.objs.size->(s.heap.push (listAt #[] 0)).get? b=some o->((s.heap.push (listAt #[] 0)).update s.heap.objs.size (Obj.mapSeq (λ _=>(#[]:Array Value)))).get? b=some o:=λ b o hb e=>(Heap.get?_update_other _ _ (Ne.symm hb)).trans e
  refine aI0q (A:=A.in1) J .none _ (J.walk.frame 0 s _ s.toks hst (Nat.le_refl _) λ b hb o e=>kk b o (λ z=>hSf (z ▸ hb)) (Heap.get?_push_of_some _ e)) hSf (Heap.get?_update_self (Obj.mapSeq (λ _=>(#[]:Array Value))) hS rfl) λ s' acc c hm hS' hacc=>⟨rfl,hQ s' acc c ?_ hS' hacc⟩
  exact Moved.trans (s':={ s with heap:=(s.heap.push (listAt #[] 0)).update s.heap.objs.size (Obj.mapSeq (λ _=>(#[]:Array Value))) }) J.walk.gtrans ⟨λ b o hb e=>kk b o (λ z=>hb (by rw [z];exact List.mem_cons_self)) e,rfl,rfl,rfl,Nat.le_refl _⟩ hm
theorem zLq {l:Addr} {k:Nat->Int} {U:Nat->Shared->Prop}:v4q prog w A I (λ i s=>i<=n/\s.heap.IsRevIter I l (k i)/\U i s):=by
  intro s Q E st h
  have hT:s.TypeIs (.ref I) "list_reverseiterator":=st.2.1.typeIs
  unfold Builtin.List.listLengthHint
  refine wpAny_bind (wpAny_specialOf hT yCq ?_)
  refine (show wpAny (model prog w) A (specialOf (Value.ref I) (Str.ofString "__length_hint__") >>= _) _ _ _ from wpAny_bind (wpAny_specialOf hT aM8q ?_))
  (generalize hid:("list_reverseiterator.__length_hint__" : String)=id0;(fail_if_success (clear hid id0));wp_delta;rw [show splitId id0=some ("list_reverseiterator", "__length_hint__") from by subst hid;decide +kernel];subst hid)
  exact wpAny_bind (wpAny_isInstance (b:=true) hT (by rw [isSubtype_type];kernel_rfl) (wpAny_pure (h _ _ (Nat.le_refl _))))
theorem xEq {t:Addr} {items:Array Value} (hz:items.size<=sizeLine):v4q prog w A I (λ i s=>IsRev s.heap I t ((items.size:Int) - 1 - i)/\IsTup s.heap t items):=by
  intro s Q E st h
  have hT:s.TypeIs (.ref I) "reversed":=⟨_,st.1,rfl⟩
  have hl:=sizeLine_eq
  unfold Builtin.List.listLengthHint
  refine wpAny_bind (wpAny_specialOf hT aL7q ?_)
  refine (show wpAny (model prog w) A (specialOf (Value.ref I) (Str.ofString "__length_hint__") >>= _) _ _ _ from wpAny_bind (wpAny_specialOf hT sHint.lookup ?_))
  (generalize hid:("reversed.__length_hint__" : String)=id0;(fail_if_success (clear hid id0));wp_delta;rw [show splitId id0=some ("reversed", "__length_hint__") from by subst hid;decide +kernel];subst hid)
  refine wpAny_bind (wpAny_isInstance (b:=true) hT (by rw [isSubtype_type];kernel_rfl) ?_)
  rw [if_neg (by decide)]
  refine wpAny_ite_split (λ hab=>absurd hab (by decide +kernel)) (λ _=>wpAny_bind (wpAny_rule (wpAny_bind (wpAny_of_eq (sHint.bind _) ?_))))
  refine (show wpAny (model prog w) A ((call (.builtin "reversed.__length_hint__") [.ref I]).attempt >>= _) _ _ _ from wpAny_bind (wpAny_attempt (aM4q (items:=items) st.1 st.2 (by omega) (by omega) λ u tk htk=>?_)))
  dsimp only
  have ha:∀ (n:Int) (u:Tok),asInt? (Value.int n u)=pure (some n):=λ _ _=>rfl
  have h1:Builtin.List.listFitsIndex (items.size:Int)=true:=by
    unfold Builtin.List.listFitsIndex
    simp only [Bool.and_eq_true,decide_eq_true_eq]
    omega
  have h2:Builtin.List.listTooLong ((items.size:Int)).toNat=false:=by simp [Builtin.List.listTooLong,sizeLine];omega
  rw [ha,pure_bind]
  dsimp only
  rw [h1,h2,if_neg (by decide),if_neg (by omega),if_neg (by decide)]
  exact wpAny_pure (h _ _ htk)
end
theorem moved_eq {wr:List Addr} {s s':Shared} (hm:Moved wr (λ a b=>b=a) s s'):s'={ s with heap:=s'.heap,toks:=s'.toks }:=by
  obtain ⟨h',g',d',tk',os'⟩:=s'
  cases (show g'=s.gens from hm.gens)
  cases (show d'=s.drawn from hm.drawn)
  cases (show os'=s.os from hm.os)
  rfl
theorem back {its:List Value} {acc:Array Value} (h:ItemsOf (λ i v=>its.toArray[its.toArray.size - 1 - i]?=some v) acc its.toArray.size):acc.toList=its.reverse:=by
  obtain ⟨hs0,hp⟩:=h
  have hs:acc.size=its.length:=by simpa using hs0
  apply List.ext_getElem?
  intro i
  by_cases hi:i < its.length
  . have h1:i < acc.size:=by omega
    have e:=hp i acc[i] (by simp [h1])
    rw [List.getElem?_reverse hi,Array.getElem?_toList,Array.getElem?_eq_getElem h1,<- e]
    simp
  . rw [List.getElem?_eq_none (by rw [Array.length_toList];omega),List.getElem?_eq_none (by rw [List.length_reverse];omega)]
theorem itT {prog:Program} {w:World} {A:Around} {I t:Addr} {items:Array Value} (hh:A.handled=none) (hne:t≠I) (hz:items.size<=sizeLine) :
    It prog w A I [I,t] [I] items.size (λ i v=>items[items.size - 1 - i]?=some v) (λ i s=>IsRev s.heap I t ((items.size:Int) - 1 - i)/\IsTup s.heap t items) where
  walk:=(aF1q hh I t hne items (by have:=sizeLine_eq;omega)).toS
  ty:=⟨"reversed", by decide,by decide,λ _ _ st=>⟨_,st.1,rfl⟩⟩
  hint:=xEq hz
  mem:=by simp
  few:=hz
theorem itL {prog:Program} {w:World} {A:Around} {I l:Addr} {items:Array Value} (hh:A.handled=none) (hne:l≠I) (hz:items.size<=sizeLine) :
    It prog w A I [I,l] [I] items.size (λ i v=>items[items.size - 1 - i]?=some v) (λ i s=>i<=items.size/\s.heap.IsRevIter I l ((items.size:Int) - 1 - (i:Int))/\s.heap.IsList l items) where
  walk:=(Walks.listRev hh I l hne items).toS
  ty:=⟨"list_reverseiterator", by decide,by decide,λ _ _ st=>st.2.1.typeIs⟩
  hint:=zLq (k:=λ i=>(items.size:Int) - 1 - (i:Int)) (U:=λ _ s=>s.heap.IsList l items)
  mem:=by simp
  few:=hz
end KRv
namespace L2
open PySem PySem.Spec PyProof.Rows
section
variable {X:Cx} {e:Expr} {te:TE} {p p2 pos pos2:Pos}
def RevT (X:Cx) (pins:List (Addr × Obj)) (σ:St) (R:Addr->List V->Hp->Prop) (v:Value) (s:Shared):Prop:=
  ∃ (a it:Addr) (xs:List V) (its:List Value) (H:Hp),v=.ref it/\Inv X pins σ H s/\KRv.IsRev s.heap it a ((its.toArray.size:Int) - 1)/\IsTup s.heap a its.toArray/\a≠it/\Vals xs its/\its.toArray.size<=sizeLine/\SqT X.K H a xs/\jRq X pins H it/\R a xs H
def RevL (X:Cx) (pins:List (Addr × Obj)) (σ:St) (R:Addr->List V->Hp->Prop) (v:Value) (s:Shared):Prop:=
  ∃ (a it:Addr) (xs:List V) (its:List Value) (H:Hp),v=.ref it/\Inv X pins σ H s/\s.heap.IsRevIter it a ((its.toArray.size:Int) - 1)/\s.heap.IsList a its.toArray/\a≠it/\Vals xs its/\its.toArray.size<=sizeLine/\SqL X.K H a xs/\jRq X pins H it/\R a xs H
theorem nEq {pins:List (Addr × Obj)} {s:Shared} {σ:St} {H:Hp} {R:Addr->List V->Hp->Prop} (hg:Gl X "reversed") (hm:X.mg "reversed" = none) (he:PE X e te) (hs:bAq e=true) (I:Inv X pins σ H s)
    (h:te σ H λ x H1=>∃ a xs,x=.ref a/\SqT X.K H1 a xs/\R a xs H1):wpAny (model X.prog X.w) X.A (eval (.Call (.Name "reversed" p2) [e] [] pos2) X.env) (RevT X pins σ R) X.xe s:=by
  refine wpAny_Call_Name_kw (e6q I hg hm PyProof.Rows.boot_reversed ?_)
  refine PyProof.Rows.callWith_type1 ?_ (aLq hs) rfl
  rw [aLq hs]
  show wpAny _ _ (spliced ((false,eval e X.env)::backTo pos2 (starEach [] X.env))) _ _ s
  refine Calls.spliced_cons (thn (he pins s σ H _ I h) λ u s1 ⟨x,H1,I1,r1,a,xs,ex,hq,q⟩=>Calls.spliced_nil ?_)
  subst ex
  cases r1
  obtain ⟨its,rv,pl,hz⟩:=I1.tuple hq
  have hl:=rv.length
  have h63:=dRq
  refine KRv.callT pl (by rw [List.size_toArray];omega) λ tk=>?_
  exact ⟨a,s1.heap.objs.size,xs,its,H1,rfl,I1.kept λ b o e=>Heap.get?_push_of_some _ e,Heap.get?_push_size _ rfl,pl.push _,Nat.ne_of_lt pl.lt,rv,by rw [List.size_toArray];omega,hq,I1.fpOk (Nat.le_refl _) (I1.hok.fresh (Nat.le_refl _)),q⟩
theorem u0q {pins:List (Addr × Obj)} {s:Shared} {σ:St} {H:Hp} {R:Addr->List V->Hp->Prop} (hg:Gl X "reversed") (hm:X.mg "reversed" = none) (he:PE X e te) (hs:bAq e=true) (I:Inv X pins σ H s)
    (h:te σ H λ x H1=>∃ a xs,x=.ref a/\SqL X.K H1 a xs/\R a xs H1):wpAny (model X.prog X.w) X.A (eval (.Call (.Name "reversed" p2) [e] [] pos2) X.env) (RevL X pins σ R) X.xe s:=by
  refine wpAny_Call_Name_kw (e6q I hg hm PyProof.Rows.boot_reversed ?_)
  refine PyProof.Rows.callWith_type1 ?_ (aLq hs) rfl
  rw [aLq hs]
  show wpAny _ _ (spliced ((false,eval e X.env)::backTo pos2 (starEach [] X.env))) _ _ s
  refine Calls.spliced_cons (thn (he pins s σ H _ I h) λ u s1 ⟨x,H1,I1,r1,a,xs,ex,hq,q⟩=>Calls.spliced_nil ?_)
  subst ex
  cases r1
  obtain ⟨its,rv,pl,hz⟩:=I1.list hq
  have hl:=rv.length
  have hlt:a < s1.heap.objs.size:=by obtain ⟨o,ho,_⟩:=pl.isList;exact Heap.lt_size ho
  refine call_reversed_list pl.isList ?_
  exact ⟨a,s1.heap.objs.size,xs,its,H1,rfl,I1.kept (t':=s1.toks) λ b o e=>Heap.get?_push_of_some _ e,⟨_,Heap.get?_push_size _ rfl,rfl,rfl⟩,let ⟨o,ho,r⟩:=pl.isList;⟨o,Heap.get?_push_of_some _ ho,r⟩,Nat.ne_of_lt hlt,rv,by rw [List.size_toArray];omega,hq,I1.fpOk (Nat.le_refl _) (I1.hok.fresh (Nat.le_refl _)),q⟩
theorem pFq {pins:List (Addr × Obj)} {σ:St} {H:Hp} {s s':Shared} {it:Addr} {acc:Array Value} {c:Nat} {ys:List V} {Q:VK} (I:Inv X pins σ H s) (fp:jRq X pins H it) (hit:it < s.heap.objs.size)
    (hm:Moved (s.heap.objs.size::[it]) (λ a b=>b=a) { s with heap:=s.heap.push (KRv.listAt #[] 0) } s') (hS:s'.heap.get? s.heap.objs.size=some (KRv.listAt acc c))
    (rv:Vals ys acc.toList) (hz:ys.length<=sizeLine) (q:∀ l,H l=none->Q (.ref l) (upd H l (.lst ys))):EP X pins σ Q (.ref s.heap.objs.size) s':=by
  have I2:Inv X pins σ (upd H s.heap.objs.size (.lst ys)) { s with heap:=s.heap.push { cls:=.type "list", dict:=none,data:=.seq acc c,slots:=#[] } }:=
    I.laid (t':=s.toks) (λ b o e=>Heap.get?_push_of_some _ e) (Nat.le_refl _) (show ObjOk X.prog X.w _ _ _ (.lst ys) from ⟨hz,acc.toList,c,rv,by simpa using Heap.get?_push_size s.heap (o:={ cls:=.type "list", dict:=none,data:=.seq acc c,slots:=#[] }) rfl⟩)
  obtain ⟨f0,f1,f2,f3,f4,f5⟩:=fp
  have I3:=I2.turned (h':=s'.heap) (t':=s'.toks) (it:=it) (λ b o hb e=>?_) (by rw [b0q (Nat.ne_of_lt hit)];exact f0) f1 f3 f4 f5
  . rw [KRv.moved_eq hm]
    exact ⟨.ref s.heap.objs.size,_,I3,rfl,q _ (I.hok.fresh (Nat.le_refl _))⟩
  . rcases Heap.get?_push_cases e with ⟨z1,z2⟩ | e
    . rw [z1,z2];exact hS
    . refine hm.heap b o (λ z=>?_) (Heap.get?_push_of_some _ e)
      simp only [List.mem_cons,List.not_mem_nil,or_false] at z
      rcases z with z | z
      . rw [z] at e;exact absurd (Heap.lt_size e) (Nat.lt_irrefl _)
      . exact hb z
def z6q (K:PySem.W.Frag) (te:TE):TE:=λ σ H Q=>te σ H λ x H1=>∃ a xs,x=.ref a/\SqT K H1 a xs/\∀ l,H1 l=none->Q (.ref l) (upd H1 l (.lst xs.reverse))
def s6q (K:PySem.W.Frag) (te:TE):TE:=λ σ H Q=>te σ H λ x H1=>∃ a xs,x=.ref a/\SqL K H1 a xs/\∀ l,H1 l=none->Q (.ref l) (upd H1 l (.lst xs.reverse))
theorem qAq (hc:X.calm=true) (hgl:Gl X "list") (hml:X.mg "list" = none) (hg:Gl X "reversed") (hm:X.mg "reversed" = none) (he:PE X e te) (hs:bAq e=true) :
    PE X (.Call (.Name "list" p) [.Call (.Name "reversed" p2) [e] [] pos2] [] pos) (z6q X.K te):=by
  intro pins s σ H Q I h
  refine wpAny_Call_Name_kw (e6q I hgl hml PyProof.Rows.boot_list ?_)
  refine PyProof.Rows.callWith_type1 ?_ (aLq rfl) rfl
  rw [aLq rfl]
  show wpAny _ _ (spliced ((false,eval (.Call (.Name "reversed" p2) [e] [] pos2) X.env)::backTo pos (starEach [] X.env))) _ _ s
  refine Calls.spliced_cons (thn (nEq (R:=λ _ xs H1=>∀ l,H1 l=none->Q (.ref l) (upd H1 l (.lst xs.reverse))) hg hm he hs I h) λ v s1 h1=>Calls.spliced_nil ?_)
  obtain ⟨a,it,xs,its,H1,rfl,I1,hit,ht,hne,rv,hz,_,fp,q⟩:=h1
  have hi:=Heap.lt_size hit
  have hl:=rv.length
  refine KRv.listOf (KRv.itT (prog:=X.prog) (w:=X.w) (A:=X.A.in1.in1) (I:=it) (t:=a) (items:=its.toArray) (I.ok.hd hc) hne hz) ⟨by simpa using hit,ht⟩ (λ b hb=>?_) (λ s' acc c' hm' hS hacc=>?_)
  . simp only [List.mem_cons,List.not_mem_nil,or_false] at hb
    rcases hb with rfl | rfl
    . exact hi
    . exact ht.lt
  . exact pFq I1 fp hi hm' hS (by rw [KRv.back hacc];exact rv.reverse) (by rw [List.length_reverse];rw [List.size_toArray] at hz;omega) q
theorem fIq (hc:X.calm=true) (hgl:Gl X "list") (hml:X.mg "list" = none) (hg:Gl X "reversed") (hm:X.mg "reversed" = none) (he:PE X e te) (hs:bAq e=true) :
    PE X (.Call (.Name "list" p) [.Call (.Name "reversed" p2) [e] [] pos2] [] pos) (s6q X.K te):=by
  intro pins s σ H Q I h
  refine wpAny_Call_Name_kw (e6q I hgl hml PyProof.Rows.boot_list ?_)
  refine PyProof.Rows.callWith_type1 ?_ (aLq rfl) rfl
  rw [aLq rfl]
  show wpAny _ _ (spliced ((false,eval (.Call (.Name "reversed" p2) [e] [] pos2) X.env)::backTo pos (starEach [] X.env))) _ _ s
  refine Calls.spliced_cons (thn (u0q (R:=λ _ xs H1=>∀ l,H1 l=none->Q (.ref l) (upd H1 l (.lst xs.reverse))) hg hm he hs I h) λ v s1 h1=>Calls.spliced_nil ?_)
  obtain ⟨a,it,xs,its,H1,rfl,I1,hit,ht,hne,rv,hz,_,fp,q⟩:=h1
  have hi:it < s1.heap.objs.size:=by obtain ⟨o,ho,_⟩:=hit;exact Heap.lt_size ho
  have hl:=rv.length
  refine KRv.listOf (KRv.itL (prog:=X.prog) (w:=X.w) (A:=X.A.in1.in1) (I:=it) (l:=a) (items:=its.toArray) (I.ok.hd hc) hne hz) ⟨Nat.zero_le _,by simpa using hit,ht⟩ (λ b hb=>?_) (λ s' acc c' hm' hS hacc=>?_)
  . simp only [List.mem_cons,List.not_mem_nil,or_false] at hb
    rcases hb with rfl | rfl
    . exact hi
    . obtain ⟨o,ho,_⟩:=ht;exact Heap.lt_size ho
  . exact pFq I1 fp hi hm' hS (by rw [KRv.back hacc];exact rv.reverse) (by rw [List.length_reverse];rw [List.size_toArray] at hz;omega) q
theorem nYq:∀ (bs:List Bool),(List.range bs.length).all (λ i=>bs.getD i true)=bs.all id:=by
  intro bs
  rw [Bool.eq_iff_iff,List.all_eq_true,List.all_eq_true]
  constructor
  . intro h x hx
    obtain ⟨i,hi,e⟩:=List.getElem_of_mem hx
    have:=h i (List.mem_range.mpr hi)
    rw [List.getD_eq_getElem?_getD,List.getElem?_eq_getElem hi,Option.getD_some,e] at this
    exact this
  . intro h i hi
    have hi':=List.mem_range.mp hi
    rw [List.getD_eq_getElem?_getD,List.getElem?_eq_getElem hi',Option.getD_some]
    exact h _ (List.getElem_mem hi')
def aK9q (K:PySem.W.Frag):List V->Hp->VK->Prop:=λ xs H Q=>∃ (p:Addr) (bs:List Bool),xs=[.ref p]/\SqL K H p (bs.map V.bl)/\Q (.bl (bs.all id)) H
theorem pLq (hc:X.calm=true):CallR X (.builtin "all") (aK9q X.K):=by
  intro pins s σ H xs us Q I r h
  obtain ⟨p,bs,rfl,hp,hQ⟩:=h
  obtain ⟨u,rfl,ru⟩:=r.one
  cases ru
  obtain ⟨its,rv,pl,hz⟩:=I.list hp
  have hlen:=rv.length
  rw [List.length_map] at hlen
  have hlt:p < s.heap.objs.size:=by obtain ⟨o,ho,_⟩:=pl.isList;exact Heap.lt_size ho
  refine call_all_walk (wpAny_pyIter_list pl.isList ?_)
  refine ⟨s.heap.objs.size,[s.heap.objs.size,p],[s.heap.objs.size],its.toArray.size,_,_,λ i=>bs.getD i true,rfl,Walks.list (A:=X.A.in1) (I.ok.hd hc) _ p (Nat.ne_of_lt hlt) its.toArray,⟨⟨_,Heap.get?_push_size _ rfl,rfl,rfl⟩,let ⟨o,ho,r⟩:=pl.isList;⟨o,Heap.get?_push_of_some _ ho,r⟩⟩,?_,λ h' tk kk=>?_⟩
  . intro i v s' Q' E' hv hq
    have hi:i < its.length:=by
      have:=(Array.getElem?_eq_some_iff.mp hv).1
      simpa using this
    obtain ⟨v1,e1,e2⟩:=rv.get (i:=i) (x:=V.bl bs[i]) (by rw [List.getElem?_map,List.getElem?_eq_getElem (by omega)];rfl)
    have e3:its[i]?=some v:=by simpa using hv
    rw [e1] at e3
    cases e3
    have e4:v=Value.bool bs[i]:=e2
    subst e4
    refine wpAny_truthy_bool ?_
    have e5:bs.getD i true=bs[i]:=by rw [List.getD_eq_getElem?_getD,List.getElem?_eq_getElem (by omega)];rfl
    rw [<- e5]
    exact hq
  . refine ⟨.bl (bs.all id),H,I.kept λ b o e=>kk b o ?_ (Heap.get?_push_of_some _ e),?_,hQ⟩
    . simp only [List.mem_cons,List.not_mem_nil,or_false]
      exact Nat.ne_of_lt (Heap.lt_size e)
    . show Value.bool _=Value.bool _
      rw [List.size_toArray,<- hlen,nYq]
end
section
variable {X:Cx} {e:Expr} {te:TE} {p p2 pos pos2:Pos}
theorem fNq (hgl:Gl X "list") (hml:X.mg "list" = none) (hg:Gl X "reversed") (hm:X.mg "reversed" = none) (he:JE X e te) (hc:X.calm=true:=by rfl) (hs:bAq e=true:=by rfl) :
    JE X (.Call (.Name "list" p) [.Call (.Name "reversed" p2) [e] [] pos2] [] pos) (s6q X.K te):=⟨fIq hc hgl hml hg hm he.run hs⟩
end
end L2
namespace KZp
open PySem PyProof.Rows
section
variable {prog:Program} {w:World} {A:Around} {E:Value->Shared->Prop} {s:Shared}
variable {z TI TO i1 i2 l1 l2:Addr} {i:Nat} {xs ys:Array Value}
end
end KZp
namespace L2
open PySem PySem.Spec PyProof.Rows
theorem Inv.turnedL {X:Cx} {pins:List (Addr × Obj)} {σ:St} {H:Hp} {s:Shared} {h':Heap} {t':Nat} {fp:List Addr} (I:Inv X pins σ H s) (hf:∀ b∈fp,jRq X pins H b) (k:∀ b o,b ∉ fp->s.heap.get? b=some o->h'.get? b=some o):Inv X pins σ H { s with heap:=h',toks:=t' }:=by
  have nit:∀ b u,H b=some u->b ∉ fp:=λ b u e z=>by rw [(hf b z).1] at e;cases e
  refine I.step (g':=s.gens) (d':=s.drawn) (ch:=fp) (λ b hb=>?_) (λ b o _ _ hc e _=>k b o hc e) (λ b o _ _ hc e _=>⟨o.slots,k b o hc e⟩) (λ _ _ _ _ n=>n)
    (λ b o hc e=>⟨o,k b o hc e⟩) (λ _ _ e=>e) (λ _ _ _ e=>e) (λ b ps e=>⟨#[],by rw [e];simp⟩) (λ m hm=>?_) (λ b u e=>?_) I.bare
  . obtain ⟨f0,f1,f2,f3,f4,f5⟩:=hf b hb
    exact ⟨f3,f1,f4,f5⟩
  . obtain ⟨o,es,ep,ho,r⟩:=hm
    exact ⟨o,es,ep,k _ o (λ z=>(hf _ z).2.1 rfl) ho,r⟩
  . refine (I.hok b u e).stay (λ c v hc q=>k c v ?_ q) (λ _ q=>q) λ _ _ q=>q
    rcases hc with z | z
    . rw [z];exact nit b u e
    . exact nit c _ z
section
variable {X:Cx}
end
def fzn (o:Obj):HO:=.frz o (.ext λ _=>True)
section
variable {P:Program} {w:World} {H H':Hp} {h h':Heap} {as:List Addr}
end
structure CloAt (H:Hp) (f:Addr) (name qual:Str) (st:Stmt) (cl:List (Str × Addr)) (fvs:List V):Prop where
  fn:∃ (oc:Value) (od:Option Addr) (doc pm cdv ct:Value) (sl:Array (Option Value)),H f=some (fzn ⟨oc,od,.func (PySem.W.fnX name qual (cRq st) (bTq st) (aDq st) cl .none .none doc pm none cdv ct),sl⟩) ∧
    ∃ c o vs t,cdv=.ref c/\H c=some (fzn o)/\o.data=.fields vs/\vs[1]?=some (.str qual t)
  cells:∀ (i:Nat) (x:Str) (c:Addr),cl[i]?=some (x,c)->∃ v u o,fvs[i]?=some v/\RelV v u/\H c=some (fzn o)/\o.data=.cell (some u)
  len:cl.length=fvs.length
  nda:(cl.map (·.2)).Nodup
section
variable {P:Program} {w:World} {K:PySem.W.Frag} {mg:Str->Option Value} {base:Heap} {k:Nat} {name qual:Str} {st:Stmt} {fr:List Str} {fvs:List V} {N ps:List Str} {sp:Sp}
end
section
variable {X:Cx} {k j:Nat} {name qual:Str} {st:Stmt} {fr:List Str} {fvs:List V} {ps:List Str} {x:Str} {sp:Sp} {p pos:Pos} {e:Expr} {es:List Expr} {t:TA}
end
def clOf (env:Env) (fr:List Str):List (Str × Addr):=fr.map λ x=>(x,(env.cells.lookup x).getD 0)
structure MadeAt (env:Env) (H:Hp) (f:Addr) (name qual:Str) (st:Stmt) (fr:List Str):Prop where
  fn:∃ (oc:Value) (od:Option Addr) (doc pm cdv ct:Value) (sl:Array (Option Value)),H f=some (fzn ⟨oc,od,.func (PySem.W.fnX name qual (cRq st) (bTq st) (aDq st) (clOf env fr) .none .none doc pm none cdv ct),sl⟩) ∧
    ∃ c o vs t,cdv=.ref c/\H c=some (fzn o)/\o.data=.fields vs/\vs[1]?=some (.str qual t)
section
variable {X:Cx} {pins:List (Addr × Obj)} {σ:St} {H H2:Hp} {s s':Shared} {as:List Addr}
end
section
variable {X:Cx} {k j:Nat} {g:Addr} {fd:FuncData} {name qual:Str} {st:Stmt} {fr:List Str} {ix:List Nat} {ps:List Str} {x:Str} {sp:Sp} {p pos:Pos} {e:Expr} {es:List Expr} {t:TA}
end
def Tab (H:Hp) (T:Addr) (pos:Pos) (qual:Str):Prop:=∃ ps,H T=some (.tbl ps)/\TriplesOk ps.toList/\(codeAmong pos ps.toList=none\/∃ c o vs t,codeAmong pos ps.toList=some (.ref c)/\H c=some (fzn o)/\o.data=.fields vs/\vs[1]?=some (.str qual t))
section
variable {P:Program} {w:World} {H:Hp} {h h':Heap} {T c:Addr} {ps mo:Array Value} {oc:Obj} {fs ex:List Addr}
end
section
variable {X:Cx} {i:Nat} {T c:Addr} {name:Str} {params:Arguments} {body:List Stmt} {scope:Scope} {pos:Pos} {fr:List Str}
end
section
variable {P:Program} {w:World} {K:PySem.W.Frag} {mg mb:Str->Option Value} {k:Nat} {fa a:Addr} {fd:FuncData} {x:Str} {sp:Sp} {s₁:Shared} {vs:List Value} {ns:List Int} {tabs:List (Addr × Addr)}
end
end L2
namespace L3
open PySem PySem.Spec L2
inductive D where
  | non | bl (b:Bool) | int (i:Int) | str (x:Str) | ref (a:Addr) | ty (n:String) | tup (ds:List D) | frl (ds:List D)
def FrL (K:PySem.W.Frag) (H:Hp) (a:Addr) (xs:List V):Prop:=
  (∃ o,H a=some (.frz o (.lst xs)))\/∃ (o:Obj) (its:Array Value) (n:Nat),K.lookup a=some o/\o.cls=.type "list"/\o.dict=none/\o.data=.seq its n/\its.size<=sizeLine/\Vals xs its.toList
theorem FrL.sq {K:PySem.W.Frag} {H:Hp} {a:Addr} {xs:List V} (h:FrL K H a xs):SqL K H a xs:=by
  rcases h with h | h
  . exact .inl (.inr h)
  . exact .inr h
mutual
def Abs (K:PySem.W.Frag) (H:Hp):D->V->Prop
  | .non,v=>v=.non
  | .bl b,v=>v=.bl b
  | .int i,v=>v=.int i
  | .str x,v=>v=.str x
  | .ref a,v=>v=.ref a
  | .ty n,v=>v=.ty n
  | .tup ds,v=>∃ a vs,v=.ref a/\SqT K H a vs/\AbsL K H ds vs
  | .frl ds,v=>∃ a vs,v=.ref a/\FrL K H a vs/\AbsL K H ds vs
def AbsL (K:PySem.W.Frag) (H:Hp):List D->List V->Prop
  | [],vs=>vs=[]
  | d::ds,vs=>∃ v r,vs=v::r/\Abs K H d v/\AbsL K H ds r
end
structure Mono (K:PySem.W.Frag) (H H':Hp):Prop where
  tp:∀ a xs,SqT K H a xs->SqT K H' a xs
  fr:∀ a xs,FrL K H a xs->FrL K H' a xs
  fz:∀ a o,H a=some (fzn o)->H' a=some (fzn o)
section
variable {K:PySem.W.Frag} {H H':Hp}
mutual
theorem Abs.mono (h:Mono K H H'):∀ {d:D} {v:V},Abs K H d v->Abs K H' d v
  | .non,_,r=>r
  | .bl _,_,r=>r
  | .int _,_,r=>r
  | .str _,_,r=>r
  | .ref _,_,r=>r
  | .ty _,_,r=>r
  | .tup _,_,⟨a,vs,e,q,l⟩=>⟨a,vs,e,h.tp a vs q,AbsL.mono h l⟩
  | .frl _,_,⟨a,vs,e,q,l⟩=>⟨a,vs,e,h.fr a vs q,AbsL.mono h l⟩
theorem AbsL.mono (h:Mono K H H'):∀ {ds:List D} {vs:List V},AbsL K H ds vs->AbsL K H' ds vs
  | [],_,r=>r
  | _::_,_,⟨v,r,e,q,l⟩=>⟨v,r,e,Abs.mono h q,AbsL.mono h l⟩
end
theorem AbsL.len:∀ {ds:List D} {vs:List V},AbsL K H ds vs->vs.length=ds.length
  | [],_,r=>by cases r;rfl
  | _::_,_,⟨v,r,e,_,l⟩=>by subst e;simp [l.len]
theorem AbsL.append:∀ {ds es:List D} {vs us:List V},AbsL K H ds vs->AbsL K H es us->AbsL K H (ds++es) (vs++us)
  | [],_,_,_,r,s=>by cases r;exact s
  | _::_,_,_,_,⟨v,r,e,q,l⟩,s=>by subst e;exact ⟨v,_,rfl,q,l.append s⟩
theorem AbsL.one {d:D} {v:V} (h:Abs K H d v):AbsL K H [d] [v]:=⟨v,[],rfl,h,rfl⟩
theorem AbsL.get:∀ {ds:List D} {vs:List V} {i:Nat} {d:D},AbsL K H ds vs->ds[i]?=some d->∃ v,vs[i]?=some v/\Abs K H d v
  | [],_,_,_,_,e=>by simp at e
  | _::_,_,0,_,⟨v,r,e',q,l⟩,e=>by simp at e;subst e e';exact ⟨v,rfl,q⟩
  | _::_,_,i+1,d,⟨v,r,e',q,l⟩,e=>by
    subst e'
    obtain ⟨u,h1,h2⟩:=AbsL.get (i:=i) (d:=d) l (by simpa using e)
    exact ⟨u,by simpa using h1,h2⟩
theorem AbsL.take:∀ {ds:List D} {vs:List V} (n:Nat),AbsL K H ds vs->AbsL K H (ds.take n) (vs.take n)
  | _,_,0,_=>by simp [AbsL]
  | [],_,n+1,r=>by cases r;simp [AbsL]
  | _::_,_,n+1,⟨v,r,e,q,l⟩=>by subst e;exact ⟨v,_,rfl,q,l.take n⟩
theorem AbsL.drop:∀ {ds:List D} {vs:List V} (n:Nat),AbsL K H ds vs->AbsL K H (ds.drop n) (vs.drop n)
  | _,_,0,r=>r
  | [],_,n+1,r=>by cases r;simp [AbsL]
  | _::_,_,n+1,⟨v,r,e,q,l⟩=>by subst e;exact l.drop n
theorem AbsL.reverse:∀ {ds:List D} {vs:List V},AbsL K H ds vs->AbsL K H ds.reverse vs.reverse
  | [],_,r=>by cases r;simp [AbsL]
  | _::_,_,⟨v,r,e,q,l⟩=>by subst e;rw [List.reverse_cons,List.reverse_cons];exact l.reverse.append (.one q)
theorem AbsL.set {d:D} {v:V} (h:Abs K H d v):∀ {ds:List D} {vs:List V} (i:Nat),AbsL K H ds vs->AbsL K H (ds.set i d) (vs.set i v)
  | [],_,_,r=>by cases r;simp [AbsL]
  | _::_,_,0,⟨u,r,e,q,l⟩=>by subst e;exact ⟨v,r,rfl,h,l⟩
  | _::_,_,i+1,⟨u,r,e,q,l⟩=>by subst e;exact ⟨u,_,rfl,q,l.set h i⟩
theorem AbsL.of_ints:∀ (ns:List Int),AbsL K H (ns.map D.int) (ns.map V.int)
  | []=>rfl
  | n::ns=>⟨_,_,rfl,rfl,AbsL.of_ints ns⟩
end
def cut {α:Type} (xs:List α) (lo hi:Option Int):List α:=(xs.drop (HT.sIx xs.length 0 lo)).take (HT.sIx xs.length xs.length hi - HT.sIx xs.length 0 lo)
theorem AbsL.cut {K:PySem.W.Frag} {H:Hp} {ds:List D} {vs:List V} (h:AbsL K H ds vs) (lo hi:Option Int):AbsL K H (L3.cut ds lo hi) (mZq vs lo hi):=by
  have e:=h.len
  rw [L3.cut,mZq,e]
  exact (h.drop _).take _
inductive DO where
  | lst (ds:List D)
  | ins (C:Addr) (fs:List (Str × D))
  | dK (kvs:List (Key × D))
  | dT (kvs:List (List Key × D))
  | frT (kvs:List (List Key × D))
  | tab (pos:Pos) (qual:Str) | made (env:Env) (name qual:Str) (st:Stmt) (fr:List Str) | clo (name qual:Str) (st:Stmt) (fr:List Str) (vals:List D)
abbrev DV:=Addr->Option DO
abbrev DSt:=List (Option D)
def up (G:DV) (a:Addr) (o:DO):DV:=λ b=>if b=a then some o else G b
theorem a4q {G:DV} {a:Addr} {o:DO}:up G a o a=some o:=by unfold up;rw [if_pos rfl]
theorem aRq {G:DV} {a b:Addr} {o:DO} (h:b≠a):up G a o b=G b:=by unfold up;rw [if_neg h]
theorem bPq {G:DV} {a:Addr} {o u:DO}:up (up G a o) a u=up G a u:=by funext b;unfold up;split<;>rfl
theorem eIq {G:DV} {a b:Addr} {o u:DO} (h:a≠b):up (up G a o) b u=up (up G b u) a o:=by
  funext c;unfold up;split<;>split<;>simp_all
theorem t5q {G:DV} {a:Addr} {o:DO} (h:G a=some o):up G a o=G:=by
  funext b;unfold up;split
  . next e=>rw [e,h]
  . rfl
def AbsF {κ:Type} (K:PySem.W.Frag) (H:Hp) (fs:List (κ × D)) (gs:List (κ × V)):Prop:=fs.map (·.1)=gs.map (·.1)/\AbsL K H (fs.map (·.2)) (gs.map (·.2))
def BearO (K:PySem.W.Frag) (H:Hp) (a:Addr):DO->Prop
  | .lst ds=>∃ vs,H a=some (.lst vs)/\AbsL K H ds vs
  | .ins C fs=>∃ dx gs,H a=some (.ins C dx gs)/\AbsF K H fs gs
  | .dK kvs=>∃ gs,H a=some (.dK gs)/\AbsF K H kvs gs
  | .dT kvs=>∃ gs,H a=some (.dT gs)/\AbsF K H kvs gs
  | .frT kvs=>∃ o gs,H a=some (.frz o (.dT gs))/\AbsF K H kvs gs
  | .tab pos qual=>Tab H a pos qual
  | .made env name qual st fr=>MadeAt env H a name qual st fr
  | .clo name qual st fr vals=>∃ cl fvs,CloAt H a name qual st cl fvs/\cl.map (·.1)=fr/\AbsL K H vals fvs
def Vw (K:PySem.W.Frag) (G:DV) (H:Hp):Prop:=∀ a o,G a=some o->BearO K H a o
theorem BearO.some {K:PySem.W.Frag} {H:Hp} {a:Addr} {o:DO} (h:BearO K H a o):∃ u,H a=.some u:=by
  cases o with
  | lst ds=>obtain ⟨_,e,_⟩:=h;exact ⟨_,e⟩
  | ins C fs=>obtain ⟨_,_,e,_⟩:=h;exact ⟨_,e⟩
  | dK kvs=>obtain ⟨_,e,_⟩:=h;exact ⟨_,e⟩
  | dT kvs=>obtain ⟨_,e,_⟩:=h;exact ⟨_,e⟩
  | frT kvs=>obtain ⟨_,_,e,_⟩:=h;exact ⟨_,e⟩
  | tab pos qual=>obtain ⟨_,e,_⟩:=h;exact ⟨_,e⟩
  | made env name qual st fr=>obtain ⟨_,_,_,_,_,_,_,e,_⟩:=h.fn;exact ⟨_,e⟩
  | clo name qual st fr vals=>obtain ⟨_,_,h,_⟩:=h;obtain ⟨_,_,_,_,_,_,_,e,_⟩:=h.fn;exact ⟨_,e⟩
theorem Vw.none {K:PySem.W.Frag} {G:DV} {H:Hp} (h:Vw K G H) {a:Addr} (e:H a=.none):G a=.none:=by
  cases q:G a with
  | none=>rfl
  | some o=>obtain ⟨u,z⟩:=(h a o q).some;rw [e] at z;cases z
theorem BearO.mono {K:PySem.W.Frag} {H H':Hp} {a:Addr} {o:DO} (ht:Mono K H H') (e:H' a=H a) (h:BearO K H a o):BearO K H' a o:=by
  cases o with
  | lst ds=>obtain ⟨vs,q,l⟩:=h;exact ⟨vs,by rw [e];exact q,l.mono ht⟩
  | ins C fs=>obtain ⟨dx,gs,q,l⟩:=h;exact ⟨dx,gs,by rw [e];exact q,l.1,l.2.mono ht⟩
  | dK kvs=>obtain ⟨gs,q,l⟩:=h;exact ⟨gs,by rw [e];exact q,l.1,l.2.mono ht⟩
  | dT kvs=>obtain ⟨gs,q,l⟩:=h;exact ⟨gs,by rw [e];exact q,l.1,l.2.mono ht⟩
  | frT kvs=>obtain ⟨o,gs,q,l⟩:=h;exact ⟨o,gs,by rw [e];exact q,l.1,l.2.mono ht⟩
  | tab pos qual=>
    obtain ⟨ps,h1,h2,h3⟩:=h
    refine ⟨ps,by rw [e];exact h1,h2,?_⟩
    rcases h3 with h3 | ⟨c,o,vs,t,h3,h4,h5⟩
    . exact .inl h3
    . exact .inr ⟨c,o,vs,t,h3,ht.fz _ _ h4,h5⟩
  | made env name qual st fr=>
    obtain ⟨oc,od,doc,pm,cdv,ct,sl,h1,c,o,vs,t,h2,h3,h4⟩:=h.fn
    exact ⟨oc,od,doc,pm,cdv,ct,sl,ht.fz _ _ h1,c,o,vs,t,h2,ht.fz _ _ h3,h4⟩
  | clo name qual st fr vals=>
    obtain ⟨cl,fvs,C,h1,h2⟩:=h
    obtain ⟨oc,od,doc,pm,cdv,ct,sl,h3,c,o,vs,t,h4,h5,h6⟩:=C.fn
    exact ⟨cl,fvs,⟨⟨oc,od,doc,pm,cdv,ct,sl,ht.fz _ _ h3,c,o,vs,t,h4,ht.fz _ _ h5,h6⟩,λ i x c hi=>let ⟨v,u,o,z1,z2,z3,z4⟩:=C.cells i x c hi;⟨v,u,o,z1,z2,ht.fz _ _ z3,z4⟩,C.len,C.nda⟩,h1,h2.mono ht⟩
structure Go (K:PySem.W.Frag) (G:DV) (H:Hp) (G':DV) (H':Hp):Prop where
  tup:Mono K H H'
  dom:∀ a o,H a=some o->∃ o',H' a=some o'
  same:∀ a o,H a=some o->G a=none->H' a=some o
  new:∀ a o,H a=some o->G a=none->G' a=none
  vw:Vw K G' H'
section
variable {K:PySem.W.Frag} {G G1 G2 G':DV} {H H1 H2 H':Hp}
theorem Go.refl (v:Vw K G H):Go K G H G H:=⟨⟨λ _ _ h=>h,λ _ _ h=>h,λ _ _ h=>h⟩,λ _ o e=>⟨o,e⟩,λ _ _ e _=>e,λ _ _ _ e=>e,v⟩
theorem Go.trans (a:Go K G H G1 H1) (b:Go K G1 H1 G2 H2):Go K G H G2 H2:=
  ⟨⟨λ x xs h=>b.tup.tp x xs (a.tup.tp x xs h),λ x xs h=>b.tup.fr x xs (a.tup.fr x xs h),λ x o h=>b.tup.fz x o (a.tup.fz x o h)⟩,λ x o e=>let ⟨o',e'⟩:=a.dom x o e;b.dom x o' e',λ x o e n=>b.same x o (a.same x o e n) (a.new x o e n),
   λ x o e n=>b.new x o (a.same x o e n) (a.new x o e n),b.vw⟩
def Sub (G G':DV):Prop:=∀ a o,G a=some o->G' a=some o
theorem Sub.refl (G:DV):Sub G G:=λ _ _ e=>e
theorem Sub.trans {G G1 G2:DV} (a:Sub G G1) (b:Sub G1 G2):Sub G G2:=λ x o e=>b x o (a x o e)
theorem Sub.none {G G':DV} (h:Sub G G') {a:Addr} (e:G' a=.none):G a=.none:=by
  cases q:G a with
  | none=>rfl
  | some o=>rw [h a o q] at e;cases e
theorem Vw.sub (v:Vw K G' H) (h:Sub G G'):Vw K G H:=λ a o e=>v a o (h a o e)
theorem Go.sub (g:Go K G H G1 H1) (h:Sub G2 G1):Go K G H G2 H1:=⟨g.tup,g.dom,g.same,λ x o e n=>h.none (g.new x o e n),g.vw.sub h⟩
theorem uOq {a p:Addr} {o:HO} {xs:List V} (hp:∀ ys,¬ Rd H p (.tup ys)) (h:SqT K H a xs):SqT K (upd H p o) a xs:=by
  rcases h with h | h
  . have ne:a≠p:=by rintro rfl;exact hp _ h
    refine .inl ?_
    unfold Rd at h ⊢
    rw [b0q ne];exact h
  . exact .inr h
theorem t3q {p:Addr} {ys:List V} (h:H p=none):¬ Rd H p (.tup ys):=by
  rintro (e | ⟨o,e⟩)<;>rw [h] at e<;>cases e
theorem xFq {p:Addr} {xs ys:List V} (h:H p=some (.lst xs)):¬ Rd H p (.tup ys):=by
  rintro (e | ⟨o,e⟩)<;>rw [h] at e<;>cases e
theorem lMq {p:Addr} {o:HO} (hp:∀ ys,¬ Rd H p (.tup ys)) (hl:∀ o ys,H p≠some (.frz o ys)):Mono K H (upd H p o) where
  tp:=λ _ _ q=>uOq hp q
  fr:=λ a xs q=>by
    rcases q with ⟨z,q⟩ | q
    . exact .inl ⟨z,by rw [b0q (by rintro rfl;exact hl _ _ q)];exact q⟩
    . exact .inr q
  fz:=λ a u q=>by rw [b0q (by rintro rfl;exact hl _ _ q)];exact q
theorem dQq {p:Addr} {o:HO} (h:H p=none):Mono K H (upd H p o):=lMq (λ _=>t3q h) λ _ _ e=>by rw [h] at e;cases e
theorem bWq {p:Addr} {o:HO} {xs:List V} (h:H p=some (.lst xs)):Mono K H (upd H p o):=lMq (λ _=>xFq h) λ _ _ e=>by rw [h] at e;cases e
theorem Go.newT (v:Vw K G H) {p:Addr} {o:HO} (h:H p=none):Go K G H G (upd H p o) where
  tup:=dQq h
  dom:=λ a u e=>⟨u,by rw [b0q (b1q e h)];exact e⟩
  same:=λ a u e _=>by rw [b0q (b1q e h)];exact e
  new:=λ _ _ _ e=>e
  vw:=λ a u e=>(v a u e).mono (dQq h) (b0q (by rintro rfl;obtain ⟨z,q⟩:=(v _ _ e).some;rw [h] at q;cases q))
theorem Go.newL (v:Vw K G H) {p:Addr} {ds:List D} {vs:List V} (h:H p=none) (r:AbsL K H ds vs):Go K G H (up G p (.lst ds)) (upd H p (.lst vs)) where
  tup:=dQq h
  dom:=λ a u e=>⟨u,by rw [b0q (b1q e h)];exact e⟩
  same:=λ a u e _=>by rw [b0q (b1q e h)];exact e
  new:=λ a u e n=>by rw [aRq (b1q e h)];exact n
  vw:=λ a u e=>by
    by_cases c:a=p
    . subst c;rw [a4q] at e;cases e
      exact ⟨vs,bHq,r.mono (dQq h)⟩
    . rw [aRq c] at e
      exact (v a u e).mono (dQq h) (b0q c)
theorem Go.setL (v:Vw K G H) {p:Addr} {ds0 ds:List D} {vs:List V} (h:G p=some (.lst ds0)) (r:AbsL K H ds vs):Go K G H (up G p (.lst ds)) (upd H p (.lst vs)):=by
  obtain ⟨us,hp,_⟩:=v p _ h
  exact {
    tup:=bWq hp
    dom:=λ a u e=>by
      by_cases c:a=p
      . subst c;exact ⟨_,bHq⟩
      . exact ⟨u,by rw [b0q c];exact e⟩
    same:=λ a u e n=>by
      have c:a≠p:=by rintro rfl;rw [h] at n;cases n
      rw [b0q c];exact e
    new:=λ a u e n=>by
      have c:a≠p:=by rintro rfl;rw [h] at n;cases n
      rw [aRq c];exact n
    vw:=λ a u e=>by
      by_cases c:a=p
      . subst c;rw [a4q] at e;cases e
        exact ⟨vs,bHq,r.mono (bWq hp)⟩
      . rw [aRq c] at e
        exact (v a u e).mono (bWq hp) (b0q c) }
theorem Go.grow (v:Vw K G H) (h:Same H H'):Go K G H G H':=by
  have ht:Mono K H H':=⟨λ b xs q=>by
    rcases q with q | q
    . rcases q with q | ⟨o,q⟩
      . exact .inl (.inl (h _ _ q))
      . exact .inl (.inr ⟨o,h _ _ q⟩)
    . exact .inr q,λ b xs q=>by
    rcases q with ⟨o,q⟩ | q
    . exact .inl ⟨o,h _ _ q⟩
    . exact .inr q,λ b o q=>h _ _ q⟩
  exact ⟨ht,λ a o e=>⟨o,h a o e⟩,λ a o e _=>h a o e,λ _ _ _ e=>e,λ a u e=>by
    obtain ⟨z,q⟩:=(v a u e).some
    exact (v a u e).mono ht (by rw [q];exact h _ _ q)⟩
end
structure Bears (K:PySem.W.Frag) (ρ:DSt) (G:DV) (σ:St) (H:Hp):Prop where
  len:ρ.length=σ.length
  st:∀ (i:Nat) (d:D),ρ[i]?=some (some d)->∃ v,σ[i]?=some (some v)/\Abs K H d v
  vw:Vw K G H
theorem Bears.go {K:PySem.W.Frag} {ρ:DSt} {G G':DV} {σ:St} {H H':Hp} (b:Bears K ρ G σ H) (g:Go K G H G' H'):Bears K ρ G' σ H':=
  ⟨b.len,λ i d e=>let ⟨v,h1,h2⟩:=b.st i d e;⟨v,h1,h2.mono g.tup⟩,g.vw⟩
theorem Bears.set {K:PySem.W.Frag} {ρ:DSt} {G:DV} {σ:St} {H:Hp} {d:D} {v:V} (b:Bears K ρ G σ H) (h:Abs K H d v) (i:Nat):Bears K (ρ.set i (some d)) G (σ.set i (some v)) H where
  len:=by simp [b.len]
  vw:=b.vw
  st:=λ j e he=>by
    by_cases c:j=i
    . subst c
      rw [List.getElem?_set] at he ⊢
      have l:=b.len
      simp only [if_true] at he ⊢
      split at he
      . next q=>rw [if_pos (by omega)];simp at he;subst he;exact ⟨v,rfl,h⟩
      . cases he
    . rw [List.getElem?_set_ne (by omega)] at he ⊢
      exact b.st j e he
def StSub (ρ ρ':DSt):Prop:=ρ.length=ρ'.length/\∀ (i:Nat) (d:D),ρ[i]?=some (some d)->ρ'[i]?=some (some d)
theorem StSub.refl (ρ:DSt):StSub ρ ρ:=⟨rfl,λ _ _ e=>e⟩
theorem Bears.weak {K:PySem.W.Frag} {ρ ρ':DSt} {G G':DV} {σ:St} {H:Hp} (b:Bears K ρ' G' σ H) (s:StSub ρ ρ') (g:Sub G G'):Bears K ρ G σ H:=
  ⟨s.1.trans b.len,λ i d e=>b.st i d (s.2 i d e),b.vw.sub g⟩
abbrev DK:=D->DV->Prop
abbrev DTE:=DSt->DV->DK->Prop
abbrev DTT:=DSt->DV->(Bool->DV->Prop)->Prop
abbrev DTA:=DSt->DV->(List D->DV->Prop)->Prop
abbrev DTO:=DSt->DV->(Option Int->DV->Prop)->Prop
structure DEnds where
  nx:DSt->DV->Prop
  rt:DK
  bk:DSt->DV->Prop:=λ _ _=>False
  ct:DSt->DV->Prop:=λ _ _=>False
abbrev DTS:=DEnds->DSt->DV->Prop
abbrev Fin (K:PySem.W.Frag) (G:DV) (H:Hp) (DQ:DK) (Q:VK):Prop:=∀ d G' v H',Go K G H G' H'->Abs K H' d v->DQ d G'->Q v H'
abbrev FinB (K:PySem.W.Frag) (G:DV) (H:Hp) (DQ:Bool->DV->Prop) (Q:Bool->Hp->Prop):Prop:=∀ b G' H',Go K G H G' H'->DQ b G'->Q b H'
abbrev FinO (K:PySem.W.Frag) (G:DV) (H:Hp) (DQ:Option Int->DV->Prop) (Q:Option Int->Hp->Prop):Prop:=∀ b G' H',Go K G H G' H'->DQ b G'->Q b H'
abbrev FinL (K:PySem.W.Frag) (n:Nat) (G:DV) (H:Hp) (DQ:List D->DV->Prop) (Q:List V->Hp->Prop):Prop:=∀ ds G' vs H',Go K G H G' H'->AbsL K H' ds vs->ds.length=n->DQ ds G'->Q vs H'
structure AE (X:Cx) (e:Expr) (t:DTE):Prop where
  run:∃ tc:TE,JE X e tc/\∀ ρ G DQ σ H Q,Bears X.K ρ G σ H->t ρ G DQ->Fin X.K G H DQ Q->tc σ H Q
structure AT (X:Cx) (e:Expr) (t:DTT):Prop where
  run:∃ tc:TT,JT X e tc/\∀ ρ G DQ σ H Q,Bears X.K ρ G σ H->t ρ G DQ->FinB X.K G H DQ Q->tc σ H Q
structure AW (X:Cx) (e:Expr) (t:DTT):Prop where
  run:∃ tc:TT,JW X e tc/\∀ ρ G DQ σ H Q,Bears X.K ρ G σ H->t ρ G DQ->FinB X.K G H DQ Q->tc σ H Q
structure AA (X:Cx) (es:List Expr) (t:DTA):Prop where
  run:∃ tc:TA,JA X es tc/\∀ ρ G DQ σ H Q,Bears X.K ρ G σ H->t ρ G DQ->FinL X.K es.length G H DQ Q->tc σ H Q
structure AO (X:Cx) (e:Option Expr) (t:DTO):Prop where
  run:∃ tc:TO,JO X e tc/\∀ ρ G DQ σ H Q,Bears X.K ρ G σ H->t ρ G DQ->FinO X.K G H DQ Q->tc σ H Q
structure EndsOk (K:PySem.W.Frag) (G:DV) (H:Hp) (DD:DEnds) (Dc:Ends):Prop where
  nx:∀ ρ G' σ H',Go K G H G' H'->Bears K ρ G' σ H'->DD.nx ρ G'->Dc.nx σ H'
  rt:Fin K G H DD.rt Dc.rt
  bk:∀ ρ G' σ H',Go K G H G' H'->Bears K ρ G' σ H'->DD.bk ρ G'->Dc.bk σ H'
  ct:∀ ρ G' σ H',Go K G H G' H'->Bears K ρ G' σ H'->DD.ct ρ G'->Dc.ct σ H'
structure AS (X:Cx) (st:Stmt) (t:DTS):Prop where
  run:∃ tc:TS,JS X st tc/\∀ DD Dc ρ G σ H,Bears X.K ρ G σ H->t DD ρ G->EndsOk X.K G H DD Dc->tc Dc σ H
structure AB (X:Cx) (st:List Stmt) (t:DTS):Prop where
  run:∃ tc:TS,JB X st tc/\∀ DD Dc ρ G σ H,Bears X.K ρ G σ H->t DD ρ G->EndsOk X.K G H DD Dc->tc Dc σ H
abbrev DTG:=D->DSt->DV->(DSt->DV->Prop)->Prop
abbrev tNq:=List D->DSt->DV->(DSt->DV->Prop)->Prop
abbrev FinS (K:PySem.W.Frag) (G:DV) (H:Hp) (DQ:DSt->DV->Prop) (Q:St->Hp->Prop):Prop:=∀ ρ G' σ H',Go K G H G' H'->Bears K ρ G' σ H'->DQ ρ G'->Q σ H'
structure AG (X:Cx) (tg:Expr) (t:DTG):Prop where
  run:∃ tc:TG,JG X tg tc/\∀ d v ρ G DQ σ H Q,Bears X.K ρ G σ H->Abs X.K H d v->t d ρ G DQ->FinS X.K G H DQ Q->tc v σ H Q
structure AGs (X:Cx) (tgs:List Expr) (t:tNq):Prop where
  run:∃ tc:TGs,JGs X tgs tc/\∀ ds vs ρ G DQ σ H Q,Bears X.K ρ G σ H->AbsL X.K H ds vs->t ds ρ G DQ->FinS X.K G H DQ Q->tc vs σ H Q
abbrev DR1:=D->DV->DK->Prop
abbrev DR2:=D->D->DV->DK->Prop
abbrev DRL:=List D->DV->DK->Prop
structure AOp (X:Cx) (f:Value->Value->Sem Value) (r:DR2):Prop where
  run:∃ rc:R2,JOp X f rc/\∀ x y vx vy G H DQ Q,Vw X.K G H->Abs X.K H x vx->Abs X.K H y vy->r x y G DQ->Fin X.K G H DQ Q->rc vx vy H Q
structure AUn (X:Cx) (f:Value->Sem Value) (r:DR1):Prop where
  run:∃ rc:V->Hp->VK->Prop,JUn X f rc/\∀ x vx G H DQ Q,Vw X.K G H->Abs X.K H x vx->r x G DQ->Fin X.K G H DQ Q->rc vx H Q
structure ACall (X:Cx) (f:Value) (r:DRL):Prop where
  run:∃ rc:List V->Hp->VK->Prop,JCall X f rc/\∀ xs vs G H DQ Q,Vw X.K G H->AbsL X.K H xs vs->r xs G DQ->Fin X.K G H DQ Q->rc vs H Q
structure AIx (X:Cx) (r:DR2):Prop where
  run:∃ rc:R2,JIx X rc/\∀ x y vx vy G H DQ Q,Vw X.K G H->Abs X.K H x vx->Abs X.K H y vy->r x y G DQ->Fin X.K G H DQ Q->rc vx vy H Q
structure ASl (X:Cx) (r:D->Option Int->Option Int->DV->DK->Prop):Prop where
  run:∃ rc,JSl X rc/\∀ x vx lo hi G H DQ Q,Vw X.K G H->Abs X.K H x vx->r x lo hi G DQ->Fin X.K G H DQ Q->rc vx lo hi H Q
theorem Fin.after {K:PySem.W.Frag} {G G1:DV} {H H1:Hp} {DQ:DK} {Q:VK} (F:Fin K G H DQ Q) (g:Go K G H G1 H1):Fin K G1 H1 DQ Q:=λ d G' v H' g' a q=>F d G' v H' (g.trans g') a q
theorem EndsOk.after {K:PySem.W.Frag} {G G1:DV} {H H1:Hp} {DD:DEnds} {Dc:Ends} (F:EndsOk K G H DD Dc) (g:Go K G H G1 H1):EndsOk K G1 H1 DD Dc:=
  ⟨λ ρ G' σ H' g' b q=>F.nx ρ G' σ H' (g.trans g') b q,λ d G' v H' g' a q=>F.rt d G' v H' (g.trans g') a q,λ ρ G' σ H' g' b q=>F.bk ρ G' σ H' (g.trans g') b q,λ ρ G' σ H' g' b q=>F.ct ρ G' σ H' (g.trans g') b q⟩
end L3
namespace L3
open PySem PySem.Spec L2
section
variable {X:Cx} {a b c e o i:Expr} {es:List Expr} {ta tb te to ti:DTE} {t:DTA} {pos p apos cpos:Pos}
abbrev dC (d:D):DTE:=λ _ G Q=>Q d G
abbrev dVar (k:Nat):DTE:=λ ρ G Q=>match ρ[k]? with
  | some (some d)=>Q d G
  | _=>False
theorem yMq {v:V} {d:D} (h:JE X e (tC v)) (r:∀ H,Abs X.K H d v):AE X e (dC d):=⟨_,h,λ ρ G DQ σ H Q B q F=>F d G v H (.refl B.vw) (r H) q⟩
theorem a3q {n:Int} {j}:AE X (.Constant (.int n) j pos) (dC (.int n)):=yMq aA4q λ _=>rfl
theorem k7q {n:Bool} {j}:AE X (.Constant (.bool n) j pos) (dC (.bl n)):=yMq aJ1q λ _=>rfl
theorem a8q {x:Str} {j}:AE X (.Constant (.str x) j pos) (dC (.str x)):=yMq ySq λ _=>rfl
theorem a1q (k:Nat) {x:Str} (hN:X.N[k]?=some x:=by rfl) (hv:Vis X.env.scope x:=by first | exact Or.inl rfl | exact Or.inr (Or.inl rfl) | exact Or.inr (Or.inr rfl)) (hd:(x==("__debug__" : Str))=false:=by decide)
    (hcd:(x==("__classdict__" : Str))=false:=by decide):AE X (.Name x pos) (dVar k):=⟨_,jv k hN hv hd hcd,λ ρ G DQ σ H Q B q F=>by
  unfold dVar at q
  split at q
  . next d h=>
    obtain ⟨v,h1,h2⟩:=B.st k d h
    exact ⟨v,h1,F d G v H (.refl B.vw) h2 q⟩
  . exact q.elim⟩
theorem bJq {x:Str} {n:String} (hg:Gl X x) (hm:X.mg x=none) (hv:bootBuiltins x=some (.type n)) (hn:x≠"__name__":=by decide) (hd:(x==("__debug__" : Str))=false:=by decide):AE X (.Name x pos) (dC (.ty n)):=
  yMq (v2q (v:=.ty n) hg hm hv rfl hn hd) λ _=>rfl
theorem cTq {x:Str} {v:V} {u:Value} {d:D} (hg:Gl X x) (hm:X.mg x=some u) (r:RelV v u) (ha:∀ H,Abs X.K H d v) (hd:(x==("__debug__" : Str))=false:=by decide):AE X (.Name x pos) (dC d):=yMq (uBq hg hm r hd) ha
abbrev dNil:DTA:=λ _ G Q=>Q [] G
abbrev aM6q (ta:DTE) (tr:DTA):DTA:=λ ρ G Q=>ta ρ G λ x G1=>tr ρ G1 λ xs G2=>Q (x::xs) G2
theorem a2q:AA X [] dNil:=⟨_,wKq,λ ρ G DQ σ H Q B q F=>F [] G [] H (.refl B.vw) rfl rfl q⟩
theorem a0q (ha:AE X e te) (hr:AA X es t) (hs:bAq e=true:=by rfl):AA X (e::es) (aM6q te t):=by
  obtain ⟨ca,ja,ra⟩:=ha.run
  obtain ⟨cr,jr,rr⟩:=hr.run
  refine ⟨_,tDq ja jr hs,λ ρ G DQ σ H Q B q F=>?_⟩
  refine ra ρ G _ σ H _ B q λ x G1 v H1 g1 ax q1=>rr ρ G1 _ σ H1 _ (B.go g1) q1 λ xs G2 vs H2 g2 axs hl q2=>?_
  exact F (x::xs) G2 (v::vs) H2 (g1.trans g2) ⟨v,vs,rfl,ax.mono g2.tup,axs⟩ (by simp [hl]) q2
abbrev dTup (t:DTA):DTE:=λ ρ G Q=>t ρ G λ ds G1=>Q (.tup ds) G1
abbrev dLst (t:DTA):DTE:=λ ρ G Q=>t ρ G λ ds G1=>∀ p,G1 p=none->Q (.ref p) (up G1 p (.lst ds))
theorem hJq {n:Nat} (h:Nat.ble n 1000=true):n<=sizeLine:=by
  have:=Nat.le_of_ble_eq_true h
  rw [sizeLine_eq];omega
theorem b4q {x1} (h:AA X es t) (hl:Nat.ble es.length 1000=true:=by rfl):AE X (.Tuple es x1 pos) (dTup t):=by
  obtain ⟨ca,ja,ra⟩:=h.run
  refine ⟨_,aA2q ja,λ ρ G DQ σ H Q B q F=>ra ρ G _ σ H _ B q λ ds G1 vs H1 g1 al hn q1=>⟨by rw [al.len,hn];exact hJq hl,λ p hp=>?_⟩⟩
  have g2:=Go.newT (o:=.tup vs) g1.vw hp
  exact F (.tup ds) G1 _ _ (g1.trans g2) ⟨p,vs,rfl,.of bHq,al.mono g2.tup⟩ q1
theorem b7q (h:AA X es t) (hl:Nat.ble es.length 1000=true:=by rfl):AE X (.List es pos) (dLst t):=by
  obtain ⟨ca,ja,ra⟩:=h.run
  refine ⟨_,sYq ja,λ ρ G DQ σ H Q B q F=>ra ρ G _ σ H _ B q λ ds G1 vs H1 g1 al hn q1=>⟨by rw [al.len,hn];exact hJq hl,λ p hp=>?_⟩⟩
  exact F (.ref p) _ _ _ (g1.trans (Go.newL g1.vw hp al)) rfl (q1 p (g1.vw.none hp))
def atN (ds:List D):Int->Option D
  | .ofNat k=>ds[k]?
  | .negSucc k=>atI ds (.negSucc k)
theorem sJq (ds:List D) (i:Int):atN ds i=atI ds i:=by
  cases i with
  | negSucc k=>rfl
  | ofNat k=>
    show ds[k]?=atI ds (k:Int)
    by_cases h:k < ds.length
    . rw [List.getElem?_eq_getElem h]
      exact (bCq (List.getElem?_eq_getElem h)).symm
    . rw [List.getElem?_eq_none (by omega)]
      unfold atI ixN
      rw [if_pos (by omega),if_neg (by omega)];rfl
def atD (ds:List D) (i:Int) (G:DV) (Q:DK):Prop:=match atN ds i with
  | some d=>Q d G
  | none=>False
theorem iQq {ds:List D} {i:Int} {G:DV} {Q:DK} {d:D} (h:atI ds i=some d) (q:Q d G):atD ds i G Q:=by unfold atD;rw [sJq,h];exact q
@[irreducible] def onL (G:DV) (l:Addr) (k:List D->Prop):Prop:=match G l with
  | some (.lst ds)=>k ds
  | _=>False
@[irreducible] def onM (G:DV) (l:Addr) (k:List D->Prop):Prop:=match G l with
  | some (.lst ds)=>k ds
  | _=>False
theorem a7q {G:DV} {l:Addr} {k:List D->Prop} {ds:List D} (h:G l=some (.lst ds)) (q:k ds):onL G l k:=by unfold onL;rw [h];exact q
theorem aMq {G:DV} {l:Addr} {k:List D->Prop} {ds:List D} (h:G l=some (.lst ds)) (q:k ds):onM G l k:=by unfold onM;rw [h];exact q
theorem b9q {K:PySem.W.Frag} {G:DV} {H:Hp} {l:Addr} {k:List D->Prop} (v:Vw K G H) (h:onL G l k):∃ ds vs,k ds/\SqL K H l vs/\AbsL K H ds vs:=by
  unfold onL at h
  split at h
  . next ds e=>obtain ⟨vs,z,r⟩:=v _ _ e;exact ⟨ds,vs,h,.of z,r⟩
  . exact h.elim
theorem d1q {K:PySem.W.Frag} {G:DV} {H:Hp} {l:Addr} {k:List D->Prop} (v:Vw K G H) (h:onM G l k):∃ ds vs,k ds/\G l=some (.lst ds)/\H l=some (.lst vs)/\AbsL K H ds vs:=by
  unfold onM at h
  split at h
  . next ds e=>obtain ⟨vs,z,r⟩:=v _ _ e;exact ⟨ds,vs,h,e,z,r⟩
  . exact h.elim
abbrev dOp (r:DR2) (ta tb:DTE):DTE:=λ ρ G Q=>ta ρ G λ x G1=>tb ρ G1 λ y G2=>r x y G2 Q
abbrev dUn (r:DR1) (ta:DTE):DTE:=λ ρ G Q=>ta ρ G λ x G1=>r x G1 Q
theorem aSq {op:Operator} {r:DR2} (ho:AOp X (binaryOp op) r) (ha:AE X a ta) (hb:AE X b tb):AE X (.BinOp a op b pos) (dOp r ta tb):=by
  obtain ⟨ca,ja,ra⟩:=ha.run
  obtain ⟨cb,jb,rb⟩:=hb.run
  obtain ⟨co,jo,ro⟩:=ho.run
  refine ⟨_,aF2q jo ja jb,λ ρ G DQ σ H Q B q F=>?_⟩
  exact ra ρ G _ σ H _ B q λ x G1 v H1 g1 ax q1=>rb ρ G1 _ σ H1 _ (B.go g1) q1 λ y G2 u H2 g2 ay q2=>ro x y v u G2 H2 DQ Q g2.vw (ax.mono g2.tup) ay q2 (F.after (g1.trans g2))
theorem cDq {op:CmpOp} {r:DR2} (ho:AOp X (compareOp op) r) (ha:AE X a ta) (hb:AE X b tb) (hm:behindInMarks op b=false):AE X (.Compare a [op] [b] pos) (dOp r ta tb):=by
  obtain ⟨ca,ja,ra⟩:=ha.run
  obtain ⟨cb,jb,rb⟩:=hb.run
  obtain ⟨co,jo,ro⟩:=ho.run
  refine ⟨_,vGq jo ja jb hm,λ ρ G DQ σ H Q B q F=>?_⟩
  exact ra ρ G _ σ H _ B q λ x G1 v H1 g1 ax q1=>rb ρ G1 _ σ H1 _ (B.go g1) q1 λ y G2 u H2 g2 ay q2=>ro x y v u G2 H2 DQ Q g2.vw (ax.mono g2.tup) ay q2 (F.after (g1.trans g2))
theorem i2q {op:UnaryOp} {r:DR1} (ho:AUn X (unaryOp op) r) (ha:AE X a ta):AE X (.UnaryOp op a pos) (dUn r ta):=by
  obtain ⟨ca,ja,ra⟩:=ha.run
  obtain ⟨co,jo,ro⟩:=ho.run
  refine ⟨_,aG7q jo ja,λ ρ G DQ σ H Q B q F=>?_⟩
  exact ra ρ G _ σ H _ B q λ x G1 v H1 g1 ax q1=>ro x v G1 H1 DQ Q g1.vw ax q1 (F.after g1)
theorem aGq {r:DR2} (hr:AIx X r) (ha:AE X a ta) (hb:AE X b tb) (hs:i7q b):AE X (.Subscript a b pos) (dOp r ta tb):=by
  obtain ⟨ca,ja,ra⟩:=ha.run
  obtain ⟨cb,jb,rb⟩:=hb.run
  obtain ⟨co,jo,ro⟩:=hr.run
  refine ⟨_,xNq jo ja jb hs,λ ρ G DQ σ H Q B q F=>?_⟩
  exact ra ρ G _ σ H _ B q λ x G1 v H1 g1 ax q1=>rb ρ G1 _ σ H1 _ (B.go g1) q1 λ y G2 u H2 g2 ay q2=>ro x y v u G2 H2 DQ Q g2.vw (ax.mono g2.tup) ay q2 (F.after (g1.trans g2))
def Br (c:Bool) (A B:Prop):Prop:=(c=true->A)/\(c=false->B)
abbrev blD (x:D) (k:Bool->Prop):Prop:=match x with
  | .bl c=>k c
  | _=>False
theorem hEq {K:PySem.W.Frag} {H:Hp} {x:D} {v:V} {k:Bool->Prop} (h:blD x k) (r:Abs K H x v):∃ c,v=.bl c/\x=.bl c/\k c:=by
  unfold blD at h
  split at h
  . exact ⟨_,r,rfl,h⟩
  . exact h.elim
abbrev aF4q (ta tb:DTE):DTE:=λ ρ G Q=>ta ρ G λ x G1=>blD x λ c=>Br c (tb ρ G1 Q) (Q (.bl false) G1)
abbrev dOrV (ta tb:DTE):DTE:=λ ρ G Q=>ta ρ G λ x G1=>blD x λ c=>Br c (Q (.bl true) G1) (tb ρ G1 Q)
abbrev aL4q (ta:DTE):DTE:=λ ρ G Q=>ta ρ G λ x G1=>blD x λ c=>Q (.bl (!c)) G1
theorem dEq {op} (h:AE X a ta):AE X (.BoolOp op [a] pos) ta:=by
  obtain ⟨ca,ja,ra⟩:=h.run
  exact ⟨_,zTq ja,ra⟩
theorem cIq {rest:List Expr} (ha:AE X a ta) (hb:AE X (.BoolOp .And (b::rest) pos) tb):AE X (.BoolOp .And (a::b::rest) pos) (aF4q ta tb):=by
  obtain ⟨ca,ja,ra⟩:=ha.run
  obtain ⟨cb,jb,rb⟩:=hb.run
  refine ⟨_,yNq ja jb,λ ρ G DQ σ H Q B q F=>ra ρ G _ σ H _ B q λ x G1 v H1 g1 ax q1=>?_⟩
  obtain ⟨c,e1,e2,q2⟩:=hEq q1 ax
  refine ⟨c,e1,?_⟩
  cases c with
  | true=>exact rb ρ G1 _ σ H1 _ (B.go g1) (q2.1 rfl) (F.after g1)
  | false=>exact F (.bl false) _ _ _ g1 rfl (q2.2 rfl)
theorem aG4q {rest:List Expr} (ha:AE X a ta) (hb:AE X (.BoolOp .Or (b::rest) pos) tb):AE X (.BoolOp .Or (a::b::rest) pos) (dOrV ta tb):=by
  obtain ⟨ca,ja,ra⟩:=ha.run
  obtain ⟨cb,jb,rb⟩:=hb.run
  refine ⟨_,aM5q ja jb,λ ρ G DQ σ H Q B q F=>ra ρ G _ σ H _ B q λ x G1 v H1 g1 ax q1=>?_⟩
  obtain ⟨c,e1,e2,q2⟩:=hEq q1 ax
  refine ⟨c,e1,?_⟩
  cases c with
  | false=>exact rb ρ G1 _ σ H1 _ (B.go g1) (q2.2 rfl) (F.after g1)
  | true=>exact F (.bl true) _ _ _ g1 rfl (q2.1 rfl)
theorem oPq (ha:AE X a ta):AE X (.UnaryOp .Not a pos) (aL4q ta):=by
  obtain ⟨ca,ja,ra⟩:=ha.run
  refine ⟨_,zNq ja,λ ρ G DQ σ H Q B q F=>ra ρ G _ σ H _ B q λ x G1 v H1 g1 ax q1=>?_⟩
  obtain ⟨c,e1,e2,q2⟩:=hEq q1 ax
  exact ⟨c,e1,F (.bl (!c)) _ _ _ g1 rfl q2⟩
abbrev dIf (tc:DTT) (ta tb:DTE):DTE:=λ ρ G Q=>tc ρ G λ c G1=>Br c (ta ρ G1 Q) (tb ρ G1 Q)
theorem qWq {tc:DTT} (hc:AT X c tc) (ha:AE X a ta) (hb:AE X b tb):AE X (.IfExp c a b pos) (dIf tc ta tb):=by
  obtain ⟨cc,jc,rc⟩:=hc.run
  obtain ⟨ca,ja,ra⟩:=ha.run
  obtain ⟨cb,jb,rb⟩:=hb.run
  refine ⟨_,rGq jc ja jb,λ ρ G DQ σ H Q B q F=>rc ρ G _ σ H _ B q λ c G1 H1 g1 q1=>?_⟩
  cases c with
  | true=>exact ra ρ G1 _ σ H1 _ (B.go g1) (q1.1 rfl) (F.after g1)
  | false=>exact rb ρ G1 _ σ H1 _ (B.go g1) (q1.2 rfl) (F.after g1)
abbrev zMq (t:DTE):DTT:=λ ρ G Q=>t ρ G λ x G1=>blD x λ c=>Q c G1
theorem aBq {op:CmpOp} {r:DR2} (ho:AOp X (compareOp op) r) (ha:AE X a ta) (hb:AE X b tb) (hm:behindInMarks op b=false):AT X (.Compare a [op] [b] pos) (zMq (dOp r ta tb)):=by
  obtain ⟨ca,ja,ra⟩:=ha.run
  obtain ⟨cb,jb,rb⟩:=hb.run
  obtain ⟨co,jo,ro⟩:=ho.run
  refine ⟨_,vQq jo ja jb hm,λ ρ G DQ σ H Q B q F=>?_⟩
  refine ra ρ G _ σ H _ B q λ x G1 v H1 g1 ax q1=>rb ρ G1 _ σ H1 _ (B.go g1) q1 λ y G2 u H2 g2 ay q2=>ro x y v u G2 H2 _ _ g2.vw (ax.mono g2.tup) ay q2 λ z G3 w H3 g3 az q3=>?_
  obtain ⟨c,e1,e2,q4⟩:=hEq q3 az
  exact ⟨c,e1,F c G3 H3 ((g1.trans g2).trans g3) q4⟩
abbrev dNot (tc:DTT):DTT:=λ ρ G Q=>tc ρ G λ c G1=>Q (!c) G1
abbrev dAnd (tc td:DTT):DTT:=λ ρ G Q=>tc ρ G λ c G1=>Br c (td ρ G1 Q) (Q false G1)
abbrev dOr (tc td:DTT):DTT:=λ ρ G Q=>tc ρ G λ c G1=>Br c (Q true G1) (td ρ G1 Q)
theorem d7q {tc:DTT} (ha:AT X a tc):AT X (.UnaryOp .Not a pos) (dNot tc):=by
  obtain ⟨ca,ja,ra⟩:=ha.run
  exact ⟨_,x5q ja,λ ρ G DQ σ H Q B q F=>ra ρ G _ σ H _ B q λ c G1 H1 g1 q1=>F _ _ _ g1 q1⟩
theorem c8q {tc:DTT} (ha:AT X a tc):AW X (.BoolOp .And [a] pos) tc:=by
  obtain ⟨ca,ja,ra⟩:=ha.run
  exact ⟨_,tZq ja,ra⟩
theorem cMq {tc:DTT} (ha:AT X a tc):AW X (.BoolOp .Or [a] pos) tc:=by
  obtain ⟨ca,ja,ra⟩:=ha.run
  exact ⟨_,aA9q ja,ra⟩
theorem d3q {tc td:DTT} {rest:List Expr} (ha:AT X a tc) (hb:AW X (.BoolOp .And (b::rest) pos) td):AW X (.BoolOp .And (a::b::rest) pos) (dAnd tc td):=by
  obtain ⟨ca,ja,ra⟩:=ha.run
  obtain ⟨cb,jb,rb⟩:=hb.run
  refine ⟨_,aB7q ja jb,λ ρ G DQ σ H Q B q F=>ra ρ G _ σ H _ B q λ c G1 H1 g1 q1=>?_⟩
  cases c with
  | true=>exact rb ρ G1 _ σ H1 _ (B.go g1) (q1.1 rfl) λ c G' H' g'=>F c G' H' (g1.trans g')
  | false=>exact F _ _ _ g1 (q1.2 rfl)
theorem dBq {tc td:DTT} {rest:List Expr} (ha:AT X a tc) (hb:AW X (.BoolOp .Or (b::rest) pos) td):AW X (.BoolOp .Or (a::b::rest) pos) (dOr tc td):=by
  obtain ⟨ca,ja,ra⟩:=ha.run
  obtain ⟨cb,jb,rb⟩:=hb.run
  refine ⟨_,aJ5q ja jb,λ ρ G DQ σ H Q B q F=>ra ρ G _ σ H _ B q λ c G1 H1 g1 q1=>?_⟩
  cases c with
  | false=>exact rb ρ G1 _ σ H1 _ (B.go g1) (q1.2 rfl) λ c G' H' g'=>F c G' H' (g1.trans g')
  | true=>exact F _ _ _ g1 (q1.1 rfl)
theorem AW.at {tc:DTT} (h:AW X e tc):AT X e tc:=by
  obtain ⟨ca,ja,ra⟩:=h.run
  exact ⟨_,ja.pt,ra⟩
def truD (x:D) (G:DV) (k:Bool->Prop):Prop:=match x with
  | .non=>k false
  | .bl b=>k b
  | .int i=>k (i !=0)
  | .str y=>y.length<=sizeLine/\k ((y.length:Int) !=0)
  | .tup ds=>k (!ds.isEmpty)
  | .ref p=>onL G p λ ds=>k (!ds.isEmpty)
  | _=>False
theorem AbsL.isEmpty {K:PySem.W.Frag} {H:Hp} {ds:List D} {vs:List V} (h:AbsL K H ds vs):vs.isEmpty=ds.isEmpty:=by
  have:=h.len
  cases ds<;>cases vs<;>simp_all
abbrev aA3q (t:DTE):DTT:=λ ρ G Q=>t ρ G λ x G1=>truD x G1 λ c=>Q c G1
theorem b2q (ha:AE X a ta) (he:∀ whole,isTrue a X.env whole=(do let v ← whole;standAt a.pos;holding [v] (truthy v)):=by intro _;rfl):AT X a (aA3q ta):=by
  obtain ⟨ca,ja,ra⟩:=ha.run
  refine ⟨_,rLq ja he,λ ρ G DQ σ H Q B q F=>ra ρ G _ σ H _ B q λ x G1 v H1 g1 ax q1=>?_⟩
  cases x with
  | non=>cases ax;exact ⟨_,rfl,F _ _ _ g1 q1⟩
  | bl b=>cases ax;exact ⟨_,rfl,F _ _ _ g1 q1⟩
  | int i=>cases ax;exact ⟨_,rfl,F _ _ _ g1 q1⟩
  | str y=>cases ax;exact ⟨_,⟨q1.1,rfl⟩,F _ _ _ g1 q1.2⟩
  | ref l=>
    cases ax
    obtain ⟨ds,vs,k,s,r⟩:=b9q g1.vw q1
    exact ⟨_,.inl ⟨vs,s,rfl⟩,by rw [r.isEmpty];exact F _ _ _ g1 k⟩
  | tup ds=>
    obtain ⟨l,vs,rfl,s,r⟩:=ax
    exact ⟨_,.inr (.inl ⟨vs,s,rfl⟩),by rw [r.isEmpty];exact F _ _ _ g1 q1⟩
  | ty n=>exact (show False from q1).elim
  | frl ds=>exact (show False from q1).elim
abbrev uTq:DTO:=λ _ G Q=>Q none G
abbrev aH7q (t:DTE):DTO:=λ ρ G Q=>t ρ G λ x G1=>match x with
  | .int i=>Q (some i) G1
  | _=>False
theorem cPq:AO X none uTq:=⟨_,t9q,λ ρ G DQ σ H Q B q F=>F none G H (.refl B.vw) q⟩
theorem b8q (h:AE X e te):AO X (some e) (aH7q te):=by
  obtain ⟨ca,ja,ra⟩:=h.run
  refine ⟨_,uLq ja,λ ρ G DQ σ H Q B q F=>ra ρ G _ σ H _ B q λ x G1 v H1 g1 ax q1=>?_⟩
  split at q1
  . next i=>exact ⟨i,ax,F _ _ _ g1 q1⟩
  . exact q1.elim
abbrev dSl (r:D->Option Int->Option Int->DV->DK->Prop) (te:DTE) (tl th:DTO):DTE:=λ ρ G Q=>te ρ G λ x G1=>tl ρ G1 λ l G2=>th ρ G2 λ u G3=>r x l u G3 Q
theorem bQq {r:D->Option Int->Option Int->DV->DK->Prop} {lo hi:Option Expr} {tl th:DTO} {p2:Pos} (hr:ASl X r) (he:AE X e te) (hl:AO X lo tl) (hu:AO X hi th):AE X (.Subscript e (.Slice lo hi none p2) pos) (dSl r te tl th):=by
  obtain ⟨ce,je,re⟩:=he.run
  obtain ⟨cl,jl,rl⟩:=hl.run
  obtain ⟨cu,ju,ru⟩:=hu.run
  obtain ⟨cr,jr,rr⟩:=hr.run
  refine ⟨_,qFq jr je jl ju,λ ρ G DQ σ H Q B q F=>re ρ G _ σ H _ B q λ x G1 v H1 g1 ax q1=>rl ρ G1 _ σ H1 _ (B.go g1) q1 λ l G2 H2 g2 q2=>ru ρ G2 _ σ H2 _ ((B.go g1).go g2) q2 λ u G3 H3 g3 q3=>?_⟩
  exact rr x v l u G3 H3 DQ Q g3.vw ((ax.mono g2.tup).mono g3.tup) q3 (F.after ((g1.trans g2).trans g3))
abbrev aM3q:DTS:=λ D ρ G=>D.nx ρ G
abbrev dSeq (t u:DTS):DTS:=λ D ρ G=>t { D with nx:=u D } ρ G
abbrev aL0q (te:DTE):DTS:=λ D ρ G=>te ρ G λ _ G1=>D.nx ρ G1
abbrev dRet (te:DTE):DTS:=λ D ρ G=>te ρ G D.rt
abbrev dIfS (c:DTT) (t u:DTS):DTS:=λ D ρ G=>c ρ G λ b G1=>Br b (t D ρ G1) (u D ρ G1)
theorem aFq:AB X [] aM3q:=⟨_,wLq,λ DD Dc ρ G σ H B q F=>F.nx ρ G σ H (.refl B.vw) B q⟩
theorem a5q {st:Stmt} {rest:List Stmt} {ts us:DTS} (h1:AS X st ts) (h2:AB X rest us):AB X (st::rest) (dSeq ts us):=by
  obtain ⟨c1,j1,r1⟩:=h1.run
  obtain ⟨c2,j2,r2⟩:=h2.run
  refine ⟨_,tEq j1 j2,λ DD Dc ρ G σ H B q F=>r1 _ _ ρ G σ H B q ⟨λ ρ' G' σ' H' g b q=>r2 DD Dc ρ' G' σ' H' b q (F.after g),F.rt,F.bk,F.ct⟩⟩
theorem a6q {st:Stmt} {ts:DTS} (h1:AS X st ts):AB X [st] ts:=by
  obtain ⟨c1,j1,r1⟩:=h1.run
  exact ⟨_,wUq j1,r1⟩
theorem aZq (he:AE X e te) (hs:swapsWith e none pos.line X.env=pure false:=by rfl):AS X (.Expr e pos) (aL0q te):=by
  obtain ⟨c1,j1,r1⟩:=he.run
  exact ⟨_,u3q j1 hs,λ DD Dc ρ G σ H B q F=>r1 ρ G _ σ H _ B q λ d G' v H' g _ q=>F.nx ρ G' σ H' g (B.go g) q⟩
theorem aEq (he:AE X e te):AS X (.Return (some e) pos) (dRet te):=by
  obtain ⟨c1,j1,r1⟩:=he.run
  exact ⟨_,x9q j1,λ DD Dc ρ G σ H B q F=>r1 ρ G _ σ H _ B q F.rt⟩
theorem aNq {ss us:List Stmt} {tc:DTT} {ts tu:DTS} (hc:AT X c tc) (ha:AB X ss ts) (hb:AB X us tu):AS X (.If c ss us pos) (dIfS tc ts tu):=by
  obtain ⟨cc,jc,rc⟩:=hc.run
  obtain ⟨ca,ja,ra⟩:=ha.run
  obtain ⟨cb,jb,rb⟩:=hb.run
  refine ⟨_,aH1q jc ja jb,λ DD Dc ρ G σ H B q F=>rc ρ G _ σ H _ B q λ c G1 H1 g1 q1=>?_⟩
  cases c with
  | true=>exact ra DD Dc ρ G1 σ H1 (B.go g1) (q1.1 rfl) (F.after g1)
  | false=>exact rb DD Dc ρ G1 σ H1 (B.go g1) (q1.2 rfl) (F.after g1)
abbrev lJq (k:Nat):DTG:=λ d ρ G Q=>Q (ρ.set k (some d)) G
abbrev aF8q:tNq:=λ ds ρ G Q=>match ds with
  | []=>Q ρ G
  | _=>False
abbrev yRq (t:DTG) (u:tNq):tNq:=λ ds ρ G Q=>match ds with
  | d::r=>t d ρ G λ ρ' G'=>u r ρ' G' Q
  | []=>False
abbrev aK7q (t:tNq):DTG:=λ d ρ G Q=>match d with
  | .tup ds=>t ds ρ G Q
  | _=>False
theorem bLq {k:Nat} {x:Str} (hN:X.N.Nodup) (hi:X.N[k]?=some x) (hx:Loc X.env.scope x) (hf:X.fn x=true\/X.env.scope.names.lookup x=some .local:=by first | exact .inl rfl | exact .inr rfl | assumption):AG X (.Name x pos) (lJq k):=
  ⟨_,uCq hN hi hx hf,λ d v ρ G DQ σ H Q B a q F=>F _ G _ H (.refl B.vw) (B.set a k) q⟩
abbrev dAsg (te:DTE) (g:DTG):DTS:=λ D ρ G=>te ρ G λ x G1=>g x ρ G1 D.nx
theorem lPq {tg:Expr} {g:DTG} (he:AE X e te) (hg:AG X tg g) (hs:swapsWithSole [tg] e pos.line X.env=pure false:=by rfl) (hw:swappedStores [tg] e X.env=pure none:=by rfl) (h1:(assignEach [tg] X.env).map (·.2)=[assign tg X.env]:=by rfl):AS X (.Assign [tg] e pos) (dAsg te g):=by
  obtain ⟨c1,j1,r1⟩:=he.run
  obtain ⟨c2,j2,r2⟩:=hg.run
  exact ⟨_,yLq j1 j2 hs hw h1,λ DD Dc ρ G σ H B q F=>r1 ρ G _ σ H _ B q λ d G1 v H1 g1 a q1=>r2 d v ρ G1 _ σ H1 _ (B.go g1) a q1 λ ρ' G' σ' H' g' b q'=>F.nx ρ' G' σ' H' (g1.trans g') b q'⟩
theorem aJq {k:Nat} {x:Str} {pos':Pos} (hN:X.N.Nodup) (hi:X.N[k]?=some x) (hx:Loc X.env.scope x) (he:AE X e te) (hs:swapsWith e (some (.Name x pos')) pos.line X.env=pure false:=by rfl) (hf:X.fn x=true\/X.env.scope.names.lookup x=some .local:=by first | exact .inl rfl | exact .inr rfl | assumption) :
    AS X (.Assign [.Name x pos'] e pos) (dAsg te (lJq k)):=by
  obtain ⟨c1,j1,r1⟩:=he.run
  exact ⟨_,aA8q hN hi hx j1 hs hf,λ DD Dc ρ G σ H B q F=>r1 ρ G _ σ H _ B q λ d G1 v H1 g1 a q1=>F.nx _ G1 _ H1 g1 ((B.go g1).set a k) q1⟩
theorem tPq:AGs X [] aF8q:=⟨_,uGq,λ ds vs ρ G DQ σ H Q B a q F=>by
  cases ds with
  | nil=>cases a;exact ⟨rfl,F ρ G σ H (.refl B.vw) B q⟩
  | cons d r=>exact (show False from q).elim⟩
theorem lXq {tg:DTG} {u:tNq} (h1:AG X e tg) (h2:AGs X es u) (hs:(assignEach (e::es) X.env).map (·.2)=assign e X.env::(assignEach es X.env).map (·.2):=by rfl):AGs X (e::es) (yRq tg u):=by
  obtain ⟨c1,j1,r1⟩:=h1.run
  obtain ⟨c2,j2,r2⟩:=h2.run
  refine ⟨_,rOq j1 j2 hs,λ ds vs ρ G DQ σ H Q B a q F=>?_⟩
  cases ds with
  | nil=>exact (show False from q).elim
  | cons d r=>
    obtain ⟨v,us,rfl,ad,ar⟩:=a
    exact ⟨v,us,rfl,r1 d v ρ G _ σ H _ B ad q λ ρ' G' σ' H' g b q'=>r2 r us ρ' G' _ σ' H' _ b (ar.mono g.tup) q' λ ρ2 G2 σ2 H2 g2 b2 q2=>F ρ2 G2 σ2 H2 (g.trans g2) b2 q2⟩
theorem aA5q {k n:Nat} {tg:tNq} (hc:X.calm=true) (h:AGs X es tg) (hl:es.length=n:=by rfl) (hn:(assignEach es X.env).length=n:=by rfl) (hst:(assignEach es X.env).findIdx? (·.1)=none:=by rfl)
    (hlen:∀ ds ρ G Q,tg ds ρ G Q->ds.length=n:=by intro ds ρ G Q h;match ds,h with | [],h=>(first | rfl | exact (show False from h).elim) | [_],h=>(first | rfl | exact (show False from h).elim) | [_,_],h=>(first | rfl | exact (show False from h).elim) | [_,_,_],h=>(first | rfl | exact (show False from h).elim) | _::_::_::_::_,h=>exact (show False from h).elim):AG X (.Tuple es k pos) (aK7q tg):=by
  obtain ⟨c1,j1,r1⟩:=h.run
  refine ⟨_,yAq (n:=n) hc j1 hn hst,λ d v ρ G DQ σ H Q B a q F=>?_⟩
  cases d with
  | tup ds=>
    obtain ⟨l,vs,rfl,s,r⟩:=a
    exact ⟨l,vs,rfl,s,by rw [r.len];exact hlen _ _ _ _ q,r1 ds vs ρ G DQ σ H Q B r q F⟩
  | _=>exact (show False from q).elim
end
end L3
namespace L3
open PySem PySem.Spec L2
section
variable {X:Cx}
def addD:DR2:=λ x y G Q=>match x,y with
  | .int i,.int j=>Q (.int (i+j)) G
  | .str i,.str j=>i.length+j.length<=sizeLine/\Q (.str (i++j)) G
  | .tup xs,.tup ys=>xs.length+ys.length<=sizeLine/\Q (.tup (xs++ys)) G
  | .ref l,.ref m=>onM G l λ xs=>onM G m λ ys=>xs.length+ys.length<=sizeLine/\∀ p,G p=none->Q (.ref p) (up G p (.lst (xs++ys)))
  | _,_=>False
theorem aTq:AOp X (binaryOp .Add) addD:=by
  refine ⟨_,⟨op_add.or (op_add_str.or (op_catW.or yBq))⟩,λ x y vx vy G H DQ Q v ax ay r F=>?_⟩
  cases x with
  | int i=>
    cases y with
    | int j=>cases ax;cases ay;exact .inl ⟨i,j,rfl,rfl,F (.int (i+j)) G _ H (.refl v) rfl r⟩
    | _=>exact (show False from r).elim
  | str i=>
    cases y with
    | str j=>cases ax;cases ay;exact .inr (.inl ⟨i,j,rfl,rfl,r.1,F (.str (i++j)) G _ H (.refl v) rfl r.2⟩)
    | _=>exact (show False from r).elim
  | tup xs=>
    cases y with
    | tup ys=>
      obtain ⟨l,vs,rfl,s1,r1⟩:=ax
      obtain ⟨m,us,rfl,s2,r2⟩:=ay
      have l1:=r1.len
      have l2:=r2.len
      refine .inr (.inr (.inl ⟨l,m,vs,us,rfl,rfl,s1,s2,by rw [l1,l2];exact r.1,λ e=>?_,λ e e2=>?_,λ e e2 p hp=>?_⟩))
      . subst e
        have e':xs=[]:=by cases xs<;>simp_all
        subst e'
        exact F (.tup ys) G _ H (.refl v) ⟨m,us,rfl,s2,r2⟩ (by simpa using r.2)
      . subst e2
        have e':ys=[]:=by cases ys<;>simp_all
        subst e'
        exact F (.tup xs) G _ H (.refl v) ⟨l,vs,rfl,s1,r1⟩ (by simpa using r.2)
      . have g:=Go.newT (o:=.tup (vs++us)) v hp
        exact F (.tup (xs++ys)) G _ _ g ⟨p,_,rfl,.of bHq,(r1.append r2).mono g.tup⟩ r.2
    | _=>exact (show False from r).elim
  | ref l=>
    cases y with
    | ref m=>
      cases ax;cases ay
      obtain ⟨xs,vs,k1,e1,h1,r1⟩:=d1q v r
      obtain ⟨ys,us,k2,e2,h2,r2⟩:=d1q v k1
      have l1:=r1.len
      have l2:=r2.len
      exact .inr (.inr (.inr ⟨l,m,vs,us,rfl,rfl,h1,h2,by rw [l1,l2];exact k2.1,λ p hp=>F (.ref p) _ _ _ (Go.newL v hp (r1.append r2)) rfl (k2.2 p (v.none hp))⟩))
    | _=>exact (show False from r).elim
  | _=>exact (show False from r).elim
def x8q (C:Int->Int->Prop) (g:Int->Int->D):DR2:=λ x y G Q=>match x,y with
  | .int i,.int j=>C i j/\Q (g i j) G
  | _,_=>False
def jZq (g:Int->Int->D):DR2:=λ x y G Q=>match x,y with
  | .int i,.int j=>Q (g i j) G
  | _,_=>False
theorem rTq {f:Value->Value->Sem Value} {C:Int->Int->Prop} {g:Int->Int->Int} (h:OpR X f (rI C λ i j=>.int (g i j))):AOp X f (x8q C λ i j=>.int (g i j)):=by
  refine ⟨_,⟨h⟩,λ x y vx vy G H DQ Q v ax ay r F=>?_⟩
  cases x with
  | int i=>
    cases y with
    | int j=>cases ax;cases ay;exact ⟨i,j,rfl,rfl,r.1,F (.int (g i j)) G _ H (.refl v) rfl r.2⟩
    | _=>exact (show False from r).elim
  | _=>exact (show False from r).elim
theorem wQq {f:Value->Value->Sem Value} {g:Int->Int->Int} (h:OpR X f (rI0 λ i j=>.int (g i j))):AOp X f (jZq λ i j=>.int (g i j)):=by
  refine ⟨_,⟨h⟩,λ x y vx vy G H DQ Q v ax ay r F=>?_⟩
  cases x with
  | int i=>
    cases y with
    | int j=>cases ax;cases ay;exact ⟨i,j,rfl,rfl,F (.int (g i j)) G _ H (.refl v) rfl r⟩
    | _=>exact (show False from r).elim
  | _=>exact (show False from r).elim
theorem m3q {f:Value->Value->Sem Value} {g:Int->Int->Bool} (h:OpR X f (rI0 λ i j=>.bl (g i j))):AOp X f (jZq λ i j=>.bl (g i j)):=by
  refine ⟨_,⟨h⟩,λ x y vx vy G H DQ Q v ax ay r F=>?_⟩
  cases x with
  | int i=>
    cases y with
    | int j=>cases ax;cases ay;exact ⟨i,j,rfl,rfl,F (.bl (g i j)) G _ H (.refl v) rfl r⟩
    | _=>exact (show False from r).elim
  | _=>exact (show False from r).elim
theorem bDq:AOp X (binaryOp .Sub) (jZq λ i j=>.int (i - j)):=wQq aA7q
theorem d9q:AOp X (binaryOp .Mult) (x8q CMul λ i j=>.int (i * j)):=rTq xWq
theorem eZq:AOp X (binaryOp .FloorDiv) (x8q (λ _ j=>0 < j/\j < 2 ^ 64) λ i j=>.int (i / j)):=rTq qDq
theorem d6q:AOp X (binaryOp .Mod) (x8q (λ _ j=>0 < j) λ i j=>.int (i % j)):=rTq aC2q
theorem t6q:AOp X (binaryOp .Pow) (x8q CPow λ i j=>.int (i ^ j.toNat)):=rTq z4q
theorem c7q:AOp X (compareOp .Lt) (jZq λ i j=>.bl (decide (i < j))):=m3q aH4q
theorem s2q:AOp X (compareOp .LtE) (jZq λ i j=>.bl (decide (i<=j))):=m3q aJ7q
theorem d5q:AOp X (compareOp .Gt) (jZq λ i j=>.bl (decide (j < i))):=m3q aJ4q
theorem wWq:AOp X (compareOp .GtE) (jZq λ i j=>.bl (decide (j<=i))):=m3q aE3q
def negD:DR1:=λ x G Q=>match x with
  | .int i=>Q (.int (-i)) G
  | _=>False
theorem cWq:AUn X (unaryOp .USub) negD:=by
  refine ⟨_,⟨zWq⟩,λ x vx G H DQ Q v ax r F=>?_⟩
  cases x with
  | int i=>cases ax;exact ⟨i,rfl,F (.int (-i)) G _ H (.refl v) rfl r⟩
  | _=>exact (show False from r).elim
def aS5q:D->Bool
  | .non=>true
  | _=>false
theorem hLq {K:PySem.W.Frag} {H:Hp} {ds:List D} {vs:List V} {i:Int} {d:D} (r:AbsL K H ds vs) (h:atI ds i=some d):∃ v,atI vs i=some v/\Abs K H d v:=by
  unfold atI at h ⊢
  rw [r.len]
  cases e:ixN ds.length i with
  | none=>rw [e] at h;cases h
  | some j=>
    rw [e] at h
    exact r.get h
theorem hAq {ds:List D} {i:Int} {G:DV} {Q:DK} (h:atD ds i G Q):∃ d,atI ds i=some d/\Q d G:=by
  unfold atD at h
  rw [sJq] at h
  split at h
  . next d e=>exact ⟨d,e,h⟩
  . exact h.elim
def ixD:DR2:=λ x y G Q=>match x,y with
  | .tup ds,.int i=>atD ds i G Q
  | .ref l,.int i=>onL G l λ ds=>atD ds i G Q
  | .frl ds,.int i=>atD ds i G Q
  | .str z,.int i=>z.length<=sizeLine/\∃ c,atI z.cps.toList i=some c/\Q (.str ⟨#[c]⟩) G
  | _,_=>False
theorem wGq {ds:List D} {i:Int} {G:DV} {Q:DK} {d:D} (h:atI ds i=some d) (q:Q d G):ixD (.tup ds) (.int i) G Q:=iQq h q
theorem sSq {ds:List D} {i:Int} {G:DV} {Q:DK} {d:D} (h:atI ds i=some d) (q:Q d G):ixD (.frl ds) (.int i) G Q:=iQq h q
theorem aPq {l:Addr} {ds:List D} {i:Int} {G:DV} {Q:DK} {d:D} (hl:G l=some (.lst ds)) (h:atI ds i=some d) (q:Q d G):ixD (.ref l) (.int i) G Q:=a7q hl (iQq h q)
theorem aix:AIx X ixD:=by
  refine ⟨_,⟨sLq⟩,λ x y vx vy G H DQ Q v ax ay r F=>?_⟩
  cases x with
  | tup ds=>
    cases y with
    | int i=>
      cases ay
      obtain ⟨l,vs,rfl,s,rl⟩:=ax
      obtain ⟨d,hd,q⟩:=hAq r
      obtain ⟨u,hu,ad⟩:=hLq rl hd
      exact .inr (.inl ⟨l,vs,i,u,rfl,rfl,s,hu,F d G u H (.refl v) ad q⟩)
    | _=>exact (show False from r).elim
  | ref l=>
    cases y with
    | int i=>
      cases ax;cases ay
      obtain ⟨ds,vs,k,s,rl⟩:=b9q v r
      obtain ⟨d,hd,q⟩:=hAq k
      obtain ⟨u,hu,ad⟩:=hLq rl hd
      exact .inl ⟨l,vs,i,u,rfl,rfl,s,hu,F d G u H (.refl v) ad q⟩
    | _=>exact (show False from r).elim
  | frl ds=>
    cases y with
    | int i=>
      cases ay
      obtain ⟨l,vs,rfl,s,rl⟩:=ax
      obtain ⟨d,hd,q⟩:=hAq r
      obtain ⟨u,hu,ad⟩:=hLq rl hd
      exact .inl ⟨l,vs,i,u,rfl,rfl,s.sq,hu,F d G u H (.refl v) ad q⟩
    | _=>exact (show False from r).elim
  | str z=>
    cases y with
    | int i=>
      cases ax;cases ay
      obtain ⟨hz,c,hc,q⟩:=r
      exact .inr (.inr ⟨z,i,c,rfl,rfl,hz,hc,F (.str ⟨#[c]⟩) G _ H (.refl v) rfl q⟩)
    | _=>exact (show False from r).elim
  | _=>exact (show False from r).elim
def slD:D->Option Int->Option Int->DV->DK->Prop:=λ x lo hi G Q=>match x with
  | .tup ds=>Q (.tup (cut ds lo hi)) G
  | .ref l=>onL G l λ ds=>∀ p,G p=none->Q (.ref p) (up G p (.lst (cut ds lo hi)))
  | .frl ds=>∀ p,G p=none->Q (.ref p) (up G p (.lst (cut ds lo hi)))
  | _=>False
theorem asl:ASl X slD:=by
  refine ⟨_,⟨sl_tupU.or vIq⟩,λ x vx lo hi G H DQ Q v ax r F=>?_⟩
  cases x with
  | tup ds=>
    obtain ⟨l,vs,rfl,s,rl⟩:=ax
    refine .inl ⟨l,vs,rfl,s,λ t H2 sm st=>?_⟩
    have g:=Go.grow v sm
    exact F (.tup (cut ds lo hi)) G _ _ g ⟨t,_,rfl,st,(rl.cut lo hi).mono g.tup⟩ r
  | ref l=>
    cases ax
    obtain ⟨ds,vs,k,s,rl⟩:=b9q v r
    exact .inr ⟨l,vs,rfl,s,λ p hp=>F (.ref p) _ _ _ (Go.newL v hp (rl.cut lo hi)) rfl (k p (v.none hp))⟩
  | frl ds=>
    obtain ⟨l,vs,rfl,s,rl⟩:=ax
    exact .inr ⟨l,vs,rfl,s.sq,λ p hp=>F (.ref p) _ _ _ (Go.newL v hp (rl.cut lo hi)) rfl (r p (v.none hp))⟩
  | _=>exact (show False from r).elim
def dIq:D->Bool
  | .non=>true
  | .bl _=>true
  | .int _=>true
  | .str _=>true
  | _=>false
def toV:D->V
  | .non=>.non
  | .bl b=>.bl b
  | .int i=>.int i
  | .str x=>.str x
  | _=>.non
theorem iNq {K:PySem.W.Frag} {H:Hp} {d:D} {v:V} (a:Abs K H d v) (h:dIq d=true):v=toV d/\gCq v=true:=by
  cases d with
  | non=>cases a;exact ⟨rfl,rfl⟩
  | bl b=>cases a;exact ⟨rfl,rfl⟩
  | int b=>cases a;exact ⟨rfl,rfl⟩
  | str b=>cases a;exact ⟨rfl,rfl⟩
  | _=>exact absurd h (by simp [dIq])
theorem xLq {K:PySem.W.Frag} {H:Hp}:∀ {ds:List D} {vs:List V},AbsL K H ds vs->ds.all dIq=true->vs=ds.map toV/\vs.all gCq=true
  | [],_,r,_=>by cases r;exact ⟨rfl,rfl⟩
  | _::_,_,⟨v,r,e,q,l⟩,h=>by
    subst e
    rw [List.all_cons,Bool.and_eq_true] at h
    obtain ⟨h1,h2⟩:=iNq q h.1
    obtain ⟨h3,h4⟩:=xLq l h.2
    exact ⟨by rw [List.map_cons,<- h1,<- h3],by rw [List.all_cons,h2,h4];rfl⟩
def eqF:D->D->Bool
  | .non,.non=>true
  | .bl a,.bl b=>a==b
  | .bl a,.int b=>(if a then 1 else 0)==b
  | .int a,.bl b=>a==(if b then 1 else 0)
  | .int a,.int b=>a==b
  | .str a,.str b=>a==b
  | _,_=>false
theorem aD9q {x y:D} (hx:dIq x=true) (hy:dIq y=true):eqV (toV x) (toV y)=eqF x y:=by
  cases x<;>cases y<;>first | rfl | (simp [dIq] at hx;done) | (simp [dIq] at hy;done)
def inL (x:D) (ds:List D):Bool:=ds.any λ y=>eqF y x
theorem o1q {x:D} (hx:dIq x=true):∀ {ds:List D},ds.all dIq=true->inV (toV x) (ds.map toV)=inL x ds
  | [],_=>rfl
  | d::ds,h=>by
    rw [List.all_cons,Bool.and_eq_true] at h
    have ih:=o1q hx h.2
    unfold inV inL at *
    rw [List.map_cons,List.any_cons,List.any_cons,ih,aD9q h.1 hx]
def inD (neg:Bool):DR2:=λ x y G Q=>match y with
  | .tup ds=>dIq x=true/\ds.all dIq=true/\Q (.bl (neg ^^ inL x ds)) G
  | .ref l=>onL G l λ ds=>dIq x=true/\ds.all dIq=true/\Q (.bl (neg ^^ inL x ds)) G
  | .str j=>(match x with
      | .str i=>Q (.bl (neg ^^ !(Builtin.Str.occurrences j i 0 j.length 1).isEmpty)) G
      | _=>False)
  | _=>False
theorem f2q:AOp X (compareOp .In) (inD false):=by
  refine ⟨_,⟨op_in_seq.or pZq⟩,λ x y vx vy G H DQ Q v ax ay r F=>?_⟩
  cases y with
  | tup ds=>
    obtain ⟨h1,h2,q⟩:=r
    obtain ⟨l,vs,rfl,s,rl⟩:=ay
    obtain ⟨e1,f1⟩:=iNq ax h1
    obtain ⟨e2,f2⟩:=xLq rl h2
    refine .inl ⟨l,vs,rfl,.inr s,f1,f2,?_⟩
    rw [e1,e2,o1q h1 h2]
    exact F (.bl _) G _ H (.refl v) rfl (by simpa using q)
  | ref l=>
    cases ay
    obtain ⟨ds,vs,⟨h1,h2,q⟩,s,rl⟩:=b9q v r
    obtain ⟨e1,f1⟩:=iNq ax h1
    obtain ⟨e2,f2⟩:=xLq rl h2
    refine .inl ⟨l,vs,rfl,.inl s,f1,f2,?_⟩
    rw [e1,e2,o1q h1 h2]
    exact F (.bl _) G _ H (.refl v) rfl (by simpa using q)
  | str j=>
    cases x with
    | str i=>cases ax;cases ay;exact .inr ⟨i,j,rfl,rfl,F (.bl _) G _ H (.refl v) rfl (by simpa [inD] using r)⟩
    | _=>exact (show False from r).elim
  | _=>exact (show False from r).elim
theorem o8q:AOp X (compareOp .NotIn) (inD true):=by
  refine ⟨_,⟨op_notIn_seq.or iLq⟩,λ x y vx vy G H DQ Q v ax ay r F=>?_⟩
  cases y with
  | tup ds=>
    obtain ⟨h1,h2,q⟩:=r
    obtain ⟨l,vs,rfl,s,rl⟩:=ay
    obtain ⟨e1,f1⟩:=iNq ax h1
    obtain ⟨e2,f2⟩:=xLq rl h2
    refine .inl ⟨l,vs,rfl,.inr s,f1,f2,?_⟩
    rw [e1,e2,o1q h1 h2]
    exact F (.bl _) G _ H (.refl v) rfl (by simpa using q)
  | ref l=>
    cases ay
    obtain ⟨ds,vs,⟨h1,h2,q⟩,s,rl⟩:=b9q v r
    obtain ⟨e1,f1⟩:=iNq ax h1
    obtain ⟨e2,f2⟩:=xLq rl h2
    refine .inl ⟨l,vs,rfl,.inl s,f1,f2,?_⟩
    rw [e1,e2,o1q h1 h2]
    exact F (.bl _) G _ H (.refl v) rfl (by simpa using q)
  | str j=>
    cases x with
    | str i=>cases ax;cases ay;exact .inr ⟨i,j,rfl,rfl,F (.bl _) G _ H (.refl v) rfl (by simpa [inD] using r)⟩
    | _=>exact (show False from r).elim
  | _=>exact (show False from r).elim
variable {e o:Expr} {es:List Expr} {te to:DTE} {t:DTA} {pos p apos cpos:Pos}
abbrev dCB (r:DRL) (t:DTA):DTE:=λ ρ G Q=>t ρ G λ ds G1=>r ds G1 Q
theorem aCq {x:Str} {id:String} {r:DRL} (hc:ACall X (.builtin id) r) (hg:Gl X x) (hm:X.mg x=none) (hv:bootBuiltins x=some (.builtin id)) (ha:AA X (e::es) t) (hn:x≠"__name__":=by decide) (hdb:(x==("__debug__" : Str))=false:=by decide)
    (hs:(e::es).all bAq=true:=by rfl):AE X (.Call (.Name x p) (e::es) [] pos) (dCB r t):=by
  obtain ⟨ca,ja,ra⟩:=ha.run
  obtain ⟨cc,jc,rc⟩:=hc.run
  exact ⟨_,rDq jc hg hm hv ja hn hdb hs,λ ρ G DQ σ H Q B q F=>ra ρ G _ σ H _ B q λ ds G1 vs H1 g1 al _ q1=>rc ds vs G1 H1 DQ Q g1.vw al q1 (F.after g1)⟩
theorem bMq {x:Str} {T:String} {r:DRL} (hc:ACall X (.type T) r) (hg:Gl X x) (hm:X.mg x=none) (hv:bootBuiltins x=some (.type T)) (ha:AA X (e::es) t) (hn:x≠"__name__":=by decide) (hdb:(x==("__debug__" : Str))=false:=by decide)
    (hs:(e::es).all bAq=true:=by rfl):AE X (.Call (.Name x p) (e::es) [] pos) (dCB r t):=by
  obtain ⟨ca,ja,ra⟩:=ha.run
  obtain ⟨cc,jc,rc⟩:=hc.run
  exact ⟨_,o6q jc hg hm hv ja hn hdb hs,λ ρ G DQ σ H Q B q F=>ra ρ G _ σ H _ B q λ ds G1 vs H1 g1 al _ q1=>rc ds vs G1 H1 DQ Q g1.vw al q1 (F.after g1)⟩
abbrev pKq (r:D->DV->DK->Prop):DRL:=λ xs G Q=>match xs with
  | [x]=>r x G Q
  | _=>False
abbrev wEq (r:D->D->DV->DK->Prop):DRL:=λ xs G Q=>match xs with
  | [x,y]=>r x y G Q
  | _=>False
theorem bXq {K:PySem.W.Frag} {H:Hp} {r:D->DV->DK->Prop} {xs:List D} {vs:List V} {G:DV} {Q:DK} (h:pKq r xs G Q) (a:AbsL K H xs vs):∃ x v,xs=[x]/\vs=[v]/\Abs K H x v/\r x G Q:=by
  unfold pKq at h
  split at h
  . obtain ⟨v,r,rfl,q,l⟩:=a;cases l;exact ⟨_,v,rfl,rfl,q,h⟩
  . exact h.elim
theorem eXq {K:PySem.W.Frag} {H:Hp} {r:D->D->DV->DK->Prop} {xs:List D} {vs:List V} {G:DV} {Q:DK} (h:wEq r xs G Q) (a:AbsL K H xs vs):∃ x y v u,xs=[x,y]/\vs=[v,u]/\Abs K H x v/\Abs K H y u/\r x y G Q:=by
  unfold wEq at h
  split at h
  . obtain ⟨v,r,rfl,q,u,r2,rfl,q2,l⟩:=a;cases l;exact ⟨_,_,v,u,rfl,rfl,q,q2,h⟩
  . exact h.elim
def lenD:D->DV->DK->Prop:=λ x G Q=>match x with
  | .tup ds=>Q (.int ds.length) G
  | .ref l=>onL G l λ ds=>Q (.int ds.length) G
  | .frl ds=>Q (.int ds.length) G
  | .str z=>z.length<=sizeLine/\Q (.int z.length) G
  | _=>False
theorem aIq:ACall X (.builtin "len") (pKq lenD):=by
  refine ⟨_,⟨call_len_seq.or iXq⟩,λ xs vs G H DQ Q v a r F=>?_⟩
  obtain ⟨x,u,rfl,rfl,ax,r⟩:=bXq r a
  cases x with
  | tup ds=>
    obtain ⟨l,ws,rfl,s,rl⟩:=ax
    exact .inl ⟨l,ws,rfl,.inr s,by rw [rl.len];exact F (.int ds.length) G _ H (.refl v) rfl r⟩
  | ref l=>
    cases ax
    obtain ⟨ds,ws,k,s,rl⟩:=b9q v r
    exact .inl ⟨l,ws,rfl,.inl s,by rw [rl.len];exact F (.int ds.length) G _ H (.refl v) rfl k⟩
  | frl ds=>
    obtain ⟨l,ws,rfl,s,rl⟩:=ax
    exact .inl ⟨l,ws,rfl,.inl s.sq,by rw [rl.len];exact F (.int ds.length) G _ H (.refl v) rfl r⟩
  | str z=>cases ax;exact .inr ⟨z,rfl,r.1,F (.int z.length) G _ H (.refl v) rfl r.2⟩
  | _=>exact (show False from r).elim
def intD:D->DV->DK->Prop:=λ x G Q=>match x with
  | .int i=>Q (.int i) G
  | .bl k=>Q (.int (if k then 1 else 0)) G
  | _=>False
theorem p9q:ACall X (.type "int") (pKq intD):=by
  refine ⟨_,⟨oVq⟩,λ xs vs G H DQ Q v a r F=>?_⟩
  obtain ⟨x,u,rfl,rfl,ax,r⟩:=bXq r a
  cases x with
  | int i=>cases ax;exact .inl ⟨i,rfl,F (.int i) G _ H (.refl v) rfl r⟩
  | bl k=>cases ax;exact .inr ⟨k,rfl,F (.int (if k then 1 else 0)) G _ H (.refl v) rfl r⟩
  | _=>exact (show False from r).elim
def yXq (g:Int->Int->Int):D->D->DV->DK->Prop:=λ x y G Q=>match x,y with
  | .int i,.int j=>Q (.int (g i j)) G
  | _,_=>False
theorem oBq (hc:X.calm=true):ACall X (.builtin "max") (wEq (yXq λ i j=>if j > i then j else i)):=by
  refine ⟨_,⟨pEq hc⟩,λ xs vs G H DQ Q v a r F=>?_⟩
  obtain ⟨x,y,u,w,rfl,rfl,ax,ay,r⟩:=eXq r a
  cases x with
  | int i=>
    cases y with
    | int j=>cases ax;cases ay;exact ⟨i,j,rfl,F (.int (if j > i then j else i)) G _ H (.refl v) rfl r⟩
    | _=>exact (show False from r).elim
  | _=>exact (show False from r).elim
theorem o7q (hc:X.calm=true):ACall X (.builtin "min") (wEq (yXq λ i j=>if j < i then j else i)):=by
  refine ⟨_,⟨pBq hc⟩,λ xs vs G H DQ Q v a r F=>?_⟩
  obtain ⟨x,y,u,w,rfl,rfl,ax,ay,r⟩:=eXq r a
  cases x with
  | int i=>
    cases y with
    | int j=>cases ax;cases ay;exact ⟨i,j,rfl,F (.int (if j < i then j else i)) G _ H (.refl v) rfl r⟩
    | _=>exact (show False from r).elim
  | _=>exact (show False from r).elim
def tupD:D->DV->DK->Prop:=λ x G Q=>match x with
  | .tup ds=>Q (.tup ds) G
  | .ref l=>onL G l λ ds=>Q (.tup ds) G
  | _=>False
theorem c4q:ACall X (.type "tuple") (pKq tupD):=by
  refine ⟨_,⟨h8q⟩,λ xs vs G H DQ Q v a r F=>?_⟩
  obtain ⟨x,u,rfl,rfl,ax,r⟩:=bXq r a
  cases x with
  | tup ds=>
    obtain ⟨l,ws,rfl,s,rl⟩:=ax
    exact ⟨l,ws,rfl,.inr ⟨s,F (.tup ds) G _ H (.refl v) ⟨l,ws,rfl,s,rl⟩ r⟩⟩
  | ref l=>
    cases ax
    obtain ⟨ds,ws,k,s,rl⟩:=b9q v r
    refine ⟨l,ws,rfl,.inl ⟨s,λ p hp=>?_⟩⟩
    have g:=Go.newT (o:=.tup ws) v hp
    exact F (.tup ds) G _ _ g ⟨p,ws,rfl,.of bHq,rl.mono g.tup⟩ k
  | _=>exact (show False from r).elim
def lstD:D->DV->DK->Prop:=λ x G Q=>match x with
  | .tup ds=>∀ p,G p=none->Q (.ref p) (up G p (.lst ds))
  | .ref l=>onL G l λ ds=>∀ p,G p=none->Q (.ref p) (up G p (.lst ds))
  | _=>False
theorem mWq:ACall X (.type "list") (pKq lstD):=by
  refine ⟨_,⟨iYq⟩,λ xs vs G H DQ Q v a r F=>?_⟩
  obtain ⟨x,u,rfl,rfl,ax,r⟩:=bXq r a
  cases x with
  | tup ds=>
    obtain ⟨l,ws,rfl,s,rl⟩:=ax
    exact ⟨l,ws,rfl,.inr s,λ p hp=>F (.ref p) _ _ _ (Go.newL v hp rl) rfl (r p (v.none hp))⟩
  | ref l=>
    cases ax
    obtain ⟨ds,ws,k,s,rl⟩:=b9q v r
    exact ⟨l,ws,rfl,.inl s,λ p hp=>F (.ref p) _ _ _ (Go.newL v hp rl) rfl (k p (v.none hp))⟩
  | _=>exact (show False from r).elim
end
end L3
namespace L2
open PySem PySem.Spec PyProof.Rows
def iSeq (K:PySem.W.Frag) (tl:TE):TI:=λ σ H R=>tl σ H λ x H1=>∃ a,x=.ref a/\(((∃ xs,SqL K H1 a xs)/\R (Itl K a) H1)\/((∃ xs,SqT K H1 a xs)/\R (Itt K a) H1))
theorem yOq {X:Cx} {tg l:Expr} {tl:TE} (hl:PE X l tl):PI X tg l (iSeq X.K tl):=by
  intro pins s σ H R I h
  refine thn (hl pins s σ H _ I h) λ v s1 ⟨x,H1,I1,r1,q1⟩=>?_
  obtain ⟨a,e,q1⟩:=q1
  subst e
  cases r1
  rcases q1 with ⟨⟨xs,hq⟩,q⟩ | ⟨⟨xs,hq⟩,q⟩
  . obtain ⟨its,rv,p,hz⟩:=I1.list hq
    refine wpAny_pyIter_list p.isList ?_
    refine ⟨s1.heap.objs.size,[s1.heap.objs.size],_,_,H1,rfl,I1.kept (t':=s1.toks) λ b o e=>Heap.get?_push_of_some _ e,nBq a _,⟨_,Heap.get?_push_size _ rfl,rfl,rfl⟩,λ b hb=>?_,q⟩
    have e:b=s1.heap.objs.size:=by simpa using hb
    subst e
    exact I1.fpOk (Nat.le_refl _) (I1.hok.fresh (Nat.le_refl _))
  . obtain ⟨its,rv,p,hz⟩:=I1.tuple hq
    refine wpAny_pyIter_tuple (show s1.heap.IsTuple a its.toArray from p) ?_
    refine ⟨s1.heap.objs.size,[s1.heap.objs.size],_,_,H1,rfl,I1.kept (t':=s1.toks) λ b o e=>Heap.get?_push_of_some _ e,mNq a _,⟨_,Heap.get?_push_size _ rfl,rfl,rfl⟩,λ b hb=>?_,q⟩
    have e:b=s1.heap.objs.size:=by simpa using hb
    subst e
    exact I1.fpOk (Nat.le_refl _) (I1.hok.fresh (Nat.le_refl _))
end L2
namespace L3
open PySem PySem.Spec L2
section
variable {X:Cx} {a b c e o i tg iter:Expr} {es:List Expr} {ta tb te to ti:DTE} {t:DTA} {pos p apos cpos:Pos}
structure DIt where
  items:List D
  held:DV->Prop
abbrev DTI:=DSt->DV->(DIt->DV->Prop)->Prop
def ItOk (K:PySem.W.Frag) (J:DIt) (Jc:It) (G:DV) (H:Hp):Prop:=∀ G1 H1,Go K G H G1 H1->J.held G1 →
  (∀ (i:Nat) (d:D),J.items[i]?=some d->Jc.go i H1/\∀ x H',Jc.yld i H1 x H'->Go K G1 H1 G1 H'/\Abs K H' d x)/\∀ i,J.items.length<=i->Jc.stop i H1
structure AI (X:Cx) (tg iter:Expr) (wi:DTI):Prop where
  run:∃ wc:TI,JI X tg iter wc/\∀ ρ G DR σ H R,Bears X.K ρ G σ H->wi ρ G DR->(∀ J Jc G' H',Go X.K G H G' H'->ItOk X.K J Jc G' H'->DR J G'->R Jc H')->wc σ H R
@[irreducible] def x3q (G:DV) (l:Addr) (k:DIt->Prop):Prop:=match G l with
  | some (.lst ds)=>k ⟨ds,λ G=>G l=some (.lst ds)⟩
  | _=>False
abbrev aI5q (ta:DTE):DTI:=λ ρ G R=>ta ρ G λ x G1=>match x with
  | .tup ds=>R ⟨ds,λ _=>True⟩ G1
  | .ref l=>x3q G1 l λ J=>R J G1
  | .frl ds=>R ⟨ds,λ _=>True⟩ G1
  | _=>False
theorem hNq {G:DV} {l:Addr} {k:DIt->Prop} {ds:List D} (h:G l=some (.lst ds)) (q:k ⟨ds,λ G=>G l=some (.lst ds)⟩):x3q G l k:=by unfold x3q;rw [h];exact q
theorem aB2q {K:PySem.W.Frag} {ds:List D} {vs:List V} {l:Addr} {G1:DV} {H1:Hp} (v:Vw K G1 H1) (s:SqT K H1 l vs) (r:AbsL K H1 ds vs) :
    (∀ (i:Nat) (d:D),ds[i]?=some d->(Itt K l).go i H1/\∀ x H',(Itt K l).yld i H1 x H'->Go K G1 H1 G1 H'/\Abs K H' d x)/\∀ i,ds.length<=i->(Itt K l).stop i H1:=by
  refine ⟨λ i d hd=>?_,λ i hi=>⟨vs,s,by rw [r.len];exact hi⟩⟩
  obtain ⟨w,hw,aw⟩:=r.get hd
  refine ⟨⟨vs,w,s,hw⟩,λ x H' y=>?_⟩
  obtain ⟨rfl,y⟩:=y
  have z:=y vs s
  rw [hw] at z
  cases z
  exact ⟨.refl v,aw⟩
theorem nIq {K:PySem.W.Frag} {ds:List D} {vs:List V} {l:Addr} {G1:DV} {H1:Hp} (v:Vw K G1 H1) (s:SqL K H1 l vs) (r:AbsL K H1 ds vs) :
    (∀ (i:Nat) (d:D),ds[i]?=some d->(Itl K l).go i H1/\∀ x H',(Itl K l).yld i H1 x H'->Go K G1 H1 G1 H'/\Abs K H' d x)/\∀ i,ds.length<=i->(Itl K l).stop i H1:=by
  refine ⟨λ i d hd=>?_,λ i hi=>⟨vs,s,by rw [r.len];exact hi⟩⟩
  obtain ⟨w,hw,aw⟩:=r.get hd
  refine ⟨⟨vs,w,s,hw⟩,λ x H' y=>?_⟩
  obtain ⟨rfl,y⟩:=y
  have z:=y vs s
  rw [hw] at z
  cases z
  exact ⟨.refl v,aw⟩
theorem yUq {tc:TE} (hl:JE X a tc):JI X tg a (iSeq X.K tc):=⟨yOq hl.run⟩
theorem e1q (ha:AE X a ta):AI X tg a (aI5q ta):=by
  obtain ⟨ca,ja,ra⟩:=ha.run
  refine ⟨_,yUq ja,λ ρ G DR σ H R B q F=>ra ρ G _ σ H _ B q λ x G1 v H1 g1 ax q1=>?_⟩
  cases x with
  | tup ds=>
    obtain ⟨l,vs,rfl,s,r⟩:=ax
    exact ⟨l,rfl,.inr ⟨⟨vs,s⟩,F ⟨ds,λ _=>True⟩ _ G1 H1 g1 (λ G2 H2 g2 _=>aB2q g2.vw (g2.tup.tp _ _ s) (r.mono g2.tup)) q1⟩⟩
  | ref l=>
    cases ax
    refine ⟨l,rfl,.inl ?_⟩
    replace q1:x3q G1 l λ J=>DR J G1:=q1
    unfold x3q at q1
    split at q1
    . next ds hd=>
      obtain ⟨vs,z,r⟩:=g1.vw _ _ hd
      refine ⟨⟨vs,.of z⟩,F ⟨ds,λ G=>G l=some (.lst ds)⟩ _ G1 H1 g1 (λ G2 H2 g2 h2=>?_) q1⟩
      obtain ⟨us,z2,r2⟩:=g2.vw _ _ h2
      exact nIq g2.vw (.of z2) r2
    . exact q1.elim
  | frl ds=>
    obtain ⟨l,vs,rfl,s,r⟩:=ax
    exact ⟨l,rfl,.inl ⟨⟨vs,s.sq⟩,F ⟨ds,λ _=>True⟩ _ G1 H1 g1 (λ G2 H2 g2 _=>nIq g2.vw (g2.tup.fr _ _ s).sq (r.mono g2.tup)) q1⟩⟩
  | _=>exact (show False from q1).elim
def cAq (lo:Int) (n:Nat):List D:=(List.range n).map λ(i:Nat)=>D.int (lo+(i:Int))
theorem mKq {lo:Int} {n i:Nat} {d:D} (h:(cAq lo n)[i]?=some d):i < n/\d=.int (lo+i):=by
  unfold cAq at h
  rw [List.getElem?_map] at h
  by_cases c:i < n
  . rw [List.getElem?_range c] at h
    simp at h
    exact ⟨c,h.symm⟩
  . rw [List.getElem?_eq_none (by simpa using c)] at h
    cases h
theorem c3q {lo:Int} {n:Nat}:(cAq lo n).length=n:=by simp [cAq]
@[irreducible] def onR (r:List D->Option (Int × Nat)) (ds:List D) (k:Int->Nat->Prop):Prop:=match r ds with
  | some (lo,n)=>k lo n
  | none=>False
abbrev tHq (r:List D->Option (Int × Nat)) (t:DTA):DTI:=λ ρ G R=>t ρ G λ ds G1=>onR r ds λ lo n=>R ⟨cAq lo n,λ _=>True⟩ G1
def kPq (i:Int):Bool:=decide (-(2 ^ 62)<=i)&&decide (i < 2 ^ 62)
def rng1:List D->Option (Int × Nat)
  | [.int j]=>if kPq j=true then some (0,j.toNat) else none
  | _=>none
theorem small62_iff {i:Int}:kPq i=true ↔ -(2 ^ 62)<=i/\i < 2 ^ 62:=by unfold kPq;simp
theorem yQq {K:PySem.W.Frag} {lo:Int} {n:Nat} {G1:DV} {H1:Hp} (v:Vw K G1 H1) :
    (∀ (i:Nat) (d:D),(cAq lo n)[i]?=some d->(Itr lo n).go i H1/\∀ x H',(Itr lo n).yld i H1 x H'->Go K G1 H1 G1 H'/\Abs K H' d x)/\∀ i,(cAq lo n).length<=i->(Itr lo n).stop i H1:=by
  refine ⟨λ i d hd=>?_,λ i hi=>by rw [c3q] at hi;exact hi⟩
  obtain ⟨h1,rfl⟩:=mKq hd
  refine ⟨h1,λ x H' y=>?_⟩
  obtain ⟨rfl,rfl⟩:=y
  exact ⟨.refl v,rfl⟩
theorem r1q {ds:List D} {lo:Int} {n:Nat} (h:rng1 ds=some (lo,n)):∃ j,ds=[.int j]/\(-(2 ^ 62)<=j/\j < 2 ^ 62)/\lo=0/\n=j.toNat:=by
  unfold rng1 at h
  split at h
  . next j=>
    split at h
    . next c=>cases h;exact ⟨j,rfl,small62_iff.mp c,rfl,rfl⟩
    . cases h
  . cases h
theorem kQq {j:Int} {k:Int->Nat->Prop} (h:-(2 ^ 62)<=j/\j < 2 ^ 62) (q:k 0 j.toNat):onR rng1 [.int j] k:=by
  have e:rng1 [.int j]=some (0,j.toNat):=if_pos (small62_iff.mpr h)
  unfold onR;rw [e];exact q
theorem jWq {r:List D->Option (Int × Nat)} {ds:List D} {R:DIt->DV->Prop} {G:DV} (h:onR r ds λ lo n=>R ⟨cAq lo n,λ _=>True⟩ G):∃ lo n,r ds=some (lo,n)/\R ⟨cAq lo n,λ _=>True⟩ G:=by
  unfold onR at h
  split at h
  . next lo n e=>exact ⟨lo,n,e,h⟩
  . exact h.elim
theorem g5q (hg:Gl X "range") (hm:X.mg "range" = none) (ha:AA X [a] t) (hs:bAq a=true:=by rfl):AI X tg (.Call (.Name "range" p) [a] [] pos) (tHq rng1 t):=by
  obtain ⟨ca,ja,ra⟩:=ha.run
  refine ⟨_,nJq hg hm ja hs,λ ρ G DR σ H R B q F=>ra ρ G _ σ H _ B q λ ds G1 vs H1 g1 al hl q1=>?_⟩
  obtain ⟨lo,n,e,q2⟩:=jWq q1
  obtain ⟨j,rfl,c,rfl,rfl⟩:=r1q e
  obtain ⟨v,r,rfl,av,l⟩:=al
  cases l;cases av
  exact ⟨j,rfl,c.1,c.2,F _ _ G1 H1 g1 (λ G2 H2 g2 _=>yQq g2.vw) q2⟩
def Wk (P:DSt->DV->Prop):DSt->DV->Prop:=λ ρ G=>∃ ρ' G',StSub ρ' ρ/\Sub G' G/\P ρ' G'
theorem Wk.of {P:DSt->DV->Prop} {ρ:DSt} {G:DV} (h:P ρ G):Wk P ρ G:=⟨ρ,G,.refl _,.refl _,h⟩
abbrev dFor (wi:DTI) (g:DTG) (tb:DTS):DTS:=λ DD ρ G=>wi ρ G λ J G1=>∃ P:Nat->DSt->DV->Prop,P 0 ρ G1/\(∀ i ρ G,i<=J.items.length->P i ρ G->J.held G) ∧
  (∀ (i:Nat) (d:D) (ρ:DSt) (G:DV),J.items[i]?=some d->P i ρ G->g d ρ G λ ρ' G'=>tb { DD with nx:=Wk (P (i+1)),ct:=Wk (P (i+1)),bk:=DD.nx } ρ' G')/\∀ ρ G,P J.items.length ρ G->DD.nx ρ G
theorem fSq {body:List Stmt} {wi:DTI} {g:DTG} {tb:DTS} (hp:PassesOwn (model X.prog X.w) X.A X.env X.xe) (hc:X.calm=true) (hi:AI X tg iter wi) (hg:AG X tg g) (hb:AB X body tb) (hs:∀ x,foldedSetIterable iter X.env x=pure x:=by intro _;rfl) :
    AS X (.For tg iter body [] pos) (dFor wi g tb):=by
  obtain ⟨ci,ji,ri⟩:=hi.run
  obtain ⟨cg,jg,rg⟩:=hg.run
  obtain ⟨cb,jb,rb⟩:=hb.run
  refine ⟨_,xQq hp hc ji jg jb hs,λ DD Dc ρ G σ H B q F=>ri ρ G _ σ H _ B q λ J Jc G1 H1 g1 ok q1=>?_⟩
  obtain ⟨P,p0,held,turn,done⟩:=q1
  refine ⟨λ i m σ' H'=>m=J.items.length - i/\i<=J.items.length/\∃ ρ' G',P i ρ' G'/\Bears X.K ρ' G' σ' H'/\Go X.K G1 H1 G' H',⟨_,rfl,Nat.zero_le _,ρ,G1,p0,B.go g1,.refl g1.vw⟩,?_⟩
  rintro i m σ2 H2 ⟨rfl,hi,ρ2,G2,p2,b2,g2⟩
  have k2:=ok G2 H2 g2 (held i ρ2 G2 hi p2)
  by_cases hlt:i < J.items.length
  . have hd:J.items[i]?=some J.items[i]:=by simp [hlt]
    obtain ⟨go,yl⟩:=k2.1 i _ hd
    refine .inr ⟨go,λ σ' H'=>∃ ρ' G',P (i+1) ρ' G'/\Bears X.K ρ' G' σ' H'/\Go X.K G1 H1 G' H',λ σ' H' ⟨ρ',G',z1,z2,z3⟩=>⟨J.items.length - (i+1),by omega,rfl,hlt,ρ',G',z1,z2,z3⟩,λ x H' y=>?_⟩
    obtain ⟨g3,ax⟩:=yl x H' y
    refine rg _ x ρ2 G2 _ σ2 H' _ (b2.go g3) ax (turn i _ ρ2 G2 hd p2) λ ρ4 G4 σ4 H4 g4 b4 q4=>?_
    have gg:=(g2.trans g3).trans g4
    have again:∀ ρ' G' σ' H',Go X.K G4 H4 G' H'->Bears X.K ρ' G' σ' H'->Wk (P (i+1)) ρ' G'->∃ ρ' G',P (i+1) ρ' G'/\Bears X.K ρ' G' σ' H'/\Go X.K G1 H1 G' H':=λ ρ' G' σ' H' g' b' ⟨ρ5,G5,s1,s2,w⟩=>
      ⟨ρ5,G5,w,b'.weak s1 s2,(gg.trans g').sub s2⟩
    exact rb _ _ ρ4 G4 σ4 H4 b4 q4 ⟨λ ρ' G' σ' H' g' b' w=>again ρ' G' σ' H' g' b' w,(F.after ((g1.trans gg))).rt,λ ρ' G' σ' H' g' b' w=>F.nx ρ' G' σ' H' ((g1.trans gg).trans g') b' w,λ ρ' G' σ' H' g' b' w=>again ρ' G' σ' H' g' b' w⟩
  . have e:i=J.items.length:=by omega
    subst e
    exact .inl ⟨k2.2 _ (Nat.le_refl _),F.nx ρ2 G2 σ2 H2 (g1.trans g2) b2 (done ρ2 G2 p2)⟩
abbrev z9q (tc:DTT) (tb:DTS):DTS:=λ DD ρ G=>∃ W:Nat->DSt->DV->Prop,(∃ m,W m ρ G)/\∀ m ρ G,W m ρ G →
  tc ρ G λ b G1=>Br b (tb { DD with nx:=Wk λ ρ' G'=>∃ m',m' < m/\W m' ρ' G',ct:=Wk λ ρ' G'=>∃ m',m' < m/\W m' ρ' G',bk:=DD.nx } ρ G1) (DD.nx ρ G1)
theorem cVq {body:List Stmt} {tc:DTT} {tb:DTS} (hp:PassesOwn (model X.prog X.w) X.A X.env X.xe) (hc:AT X c tc) (hb:AB X body tb):AS X (.While c body [] pos) (z9q tc tb):=by
  obtain ⟨cc,jc,rc⟩:=hc.run
  obtain ⟨cb,jb,rb⟩:=hb.run
  refine ⟨_,r5q hp jc jb,λ DD Dc ρ G σ H B q F=>?_⟩
  obtain ⟨W,⟨m0,w0⟩,turn⟩:=q
  refine ⟨λ m σ' H'=>∃ ρ' G',W m ρ' G'/\Bears X.K ρ' G' σ' H'/\Go X.K G H G' H',⟨m0,ρ,G,w0,B,.refl B.vw⟩,?_⟩
  rintro m σ2 H2 ⟨ρ2,G2,w2,b2,g2⟩
  refine rc ρ2 G2 _ σ2 H2 _ b2 (turn m ρ2 G2 w2) λ k G3 H3 g3 q3=>?_
  cases k with
  | true=>
    refine ⟨λ σ' H'=>∃ m',m' < m/\∃ ρ' G',W m' ρ' G'/\Bears X.K ρ' G' σ' H'/\Go X.K G H G' H',λ σ' H' ⟨m',z,ρ',G',z1,z2,z3⟩=>⟨m',z,ρ',G',z1,z2,z3⟩,?_⟩
    have gg:=g2.trans g3
    have again:∀ ρ' G' σ' H',Go X.K G3 H3 G' H'->Bears X.K ρ' G' σ' H'->Wk (λ ρ' G'=>∃ m',m' < m/\W m' ρ' G') ρ' G'->∃ m',m' < m/\∃ ρ' G',W m' ρ' G'/\Bears X.K ρ' G' σ' H'/\Go X.K G H G' H':=λ ρ' G' σ' H' g' b' ⟨ρ5,G5,s1,s2,m',hm,w⟩=>
      ⟨m',hm,ρ5,G5,w,b'.weak s1 s2,(gg.trans g').sub s2⟩
    exact rb _ _ ρ2 G3 σ2 H3 (b2.go g3) (q3.1 rfl) ⟨λ ρ' G' σ' H' g' b' w=>again ρ' G' σ' H' g' b' w,(F.after gg).rt,λ ρ' G' σ' H' g' b' w=>F.nx ρ' G' σ' H' (gg.trans g') b' w,λ ρ' G' σ' H' g' b' w=>again ρ' G' σ' H' g' b' w⟩
  | false=>exact F.nx ρ2 G3 σ2 H3 (g2.trans g3) (b2.go g3) (q3.2 rfl)
end
end L3
namespace L2
open PySem PySem.Spec PyProof.Rows
theorem JE.imp {X:Cx} {e:Expr} {t t':TE} (h:JE X e t) (i:∀ σ H Q,t' σ H Q->t σ H Q):JE X e t':=⟨λ pins s σ H Q I q=>h.run pins s σ H Q I (i σ H Q q)⟩
theorem JG.imp {X:Cx} {e:Expr} {t t':TG} (h:JG X e t) (i:∀ v σ H Q,t' v σ H Q->t v σ H Q):JG X e t':=⟨λ pins s σ H x v Q I r q=>h.run pins s σ H x v Q I r (i _ _ _ _ q)⟩
end L2
namespace L3
open PySem PySem.Spec L2
section
variable {X:Cx} {a b c e o i tg iter elt ct:Expr} {es:List Expr} {ta tb te to ti:DTE} {t:DTA} {pos p apos cpos:Pos}
abbrev ImpE (K:PySem.W.Frag) (tc:TE) (t:DTE):Prop:=∀ ρ G DQ σ H Q,Bears K ρ G σ H->t ρ G DQ->Fin K G H DQ Q->tc σ H Q
abbrev ImpG (K:PySem.W.Frag) (tc:TG) (t:DTG):Prop:=∀ d v ρ G DQ σ H Q,Bears K ρ G σ H->Abs K H d v->t d ρ G DQ->FinS K G H DQ Q->tc v σ H Q
theorem AE.uni {ι:Type} {cx:ι->Cx} {K:PySem.W.Frag} (hK:∀ z,(cx z).K=K) (h:∀ z,AE (cx z) e te):∃ tc:TE,(∀ z,JE (cx z) e tc)/\ImpE K tc te:=by
  have h':∀ z,∃ tc,JE (cx z) e tc/\ImpE K tc te:=λ z=>by
    have q:=(h z).run
    rw [hK z] at q
    exact q
  exact ⟨λ σ H Q=>∀ z,Classical.choose (h' z) σ H Q,λ z=>(Classical.choose_spec (h' z)).1.imp λ σ H Q q=>q z,λ ρ G DQ σ H Q B q F z=>(Classical.choose_spec (h' z)).2 ρ G DQ σ H Q B q F⟩
theorem AG.uni {ι:Type} {cx:ι->Cx} {K:PySem.W.Frag} {te:DTG} (hK:∀ z,(cx z).K=K) (h:∀ z,AG (cx z) e te):∃ tc:TG,(∀ z,JG (cx z) e tc)/\ImpG K tc te:=by
  have h':∀ z,∃ tc,JG (cx z) e tc/\ImpG K tc te:=λ z=>by
    have q:=(h z).run
    rw [hK z] at q
    exact q
  exact ⟨λ v σ H Q=>∀ z,Classical.choose (h' z) v σ H Q,λ z=>(Classical.choose_spec (h' z)).1.imp λ v σ H Q q=>q z,λ d v ρ G DQ σ H Q B ad q F z=>(Classical.choose_spec (h' z)).2 d v ρ G DQ σ H Q B ad q F⟩
def fOq (nt:Nat) (cap:List Nat) (ρ:DSt):DSt:=List.replicate nt none++cap.map λ i=>(ρ[i]?).join
theorem jKq {nt:Nat} {cap:List Nat} {ρ:DSt} {i:Nat} {d:D} (h:(fOq nt cap ρ)[i]?=some (some d)):nt<=i:=by
  by_cases c:nt<=i
  . exact c
  . unfold fOq at h
    rw [List.getElem?_append_left (by simpa using c),List.getElem?_replicate] at h
    rw [if_pos (by omega)] at h
    cases h
theorem Bears.comp {K:PySem.W.Frag} {ρ:DSt} {G:DV} {σ:St} {H:Hp} (B:Bears K ρ G σ H) (nt:Nat) (cap:List Nat):Bears K (fOq nt cap ρ) G (e2q nt cap σ) H:=by
  refine ⟨by simp [fOq,e2q],λ i d h=>?_,B.vw⟩
  have hi:=jKq h
  unfold fOq at h
  unfold e2q
  rw [List.getElem?_append_right (by simpa using hi)] at h ⊢
  rw [List.length_replicate,List.getElem?_map] at h ⊢
  cases e:cap[i - nt]? with
  | none=>rw [e] at h;cases h
  | some k=>
    rw [e] at h
    have h':(ρ[k]?).join=some d:=by simpa using h
    have h2:ρ[k]?=some (some d):=by
      cases q:ρ[k]? with
      | none=>rw [q] at h';cases h'
      | some z=>rw [q] at h';cases z with
        | none=>cases h'
        | some y=>simp at h';rw [h']
    obtain ⟨v,h3,h4⟩:=B.st k d h2
    exact ⟨v,by simp [h3],h4⟩
def qPq (nt:Nat) (g:DTG):Prop:=∀ d ρ G Q,g d ρ G Q->g d ρ G λ ρ' G'=>Q ρ' G'/\ρ'.length=ρ.length/\∀ i,nt<=i->ρ'[i]?=ρ[i]?
theorem bNq {nt k:Nat} (h:k < nt):qPq nt (lJq k):=λ d ρ G Q q=>⟨q,by simp,λ i hi=>List.getElem?_set_ne (by omega)⟩
def WkV (P:DV->Prop):DV->Prop:=λ G=>∃ G',Sub G' G/\P G'
theorem WkV.of {P:DV->Prop} {G:DV} (h:P G):WkV P G:=⟨G,.refl _,h⟩
@[irreducible] def k6q (g:DTG) (te:DTE) (nt:Nat) (cap:List Nat) (ρ:DSt) (Q:DK) (J:DIt) (G1:DV):Prop:=J.items.length < sizeLine/\∃ P:Nat->List D->DV->Prop,P 0 [] G1/\(∀ i ds G,i<=J.items.length->P i ds G->J.held G) ∧
  (∀ (i:Nat) (d:D) (ds:List D) (G:DV),J.items[i]?=some d->P i ds G->g d (fOq nt cap ρ) G λ ρ3 G3=>te ρ3 G3 λ y G4=>WkV (P (i+1) (ds++[y])) G4)/\∀ ds G,P J.items.length ds G->∀ p,G p=none->Q (.ref p) (up G p (.lst ds))
abbrev uYq (wi:DTI) (g:DTG) (te:DTE) (nt:Nat) (cap:List Nat):DTE:=λ ρ G Q=>wi ρ G (k6q g te nt cap ρ Q)
theorem lGq {g:DTG} {te:DTE} {nt:Nat} {cap:List Nat} {ρ:DSt} {Q:DK} {J:DIt} {G1:DV} (P:Nat->List D->DV->Prop) (hz:J.items.length < sizeLine) (h0:P 0 [] G1) (held:∀ i ds G,i<=J.items.length->P i ds G->J.held G)
    (turn:∀ (i:Nat) (d:D) (ds:List D) (G:DV),J.items[i]?=some d->P i ds G->g d (fOq nt cap ρ) G λ ρ3 G3=>te ρ3 G3 λ y G4=>WkV (P (i+1) (ds++[y])) G4) (done:∀ ds G,P J.items.length ds G->∀ p,G p=none->Q (.ref p) (up G p (.lst ds))):k6q g te nt cap ρ Q J G1:=by
  unfold k6q;exact ⟨hz,P,h0,held,turn,done⟩
theorem cQq {α:Type} {J:DIt} {G1:DV} {g:DTG} {te:DTE} {nt:Nat} {cap:List Nat} {ρ:DSt} {Q:DK} (xs:List α) (en fn:α->D) (he:J.items=xs.map en) (hz:xs.length < sizeLine) (held:J.held G1)
    (turn:∀ x∈xs,∀ R:DK,R (fn x) G1->g (en x) (fOq nt cap ρ) G1 λ ρ3 G3=>te ρ3 G3 R) (q:∀ p,G1 p=none->Q (.ref p) (up G1 p (.lst (xs.map fn)))) :
    k6q g te nt cap ρ Q J G1:=by
  unfold k6q
  refine ⟨by rw [he,List.length_map];exact hz,λ i ds G=>G=G1/\ds=(xs.take i).map fn,⟨rfl,rfl⟩,λ i ds G _ h=>h.1 ▸ held,?_,?_⟩
  . rintro i d ds G hd ⟨rfl,rfl⟩
    rw [he,List.getElem?_map] at hd
    cases e:xs[i]? with
    | none=>rw [e] at hd;cases hd
    | some x=>
      rw [e] at hd
      cases hd
      refine turn x (List.mem_of_getElem? e) _ (WkV.of ⟨rfl,?_⟩)
      rw [List.take_add_one,e,List.map_append];rfl
  . rintro ds G ⟨rfl,rfl⟩ p hp
    rw [he,List.length_map,List.take_length]
    exact q p hp
theorem Vw.priv {K:PySem.W.Frag} {G:DV} {H:Hp} {acc:Addr} {ys zs:List V} (v:Vw K G H) (h:H acc=some (.lst ys)) (n:G acc=Option.none):Vw K G (upd H acc (.lst zs)):=λ a o e=>
  (v a o e).mono (bWq h) (b0q (by rintro rfl;rw [n] at e;cases e))
theorem Go.priv {K:PySem.W.Frag} {G G':DV} {H H':Hp} {acc:Addr} {ys zs:List V} (g:Go K G H G' H') (h0:H acc=none) (h:H' acc=some (.lst ys)) (n:G' acc=none):Go K G H G' (upd H' acc (.lst zs)) where
  tup:=⟨λ a xs q=>(bWq h).tp a xs (g.tup.tp a xs q),λ a xs q=>(bWq h).fr a xs (g.tup.fr a xs q),λ a o q=>(bWq (K:=K) h).fz a o (g.tup.fz a o q)⟩
  dom:=λ a o e=>by
    obtain ⟨o',e'⟩:=g.dom a o e
    exact ⟨o',by rw [b0q (b1q e h0)];exact e'⟩
  same:=λ a o e z=>by rw [b0q (b1q e h0)];exact g.same a o e z
  new:=g.new
  vw:=g.vw.priv h n
theorem Bears.priv {K:PySem.W.Frag} {ρ:DSt} {G:DV} {σ:St} {H:Hp} {acc:Addr} {ys zs:List V} (B:Bears K ρ G σ H) (h:H acc=some (.lst ys)) (n:G acc=none):Bears K ρ G σ (upd H acc (.lst zs)):=
  ⟨B.len,λ i d e=>let ⟨v,h1,h2⟩:=B.st i d e;⟨v,h1,h2.mono (bWq h)⟩,B.vw.priv h n⟩
theorem Go.held {K:PySem.W.Frag} {G G':DV} {H H':Hp} {acc:Addr} {ds:List D} {ys:List V} (g:Go K G H G' H') (h0:H acc=none) (h:H' acc=some (.lst ys)) (r:AbsL K H' ds ys):Go K G H (up G' acc (.lst ds)) H' where
  tup:=g.tup
  dom:=g.dom
  same:=g.same
  new:=λ a o e z=>by rw [aRq (b1q e h0)];exact g.new a o e z
  vw:=λ a o e=>by
    by_cases c:a=acc
    . subst c;rw [a4q] at e;cases e;exact ⟨ys,h,r⟩
    . rw [aRq c] at e;exact g.vw a o e
theorem jFq {K:PySem.W.Frag} {ci:TI} {cg:TG} {ce:TE} {wi:DTI} {g:DTG} {te:DTE} {nt:Nat} {cap:List Nat} (hk:qPq nt g)
    (ri:∀ ρ G DR σ H R,Bears K ρ G σ H->wi ρ G DR->(∀ J Jc G' H',Go K G H G' H'->ItOk K J Jc G' H'->DR J G'->R Jc H')->ci σ H R) (rg:ImpG K cg g) (re:ImpE K ce te):ImpE K (pDq ci cg ce nt cap) (uYq wi g te nt cap):=by
  intro ρ G DQ σ H Q B q F
  refine ri ρ G _ σ H _ B q λ J Jc G1 H1 g1 ok q1=>?_
  unfold k6q at q1
  obtain ⟨hsz,P,p0,held,turn,done⟩:=q1
  intro acc hacc
  have n1:=g1.vw.none hacc
  have gN:=Go.newT (o:=.lst []) g1.vw hacc
  refine ⟨λ i m ys σ' H'=>m=J.items.length - i/\i<=J.items.length/\∃ ds G',P i ds G'/\AbsL K H' ds ys/\ds.length<=i/\Bears K (fOq nt cap ρ) G' σ' H'/\Go K G1 H1 G' H'/\G' acc=none/\H' acc=some (.lst ys),
    ⟨_,rfl,Nat.zero_le _,[],G1,p0,rfl,Nat.le_refl _,((B.go g1).comp nt cap).go gN,gN,n1,bHq⟩,?_⟩
  rintro i m ys σ2 H2 ⟨rfl,hi,ds,G2,p2,r2,l2,b2,g2,n2,h2⟩
  have k2:=ok G2 H2 g2 (held i ds G2 hi p2)
  by_cases hlt:i < J.items.length
  . have hd:J.items[i]?=some J.items[i]:=by simp [hlt]
    obtain ⟨go,yl⟩:=k2.1 i _ hd
    refine .inr ⟨go,λ x H' y=>?_⟩
    obtain ⟨g3,ax⟩:=yl x H' y
    refine rg _ x _ G2 _ σ2 H' _ (b2.go g3) ax (hk _ _ _ _ (turn i _ ds G2 hd p2)) λ ρ4 G4 σ4 H4 g4 b4 ⟨q4,hl4,hs4⟩=>?_
    refine re ρ4 G4 _ σ4 H4 _ b4 q4 λ z G5 u H5 g5 az q5=>?_
    obtain ⟨G6,s6,p6⟩:=q5
    have gg:=(g3.trans g4).trans g5
    have h5:=gg.same acc _ h2 n2
    have n5:=gg.new acc _ h2 n2
    have n6:=s6.none n5
    have b5:Bears K (fOq nt cap ρ) G6 σ4 H5:=(b4.go g5).weak ⟨hl4.symm,λ j d e=>by rw [hs4 j (jKq e)];exact e⟩ s6
    refine ⟨h5,by rw [r2.len];omega,J.items.length - (i+1),by omega,rfl,hlt,ds++[z],G6,p6,((r2.mono gg.tup).append (.one az)).mono (bWq h5),by simp;omega,b5.priv h5 n6,(((g2.trans gg).sub s6)).priv hacc h5 n6,n6,bHq⟩
  . have e:i=J.items.length:=by omega
    subst e
    refine .inl ⟨k2.2 _ (Nat.le_refl _),F (.ref acc) (up G2 acc (.lst ds)) _ _ ((g1.trans g2).held ?_ h2 r2) rfl (done ds G2 p2 acc n2)⟩
    cases z:H acc with
    | none=>rfl
    | some o=>obtain ⟨o',e'⟩:=g1.dom acc o z;rw [hacc] at e';cases e'
theorem fUq {scope:Scope} {N':List Str} {nt:Nat} {cap:List Nat} {wi:DTI} {g:DTG} (hc:X.calm=true) (ok:CompOk X scope N' nt cap) (hk:qPq nt g) (hi:AI X tg iter wi) (hg:∀ C ex s H,AG (b6q X scope N' C ex s H) tg g) (he:∀ C ex s H,AE (b6q X scope N' C ex s H) elt te)
    (hs:∀ x,foldedSetIterable iter X.env x=pure x:=by intro _;rfl):AE X (.ListComp elt [⟨tg,iter,[],0⟩] scope pos) (uYq wi g te nt cap):=by
  obtain ⟨ci,ji,ri⟩:=hi.run
  obtain ⟨cg,jg,rg⟩:=AG.uni (ι:=Addr × List Addr × Shared × Hp) (cx:=λ z=>b6q X scope N' z.1 z.2.1 z.2.2.1 z.2.2.2) (K:=X.K) (λ _=>rfl) λ z=>hg _ _ _ _
  obtain ⟨ce,je,re⟩:=AE.uni (ι:=Addr × List Addr × Shared × Hp) (cx:=λ z=>b6q X scope N' z.1 z.2.1 z.2.2.1 z.2.2.2) (K:=X.K) (λ _=>rfl) λ z=>he _ _ _ _
  exact ⟨_,vVq hc ok ji (λ C ex s H=>jg (C,ex,s,H)) (λ C ex s H=>je (C,ex,s,H)) hs,jFq hk ri rg re⟩
theorem eDq {scope:Scope} {N':List Str} {nt:Nat} {cap:List Nat} {wi:DTI} {g:DTG} {y:Str} {py spos:Pos} {k:Nat} (hc:X.calm=true) (hN:X.N.Nodup) (hy:X.N[k]?=some y) (hl:Loc X.env.scope y) (ok:CompOk X scope N' nt cap) (hk:qPq nt g) (hi:AI X tg iter wi) (hg:∀ C ex s H,AG (b6q X scope N' C ex s H) tg g) (he:∀ C ex s H,AE (b6q X scope N' C ex s H) elt te)
    (hs:∀ x,foldedSetIterable iter X.env x=pure x:=by intro _;rfl) (hsw:swapsWith (.ListComp elt [⟨tg,iter,[],0⟩] scope pos) (some (.Name y py)) spos.line X.env=pure true:=by rfl) (hf:X.fn y=true\/X.env.scope.names.lookup y=some .local:=by first | exact .inl rfl | exact .inr rfl | assumption) :
    AS X (.Assign [.Name y py] (.ListComp elt [⟨tg,iter,[],0⟩] scope pos) spos) (dAsg (uYq wi g te nt cap) (lJq k)):=by
  obtain ⟨ci,ji,ri⟩:=hi.run
  obtain ⟨cg,jg,rg⟩:=AG.uni (ι:=Addr × List Addr × Shared × Hp) (cx:=λ z=>b6q X scope N' z.1 z.2.1 z.2.2.1 z.2.2.2) (K:=X.K) (λ _=>rfl) λ z=>hg _ _ _ _
  obtain ⟨ce,je,re⟩:=AE.uni (ι:=Addr × List Addr × Shared × Hp) (cx:=λ z=>b6q X scope N' z.1 z.2.1 z.2.2.1 z.2.2.2) (K:=X.K) (λ _=>rfl) λ z=>he _ _ _ _
  exact ⟨_,mJq hc hN hy hl ok ji (λ C ex s H=>jg (C,ex,s,H)) (λ C ex s H=>je (C,ex,s,H)) hs hsw hf,λ DD Dc ρ G σ H B q F=>jFq hk ri rg re ρ G _ σ H _ B q λ d G1 v H1 g1 a q1=>F.nx _ G1 _ H1 g1 ((B.go g1).set a k) q1⟩
structure AMt (X:Cx) (T id:String) (ty:D->DV->Prop) (r:D->List D->DV->DK->Prop):Prop where
  run:∃ rc:V->List V->Hp->VK->Prop,JMt X id rc/\(∀ x v G H,Vw X.K G H->Abs X.K H x v->ty x G->tyV X.K T v H) ∧
    ∀ x xs vx vs G H DQ Q,Vw X.K G H->Abs X.K H x vx->AbsL X.K H xs vs->r x xs G DQ->Fin X.K G H DQ Q->rc vx vs H Q
abbrev dBM (ty:D->DV->Prop) (r:D->List D->DV->DK->Prop) (to:DTE) (t:DTA):DTE:=λ ρ G Q=>to ρ G λ x G1=>ty x G1/\t ρ G1 λ xs G2=>r x xs G2 Q
abbrev dBM0 (ty:D->DV->Prop) (r:D->List D->DV->DK->Prop) (to:DTE):DTE:=λ ρ G Q=>to ρ G λ x G1=>ty x G1/\r x [] G1 Q
theorem bKq {name:Str} {T id:String} {ty:D->DV->Prop} {r:D->List D->DV->DK->Prop} (pa:PlainAttrs T) (slot:Slot T name id) (hty:typeOf (.builtin id)=pure (.type "method_descriptor")) (hm:AMt X T id ty r) (ho:AE X o to) (ha:AA X [e] t)
    (hbase:attributeBase o name X.env (eval o X.env)=eval o X.env:=by rfl) (hline:(apos.endLine==cpos.line)=true:=by rfl) (hs:bAq e=true:=by rfl):AE X (.Call (.Attribute o name apos) [e] [] cpos) (dBM ty r to t):=by
  obtain ⟨co,jo,ro⟩:=ho.run
  obtain ⟨ca,ja,ra⟩:=ha.run
  obtain ⟨cm,jm,hy,rm⟩:=hm.run
  refine ⟨_,aM7q pa slot hty jm jo ja hbase hline hs,λ ρ G DQ σ H Q B q F=>ro ρ G _ σ H _ B q λ x G1 v H1 g1 ax ⟨h1,q1⟩=>⟨hy x v G1 H1 g1.vw ax h1,?_⟩⟩
  exact ra ρ G1 _ σ H1 _ (B.go g1) q1 λ xs G2 vs H2 g2 al _ q2=>rm x xs v vs G2 H2 DQ Q g2.vw (ax.mono g2.tup) al q2 (F.after (g1.trans g2))
theorem h3q {name:Str} {T id:String} {ty:D->DV->Prop} {r:D->List D->DV->DK->Prop} (pa:PlainAttrs T) (slot:Slot T name id) (hty:typeOf (.builtin id)=pure (.type "method_descriptor")) (hm:AMt X T id ty r) (ho:AE X o to)
    (hbase:attributeBase o name X.env (eval o X.env)=eval o X.env:=by rfl) (hline:(apos.endLine==cpos.line)=true:=by rfl):AE X (.Call (.Attribute o name apos) [] [] cpos) (dBM0 ty r to):=by
  obtain ⟨co,jo,ro⟩:=ho.run
  obtain ⟨cm,jm,hy,rm⟩:=hm.run
  exact ⟨_,xGq pa slot hty jm jo hbase hline,λ ρ G DQ σ H Q B q F=>ro ρ G _ σ H _ B q λ x G1 v H1 g1 ax ⟨h1,q1⟩=>⟨hy x v G1 H1 g1.vw ax h1,rm x [] v [] G1 H1 DQ Q g1.vw ax rfl q1 (F.after g1)⟩⟩
def qJq:D->DV->Prop:=λ x G=>match x with
  | .ref l=>onL G l λ _=>True
  | _=>False
theorem hBq {K:PySem.W.Frag} {x:D} {v:V} {G:DV} {H:Hp} (w:Vw K G H) (ax:Abs K H x v) (h:qJq x G):tyV K "list" v H:=by
  cases x with
  | ref l=>cases ax;obtain ⟨ds,vs,_,s,_⟩:=b9q w h;exact .inl ⟨rfl,vs,s⟩
  | _=>exact (show False from h).elim
def appD:D->List D->DV->DK->Prop:=λ x xs G Q=>match x,xs with
  | .ref l,[y]=>onM G l λ ds=>ds.length < sizeLine/\Q .non (up G l (.lst (ds++[y])))
  | _,_=>False
theorem aOq:AMt X "list" "list.append" qJq appD:=by
  refine ⟨_,⟨fLq⟩,λ x v G H w ax h=>hBq w ax h,λ x xs vx vs G H DQ Q v ax al r F=>?_⟩
  unfold appD at r
  split at r
  . next l y=>
    cases ax
    obtain ⟨u,us,rfl,au,z⟩:=al
    cases z
    obtain ⟨ds,ws,k,e1,h1,r1⟩:=d1q v r
    exact ⟨l,ws,u,rfl,rfl,h1,by rw [r1.len];exact k.1,F .non _ _ _ (Go.setL v e1 (r1.append (.one au))) rfl k.2⟩
  . exact r.elim
def extD:D->List D->DV->DK->Prop:=λ x xs G Q=>match x,xs with
  | .ref l,[.tup es]=>onM G l λ ds=>ds.length+es.length<=sizeLine/\Q .non (up G l (.lst (ds++es)))
  | .ref l,[.ref m]=>onM G l λ ds=>onM G m λ es=>ds.length+es.length<=sizeLine/\Q .non (up G l (.lst (ds++es)))
  | _,_=>False
theorem JMt.or {id:String} {r r':V->List V->Hp->VK->Prop} (h:JMt X id r) (h':JMt X id r'):JMt X id (λ x xs H Q=>r x xs H Q\/r' x xs H Q):=⟨h.run.or h'.run⟩
theorem dAq:AMt X "list" "list.extend" qJq extD:=by
  refine ⟨_,JMt.or ⟨vJq⟩ ⟨oMq⟩,λ x v G H w ax h=>hBq w ax h,λ x xs vx vs G H DQ Q v ax al r F=>?_⟩
  unfold extD at r
  split at r
  . next l es'=>
    cases ax
    obtain ⟨u,us,rfl,⟨m,zs,rfl,s,rz⟩,z⟩:=al
    cases z
    obtain ⟨ds,ws,k,e1,h1,r1⟩:=d1q v r
    exact .inl ⟨l,m,ws,zs,rfl,rfl,h1,s,by rw [r1.len,rz.len];exact k.1,F .non _ _ _ (Go.setL v e1 (r1.append rz)) rfl k.2⟩
  . next l m=>
    cases ax
    obtain ⟨u,us,rfl,au,z⟩:=al
    cases z;cases au
    obtain ⟨ds,ws,k,e1,h1,r1⟩:=d1q v r
    obtain ⟨es',zs,k2,e2,h2,r2⟩:=d1q v k
    exact .inr ⟨l,m,ws,zs,rfl,rfl,h1,h2,by rw [r1.len,r2.len];exact k2.1,F .non _ _ _ (Go.setL v e1 (r1.append r2)) rfl k2.2⟩
  . exact r.elim
def popD:D->List D->DV->DK->Prop:=λ x xs G Q=>match x,xs with
  | .ref l,[]=>onM G l λ ds=>∃ es d,ds=es++[d]/\Q d (up G l (.lst es))
  | _,_=>False
theorem eHq:AMt X "list" "list.pop" qJq popD:=by
  refine ⟨_,⟨zZq⟩,λ x v G H w ax h=>hBq w ax h,λ x xs vx vs G H DQ Q v ax al r F=>?_⟩
  unfold popD at r
  split at r
  . next l=>
    cases ax;cases al
    obtain ⟨ds,ws,⟨es',d,rfl,k⟩,e1,h1,r1⟩:=d1q v r
    have hl:=r1.len
    have hd:(es'++[d])[es'.length]?=some d:=by simp
    obtain ⟨u,hu,au⟩:=r1.get hd
    have e:ws.length - 1=es'.length:=by rw [hl];simp
    have r2:AbsL X.K H es' ws.dropLast:=by
      have z:=r1.take es'.length
      rw [List.take_left] at z
      rw [List.dropLast_eq_take,e];exact z
    have g:=Go.setL v e1 r2
    exact ⟨l,ws,u,rfl,rfl,h1,by rw [e];exact hu,F d _ _ _ g (au.mono g.tup) k⟩
  . exact r.elim
abbrev DSp:=List D->DV->DK->Prop
def aUq (K:PySem.W.Frag) (dsp:DSp):Sp:=λ vs H Q _=>∃ ds G DQ,AbsL K H ds vs/\Vw K G H/\dsp ds G DQ/\Fin K G H DQ Q
abbrev z3q (dsp:DSp) (t:DTA):DTE:=λ ρ G Q=>t ρ G λ ds G1=>dsp ds G1 Q
theorem a9q {k j:Nat} {x:Str} {ps:List Str} {dsp:DSp} (Gt:Got X.prog X.w X.K X.mg X.base k x ps (aUq X.K dsp)) (hr:Room j X.A) (hk:k<=j) (hg:Gl X x) (ha:AA X (e::es) t) (hdb:(x==("__debug__" : Str))=false:=by decide)
    (hs:(e::es).all bAq=true:=by rfl):AE X (.Call (.Name x p) (e::es) [] pos) (z3q dsp t):=by
  obtain ⟨ca,ja,ra⟩:=ha.run
  exact ⟨_,aL3q Gt hr hk hg ja hdb hs,λ ρ G DQ σ H Q B q F=>ra ρ G _ σ H _ B q λ ds G1 vs H1 g1 al _ q1=>⟨ds,G1,DQ,by rw [List.append_nil];exact al,g1.vw,q1,F.after g1⟩⟩
abbrev yZq (k:Nat) (f:Addr) (dsp:DSp) (t:DTA):DTE:=λ ρ G Q=>ρ[k]?=some (some (.ref f))/\z3q dsp t ρ G Q
theorem zAq (n:Nat) {k j:Nat} {f:Addr} {x:Str} {dsp:DSp} (Gt:FnV X.prog X.w X.K X.mg X.base k f (aUq X.K dsp)) (hr:Room j X.A) (hk:k<=j) (ha:AA X (e::es) t) (hN:X.N[n]?=some x:=by rfl) (hv:Vis X.env.scope x:=by first | exact Or.inl rfl | exact Or.inr (Or.inl rfl) | exact Or.inr (Or.inr rfl))
    (hd:(x==("__debug__" : Str))=false:=by decide) (hcd:(x==("__classdict__" : Str))=false:=by decide) (hs:(e::es).all bAq=true:=by rfl):AE X (.Call (.Name x p) (e::es) [] pos) (yZq n f dsp t):=by
  obtain ⟨ca,ja,ra⟩:=ha.run
  refine ⟨_,aG2q n Gt hr hk ja hN hv hd hcd hs,λ ρ G DQ σ H Q B q F=>?_⟩
  obtain ⟨q0,q⟩:=q
  obtain ⟨v,h1,h2⟩:=B.st n _ q0
  cases h2
  exact ⟨h1,ra ρ G _ σ H _ B q λ ds G1 vs H1 g1 al _ q1=>⟨ds,G1,DQ,by rw [List.append_nil];exact al,g1.vw,q1,F.after g1⟩⟩
def Dr (DQ:DK):DK:=λ d G=>∃ G',Sub G' G/\DQ d G'
theorem Dr.of {DQ:DK} {d:D} {G:DV} (h:DQ d G):Dr DQ d G:=⟨G,.refl _,h⟩
def iRq (N:List Str) (ds:List D):DSt:=ds.map some++List.replicate (N.length - ds.length) none
theorem kEq {K:PySem.W.Frag} {N:List Str} {ds:List D} {vs:List V} {G:DV} {H:Hp} (r:AbsL K H ds vs) (v:Vw K G H):Bears K (iRq N ds) G (L2.eMq N vs) H:=by
  have hl:=r.len
  refine ⟨by simp [iRq,L2.eMq,hl],λ i d h=>?_,v⟩
  unfold iRq at h
  unfold L2.eMq
  by_cases c:i < ds.length
  . rw [List.getElem?_append_left (by simpa using c),List.getElem?_map] at h
    rw [List.getElem?_append_left (by simpa [hl] using c),List.getElem?_map]
    cases e:ds[i]? with
    | none=>rw [e] at h;cases h
    | some z=>
      rw [e] at h
      simp at h
      subst h
      obtain ⟨u,h1,h2⟩:=r.get e
      exact ⟨u,by rw [h1];rfl,h2⟩
  . rw [List.getElem?_append_right (by simpa using c),List.getElem?_replicate] at h
    split at h<;>cases h
theorem okD {P:Program} {w:World} {K:PySem.W.Frag} {mg:Str->Option Value} {base:Heap} {x qual:Str} {st:Stmt} {f:Addr} {fd:FuncData} {N ps:List Str} {k:Nat} {dsp:DSp} (F:Fun K x qual st f fd) (S:FnScope N ps (aDq st)) (len:∀ ds G DQ,dsp ds G DQ->ds.length=ps.length)
    (hbody:∀ (cdv:Value) (A:Around) (outer:List Env) (s:Shared) (H:Hp) (E:XK),Room k (A.deeper (PyProof.Rows.envOfC qual (aDq st) s.heap.objs.size f cdv))->∀ (ds:List D) (G:DV) (DQ:DK),dsp ds G DQ →
      ∃ t,AB (sGq CX0 P w K mg base N qual (aDq st) f cdv A outer s H E).nox (bTq st) t/\t { nx:=λ _ G'=>Dr DQ .non G',rt:=Dr DQ } (iRq N ds) G):FnOk P w K mg base CX0 (k+1) f fd ps (aUq K dsp):=by
  refine F.okJ S (λ vs H Q E h=>?_) (λ cdv A outer s H vs Q E hr h=>?_)
  . obtain ⟨ds,G,DQ,r,_,h,_⟩:=h
    rw [r.len];exact len ds G DQ h
  . obtain ⟨ds,G,DQ,r,v,h,Fn⟩:=h
    obtain ⟨t,⟨tc,j,imp⟩,q⟩:=hbody cdv A outer s H E hr ds G DQ h
    refine ⟨tc,j,imp _ _ (iRq N ds) G (L2.eMq N vs) H (kEq r v) q ⟨λ ρ' G' σ' H' g b ⟨G2,s2,q2⟩=>Fn .non G2 .non H' (g.sub s2) rfl q2,λ d G' v H' g a ⟨G2,s2,q2⟩=>Fn d G2 v H' (g.sub s2) a q2,λ _ _ _ _ _ _ z=>z.elim,λ _ _ _ _ _ _ z=>z.elim⟩⟩
end
end L3
namespace L3
open PySem PySem.Spec L2
mutual
def eqD:D->D->Bool
  | .non,.non=>true
  | .bl a,.bl b=>a==b
  | .bl a,.int b=>(if a then 1 else 0)==b
  | .int a,.bl b=>a==(if b then 1 else 0)
  | .int a,.int b=>a==b
  | .str a,.str b=>a==b
  | .tup xs,.tup ys=>cZq xs ys
  | _,_=>false
def cZq:List D->List D->Bool
  | [],[]=>true
  | x::xs,y::ys=>eqD x y&&cZq xs ys
  | _,_=>false
end
mutual
def D.data:D->Bool
  | .ref _=>false
  | .ty _=>false
  | .frl _=>false
  | .tup ds=>aXq ds
  | _=>true
def aXq:List D->Bool
  | []=>true
  | d::ds=>d.data&&aXq ds
end
mutual
def D.dp:D->Nat
  | .tup ds=>1+bOq ds
  | _=>0
def bOq:List D->Nat
  | []=>0
  | d::ds=>max d.dp (bOq ds)
end
def eqJ (ds es:List D) (j:Nat):Bool:=match ds[j]?,es[j]? with
  | some d,some e=>eqD d e
  | _,_=>false
theorem cLq:∀ (ds es:List D),((List.range (min ds.length es.length)).all (eqJ ds es)&&ds.length==es.length)=cZq ds es
  | [],[]=>by simp [cZq]
  | [],e::es=>by simp [cZq]
  | d::ds,[]=>by simp [cZq]
  | d::ds,e::es=>by
    rw [cZq,<- cLq ds es,List.length_cons,List.length_cons,Nat.succ_min_succ,List.range_succ_eq_map,List.all_cons,List.all_map]
    have h1:eqJ (d::ds) (e::es) 0=eqD d e:=rfl
    have h2:(eqJ (d::ds) (e::es) ∘ Nat.succ)=eqJ ds es:=by funext j;simp [eqJ]
    rw [h1,h2,Bool.and_assoc]
    congr 2
    rw [Bool.eq_iff_iff];simp
section
variable {X:Cx} {pins:List (Addr × Obj)} {σ:L2.St} {H:Hp} {s:Shared}
mutual
theorem t7q (I:Inv X pins σ H s):∀ {d e:D} {v:V},d.data=true->e.data=true->Abs X.K H d v->Abs X.K H e v->d=e
  | .non,e,v,_,h,a,b=>by
    cases a
    cases e<;>first | rfl | (cases b;done) | (obtain ⟨_,_,z,_⟩:=b;cases z)
  | .bl _,e,v,_,h,a,b=>by
    cases a
    cases e<;>first | (cases b;rfl) | (cases b;done) | (obtain ⟨_,_,z,_⟩:=b;cases z)
  | .int _,e,v,_,h,a,b=>by
    cases a
    cases e<;>first | (cases b;rfl) | (cases b;done) | (obtain ⟨_,_,z,_⟩:=b;cases z)
  | .str _,e,v,_,h,a,b=>by
    cases a
    cases e<;>first | (cases b;rfl) | (cases b;done) | (obtain ⟨_,_,z,_⟩:=b;cases z)
  | .ref _,_,_,h,_,_,_=>by simp [D.data] at h
  | .ty _,_,_,h,_,_,_=>by simp [D.data] at h
  | .frl _,_,_,h,_,_,_=>by simp [D.data] at h
  | .tup ds,e,v,h0,h,a,b=>by
    obtain ⟨l,vs,rfl,s1,r1⟩:=a
    cases e with
    | tup es=>
      obtain ⟨m,us,z,s2,r2⟩:=b
      cases z
      have e:=I.tuple_inj s1 s2
      subst e
      rw [i9q I (by simpa [D.data] using h0) (by simpa [D.data] using h) r1 r2]
    | ref m=>simp [D.data] at h
    | frl m=>simp [D.data] at h
    | _=>cases b
theorem i9q (I:Inv X pins σ H s):∀ {ds es:List D} {vs:List V},aXq ds=true->aXq es=true->AbsL X.K H ds vs->AbsL X.K H es vs->ds=es
  | [],[],_,_,_,_,_=>rfl
  | [],e::es,_,_,_,a,b=>by cases a;obtain ⟨_,_,z,_⟩:=b;cases z
  | d::ds,[],_,_,_,a,b=>by cases b;obtain ⟨_,_,z,_⟩:=a;cases z
  | d::ds,e::es,vs,h1,h2,⟨v,r,e1,a1,l1⟩,⟨u,q,e2,a2,l2⟩=>by
    subst e1
    cases e2
    simp only [aXq,Bool.and_eq_true] at h1 h2
    rw [t7q I h1.1 h2.1 a1 a2,i9q I h1.2 h2.2 l1 l2]
end
mutual
theorem c1q:∀ {d:D},d.data=true->eqD d d=true
  | .non,_=>rfl
  | .bl _,_=>by simp [eqD]
  | .int _,_=>by simp [eqD]
  | .str _,_=>by simp [eqD]
  | .ref _,h=>by simp [D.data] at h
  | .ty _,h=>by simp [D.data] at h
  | .frl _,h=>by simp [D.data] at h
  | .tup ds,h=>by rw [eqD];exact fYq (by simpa [D.data] using h)
theorem fYq:∀ {ds:List D},aXq ds=true->cZq ds ds=true
  | [],_=>rfl
  | d::ds,h=>by
    simp only [aXq,Bool.and_eq_true] at h
    rw [cZq,c1q h.1,fYq h.2];rfl
end
mutual
theorem uXq (I:Inv X pins σ H s):∀ (d e:D) (A:Around) (x y:V) (u v:Value),d.data=true->e.data=true->Abs X.K H d x->Abs X.K H e y->RelV x u->RelV y v->A.units+d.dp < cLine->SeqAt.EqAt A s u v (eqD d e)
  | .tup ds,e,A,x,y,u,v,hd,he,ax,ay,ru,rv,hu=>by
    obtain ⟨a,vs,rfl,s1,r1⟩:=ax
    cases ru
    obtain ⟨its,rr,t1,_⟩:=I.tuple s1
    have hu0:A.units < cLine:=by omega
    cases e with
    | non=>cases ay;cases rv;exact SeqAt.EqAt.tuple_none t1 hu0
    | bl b=>cases ay;cases rv;exact SeqAt.EqAt.tuple_bool b t1 hu0
    | int b=>cases ay;obtain ⟨t,rfl⟩:=rv;exact SeqAt.EqAt.tuple_int b t t1 hu0
    | str b=>cases ay;obtain ⟨t,rfl⟩:=rv;exact SeqAt.EqAt.tuple_str b t t1 hu0
    | ref b=>simp [D.data] at he
    | ty b=>simp [D.data] at he
    | frl b=>simp [D.data] at he
    | tup es=>
      obtain ⟨b,us,rfl,s2,r2⟩:=ay
      cases rv
      by_cases hab:a=b
      . subst hab
        have e1:=I.tuple_inj s1 s2
        subst e1
        have e2:=i9q I (by simpa [D.data] using hd) (by simpa [D.data] using he) r1 r2
        subst e2
        rw [c1q hd]
        exact SeqAt.EqAt.same _
      . obtain ⟨its2,rr2,t2,_⟩:=I.tuple s2
        have l1:=rr.length
        have l2:=rr2.length
        have l3:=r1.len
        have l4:=r2.len
        simp only [D.dp] at hu
        have z:=SeqAt.RcAt.tuples (A:=A) (e:=eqJ ds es) t1 t2 hu0 (λ j h1 h2=>by
          have q:=dXq I ds es A.in1 vs us its its2 (by simpa [D.data] using hd) (by simpa [D.data] using he) r1 r2 rr rr2 (by show A.units+1+bOq ds < cLine;omega) j (by simpa using h1) (by simpa using h2)
          simpa using q)
        have ez:((List.range (min its.toArray.size its2.toArray.size)).all (eqJ ds es)&&its.toArray.size==its2.toArray.size)=eqD (.tup ds) (.tup es):=by
          rw [List.size_toArray,List.size_toArray,<- l1,<- l2,l3,l4,cLq];rfl
        rw [ez] at z
        exact SeqAt.EqAt.of_refs hab z
  | .ref _,_,_,_,_,_,_,hd,_,_,_,_,_,_=>by simp [D.data] at hd
  | .ty _,_,_,_,_,_,_,hd,_,_,_,_,_,_=>by simp [D.data] at hd
  | .frl _,_,_,_,_,_,_,hd,_,_,_,_,_,_=>by simp [D.data] at hd
  | .non,e,A,x,y,u,v,hd,he,ax,ay,ru,rv,hu=>by
    cases ax;cases ru
    have hu0:A.units < cLine:=by omega
    cases e with
    | non=>cases ay;cases rv;exact SeqAt.EqAt.same _
    | bl b=>cases ay;cases rv;exact SeqAt.EqAt.none_bool b
    | int b=>cases ay;obtain ⟨t,rfl⟩:=rv;exact SeqAt.EqAt.none_int b t
    | str b=>cases ay;obtain ⟨t,rfl⟩:=rv;exact SeqAt.EqAt.none_str b t
    | ref b=>simp [D.data] at he
    | ty b=>simp [D.data] at he
    | frl b=>simp [D.data] at he
    | tup es=>obtain ⟨b,us,rfl,s2,r2⟩:=ay;cases rv;obtain ⟨its2,rr2,t2,_⟩:=I.tuple s2;exact SeqAt.EqAt.none_tuple t2 hu0
  | .bl a,e,A,x,y,u,v,hd,he,ax,ay,ru,rv,hu=>by
    cases ax;cases ru
    have hu0:A.units < cLine:=by omega
    cases e with
    | non=>cases ay;cases rv;exact SeqAt.EqAt.bool_none a
    | bl b=>cases ay;cases rv;exact SeqAt.EqAt.bool_bool a b
    | int b=>cases ay;obtain ⟨t,rfl⟩:=rv;exact SeqAt.EqAt.bool_int a b t
    | str b=>cases ay;obtain ⟨t,rfl⟩:=rv;exact SeqAt.EqAt.bool_str a b t
    | ref b=>simp [D.data] at he
    | ty b=>simp [D.data] at he
    | frl b=>simp [D.data] at he
    | tup es=>obtain ⟨b,us,rfl,s2,r2⟩:=ay;cases rv;obtain ⟨its2,rr2,t2,_⟩:=I.tuple s2;exact SeqAt.EqAt.bool_tuple a t2 hu0
  | .int a,e,A,x,y,u,v,hd,he,ax,ay,ru,rv,hu=>by
    cases ax;obtain ⟨t',rfl⟩:=ru
    have hu0:A.units < cLine:=by omega
    cases e with
    | non=>cases ay;cases rv;exact SeqAt.EqAt.int_none a t'
    | bl b=>cases ay;cases rv;exact SeqAt.EqAt.int_bool a t' b
    | int b=>cases ay;obtain ⟨t,rfl⟩:=rv;exact SeqAt.EqAt.int_int a t' b t
    | str b=>cases ay;obtain ⟨t,rfl⟩:=rv;exact SeqAt.EqAt.int_str a t' b t
    | ref b=>simp [D.data] at he
    | ty b=>simp [D.data] at he
    | frl b=>simp [D.data] at he
    | tup es=>obtain ⟨b,us,rfl,s2,r2⟩:=ay;cases rv;obtain ⟨its2,rr2,t2,_⟩:=I.tuple s2;exact SeqAt.EqAt.int_tuple a t' t2 hu0
  | .str a,e,A,x,y,u,v,hd,he,ax,ay,ru,rv,hu=>by
    cases ax;obtain ⟨t',rfl⟩:=ru
    have hu0:A.units < cLine:=by omega
    cases e with
    | non=>cases ay;cases rv;exact SeqAt.EqAt.str_none a t'
    | bl b=>cases ay;cases rv;exact SeqAt.EqAt.str_bool a t' b
    | int b=>cases ay;obtain ⟨t,rfl⟩:=rv;exact SeqAt.EqAt.str_int a t' b t
    | str b=>cases ay;obtain ⟨t,rfl⟩:=rv;exact SeqAt.EqAt.str_str a t' b t
    | ref b=>simp [D.data] at he
    | ty b=>simp [D.data] at he
    | frl b=>simp [D.data] at he
    | tup es=>obtain ⟨b,us,rfl,s2,r2⟩:=ay;cases rv;obtain ⟨its2,rr2,t2,_⟩:=I.tuple s2;exact SeqAt.EqAt.str_tuple a t' t2 hu0
theorem dXq (I:Inv X pins σ H s):∀ (ds es:List D) (A:Around) (vs us:List V) (its its2:List Value),aXq ds=true->aXq es=true->AbsL X.K H ds vs->AbsL X.K H es us->Vals vs its->Vals us its2->A.units+bOq ds < cLine →
    ∀ j (h1:j < its.length) (h2:j < its2.length),SeqAt.EqAt A s its[j] its2[j] (eqJ ds es j)
  | [],es,A,vs,us,its,its2,_,_,e,e',rr,rr2,_,j,h1,h2=>by
    rw [show vs=[] from e] at rr
    cases rr
    exact absurd h1 (by simp)
  | d::ds,[],A,vs,us,its,its2,_,_,e,e',rr,rr2,_,j,h1,h2=>by
    rw [show us=[] from e'] at rr2
    cases rr2
    exact absurd h2 (by simp)
  | d::ds,e0::es,A,vs,us,its,its2,hd,he,⟨v,r,e,q,t⟩,⟨v',r',e',q',t'⟩,rr,rr2,hu,j,h1,h2=>by
    subst e e'
    cases rr with
    | cons r1 rt=>
      cases rr2 with
      | cons r2 rt2=>
        simp only [bOq] at hu
        simp only [aXq,Bool.and_eq_true] at hd he
        cases j with
        | zero=>exact uXq I d e0 A _ _ _ _ hd.1 he.1 q q' r1 r2 (by omega)
        | succ j=>
          have z:=dXq I ds es A _ _ _ _ hd.2 he.2 t t' rt rt2 (by omega) j (by simpa using h1) (by simpa using h2)
          simpa [eqJ] using z
end
theorem aG5q (I:Inv X pins σ H s) (d e:D) (A:Around) (x y:V) (u v:Value) (hd:d.data=true) (he:e.data=true) (ax:Abs X.K H d x) (ay:Abs X.K H e y) (ru:RelV x u) (rv:RelV y v) (hu:A.units+d.dp < cLine):SeqAt.RcAt A s u v (eqD d e):=by
  have hu0:A.units < cLine:=by omega
  cases d with
  | tup ds=>
    obtain ⟨a,vs,rfl,s1,r1⟩:=ax
    cases ru
    obtain ⟨its,rr,t1,_⟩:=I.tuple s1
    cases e with
    | non=>cases ay;cases rv;exact SeqAt.RcAt.tuple_none t1 hu0
    | bl b=>cases ay;cases rv;exact SeqAt.RcAt.tuple_bool b t1 hu0
    | int b=>cases ay;obtain ⟨t,rfl⟩:=rv;exact SeqAt.RcAt.tuple_int b t t1 hu0
    | str b=>cases ay;obtain ⟨t,rfl⟩:=rv;exact SeqAt.RcAt.tuple_str b t t1 hu0
    | ref b=>simp [D.data] at he
    | ty b=>simp [D.data] at he
    | frl b=>simp [D.data] at he
    | tup es=>
      obtain ⟨b,us,rfl,s2,r2⟩:=ay
      cases rv
      obtain ⟨its2,rr2,t2,_⟩:=I.tuple s2
      have l1:=rr.length
      have l2:=rr2.length
      have l3:=r1.len
      have l4:=r2.len
      simp only [D.dp] at hu
      have z:=SeqAt.RcAt.tuples (A:=A) (e:=eqJ ds es) t1 t2 hu0 (λ j h1 h2=>by
        have q:=dXq I ds es A.in1 vs us its its2 (by simpa [D.data] using hd) (by simpa [D.data] using he) r1 r2 rr rr2 (by show A.units+1+bOq ds < cLine;omega) j (by simpa using h1) (by simpa using h2)
        simpa using q)
      have ez:((List.range (min its.toArray.size its2.toArray.size)).all (eqJ ds es)&&its.toArray.size==its2.toArray.size)=eqD (.tup ds) (.tup es):=by
        rw [List.size_toArray,List.size_toArray,<- l1,<- l2,l3,l4,cLq];rfl
      rw [ez] at z
      exact z
  | ref a=>simp [D.data] at hd
  | ty a=>simp [D.data] at hd
  | frl a=>simp [D.data] at hd
  | non=>
    cases ax;cases ru
    cases e with
    | non=>cases ay;cases rv;exact SeqAt.RcAt.none_none
    | bl b=>cases ay;cases rv;exact SeqAt.RcAt.none_bool b
    | int b=>cases ay;obtain ⟨t,rfl⟩:=rv;exact SeqAt.RcAt.none_int b t
    | str b=>cases ay;obtain ⟨t,rfl⟩:=rv;exact SeqAt.RcAt.none_str b t
    | ref b=>simp [D.data] at he
    | ty b=>simp [D.data] at he
    | frl b=>simp [D.data] at he
    | tup es=>obtain ⟨b,us,rfl,s2,r2⟩:=ay;cases rv;obtain ⟨its2,rr2,t2,_⟩:=I.tuple s2;exact SeqAt.RcAt.none_tuple t2 hu0
  | bl a=>
    cases ax;cases ru
    cases e with
    | non=>cases ay;cases rv;exact SeqAt.RcAt.bool_none a
    | bl b=>cases ay;cases rv;exact SeqAt.RcAt.bool_bool a b
    | int b=>cases ay;obtain ⟨t,rfl⟩:=rv;exact SeqAt.RcAt.bool_int a b t
    | str b=>cases ay;obtain ⟨t,rfl⟩:=rv;exact SeqAt.RcAt.bool_str a b t
    | ref b=>simp [D.data] at he
    | ty b=>simp [D.data] at he
    | frl b=>simp [D.data] at he
    | tup es=>obtain ⟨b,us,rfl,s2,r2⟩:=ay;cases rv;obtain ⟨its2,rr2,t2,_⟩:=I.tuple s2;exact SeqAt.RcAt.bool_tuple a t2 hu0
  | int a=>
    cases ax;obtain ⟨t',rfl⟩:=ru
    cases e with
    | non=>cases ay;cases rv;exact SeqAt.RcAt.int_none a t'
    | bl b=>cases ay;cases rv;exact SeqAt.RcAt.int_bool a t' b
    | int b=>cases ay;obtain ⟨t,rfl⟩:=rv;exact SeqAt.RcAt.int_int a t' b t
    | str b=>cases ay;obtain ⟨t,rfl⟩:=rv;exact SeqAt.RcAt.int_str a t' b t
    | ref b=>simp [D.data] at he
    | ty b=>simp [D.data] at he
    | frl b=>simp [D.data] at he
    | tup es=>obtain ⟨b,us,rfl,s2,r2⟩:=ay;cases rv;obtain ⟨its2,rr2,t2,_⟩:=I.tuple s2;exact SeqAt.RcAt.int_tuple a t' t2 hu0
  | str a=>
    cases ax;obtain ⟨t',rfl⟩:=ru
    cases e with
    | non=>cases ay;cases rv;exact SeqAt.RcAt.str_none a t'
    | bl b=>cases ay;cases rv;exact SeqAt.RcAt.str_bool a t' b
    | int b=>cases ay;obtain ⟨t,rfl⟩:=rv;exact SeqAt.RcAt.str_int a t' b t
    | str b=>cases ay;obtain ⟨t,rfl⟩:=rv;exact SeqAt.RcAt.str_str a t' b t
    | ref b=>simp [D.data] at he
    | ty b=>simp [D.data] at he
    | frl b=>simp [D.data] at he
    | tup es=>obtain ⟨b,us,rfl,s2,r2⟩:=ay;cases rv;obtain ⟨its2,rr2,t2,_⟩:=I.tuple s2;exact SeqAt.RcAt.str_tuple a t' t2 hu0
end
end L3
namespace L3
open PySem PySem.Spec L2
section
variable {X:Cx} {pins:List (Addr × Obj)} {σ:L2.St} {H:Hp} {s:Shared}
theorem aE1q (I:Inv X pins σ H s) (d e:D) (A:Around) (x y:V) (u v:Value) (hd:d.data=true) (he:e.data=true) (ax:Abs X.K H d x) (ay:Abs X.K H e y) (ru:RelV x u) (rv:RelV y v) (hu:A.units+d.dp < cLine):SeqAt.RcNeAt A s u v (!eqD d e):=by
  have hu0:A.units < cLine:=by omega
  cases d with
  | tup ds=>
    obtain ⟨a,vs,rfl,s1,r1⟩:=ax
    cases ru
    obtain ⟨its,rr,t1,_⟩:=I.tuple s1
    cases e with
    | non=>cases ay;cases rv;exact SeqAt.RcNeAt.tuple_none t1 hu0
    | bl b=>cases ay;cases rv;exact SeqAt.RcNeAt.tuple_bool b t1 hu0
    | int b=>cases ay;obtain ⟨t,rfl⟩:=rv;exact SeqAt.RcNeAt.tuple_int b t t1 hu0
    | str b=>cases ay;obtain ⟨t,rfl⟩:=rv;exact SeqAt.RcNeAt.tuple_str b t t1 hu0
    | ref b=>simp [D.data] at he
    | ty b=>simp [D.data] at he
    | frl b=>simp [D.data] at he
    | tup es=>
      obtain ⟨b,us,rfl,s2,r2⟩:=ay
      cases rv
      obtain ⟨its2,rr2,t2,_⟩:=I.tuple s2
      have l1:=rr.length
      have l2:=rr2.length
      have l3:=r1.len
      have l4:=r2.len
      simp only [D.dp] at hu
      have z:=SeqAt.RcNeAt.tuples (A:=A) (e:=eqJ ds es) t1 t2 hu0 (λ j h1 h2=>by
        have q:=dXq I ds es A.in1 vs us its its2 (by simpa [D.data] using hd) (by simpa [D.data] using he) r1 r2 rr rr2 (by show A.units+1+bOq ds < cLine;omega) j (by simpa using h1) (by simpa using h2)
        simpa using q)
      have ez:((List.range (min its.toArray.size its2.toArray.size)).all (eqJ ds es)&&its.toArray.size==its2.toArray.size)=eqD (.tup ds) (.tup es):=by
        rw [List.size_toArray,List.size_toArray,<- l1,<- l2,l3,l4,cLq];rfl
      rw [ez] at z
      exact z
  | ref a=>simp [D.data] at hd
  | ty a=>simp [D.data] at hd
  | frl a=>simp [D.data] at hd
  | non=>
    cases ax;cases ru
    cases e with
    | non=>cases ay;cases rv;exact SeqAt.RcNeAt.none_none
    | bl b=>cases ay;cases rv;exact SeqAt.RcNeAt.none_bool b
    | int b=>cases ay;obtain ⟨t,rfl⟩:=rv;exact SeqAt.RcNeAt.none_int b t
    | str b=>cases ay;obtain ⟨t,rfl⟩:=rv;exact SeqAt.RcNeAt.none_str b t
    | ref b=>simp [D.data] at he
    | ty b=>simp [D.data] at he
    | frl b=>simp [D.data] at he
    | tup es=>obtain ⟨b,us,rfl,s2,r2⟩:=ay;cases rv;obtain ⟨its2,rr2,t2,_⟩:=I.tuple s2;exact SeqAt.RcNeAt.none_tuple t2 hu0
  | bl a=>
    cases ax;cases ru
    cases e with
    | non=>cases ay;cases rv;exact SeqAt.RcNeAt.bool_none a
    | bl b=>cases ay;cases rv;exact SeqAt.RcNeAt.bool_bool a b
    | int b=>cases ay;obtain ⟨t,rfl⟩:=rv;exact SeqAt.RcNeAt.bool_int a b t
    | str b=>cases ay;obtain ⟨t,rfl⟩:=rv;exact SeqAt.RcNeAt.bool_str a b t
    | ref b=>simp [D.data] at he
    | ty b=>simp [D.data] at he
    | frl b=>simp [D.data] at he
    | tup es=>obtain ⟨b,us,rfl,s2,r2⟩:=ay;cases rv;obtain ⟨its2,rr2,t2,_⟩:=I.tuple s2;exact SeqAt.RcNeAt.bool_tuple a t2 hu0
  | int a=>
    cases ax;obtain ⟨t',rfl⟩:=ru
    cases e with
    | non=>cases ay;cases rv;exact SeqAt.RcNeAt.int_none a t'
    | bl b=>cases ay;cases rv;exact SeqAt.RcNeAt.int_bool a t' b
    | int b=>cases ay;obtain ⟨t,rfl⟩:=rv;exact SeqAt.RcNeAt.int_int a t' b t
    | str b=>cases ay;obtain ⟨t,rfl⟩:=rv;exact SeqAt.RcNeAt.int_str a t' b t
    | ref b=>simp [D.data] at he
    | ty b=>simp [D.data] at he
    | frl b=>simp [D.data] at he
    | tup es=>obtain ⟨b,us,rfl,s2,r2⟩:=ay;cases rv;obtain ⟨its2,rr2,t2,_⟩:=I.tuple s2;exact SeqAt.RcNeAt.int_tuple a t' t2 hu0
  | str a=>
    cases ax;obtain ⟨t',rfl⟩:=ru
    cases e with
    | non=>cases ay;cases rv;exact SeqAt.RcNeAt.str_none a t'
    | bl b=>cases ay;cases rv;exact SeqAt.RcNeAt.str_bool a t' b
    | int b=>cases ay;obtain ⟨t,rfl⟩:=rv;exact SeqAt.RcNeAt.str_int a t' b t
    | str b=>cases ay;obtain ⟨t,rfl⟩:=rv;exact SeqAt.RcNeAt.str_str a t' b t
    | ref b=>simp [D.data] at he
    | ty b=>simp [D.data] at he
    | frl b=>simp [D.data] at he
    | tup es=>obtain ⟨b,us,rfl,s2,r2⟩:=ay;cases rv;obtain ⟨its2,rr2,t2,_⟩:=I.tuple s2;exact SeqAt.RcNeAt.str_tuple a t' t2 hu0
end
end L3
namespace L3
open PySem PySem.Spec L2
section
variable {X:Cx} {a b c e o i tg iter:Expr} {es:List Expr} {ta tb te to ti tc:DTE} {t:DTA} {pos p apos cpos:Pos}
theorem aQq {A:Around} {k:Nat} (hr:Room k A):A.units+200 < cLine:=by have:=hr.un;omega
def rEqD (K:PySem.W.Frag) (f:Bool->Bool):R2:=λ x y H Q=>∃ d e,Abs K H d x/\Abs K H e y/\d.data=true/\e.data=true/\d.dp<=150/\Q (.bl (f (eqD d e))) H
def uJq (K:PySem.W.Frag) (f:Bool->Bool):R2:=λ x y H Q=>∃ l m vs us ds es,x=.ref l/\y=.ref m/\SqL K H l vs/\SqL K H m us/\AbsL K H ds vs/\AbsL K H es us/\aXq ds=true/\aXq es=true/\bOq ds<=150/\Q (.bl (f (cZq ds es))) H
theorem yGq (hu:X.A.units+200 < cLine):OpR X (compareOp .Eq) (rEqD X.K id):=by
  intro pins s σ H x y v u Q I rx ry h
  obtain ⟨d,e,ax,ay,hd,he,hz,q⟩:=h
  exact aG5q I d e X.A x y v u hd he ax ay rx ry (by omega) X.prog X.w X.xe _ ⟨.bl _,H,I,rfl,q⟩
theorem yJq (hu:X.A.units+200 < cLine):OpR X (compareOp .NotEq) (rEqD X.K (!·)):=by
  intro pins s σ H x y v u Q I rx ry h
  obtain ⟨d,e,ax,ay,hd,he,hz,q⟩:=h
  exact aE1q I d e X.A x y v u hd he ax ay rx ry (by omega) X.prog X.w X.xe _ ⟨.bl _,H,I,rfl,q⟩
theorem eWq:∀ {ds es:List D},ds.length≠es.length->cZq ds es=false
  | [],[],h=>absurd rfl h
  | [],_::_,_=>rfl
  | _::_,[],_=>rfl
  | d::ds,e::es,h=>by rw [cZq,eWq (by simpa using h),Bool.and_false]
theorem hHq {ds es:List D} (h:ds.length=es.length):(List.range ds.length).all (eqJ ds es)=cZq ds es:=by
  rw [<- cLq,<- h,Nat.min_self];simp
theorem w7q (hu:X.A.units+200 < cLine):OpR X (compareOp .Eq) (uJq X.K id):=by
  intro pins s σ H x y v u Q I rx ry h
  obtain ⟨l,m,vs,us,ds,es,rfl,rfl,s1,s2,r1,r2,hd,he,hz,q⟩:=h
  cases rx;cases ry
  obtain ⟨its,rr,t1,_⟩:=I.list s1
  obtain ⟨its2,rr2,t2,_⟩:=I.list s2
  have l1:=rr.length
  have l2:=rr2.length
  have l3:=r1.len
  have l4:=r2.len
  by_cases hl:ds.length=es.length
  . refine SeqAt.RcAt.lists (e:=eqJ ds es) t1.isList t2.isList (by rw [List.size_toArray,List.size_toArray];omega) (by omega) (λ j h1 h2=>?_) X.prog X.w X.xe _ ⟨.bl _,H,I,?_,q⟩
    . have q:=dXq I ds es X.A.in1 vs us its its2 hd he r1 r2 rr rr2 (by show X.A.units+1+bOq ds < cLine;omega) j (by simpa using h1) (by simpa using h2)
      simpa using q
    . show Value.bool _=Value.bool _
      rw [List.size_toArray,<- l1,l3,hHq hl];rfl
  . refine SeqAt.RcAt.lists_lengths t1.isList t2.isList (by rw [List.size_toArray,List.size_toArray];simp;omega) (by omega) X.prog X.w X.xe _ ⟨.bl _,H,I,?_,q⟩
    rw [eWq hl];rfl
theorem vXq (hu:X.A.units+200 < cLine):OpR X (compareOp .NotEq) (uJq X.K (!·)):=by
  intro pins s σ H x y v u Q I rx ry h
  obtain ⟨l,m,vs,us,ds,es,rfl,rfl,s1,s2,r1,r2,hd,he,hz,q⟩:=h
  cases rx;cases ry
  obtain ⟨its,rr,t1,_⟩:=I.list s1
  obtain ⟨its2,rr2,t2,_⟩:=I.list s2
  have l1:=rr.length
  have l2:=rr2.length
  have l3:=r1.len
  have l4:=r2.len
  by_cases hl:ds.length=es.length
  . refine SeqAt.RcNeAt.lists (e:=eqJ ds es) t1.isList t2.isList (by rw [List.size_toArray,List.size_toArray];omega) (by omega) (λ j h1 h2=>?_) X.prog X.w X.xe _ ⟨.bl _,H,I,?_,q⟩
    . have q:=dXq I ds es X.A.in1 vs us its its2 hd he r1 r2 rr rr2 (by show X.A.units+1+bOq ds < cLine;omega) j (by simpa using h1) (by simpa using h2)
      simpa using q
    . show Value.bool _=Value.bool _
      rw [List.size_toArray,<- l1,l3,hHq hl]
  . refine SeqAt.RcNeAt.lists_lengths t1.isList t2.isList (by rw [List.size_toArray,List.size_toArray];simp;omega) (by omega) X.prog X.w X.xe _ ⟨.bl _,H,I,?_,q⟩
    rw [eWq hl];rfl
def eqR (f:Bool->Bool):DR2:=λ x y G Q=>match x,y with
  | .int i,.int j=>Q (.bl (f (i==j))) G
  | .str i,.str j=>Q (.bl (f (i==j))) G
  | .tup _,.str _=>Q (.bl (f false)) G
  | .str _,.tup _=>Q (.bl (f false)) G
  | .ref l,.ref m=>onL G l λ ds=>onL G m λ es=>aXq ds=true/\aXq es=true/\bOq ds<=150/\Q (.bl (f (cZq ds es))) G
  | x,y=>x.data=true/\y.data=true/\x.dp<=150/\Q (.bl (f (eqD x y))) G
theorem aB3q {f:Bool->Bool} {x y:D} {G:DV} {Q:DK} (hx:x.data=true) (hy:y.data=true) (hd:x.dp<=150) (q:Q (.bl (f (eqD x y))) G):eqR f x y G Q:=by
  cases x<;>cases y<;>first | exact q | exact ⟨hx,hy,hd,q⟩ | (simp [D.data] at hx;done) | (simp [D.data] at hy;done)
def rTS (K:PySem.W.Frag) (f:Bool->Bool):R2:=λ x y H Q=>(∃ a vs z,x=.ref a/\SqT K H a vs/\y=.str z/\Q (.bl (f false)) H)\/∃ a vs z,y=.ref a/\SqT K H a vs/\x=.str z/\Q (.bl (f false)) H
theorem tUq (hu:X.A.units+200 < cLine):OpR X (compareOp .Eq) (rTS X.K id):=by
  intro pins s σ H x y v u Q I rx ry h
  rcases h with ⟨a,vs,z,rfl,sq,rfl,q⟩ | ⟨a,vs,z,rfl,sq,rfl,q⟩
  . cases rx;obtain ⟨t,rfl⟩:=ry
    obtain ⟨its,rr,t1,_⟩:=I.tuple sq
    exact SeqAt.RcAt.tuple_str z t t1 (by omega) X.prog X.w X.xe _ ⟨.bl false,H,I,rfl,q⟩
  . cases ry;obtain ⟨t,rfl⟩:=rx
    obtain ⟨its,rr,t1,_⟩:=I.tuple sq
    exact SeqAt.RcAt.str_tuple z t t1 (by omega) X.prog X.w X.xe _ ⟨.bl false,H,I,rfl,q⟩
theorem v8q (hu:X.A.units+200 < cLine):OpR X (compareOp .NotEq) (rTS X.K (!·)):=by
  intro pins s σ H x y v u Q I rx ry h
  rcases h with ⟨a,vs,z,rfl,sq,rfl,q⟩ | ⟨a,vs,z,rfl,sq,rfl,q⟩
  . cases rx;obtain ⟨t,rfl⟩:=ry
    obtain ⟨its,rr,t1,_⟩:=I.tuple sq
    exact SeqAt.RcNeAt.tuple_str z t t1 (by omega) X.prog X.w X.xe _ ⟨.bl true,H,I,rfl,q⟩
  . cases ry;obtain ⟨t,rfl⟩:=rx
    obtain ⟨its,rr,t1,_⟩:=I.tuple sq
    exact SeqAt.RcNeAt.str_tuple z t t1 (by omega) X.prog X.w X.xe _ ⟨.bl true,H,I,rfl,q⟩
theorem sOq {f:Bool->Bool} {op:CmpOp} (h1:OpR X (compareOp op) (rEqD X.K f)) (h2:OpR X (compareOp op) (uJq X.K f)) (h3:OpR X (compareOp op) (rTS X.K f)):AOp X (compareOp op) (eqR f):=by
  refine ⟨_,⟨h1.or (h2.or h3)⟩,λ x y vx vy G H DQ Q v ax ay r F=>?_⟩
  have fin:∀ b:Bool,DQ (.bl b) G->Q (.bl b) H:=λ b q=>F (.bl b) G _ H (.refl v) rfl q
  have gen:x.data=true/\y.data=true/\x.dp<=150/\DQ (.bl (f (eqD x y))) G->rEqD X.K f vx vy H Q:=λ⟨z1,z2,z3,z4⟩=>⟨x,y,ax,ay,z1,z2,z3,fin _ z4⟩
  unfold eqR at r
  split at r
  . exact .inl (gen ⟨rfl,rfl,Nat.zero_le _,r⟩)
  . exact .inl (gen ⟨rfl,rfl,Nat.zero_le _,r⟩)
  . obtain ⟨l,vs,rfl,s1,_⟩:=ax
    cases ay
    exact .inr (.inr (.inl ⟨l,vs,_,rfl,s1,rfl,fin _ r⟩))
  . obtain ⟨l,vs,rfl,s1,_⟩:=ay
    cases ax
    exact .inr (.inr (.inr ⟨l,vs,_,rfl,s1,rfl,fin _ r⟩))
  . cases ax;cases ay
    obtain ⟨ds,vs,k1,s1,r1⟩:=b9q v r
    obtain ⟨es,us,⟨z1,z2,z3,k2⟩,s2,r2⟩:=b9q v k1
    exact .inr (.inl ⟨_,_,vs,us,ds,es,rfl,rfl,s1,s2,r1,r2,z1,z2,z3,fin _ k2⟩)
  . exact .inl (gen r)
theorem aKq (hu:X.A.units+200 < cLine):AOp X (compareOp .Eq) (eqR id):=sOq (yGq hu) (w7q hu) (tUq hu)
theorem dYq (hu:X.A.units+200 < cLine):AOp X (compareOp .NotEq) (eqR (!·)):=sOq (yJq hu) (vXq hu) (v8q hu)
abbrev wTq (t:DTE):DTE:=λ ρ G Q=>t ρ G λ d G'=>∃ G2,Sub G2 G'/\Q d G2
theorem cCq (h:AE X e te):AE X e (wTq te):=by
  obtain ⟨ca,ja,ra⟩:=h.run
  exact ⟨_,ja,λ ρ G DQ σ H Q B q F=>ra ρ G _ σ H _ B q λ d G' v H' g a ⟨G2,s2,q2⟩=>F d G2 v H' (g.sub s2) a q2⟩
@[irreducible] def atS (ds:List D) (i:Int) (G:DV) (Q:DK):Prop:=atD ds i G Q
theorem q9q {ds:List D} {i:Int} {G:DV} {Q:DK} (h:atD ds i G Q):atS ds i G Q:=by unfold atS;exact h
abbrev dIxD (t:DTA) (tb:DTE):DTE:=λ ρ G Q=>t ρ G λ ds G1=>tb ρ G1 λ y G2=>match y with
  | .int i=>atS ds i G2 Q
  | _=>False
theorem c9q {lp:Pos} (h:AA X es t) (hb:AE X b tb) (hs:i7q b) (hl:Nat.ble es.length 1000=true:=by rfl):AE X (.Subscript (.List es lp) b pos) (dIxD t tb):=by
  obtain ⟨ca,ja,ra⟩:=h.run
  obtain ⟨cb,jb,rb⟩:=hb.run
  refine ⟨_,xNq ⟨sLq⟩ (sYq ja) jb hs,λ ρ G DQ σ H Q B q F=>ra ρ G _ σ H _ B q λ ds G1 vs H1 g1 al hn q1=>⟨by rw [al.len,hn];exact hJq hl,λ p hp=>?_⟩⟩
  have g2:=Go.newT (o:=.lst vs) g1.vw hp
  have n1:=g1.vw.none hp
  refine rb ρ G1 _ σ _ _ ((B.go g1).go g2) q1 λ y G3 u H3 g3 ay q3=>?_
  have h3:=g3.same p _ bHq n1
  split at q3
  . next i=>
    cases ay
    unfold atS at q3
    obtain ⟨d,hd,q4⟩:=hAq q3
    obtain ⟨w,hw,aw⟩:=hLq ((al.mono g2.tup).mono g3.tup) hd
    exact .inl ⟨p,vs,i,w,rfl,rfl,.of h3,hw,F d G3 w H3 ((g1.trans g2).trans g3) aw q4⟩
  . exact q3.elim
def n1q (sc:Scope) (N:List Str) (scope:Scope) (N':List Str) (nt:Nat) (cap:List Nat):Bool:=
  scope.names.all (λ y=>y.2 !=.cell)&&scope.names.all (λ y=>y.2 !=.local||scope.names.lookup y.1==some .local) &&
  scope.names.all (λ y=>y.2 !=.free||(sc.names.lookup y.1==some .cell||sc.names.lookup y.1==some .free))&&N'.length==nt+cap.length &&
  (List.range cap.length).all λ j=>match cap[j]?,N'[nt+j]? with
    | some i,some x=>N[i]?==some x&&scope.names.lookup x==some .free
    | _,_=>true
theorem CompOk.of {scope:Scope} {N':List Str} {nt:Nat} {cap:List Nat} (hk:scope.kind=.function) (h:n1q X.env.scope X.N scope N' nt cap=true):CompOk X scope N' nt cap:=by
  unfold n1q at h
  simp only [Bool.and_eq_true,List.all_eq_true] at h
  obtain ⟨⟨⟨⟨h1,h2⟩,h3⟩,h4⟩,h5⟩:=h
  refine ⟨hk,λ y hy=>by simpa using h1 y hy,λ y hy e=>?_,λ y hy e=>?_,by simpa using h4,λ j i x hj hx=>?_⟩
  . have z:=h2 y hy
    rw [e] at z
    simpa using z
  . have z:=h3 y hy
    rw [e] at z
    simpa using z
  . have lt:j < cap.length:=by
      rcases Nat.lt_or_ge j cap.length with z | z
      . exact z
      . rw [List.getElem?_eq_none z] at hj;cases hj
    have z:=h5 j (List.mem_range.mpr lt)
    rw [hj,hx] at z
    simpa using z
abbrev aJ3q (to ti:DTE):DTG:=λ d ρ G Q=>to ρ G λ x G1=>ti ρ G1 λ y G2=>match x,y with
  | .ref l,.int k=>onM G2 l λ ds=>∃ j,ixN ds.length k=some j/\Q ρ (up G2 l (.lst (ds.set j d)))
  | _,_=>False
theorem lWq (ho:AE X o to) (hi:AE X i ti) (ha:∀ v,assign (.Subscript o i pos) X.env v=(do
      let ov ← holding [v] (eval o X.env)
      let iv ← holding [v,ov] (eval i X.env)
      standAt pos
      holding [v,ov,iv] (setItem ov iv v)
      release [v,ov,iv] []):=by intro _;rfl):AG X (.Subscript o i pos) (aJ3q to ti):=by
  obtain ⟨co,jo,ro⟩:=ho.run
  obtain ⟨ci,ji,ri⟩:=hi.run
  refine ⟨_,xVq jo ji ⟨qMq⟩ ha,λ d v ρ G DQ σ H Q B ad q F=>ro ρ G _ σ H _ B q λ x G1 vx H1 g1 ax q1=>ri ρ G1 _ σ H1 _ (B.go g1) q1 λ y G2 vy H2 g2 ay q2=>?_⟩
  split at q2
  . next l k=>
    cases ax;cases ay
    obtain ⟨ds,vs,⟨j,hj,q3⟩,e1,h1,r1⟩:=d1q g2.vw q2
    have ad2:=(ad.mono g1.tup).mono g2.tup
    have g3:=Go.setL g2.vw e1 (r1.set ad2 j)
    have gg:=(g1.trans g2).trans g3
    exact ⟨l,vs,k,j,rfl,rfl,h1,by rw [r1.len];exact hj,F ρ _ σ _ gg (B.go gg) q3⟩
  . exact q2.elim
abbrev dAug (k:Nat) (te:DTE) (f:Int->Int->Int):DTS:=λ DD ρ G=>match ρ[k]? with
  | some (some (.int x))=>te ρ G λ y G1=>(match y with
      | .int z=>DD.nx (ρ.set k (some (.int (f x z)))) G1
      | _=>False)
  | _=>False
structure AIp (X:Cx) (op:Operator) (f:Int->Int->Int):Prop where
  run:JIp X op (ipI f)
theorem kVq:AIp X .Add (λ i j=>i+j):=⟨⟨yIq⟩⟩
theorem tTq:AIp X .Sub (λ i j=>i - j):=⟨⟨y3q⟩⟩
theorem m6q {k:Nat} {x:Str} {op:Operator} {f:Int->Int->Int} {pos':Pos} (hN:X.N.Nodup) (hi:X.N[k]?=some x) (hx:Loc X.env.scope x) (he:AE X e te) (ho:AIp X op f) (hf:X.fn x=true\/X.env.scope.names.lookup x=some .local:=by first | exact .inl rfl | exact .inr rfl | assumption) :
    AS X (.AugAssign (.Name x pos') op e pos) (dAug k te f):=by
  obtain ⟨ce,je,re⟩:=he.run
  refine ⟨_,y8q hN hi hx je ho.run hf,λ DD Dc ρ G σ H B q F=>?_⟩
  unfold dAug at q
  split at q
  . next x h=>
    obtain ⟨v,h1,h2⟩:=B.st k _ h
    cases h2
    refine ⟨.int x,h1,re ρ G _ σ H _ B q λ y G1 u H1 g1 ay q1=>?_⟩
    split at q1
    . next z=>cases ay;exact ⟨x,z,rfl,rfl,F.nx _ G1 _ H1 g1 ((B.go g1).set (d:=.int (f x z)) rfl k) q1⟩
    . exact q1.elim
  . exact q.elim
abbrev o5q (te:DTE):DTE:=λ ρ G Q=>te ρ G λ x G1=>match x with
  | .ref l=>onL G1 l λ ds=>∀ p,G1 p=none->Q (.ref p) (up G1 p (.lst ds.reverse))
  | _=>False
theorem d0q (hgl:Gl X "list") (hml:X.mg "list" = none) (hg:Gl X "reversed") (hm:X.mg "reversed" = none) (he:AE X e te) (hc:X.calm=true:=by rfl) (hs:bAq e=true:=by rfl):AE X (.Call (.Name "list" p) [.Call (.Name "reversed" apos) [e] [] cpos] [] pos) (o5q te):=by
  obtain ⟨ce,je,re⟩:=he.run
  refine ⟨_,fNq hgl hml hg hm je hc hs,λ ρ G DQ σ H Q B q F=>re ρ G _ σ H _ B q λ x G1 v H1 g1 ax q1=>?_⟩
  split at q1
  . next l=>
    cases ax
    obtain ⟨ds,vs,k,s,r⟩:=b9q g1.vw q1
    exact ⟨l,vs,rfl,s,λ p hp=>F (.ref p) _ _ _ (g1.trans (Go.newL g1.vw hp r.reverse)) rfl (k p (g1.vw.none hp))⟩
  . exact q1.elim
def dFq:List D->Option (List Bool)
  | []=>some []
  | .bl i::r=>(dFq r).map (i::·)
  | _::_=>none
theorem fKq {K:PySem.W.Frag} {H:Hp}:∀ {ds:List D} {bs:List Bool} {vs:List V},dFq ds=some bs->AbsL K H ds vs->vs=bs.map V.bl
  | [],bs,vs,h,r=>by cases h;exact r
  | d::ds,bs,vs,h,⟨v,q,e,av,l⟩=>by
    cases d with
    | bl i=>
      simp only [dFq,Option.map_eq_some_iff] at h
      obtain ⟨ms,h1,rfl⟩:=h
      subst e
      cases av
      rw [fKq h1 l];rfl
    | _=>simp [dFq] at h
theorem cSq:∀ bs:List Bool,dFq (bs.map D.bl)=some bs
  | []=>rfl
  | b::bs=>by simp [dFq,cSq bs]
def allD:D->DV->DK->Prop:=λ x G Q=>match x with
  | .ref l=>onL G l λ ds=>∃ bs,dFq ds=some bs/\Q (.bl (bs.all id)) G
  | _=>False
theorem fHq (hc:X.calm=true):ACall X (.builtin "all") (pKq allD):=by
  refine ⟨_,⟨pLq hc⟩,λ xs vs G H DQ Q v a r F=>?_⟩
  obtain ⟨x,u,rfl,rfl,ax,r⟩:=bXq r a
  cases x with
  | ref l=>
    cases ax
    obtain ⟨ds,ws,⟨bs,e,k⟩,s,rl⟩:=b9q v r
    rw [fKq e rl] at s
    exact ⟨l,bs,rfl,s,F (.bl (bs.all id)) G _ H (.refl v) rfl k⟩
  | _=>exact (show False from r).elim
def tyN (x:D) (G:DV) (k:String->Prop):Prop:=match x with
  | .non=>k "NoneType"
  | .bl _=>k "bool"
  | .int _=>k "int"
  | .str _=>k "str"
  | .tup _=>k "tuple"
  | .ref l=>onL G l λ _=>k "list"
  | _=>False
def isTy (t T:String):Option Bool:=
  if (t = "NoneType"\/t = "bool"\/t = "int"\/t = "str"\/t = "tuple"\/t = "list")/\(T = "bool"\/T = "int"\/T = "str"\/T = "tuple"\/T = "list") then some (decide (t=T)||(decide (t = "bool")&&decide (T = "int"))) else none
theorem bZq {K:PySem.W.Frag} {t T:String} {b:Bool} (h:isTy t T=some b):PySem.W.kitOne K (.type t) (.type T)=some b:=by
  unfold isTy at h
  split at h
  . next c=>
    obtain ⟨c1,c2⟩:=c
    rcases c1 with rfl | rfl | rfl | rfl | rfl | rfl<;>rcases c2 with rfl | rfl | rfl | rfl | rfl<;>(simp at h;subst h;first | rfl | exact kit_other rfl (by decide))
  . cases h
def rIsI (K:PySem.W.Frag):List V->Hp->VK->Prop:=λ xs H Q=>∃ x T t b,xs=[x,.ty T]/\((TyOf K H x (.type t))\/(t = "tuple"/\∃ a vs,x=.ref a/\SqT K H a vs)\/(t = "list"/\∃ a vs,x=.ref a/\SqL K H a vs))/\PySem.W.kitOne K (.type t) (.type T)=some b/\Q (.bl b) H
theorem q1q:CallR X (.builtin "isinstance") (rIsI X.K):=by
  intro pins s σ H xs us Q I r h
  obtain ⟨x,T,t,b,rfl,ty,hk,hQ⟩:=h
  obtain ⟨u,v,rfl,ru,rv⟩:=Vals.two r
  cases rv
  rcases ty with ty | ⟨rfl,a,vs,rfl,sq⟩ | ⟨rfl,a,vs,rfl,sq⟩
  . exact n9q I ru ty hk λ tk=>⟨.bl b,H,I.tok tk,rfl,hQ⟩
  . cases ru
    obtain ⟨its,_,⟨o,h1,h2,_⟩,_⟩:=I.tuple sq
    exact PySem.W.kia_one PySem.W.kitx_tuple I.kIn ⟨o,h1,h2⟩ hk (λ z=>nomatch z) λ tk=>⟨.bl b,H,I.tok tk,rfl,hQ⟩
  . cases ru
    obtain ⟨its,_,⟨o,n,h1,h2,_⟩,_⟩:=I.list sq
    exact PySem.W.kia_one PySem.W.kitx_list I.kIn ⟨o,h1,h2⟩ hk (λ z=>nomatch z) λ tk=>⟨.bl b,H,I.tok tk,rfl,hQ⟩
def isID:D->D->DV->DK->Prop:=λ x y G Q=>match y with
  | .ty T=>tyN x G λ t=>∃ b,isTy t T=some b/\Q (.bl b) G
  | _=>False
theorem b5q:ACall X (.builtin "isinstance") (wEq isID):=by
  refine ⟨_,⟨q1q⟩,λ xs vs G H DQ Q v a r F=>?_⟩
  obtain ⟨x,y,u,w,rfl,rfl,ax,ay,r⟩:=eXq r a
  cases y with
  | ty T=>
    cases ay
    cases x with
    | non=>cases ax;obtain ⟨b,hb,q⟩:=r;exact ⟨_,T,_,b,rfl,.inl .non,bZq hb,F (.bl b) G _ H (.refl v) rfl q⟩
    | bl z=>cases ax;obtain ⟨b,hb,q⟩:=r;exact ⟨_,T,_,b,rfl,.inl (.bl z),bZq hb,F (.bl b) G _ H (.refl v) rfl q⟩
    | int z=>cases ax;obtain ⟨b,hb,q⟩:=r;exact ⟨_,T,_,b,rfl,.inl (.int z),bZq hb,F (.bl b) G _ H (.refl v) rfl q⟩
    | str z=>cases ax;obtain ⟨b,hb,q⟩:=r;exact ⟨_,T,_,b,rfl,.inl (.str z),bZq hb,F (.bl b) G _ H (.refl v) rfl q⟩
    | tup ds=>obtain ⟨l,ws,rfl,s,_⟩:=ax;obtain ⟨b,hb,q⟩:=r;exact ⟨_,T,"tuple", b,rfl,.inr (.inl ⟨rfl,l,ws,rfl,s⟩),bZq hb,F (.bl b) G _ H (.refl v) rfl q⟩
    | ref l=>
      cases ax
      obtain ⟨ds,ws,⟨b,hb,q⟩,s,_⟩:=b9q v r
      exact ⟨_,T,"list", b,rfl,.inr (.inr ⟨rfl,l,ws,rfl,s⟩),bZq hb,F (.bl b) G _ H (.refl v) rfl q⟩
    | ty z=>exact (show False from r).elim
    | frl z=>exact (show False from r).elim
  | _=>exact (show False from r).elim
end
end L3
namespace L3
open PySem PyProof L2
open PySem.MeetsSeq
theorem eBq {K:PySem.W.Frag} {H:Hp}:∀ ws:List Str,AbsL K H (ws.map D.str) (ws.map V.str)
  | []=>rfl
  | w::ws=>⟨_,_,rfl,rfl,eBq ws⟩
section
variable {X:Cx}
variable {e:Expr} {t:DTA} {pos apos cpos:Pos}
end
inductive Tm where
  | name (k:Nat) | whole (n:Int) | way (t:Tm) | give (t u:Tm) | pair (t u:Tm) | first (t:Tm) | second (t:Tm) | plus (t u:Tm) | look (t u v:Tm)
abbrev fed (x y:Int):DO:=.lst [.int x,.int y]
def Fd (G:DV) (a:Addr):Prop:=∃ x y,G a=some (fed x y)
theorem Fd.up {G:DV} {a:Addr} {x y:Int}:Fd (up G a (fed x y)) a:=⟨x,y,a4q⟩
theorem Fd.new {G:DV} {a l:Addr} {o:DO} (h:Fd G a) (n:G l=none):Fd (L3.up G l o) a:=by
  obtain ⟨x,y,e⟩:=h
  exact ⟨x,y,by rw [aRq (by rintro rfl;rw [n] at e;cases e)];exact e⟩
theorem Fd.ne {G:DV} {a l:Addr} (h:Fd G a) (n:G l=none):l≠a:=by
  obtain ⟨x,y,e⟩:=h
  rintro rfl
  rw [n] at e;cases e
theorem eNq {G:DV} {a l:Addr} {f o:DO} (n:up G a f l=none):up (up G a f) l o=up (up G l o) a f/\G l=none/\l≠a:=by
  have ne:l≠a:=by rintro rfl;rw [a4q] at n;cases n
  exact ⟨eIq (Ne.symm ne),by rw [aRq ne] at n;exact n,ne⟩
theorem Sub.new {G G1:DV} {p:Addr} {o:DO} (h:Sub G G1) (n:G p=Option.none):Sub G (up G1 p o):=λ b u e=>by
  rw [aRq (by rintro rfl;rw [n] at e;cases e)];exact h b u e
theorem Sub.put {G G1:DV} {a:Addr} {o:DO} (h:Sub G G1):Sub (up G a o) (up G1 a o):=λ b u e=>by
  by_cases c:b=a
  . subst c;rw [a4q] at e ⊢;exact e
  . rw [aRq c] at e ⊢;exact h b u e
def Fx (a:Addr) (G G':DV):Prop:=∃ x y,G'=up G a (fed x y)
theorem Fx.mk {a:Addr} {G:DV} {x y:Int}:Fx a G (up G a (fed x y)):=⟨x,y,rfl⟩
theorem Fx.trans {a:Addr} {G G1 G2:DV} (h:Fx a G G1) (k:Fx a G1 G2):Fx a G G2:=by
  obtain ⟨x,y,rfl⟩:=h
  obtain ⟨z,u,rfl⟩:=k
  exact ⟨z,u,bPq⟩
theorem Fx.fd {a:Addr} {G G':DV} (h:Fx a G G'):Fd G' a:=by obtain ⟨x,y,rfl⟩:=h;exact .up
theorem Fx.refl {a:Addr} {G:DV} (h:Fd G a):Fx a G G:=by obtain ⟨x,y,e⟩:=h;exact ⟨x,y,(t5q e).symm⟩
theorem Fx.other {a l:Addr} {G G':DV} (h:Fx a G G') (n:l≠a):G' l=G l:=by obtain ⟨x,y,rfl⟩:=h;exact aRq n
theorem Fx.none {a l:Addr} {G G':DV} (h:Fx a G G') (n:G' l=Option.none):G l=Option.none:=by
  obtain ⟨x,y,rfl⟩:=h
  exact (eNq (o:=fed 0 0) n).2.1
theorem Fx.drop {a l:Addr} {G G':DV} {o:DO} (n:G l=Option.none) (h:Fx a (up G l o) G') (F:Fd G a):∃ G2,Sub G2 G'/\Fx a G G2:=by
  obtain ⟨x,y,rfl⟩:=h
  exact ⟨up G a (fed x y),Sub.put (Sub.new (Sub.refl _) n),x,y,rfl⟩
def ePq:DSp:=λ ds G Q=>match ds with
  | [.ref a,.int m]=>Fd G a/\0 < m/\m < 2 ^ 62/\∀ d G',Fx a G G'->0<=d->d < m->Q (.int d) G'
  | _=>False
def jOq:DSp:=λ ds G Q=>match ds with
  | [.frl ss,.int k]=>∃ ns:List Int,ss=ns.map D.int/\ns.length<=63/\0<=k/\k < 2 ^ 32/\∀ r x y,G r=none->Q (.ref r) (up G r (fed x y))
  | _=>False
def s5q:DSp:=λ ds _ Q=>∃ ns:List Int,ds=[.frl (ns.map D.int)]/\ns.length<=63/\∀ G',Q (.bl true) G'
abbrev m5q (K:PySem.W.Frag):Sp:=aUq K s5q
theorem zXq {K:PySem.W.Frag} {H:Hp} {a:Addr} {ns:List Int} (hl:ns.length<=63) (o:Only H) (h:SqL K H a (ns.map V.int)):m5q K [.ref a] H (λ v _=>v=.bl true) λ _ _ _=>False:=by
  have f:FrL K H a (ns.map V.int):=by
    rcases h with (h | h) | h
    . rcases o a with z | ⟨_,_,z⟩<;>(rw [h] at z;cases z)
    . exact .inl h
    . exact .inr h
  refine ⟨[.frl (ns.map D.int)],λ _=>none,λ d _=>d=.bl true,⟨.ref a,[],rfl,⟨a,_,rfl,f,AbsL.of_ints ns⟩,rfl⟩,(λ _ _ e=>by cases e),⟨ns,rfl,hl,λ _=>rfl⟩,λ d G' v H' g ad e=>?_⟩
  subst e
  exact ad
theorem wCq {P:Program} {w:World} {K:PySem.W.Frag} {mg:Str->Option Value} {base:Heap} {f:Addr} {fd:FuncData} {ps:List Str} {k:Nat} {dsp:DSp} (no:∀ ds G DQ,¬ dsp ds G DQ):FnOk P w K mg base CX0 k f fd ps (aUq K dsp):=
  ⟨λ vs H Q E ⟨ds,G,DQ,_,_,h,_⟩=>absurd h (no ds G DQ),λ A outer s H args us vs Q E _ _ _ _ ⟨ds,G,DQ,_,_,h,_⟩=>absurd h (no ds G DQ)⟩
theorem at2 {x y:D} {G:DV} {Q:DK} {i:Int} (h0:0<=i) (h1:i < 2) (hx:i=0->Q x G) (hy:i=1->Q y G):atS [x,y] i G Q:=by
  refine q9q ?_
  rcases (by omega:i=0\/i=1) with rfl | rfl
  . exact hx rfl
  . exact hy rfl
section
variable {α:Type} {all:α->List (List Int × α)} {inn:α->List α}
theorem dJq {n:Nat} (h:n<=200000):n<=sizeLine:=by rw [sizeLine_eq];omega
theorem aVq {n:Nat} (h:n<=200000):n < sizeLine:=by rw [sizeLine_eq];omega
theorem up3 {G:DV} {p q:Addr} {x y z:DO} (h:p≠q):up (up (up G q x) p y) q z=up (up G q z) p y:=by
  rw [eIq h,bPq]
end
theorem dMq:∀ {ds:List D} {d:D},d∈ds->d.dp<=bOq ds
  | d::ds,e,m=>by
    rcases List.mem_cons.mp m with rfl | m
    . simp only [bOq];omega
    . have:=dMq m
      simp only [bOq];omega
end L3
namespace L3
open PySem PyProof L2
section
variable {X:Cx}
variable {i:Nat} {T c:Addr} {name:Str} {params:Arguments} {body:List Stmt} {scope:Scope} {pos:Pos} {fr:List Str}
end
end L3
namespace L2
open PySem PySem.Spec PyProof.Rows
end L2
namespace L3
open PySem PyProof L2
section
variable {X:Cx} {k j:Nat} {name qual:Str} {st:Stmt} {fr:List Str} {vals:List D} {ps:List Str} {x:Str} {dsp:DSp} {p pos:Pos} {e:Expr} {es:List Expr} {t:DTA}
end
end L3
namespace L3
open PySem PyProof L2
section
variable {K:PySem.W.Frag} {H H':Hp}
end
section
variable {X:Cx} {e:Expr} {es:List Expr} {t:DTA} {p pos:Pos}
end
def FnAt (K:PySem.W.Frag) (x q:Str) (st:Stmt) (f:Addr) (cd:Value):Prop:=∃ (oc:Value) (od:Option Addr) (kV doc pm:Value) (an:Option Addr) (ct:Value) (osl:Array (Option Value)),
  K.lookup f=some ⟨oc,od,.func (PySem.W.fnOf x q (cRq st) (bTq st) (aDq st) .none kV doc pm an cd ct),osl⟩/\PySem.W.codeIn K cd q=true/\PySem.W.keepIn K (.ref f)=true
def DT (K:PySem.W.Frag) (x:Str) (st:Stmt):Prop:=∃ (f:Addr) (cd:Value),PySem.W.nsIn K mainGlobals x=some (some (.ref f))/\FnAt K x x st f cd
section
variable {K:PySem.W.Frag} {x m q:Str} {st:Stmt} {C c:Addr}
theorem DT.mk {f:Addr} {cd oc kV doc pm ct:Value} {od an:Option Addr} {osl:Array (Option Value)} (a:PySem.W.nsIn K mainGlobals x=some (some (.ref f))) (l:K.lookup f=some ⟨oc,od,.func (PySem.W.fnOf x x (cRq st) (bTq st) (aDq st) .none kV doc pm an cd ct),osl⟩) (k:PySem.W.codeIn K cd x=true) (p:PySem.W.keepIn K (.ref f)=true):DT K x st:=⟨f,cd,a,_,_,_,_,_,_,_,_,l,k,p⟩
theorem DT.ok (h:DT K x st):∃ (f:Addr) (fd:FuncData),PySem.W.nsIn K mainGlobals x=some (some (.ref f))/\Fun K x x st f fd:=
  let ⟨f,_,a,_,_,_,_,_,_,_,_,l,k,p⟩:=h;⟨f,_,a,xXq l k p⟩
end
end L3
namespace L3
open PySem PyProof L2
section
variable {K:PySem.W.Frag} {H:Hp}
end
section
variable {K:PySem.W.Frag} {G:DV} {H:Hp}
end
section
variable {X:Cx} {o e value:Expr} {es:List Expr} {f m:Str} {C:Addr} {pos pos' tpos apos p:Pos} {ta tv:DTE} {t:DTA}
end
end L3
namespace L2
open PySem PySem.Spec PyProof.Rows
section
variable {X:Cx} {e:Expr} {ta:TA} {p p2 pos pos2:Pos}
end
end L2
namespace L3
open PySem PyProof L2
section
variable {X:Cx} {e:Expr} {t:DTA} {p p2 pos pos2:Pos}
end
end L3
namespace L2
open PySem PySem.Spec PyProof.Rows
end L2
namespace L3
open PySem PyProof L2
end L3
namespace KSs
open PySem PyProof.Rows
end KSs
namespace KSs
open PySem PyProof.Rows
section
variable {prog:Program} {w:World} {A:Around} {E:Value->Shared->Prop} {s:Shared} {a:Addr} {es:Array (Int × Value)} {ep:Nat} {t:SetTable}
end
end KSs
namespace KSs
open PySem PyProof.Rows
section
variable {prog:Program} {w:World} {A:Around} {E:Value->Shared->Prop} {s:Shared}
end
end KSs
namespace KSs
open PySem PyProof.Rows
end KSs
namespace KSs
open PySem PyProof.Rows
section
variable {prog:Program} {w:World} {A:Around} {E:Value->Shared->Prop} {s:Shared} {a I T:Addr} {es:Array (Int × Value)} {ep:Nat} {t:SetTable}
end
end KSs
namespace KSs
open PySem PyProof.Rows
section
variable {prog:Program} {w:World} {A:Around} {E:Value->Shared->Prop} {s:Shared} {a I T:Addr} {es:Array (Int × Value)} {ep:Nat} {t:SetTable}
end
end KSs
namespace KSs
open PySem PyProof.Rows
section
variable {prog:Program} {w:World} {A:Around} {E:Value->Shared->Prop} {s:Shared} {a I T:Addr} {es:Array (Int × Value)} {ep:Nat} {t:SetTable}
end
end KSs
namespace KSs
open PySem PyProof.Rows
section
variable {prog:Program} {w:World} {A:Around} {E:Value->Shared->Prop} {s:Shared} {a:Addr} {es:Array (Int × Value)} {ep:Nat} {t:SetTable}
end
end KSs
namespace KSs
open PySem PyProof.Rows
section
variable {prog:Program} {w:World} {A:Around} {E:Value->Shared->Prop} {s:Shared} {a:Addr} {es:Array (Int × Value)} {ep:Nat} {t:SetTable}
end
end KSs
namespace L2
open PySem PySem.Spec PyProof.Rows
section
variable {X:Cx} {e:Expr} {te:TE} {p p2 pos pos2:Pos}
end
end L2
namespace L3
open PySem PyProof L2
section
variable {X:Cx} {e:Expr} {te:DTE} {p p2 pos pos2:Pos}
end
end L3
namespace L2
open PySem PySem.Spec PyProof.Rows
section
variable {X:Cx}
end
end L2
namespace L3
open PySem PyProof L2
section
variable {X:Cx}
end
end L3
namespace KSs
open PySem PyProof.Rows
section
variable {prog:Program} {w:World} {A:Around} {E:Value->Shared->Prop} {s:Shared} {a:Addr} {es:Array (Int × Value)} {ep:Nat} {t:SetTable}
end
end KSs
namespace KSs
open PySem PyProof.Rows
end KSs
namespace KSs
open PySem PyProof.Rows
section
variable {prog:Program} {w:World} {A:Around} {E:Value->Shared->Prop} {s:Shared} {a:Addr} {es:Array (Int × Value)} {ep:Nat} {t:SetTable}
end
end KSs
namespace KSs
open PySem PyProof.Rows
section
variable {prog:Program} {w:World} {A:Around} {E:Value->Shared->Prop} {s:Shared} {a o:Addr} {es eo:Array (Int × Value)} {ep po:Nat} {t to:SetTable}
end
end KSs
namespace KSs
open PySem PyProof.Rows
section
variable {prog:Program} {w:World} {A:Around} {E:Value->Shared->Prop} {s:Shared} {a o:Addr} {es eo:Array (Int × Value)} {ep po:Nat} {t to:SetTable}
end
end KSs
namespace L2
open PySem PySem.Spec PyProof.Rows
section
variable {X:Cx} {e e2:Expr} {te te2:TE} {p p2 p3 pos pos2 pos3 bpos:Pos}
end
end L2
namespace L3
open PySem PyProof L2
section
variable {X:Cx} {e e2:Expr} {te te2:DTE} {p p2 p3 pos pos2 pos3 bpos:Pos}
end
end L3
namespace L3
open PySem PyProof L2
section
variable {K:PySem.W.Frag} {H:Hp} {G:DV}
end
section
variable {X:Cx} {o i e value:Expr} {pos pos' tpos:Pos} {td ti tv:DTE}
end
end L3
namespace L2
open PySem PySem.Spec PyProof.Rows
section
variable {X:Cx}
theorem rWq {x:Str} {ad:Addr} {tab:Str->Option V} {e f:Expr} {ty tx:TE} {p apos cpos:Pos} (hg:Gl X x) (hm:X.mg x=some (.ref ad)) (T:KTab X.K X.w ad tab) (he:PE X e ty) (hf:PE X f tx) (m:M2 X (.Name x p) "get" apos e f cpos) (hd:(x==("__debug__" : Str))=false:=by decide) :
    PE X (.Call (.Attribute (.Name x p) "get" apos) [e,f] [] cpos) (λ σ H Q=>ty σ H λ y H1=>tx σ H1 λ d H2=>∃ z,y=.str z/\Q ((tab z).getD d) H2):=by
  intro pins s σ H Q I h
  obtain ⟨⟨es,n,hl,hk,ht⟩,lo⟩:=T
  refine wpAny_Call_method m.base m.few m.line PySem.F.plainAttrs_dict PySem.F.slot_dict_get PySem.F.type_dict_get (thn (kZq (v:=.ref ad) hg hm rfl hd pins s σ H (λ v H1=>v=.ref ad/\H1=H) I ⟨rfl,rfl⟩) λ u s1 ⟨x1,H1,I1,rx,ex,eH⟩=>?_)
  subst ex eH
  obtain rfl:u=Value.ref ad:=rx
  have mp:∀ {s':Shared},X.K.In s'.heap->s'.heap.MapOf (strKind X.prog X.w) ad (λ k=>findBy Value.isStrOf es k):=λ k=>PySem.W.mapOf_K k hl hk
  refine ⟨(mp I1.kIn).typeIs,(mp I1.kIn).noDict,?_⟩
  rw [m.trees]
  refine Calls.callWith_builtin rfl (Calls.evalArgs_plain (Calls.spliced_cons (thn (he pins s1 σ H1 _ I1 h) λ iv s2 ⟨y,H2,I2,ry,q2⟩=>Calls.spliced_cons (thn (hf pins s2 σ H2 _ I2 q2) λ fv s3 ⟨d,H3,I3,rd,z,ey,q3⟩=>Calls.spliced_nil ?_))))
  subst ey
  obtain ⟨t,rfl⟩:=ry
  refine call_meetsIn PySem.F.slot_dict_get (mp I3.kIn).typeIs PySem.F.entry_dict_get (PySem.F.args_dict_get_3 _ _ _) (meets_dict_get_default (strKind X.prog X.w) ad (strKind_is X.prog X.w z t) lo fv) ⟨_,mp I3.kIn,(tab z).getD d,H3,I3.tok _,?_,q3⟩
  exact (ht z).getD rd
end
end L2
namespace L3
open PySem PySem.Spec L2
structure KTabD (K:PySem.W.Frag) (w:World) (ad:Addr) (tab:Str->Option D):Prop where
  ex:∃ tv:Str->Option V,KTab K w ad tv/\(∀ z,tab z=none->tv z=none)/\∀ z d,tab z=some d->∃ v,tv z=some v/\∀ H,Abs K H d v
section
variable {X:Cx} {a b c e f o i tg iter value:Expr} {x:Str} {ad C:Addr} {tab:Str->Option D} {ta tv te tf to ti:DTE} {pos pos' tpos p apos cpos:Pos}
abbrev x4q (tab:Str->Option D) (te tf:DTE):DTE:=λ ρ G Q=>te ρ G λ y G1=>tf ρ G1 λ d G2=>match y with
  | .str z=>Q ((tab z).getD d) G2
  | _=>False
theorem qZq (hg:Gl X x) (hm:X.mg x=some (.ref ad)) (T:KTabD X.K X.w ad tab) (he:AE X e te) (hf:AE X f tf) (m:M2 X (.Name x p) "get" apos e f cpos:=by exact ⟨rfl,rfl,rfl,rfl⟩) (hd:(x==("__debug__" : Str))=false:=by decide) :
    AE X (.Call (.Attribute (.Name x p) "get" apos) [e,f] [] cpos) (x4q tab te tf):=by
  obtain ⟨tv,T,t1,t2⟩:=T
  obtain ⟨ce,je,re⟩:=he.run
  obtain ⟨cf,jf,rf⟩:=hf.run
  refine ⟨_,⟨rWq hg hm T je.run jf.run m hd⟩,λ ρ G DQ σ H Q B q F=>re ρ G _ σ H _ B q λ y G1 v H1 g1 ay q1=>rf ρ G1 _ σ H1 _ (B.go g1) q1 λ d G2 u H2 g2 ad q2=>?_⟩
  cases y with
  | str z=>
    cases ay
    refine ⟨z,rfl,?_⟩
    replace q2:DQ ((tab z).getD d) G2:=q2
    cases ez:tab z with
    | none=>rw [t1 z ez];rw [ez] at q2;exact F d G2 u H2 (g1.trans g2) ad q2
    | some d'=>
      obtain ⟨v',e1,e2⟩:=t2 z d' ez
      rw [e1];rw [ez] at q2
      exact F d' G2 v' H2 (g1.trans g2) (e2 _) q2
  | _=>exact (show False from q2).elim
theorem bUq {st:Stmt}:AS X st (λ _ _ _=>False):=⟨λ _ _ _=>False,⟨λ _ _ _ _ _ _ h=>h.elim⟩,λ DD Dc ρ G σ H B q F=>q.elim⟩
end
end L3
namespace L2
open PySem PySem.Spec PyProof.Rows
end L2
namespace L3
open PySem PySem.Spec L2
end L3
namespace L2
open PySem PySem.Spec PyProof.Rows
section
variable {X:Cx} {e st:Expr} {te:TE} {tk:TO} {pos p2:Pos}
theorem eRq:∀ {xs:List V} {us:List Value},Vals xs us->Vals xs.reverse us.reverse
  | _,_,.nil=>.nil
  | _,_,.cons r t=>by
    rw [List.reverse_cons,List.reverse_cons]
    exact (eRq t).append (.cons r .nil)
end
end L2
namespace L3
open PySem PySem.Spec L2
section
variable {X:Cx} {e st:Expr} {te:DTE} {tk:DTO} {pos p2:Pos}
end
end L3
namespace L2
open PySem PySem.Spec PyProof.Rows
section
variable {X:Cx}
def repS (i:Str) (n:Nat):Str:=⟨(List.replicate n i.cps.toList).flatten.toArray⟩
def rSlS:V->Option Int->Option Int->Hp->VK->Prop:=λ x lo hi H Q=>∃ z:Str,x=.str z/\z.length<=sizeLine/\Q (.str (Txt.slice z lo hi)) H
theorem y4q:SlR X rSlS:=by
  intro pins s σ H x v vl vu lo hi sl Q I rx hs pl pu h
  obtain ⟨z,rfl,hz,q⟩:=h
  obtain ⟨t,rfl⟩:=rx
  refine ⟨"str", _,F.slot_str_getitem.lookup,typeIs_str _ _ _,?_⟩
  have fin:∀ t' k,EP X pins σ Q (.str (Txt.slice z lo hi) t') { s with toks:=k }:=λ t' k=>⟨.str _,H,I.tok _,⟨_,rfl⟩,q⟩
  cases pl with
  | none=>cases pu with
    | none=>exact wpAny_getItem_str_slice (l:=none) (u:=none) (st:=none) hs rfl (post_val_or_str ⟨Nat.le_trans (Txt.slice_le z _ _) hz,fin⟩)
    | int j u=>exact wpAny_getItem_str_slice (l:=none) (u:=some (j,u)) (st:=none) hs rfl (post_val_or_str ⟨Nat.le_trans (Txt.slice_le z _ _) hz,fin⟩)
  | int i t0=>cases pu with
    | none=>exact wpAny_getItem_str_slice (l:=some (i,t0)) (u:=none) (st:=none) hs rfl (post_val_or_str ⟨Nat.le_trans (Txt.slice_le z _ _) hz,fin⟩)
    | int j u=>exact wpAny_getItem_str_slice (l:=some (i,t0)) (u:=some (j,u)) (st:=none) hs rfl (post_val_or_str ⟨Nat.le_trans (Txt.slice_le z _ _) hz,fin⟩)
end
end L2
namespace L3
open PySem PySem.Spec L2
section
variable {X:Cx}
def aV1q:DR2:=λ x y G Q=>match x,y with
  | .str z,.int n=>0<=n/\n<=1000/\z.length<=1000/\Q (.str (repS z n.toNat)) G
  | _,_=>False
def slSD:D->Option Int->Option Int->DV->DK->Prop:=λ x lo hi G Q=>match x with
  | .str z=>z.length<=sizeLine/\Q (.str (Txt.slice z lo hi)) G
  | _=>False
theorem aslS:ASl X slSD:=by
  refine ⟨_,⟨y4q⟩,λ x vx lo hi G H DQ Q v ax r F=>?_⟩
  cases x with
  | str z=>cases ax;exact ⟨z,rfl,r.1,F (.str (Txt.slice z lo hi)) G _ H (.refl v) rfl r.2⟩
  | _=>exact (show False from r).elim
def uKq:D->DV->Prop:=λ x _=>match x with
  | .str _=>True
  | _=>False
theorem l5q {K:PySem.W.Frag} {x:D} {v:V} {G:DV} {H:Hp} (ax:Abs K H x v) (h:uKq x G):tyV K "str" v H:=by
  cases x with
  | str z=>cases ax;exact rfl
  | _=>exact (show False from h).elim
end
end L3
namespace L2
open PySem PySem.Spec PyProof.Rows
section
variable {X:Cx} {tg:Expr}
theorem hWq:MtR X "str.startswith" (λ x xs H Q=>∃ z y:Str,x=.str z/\xs=[.str y]/\Q (.bl (Txt.startswith z y)) H):=by
  intro pins s σ H x xs v us Q I rx rv h
  obtain ⟨z,y,rfl,rfl,q⟩:=h
  obtain ⟨t,rfl⟩:=rx
  obtain ⟨u,rfl,ru⟩:=rv.one
  obtain ⟨t',rfl⟩:=ru
  exact PySem.SC.startswith ⟨.bl _,H,I,rfl,q⟩
theorem jLq:∀ {ys:List Str} {us:List Value},Vals (ys.map V.str) us->StrsAre us ys
  | [],_,h=>by cases h;exact .nil
  | y::ys,_,h=>by
    cases h with
    | cons r rr=>
      obtain ⟨t,rfl⟩:=r
      exact .cons _ _ (jLq rr)
theorem uVq (K:PySem.W.Frag) (hK:K=X.K):MtR X "str.join" (λ x xs H Q=>∃ (z:Str) (l:Addr) (ys:List Str),x=.str z/\xs=[.ref l]/\SqL K H l (ys.map V.str)/\z.length<=16/\(ys.map (·.length)).sum+ys.length<=1048576/\Q (.str (Txt.join z ys)) H):=by
  subst hK
  intro pins s σ H x xs v us Q I rx rv h
  obtain ⟨z,l,ys,rfl,rfl,hl,hz,hw,q⟩:=h
  obtain ⟨t,rfl⟩:=rx
  obtain ⟨u,rfl,ru⟩:=rv.one
  cases ru
  obtain ⟨its,r,p,_⟩:=I.list hl
  exact PyProof.Rows.join_listW p.isList (by simpa using jLq r) hz hw λ t' k=>⟨.str _,H,I.tok _,⟨_,rfl⟩,q⟩
def Its (z:Str):It:=⟨λ i _=>i < z.length,λ i H x H'=>H'=H/\∃ c,z.cps[i]?=some c/\x=.str ⟨#[c]⟩,λ i _=>z.length<=i⟩
theorem qVq {P:Program} {w:World} {K:PySem.W.Frag} {tg:Expr} (it:Addr) (z:Str) (t:Tok) (ty:String) (hty:ty = "str_ascii_iterator"\/ty = "str_iterator"):Turn P w K tg (Its z) [it] it (λ i h=>i<=z.length/\h.IsStrIter it ty z t i) where
  mem:=by simp
  obj:=λ i h st b hb=>by
    have e:b=it:=by simpa using hb
    subst e
    obtain ⟨_,o,e,c,d⟩:=st
    exact ⟨o,e,λ v z=>by rw [d] at z;cases z⟩
  keep:=λ i h h' st k=>⟨st.1,let ⟨o,ho,r⟩:=st.2;⟨o,k it (by simp) o ho,r⟩⟩
  item:=by
    intro X hP hw hK hc i pins s σ H E I hf st hg
    subst hP hw hK
    obtain ⟨f0,f1,f2,f3,f4,f5⟩:=hf it (by simp)
    have W:Walks X.prog X.w X.A it [it] [it] z.cps.size (SignAt z) (λ i h=>h.IsStrIter it ty z t i):=by
      rcases hty with rfl | rfl
      . exact Walks.strAscii (I.ok.hd hc) it z t
      . exact Walks.strWide (I.ok.hd hc) it z t
    refine W.item i s _ _ hg st.2 λ v h' tk hv st' kk=>?_
    obtain ⟨c,u,hc',rfl⟩:=hv
    have I1:Inv X pins σ H { s with heap:=h',toks:=tk }:=I.turned (λ b o hb e=>kk b o (by simpa using hb) e) f0 f1 f3 f4 f5
    obtain ⟨o,e,c1,d⟩:=id st'
    refine ⟨_,rfl,pUq (s:={ s with heap:=h',toks:=tk }) e c1 d (by rcases hty with rfl | rfl<;>decide) ⟨.str ⟨#[c]⟩,H,I1,⟨u,rfl⟩,⟨rfl,c,hc',rfl⟩,⟨hg,st'⟩,λ b hb=>(hf b hb).1⟩⟩
  done:=by
    intro X hP hw hK hc i pins s σ H E I hf st hg
    subst hP hw hK
    obtain ⟨f0,f1,f2,f3,f4,f5⟩:=hf it (by simp)
    have W:Walks X.prog X.w X.A it [it] [it] z.cps.size (SignAt z) (λ i h=>h.IsStrIter it ty z t i):=by
      rcases hty with rfl | rfl
      . exact Walks.strAscii (I.ok.hd hc) it z t
      . exact Walks.strWide (I.ok.hd hc) it z t
    have hi:i=z.cps.size:=Nat.le_antisymm st.1 hg
    subst hi
    exact W.done s _ _ st.2 λ h' tk kk=>⟨rfl,I.turned (λ b o hb e=>kk b o (by simpa using hb) e) f0 f1 f3 f4 f5⟩
  self:=λ _ _ _ _ _ st h=>by
    rcases hty with rfl | rfl
    . exact wpAny_pyIter_striter_ascii st.2 h
    . exact wpAny_pyIter_striter_wide st.2 h
theorem aC5q {l:Expr} {tl:TE} (hl:PE X l tl):PI X tg l (λ σ H R=>tl σ H λ x H1=>∃ z,x=.str z/\R (Its z) H1):=by
  intro pins s σ H R I h
  refine thn (hl pins s σ H _ I h) λ v s1 ⟨x,H1,I1,r1,q1⟩=>?_
  obtain ⟨z,rfl,q⟩:=q1
  obtain ⟨t,rfl⟩:=r1
  have fin:∀ ty:String,(ty = "str_ascii_iterator"\/ty = "str_iterator")->PIE X pins σ tg R (.ref s1.heap.objs.size) { s1 with heap:=s1.heap.push { cls:=.type ty,data:=.fields #[.str z t,.int 0 0] } }:=λ ty hty=>by
    refine ⟨s1.heap.objs.size,[s1.heap.objs.size],_,_,H1,rfl,I1.kept (t':=s1.toks) λ b o e=>Heap.get?_push_of_some _ e,qVq _ z t ty hty,⟨Nat.zero_le _,_,Heap.get?_push_size _ rfl,rfl,rfl⟩,λ b hb=>?_,q⟩
    have e:b=s1.heap.objs.size:=by simpa using hb
    subst e
    exact I1.fpOk (Nat.le_refl _) (I1.hok.fresh (Nat.le_refl _))
  cases ha:z.cps.all (· < 128)
  . exact wpAny_pyIter_wide ha (fin _ (.inr rfl))
  . exact wpAny_pyIter_ascii ha (fin _ (.inl rfl))
end
section
variable {X:Cx} {tg:Expr}
end
section
variable {X:Cx}
end
end L2
namespace L3
open PySem PySem.Spec L2
section
variable {X:Cx} {tg a b c:Expr} {ta tb tc:DTE} {pos p:Pos}
abbrev aO6q (ad:Addr) (tab:Str->Option D):DR2:=λ x y G Q=>match x with
  | .str z=>y=.ref ad/\Q (.bl (!(tab z).isSome)) G
  | _=>False
def gTq (z:Str):List D:=z.cps.toList.map λ c=>.str ⟨#[c]⟩
abbrev aJ6q (ta:DTE):DTI:=λ ρ G R=>ta ρ G λ x G1=>match x with
  | .str z=>R ⟨gTq z,λ _=>True⟩ G1
  | _=>False
theorem xPq {K:PySem.W.Frag} {z:Str} {G1:DV} {H1:Hp} (v:Vw K G1 H1) :
    (∀ (i:Nat) (d:D),(gTq z)[i]?=some d->(Its z).go i H1/\∀ x H',(Its z).yld i H1 x H'->Go K G1 H1 G1 H'/\Abs K H' d x)/\∀ i,(gTq z).length<=i->(Its z).stop i H1:=by
  refine ⟨λ i d hd=>?_,λ i hi=>?_⟩
  . unfold gTq at hd
    rw [List.getElem?_map] at hd
    cases hc:z.cps.toList[i]? with
    | none=>rw [hc] at hd;cases hd
    | some c=>
      rw [hc] at hd;cases hd
      have hi:=(List.getElem?_eq_some_iff.mp hc).1
      refine ⟨hi,λ x H' y=>?_⟩
      obtain ⟨rfl,c',e,rfl⟩:=y
      have e':z.cps.toList[i]?=some c':=by simpa using e
      rw [hc] at e';cases e'
      exact ⟨.refl v,rfl⟩
  . unfold gTq at hi
    rw [List.length_map] at hi
    exact hi
theorem aA0q (ha:AE X a ta):AI X tg a (aJ6q ta):=by
  obtain ⟨ca,ja,ra⟩:=ha.run
  refine ⟨_,⟨aC5q ja.run⟩,λ ρ G DR σ H R B q F=>ra ρ G _ σ H _ B q λ x G1 v H1 g1 ax q1=>?_⟩
  cases x with
  | str z=>cases ax;exact ⟨z,rfl,F ⟨gTq z,λ _=>True⟩ _ G1 H1 g1 (λ G2 H2 g2 _=>xPq g2.vw) q1⟩
  | _=>exact (show False from q1).elim
abbrev aB9q (r r':DR2) (ta tb tc:DTE):DTE:=λ ρ G Q=>ta ρ G λ x G1=>tb ρ G1 λ y G2=>r x y G2 λ z G3=>blD z λ k=>Br k (tc ρ G3 λ w G4=>r' y w G4 Q) (Q (.bl false) G3)
theorem qQq {op op':CmpOp} {r r':DR2} (ho:AOp X (compareOp op) r) (ho':AOp X (compareOp op') r') (ha:AE X a ta) (hb:AE X b tb) (hc:AE X c tc) (hm:lastMarks [op,op'] [b,c]=false:=by with_unfolding_all rfl):AT X (.Compare a [op,op'] [b,c] pos) (zMq (aB9q r r' ta tb tc)):=by
  obtain ⟨ca,ja,ra⟩:=ha.run
  obtain ⟨cb,jb,rb⟩:=hb.run
  obtain ⟨cc,jc,rc⟩:=hc.run
  obtain ⟨co,jo,uo⟩:=ho.run
  obtain ⟨co',jo',uo'⟩:=ho'.run
  refine ⟨_,⟨qTq jo.run jo'.run ja.run jb.run jc.run hm⟩,λ ρ G DQ σ H Q B q F=>ra ρ G _ σ H _ B q λ x G1 v H1 g1 ax q1=>rb ρ G1 _ σ H1 _ (B.go g1) q1 λ y G2 u H2 g2 ay q2=>uo x y v u G2 H2 _ _ g2.vw (ax.mono g2.tup) ay q2 λ z G3 vz H3 g3 az q3=>?_⟩
  cases z with
  | bl k=>
    cases az
    refine ⟨k,rfl,?_⟩
    cases k with
    | true=>
      rw [if_pos rfl]
      refine rc ρ G3 _ σ H3 _ (((B.go g1).go g2).go g3) (q3.1 rfl) λ w G4 vw H4 g4 aw q4=>uo' y w u vw G4 H4 _ _ g4.vw ((ay.mono g3.tup).mono g4.tup) aw q4 λ z5 G5 v5 H5 g5 a5 q5=>?_
      cases z5 with
      | bl k5=>cases a5;exact ⟨k5,rfl,F k5 G5 H5 ((((g1.trans g2).trans g3).trans g4).trans g5) q5⟩
      | _=>exact (show False from q5).elim
    | false=>rw [if_neg (by decide)];exact ⟨false,rfl,F false G3 H3 ((g1.trans g2).trans g3) (q3.2 rfl)⟩
  | _=>exact (show False from q3).elim
def nDq:D->List D->DV->DK->Prop:=λ x xs G Q=>match x,xs with
  | .str z,[.str y]=>Q (.bl (Txt.startswith z y)) G
  | _,_=>False
theorem v5q {K:PySem.W.Frag} {H:Hp} {xs:List D} {vs:List V} {y:Str} (e:xs=[.str y]) (al:AbsL K H xs vs):vs=[.str y]:=by
  subst e
  obtain ⟨u,r',e,a,l⟩:=al
  subst e
  cases a
  cases (show r'=[] from l)
  rfl
theorem dDq:AMt X "str" "str.startswith" uKq nDq:=by
  refine ⟨_,⟨hWq⟩,λ x v G H _ ax h=>l5q ax h,λ x xs vx vs G H DQ Q v ax al r F=>?_⟩
  unfold nDq at r
  split at r
  . next z y=>cases ax;exact ⟨z,y,rfl,v5q rfl al,F (.bl _) G _ H (.refl v) rfl r⟩
  . exact r.elim
theorem AbsL.strs {K:PySem.W.Frag} {H:Hp} {ys:List Str}:∀ {vs:List V},AbsL K H (ys.map D.str) vs->vs=ys.map V.str:=by
  induction ys with
  | nil=>intro vs h;exact h
  | cons n ns ih=>rintro vs ⟨v,r,e,q,l⟩;subst e;rw [ih l,show v=V.str n from q];rfl
def zQq:D->List D->DV->DK->Prop:=λ x xs G Q=>match x,xs with
  | .str z,[.ref l]=>onL G l λ ds=>∃ ys:List Str,ds=ys.map D.str/\z.length<=16/\(ys.map (·.length)).sum+ys.length<=1048576/\Q (.str (Txt.join z ys)) G
  | _,_=>False
theorem e9q:AMt X "str" "str.join" uKq zQq:=by
  refine ⟨_,⟨uVq X.K rfl⟩,λ x v G H _ ax h=>l5q ax h,λ x xs vx vs G H DQ Q v ax al r F=>?_⟩
  unfold zQq at r
  split at r
  . next z l=>
    cases ax
    obtain ⟨u,r',e,a,e2⟩:=al
    subst e
    cases a
    cases (show r'=[] from e2)
    obtain ⟨ds,ws,⟨ys,rfl,h1,h2,q⟩,s,rl⟩:=b9q v r
    rw [rl.strs] at s
    exact ⟨z,l,ys,rfl,rfl,s,h1,h2,F (.str _) G _ H (.refl v) rfl q⟩
  . exact r.elim
def uIq:D->DV->DK->Prop:=λ x G Q=>match x with
  | .int i=>i.natAbs.log2 < 1920/\Q (.str (toString i)) G
  | _=>False
theorem j5q:ACall X (.type "str") (pKq uIq):=by
  refine ⟨_,⟨jCq⟩,λ xs vs G H DQ Q v a r F=>?_⟩
  obtain ⟨x,u,rfl,rfl,ax,r⟩:=bXq r a
  cases x with
  | int i=>cases ax;exact ⟨i,rfl,r.1,F (.str _) G _ H (.refl v) rfl r.2⟩
  | _=>exact (show False from r).elim
end
end L3
namespace L2
open PySem PySem.Spec PyProof.Rows
end L2
namespace L3
open PySem L2
theorem g8q {p:Prop} (c:false=true):p:=nomatch c
theorem s1q {p:Prop} (c:true=false):p:=nomatch c
section
variable {C T:Addr} {tp:Pos} {G G':DV} {lp ld:Addr} {as:List Addr} {us:List Tm} {S:Sls} {rk:Addr->Nat} {told:Addr->Bool}
end
theorem Fx.kp {a b:Addr} {G G':DV} {u:DO} (h:Fx a G G') (n:b≠a) (e:G b=some u):G' b=some u:=by rw [h.other n];exact e
section
variable {C CM:Addr} {G G':DV} {a lm p:Addr} {c:Cf}
end
section
variable (C CM:Addr)
end
section
variable {c:Cf} {p q s a b:Tm} {i j:Int} {st:List Mk} {u v:Addr}
end
theorem gUq {β:Type} {k z:Str} {v:β} {r:List (Str × β)}:(((k,v)::r).find? λ kv=>decide (kv.1=z)).map (·.2)=if z=k then some v else (r.find? λ kv=>decide (kv.1=z)).map (·.2):=by
  by_cases h:k=z
  . simp [h]
  . rw [if_neg (Ne.symm h),List.find?_cons,decide_eq_false h]
theorem iIq:∀ {t:List (Str × V)} {es:List DictEntry},Paired (λ(kv:Str × V) (e:DictEntry)=>(∃ t1,e.key=.str kv.1 t1)/\RelV kv.2 e.val) t es →
    ∀ x,RelO ((t.find? λ kv=>decide (kv.1=x)).map (·.2)) ((es.find? λ d=>Value.isStrOf x d.key).map (·.val))
  | _,_,.nil,_=>trivial
  | p::t,e::es,.cons ⟨⟨t1,e1⟩,e2⟩ r,x=>by
    by_cases h:p.1=x
    . have z:Value.isStrOf x e.key=true:=by rw [e1,h];simp [Value.isStrOf]
      rw [List.find?_cons,decide_eq_true h,List.find?_cons,z]
      exact e2
    . have z:Value.isStrOf x e.key=false:=by
        rw [e1]
        simp only [Value.isStrOf]
        exact beq_false_of_ne h
      rw [List.find?_cons,decide_eq_false h,List.find?_cons,z]
      exact iIq r x
theorem oHq {K:PySem.W.Frag} {w:World} {ad:Addr} {es:Array DictEntry} {n:Nat} {LV:List (Str × V)} {L:List (Str × D)} {tab:Str->Option D} (h1:K.lookup ad=some ⟨.type "dict", none,.dict es n,#[]⟩) (h2:(ad==sysModules)=false) (h3:PySem.W.KeysLit w.params es.toList)
    (h4:Paired (λ(kv:Str × V) (e:DictEntry)=>(∃ t1,e.key=.str kv.1 t1)/\RelV kv.2 e.val) LV es.toList) (h5:∀ z,tab z=(L.find? λ kv=>decide (kv.1=z)).map (·.2)) (h6:Paired (λ(a:Str × D) (b:Str × V)=>a.1=b.1/\∀ H,Abs K H a.2 b.2) L LV):KTabD K w ad tab:=by
  have key:∀ {L:List (Str × D)} {LV:List (Str × V)},Paired (λ(a:Str × D) (b:Str × V)=>a.1=b.1/\∀ H,Abs K H a.2 b.2) L LV->∀ z,(((L.find? λ kv=>decide (kv.1=z)).map (·.2))=none->((LV.find? λ kv=>decide (kv.1=z)).map (·.2))=none)/\∀ d,((L.find? λ kv=>decide (kv.1=z)).map (·.2))=some d->∃ v,((LV.find? λ kv=>decide (kv.1=z)).map (·.2))=some v/\∀ H,Abs K H d v:=by
    intro L LV h
    induction h with
    | nil=>intro z;exact ⟨λ _=>rfl,λ d e=>by cases e⟩
    | @cons a b as bs q r ih=>
      intro z
      obtain ⟨a1,a2⟩:=a
      obtain ⟨b1,b2⟩:=b
      obtain ⟨q1,q2⟩:=q
      cases (show a1=b1 from q1)
      rw [gUq,gUq]
      by_cases c:z=a1
      . rw [if_pos c,if_pos c];exact ⟨λ e=>(by cases e),λ d e=>(by cases e;exact ⟨_,rfl,q2⟩)⟩
      . rw [if_neg c,if_neg c];exact ih z
  refine ⟨λ z=>(LV.find? λ kv=>decide (kv.1=z)).map (·.2),⟨⟨es,n,h1,h3,λ x=>?_⟩,h2⟩,λ z e=>((key h6 z).1 (by rw [<- h5];exact e)),λ z d e=>(key h6 z).2 d (by rw [<- h5];exact e)⟩
  have:=iIq h4 x
  unfold findBy
  obtain ⟨l⟩:=es
  rw [List.find?_toArray]
  exact this
theorem nZq {K:PySem.W.Frag} {H:Hp} {a:Addr} {its:Array Value} {n:Nat} {vs:List V} (h:K.lookup a=some ⟨.type "tuple", none,.seq its n,#[]⟩) (hz:Nat.ble its.size 1000=true) (hv:Vals vs its.toList):SqT K H a vs:=.inr ⟨_,its,n,h,rfl,rfl,hJq hz,hv⟩
abbrev figs:Str:="0123456789"
def gBq (z y:Str):Bool:=z.cps.toList.all λ c=>decide (c∈y.cps.toList)
theorem q3q (y:Str) (c:Nat):(!(Builtin.Str.occurrences y ⟨#[c]⟩ 0 y.length 1).isEmpty)=decide (c∈y.cps.toList):=by
  rw [PyProof.Rows.empty_one,Bool.not_not]
def bare (z:Str):Str:=if Txt.startswith z "-" then Txt.slice z (some 1) none else z
def hZq:DSp:=λ ds G Q=>∃ z y:Str,ds=[.str z,.str y]/\z.length<=1000/\Q (.bl (gBq z y)) G
theorem cYq (z:Str) (c:Nat):Txt.startswith z ⟨#[c]⟩=(z.cps.toList.head?==some c):=by
  obtain ⟨a⟩:=z
  obtain ⟨l⟩:=a
  unfold Txt.startswith Builtin.Str.subAt Str.length
  cases l with
  | nil=>simp
  | cons x l=>
    simp
theorem dash:(("-" : String):Str)=⟨#[45]⟩:=by decide +kernel
theorem sFq:(("0" : String):Str)=⟨#[48]⟩:=by decide +kernel
theorem tOq (z:Str):(bare z).length<=z.length:=by
  unfold bare
  split
  . exact Txt.slice_le z _ _
  . exact Nat.le_refl _
section
variable (T:Addr) (pos:Pos) (T2:Addr) (pos2:Pos)
end
end L3
namespace L3
open PySem PySem.Spec L2 PySem.SeqAt
def hQq (e c:Nat->Bool) (fin:Bool):Nat->Nat->Bool
  | 0,_=>fin
  | k+1,i=>if e i then hQq e c fin k (i+1) else c i
def LtAt (A:Around) (s:Shared) (y x:Value) (b:Bool):Prop:=
  ∀ (prog:Program) (w:World) (E:Value->Shared->Prop) (Q:Value->Shared->Prop),Q (.bool b) s->wpAny (model prog w) A (richCompare .Lt y x) Q E s
open AutoSeq1 (wpAny_loadPart') in
theorem mXq (l b:Addr) (items items2:Array Value) (n n2:Nat) (dd dd2:Option Addr) (sl sl2:Array (Option Value)) (e c:Nat->Bool) :
    Meets (Builtin.«tuple.__lt__» ⟨[.ref l,.ref b],[]⟩)
      (λ A R s=>s.heap.get? l=some { cls:=.type "tuple", dict:=dd,data:=.seq items n,slots:=sl }/\s.heap.get? b=some { cls:=.type "tuple", dict:=dd2,data:=.seq items2 n2,slots:=sl2 } ∧
        (∀ j (h1:j < items.size) (h2:j < items2.size),EqAt A.in1 s items[j] items2[j] (e j)) ∧
        (∀ j (h1:j < items.size) (h2:j < items2.size),(∀ i,i < j->e i=true)->e j=false->LtAt A.in1 s items[j] items2[j] (c j)) ∧
        R (.ok (.ret (.bool (hQq e c (decide (items.size < items2.size)) (min items.size items2.size) 0)))) s):=
  .of_wp λ prog w A R s h=>by
    obtain ⟨hp,g,d,tk,os⟩:=s;obtain ⟨hl,hb,he,hc,h⟩:=h
    have f2:=AutoSeq1.sub_tuple_tuple
    have hZ:(items.toList.zip items2.toList).length=min items.size items2.size:=by simp
    wp_walk using wpAny_loadPart' hl,wpAny_loadPart' hb,wpAny_forIn_list _ (λ rest b s'=>b.1=none/\s'=⟨hp,g,d,tk,os⟩/\∃ i,rest=(items.toList.zip items2.toList).drop i/\(∀ k,k < i->e k=true) ∧
      R (.ok (.ret (.bool (hQq e c (decide (items.size < items2.size)) (min items.size items2.size - i) i)))) ⟨hp,g,d,tk,os⟩) _
    case turn=>
      rintro ⟨y,x⟩ rest b s' ⟨hb',rfl,i,hz,hk,hR⟩
      have hlt:i < (items.toList.zip items2.toList).length:=by
        rcases Nat.lt_or_ge i (items.toList.zip items2.toList).length with h' | h'
        . exact h'
        . rw [List.drop_of_length_le h'] at hz;cases hz
      have hm:i < min items.size items2.size:=hZ ▸ hlt
      have h1:i < items.size:=Nat.lt_of_lt_of_le hm (Nat.min_le_left _ _)
      have h2:i < items2.size:=Nat.lt_of_lt_of_le hm (Nat.min_le_right _ _)
      rw [List.drop_eq_getElem_cons hlt] at hz
      injection hz with hyx hrest
      have hy:y=items[i]:=by have:=congrArg Prod.fst hyx;simpa using this
      have hx:x=items2[i]:=by have:=congrArg Prod.snd hyx;simpa using this
      subst hy hx
      rw [show min items.size items2.size - i=(min items.size items2.size - (i+1))+1 by omega,hQq] at hR
      refine wpAny_bind (he i h1 h2 prog w _ _ ?_)
      cases hy:e i with
      | true=>
        rw [hy] at hR
        wp_walk
        exact ⟨rfl,rfl,i+1,hrest,λ k hk'=>by rcases Nat.lt_succ_iff_lt_or_eq.mp hk' with z | rfl;exact hk k z;exact hy,by simpa using hR⟩
      | false=>
        rw [hy,if_neg (by decide)] at hR
        simp only [Bool.not_false,if_true]
        refine wpAny_bind (wpAny_rule (wpAny_bind (hc i h1 h2 hk hy prog w _ _ ?_)))
        wp_walk
        exact ⟨_,rfl,hR⟩
    case fin=>
      rintro ⟨b1,b2⟩ s' ⟨hb',rfl,i,hz,hk,hR⟩
      simp only at hb'
      subst hb'
      have hge:min items.size items2.size<=i:=by
        rcases Nat.lt_or_ge i (items.toList.zip items2.toList).length with h' | h'
        . rw [List.drop_eq_getElem_cons h'] at hz;cases hz
        . exact hZ ▸ h'
      rw [show min items.size items2.size - i=0 by omega,hQq] at hR
      wp_walk
      exact ⟨_,rfl,by simpa [Builtin.Tuple.tupleCompareSizes] using hR⟩
    case h=>
      exact ⟨rfl,rfl,0,rfl,by simp,by simpa using h⟩
theorem LtAt.tuples {A:Around} {s:Shared} {l b:Addr} {items items2:Array Value} {e c:Nat->Bool} (hl:s.heap.IsTuple l items) (hb:s.heap.IsTuple b items2) (hu:A.units < cLine)
    (he:∀ j (h1:j < items.size) (h2:j < items2.size),EqAt A.in1 s items[j] items2[j] (e j))
    (hc:∀ j (h1:j < items.size) (h2:j < items2.size),(∀ i,i < j->e i=true)->e j=false->LtAt A.in1 s items[j] items2[j] (c j)) :
    LtAt A s (.ref l) (.ref b) (hQq e c (decide (items.size < items2.size)) (min items.size items2.size) 0):=λ prog w E Q h=>by
  obtain ⟨⟨cls,dd,data,sl⟩,ho,hc1,n,hd⟩:=id hl
  obtain ⟨⟨cls2,dd2,data2,sl2⟩,ho2,hc2,n2,hd2⟩:=id hb
  simp only at hc1 hd hc2 hd2
  subst hc1 hd hc2 hd2
  exact richCompare_meets_room (op:=.Lt) ⟨_,ho,rfl⟩ ⟨_,ho2,rfl⟩ F.slot_tuple_lt F.entry_tuple_lt (F.args_tuple_lt_2 _ _) (mXq l b items items2 n n2 dd dd2 sl sl2 e c)
    ⟨ho,ho2,he,hc,show Value.bool _≠Value.notImplemented/\Q _ s from ⟨(λ x=>nomatch x),h⟩⟩ hu
mutual
def ltD:D->D->Option Bool
  | .int i,.int j=>some (decide (i < j))
  | .str a,.str b=>some (decide (a.cps.toList < b.cps.toList))
  | .tup ds,.tup es=>bFq ds es
  | _,_=>none
def bFq:List D->List D->Option Bool
  | [],es=>some (decide (0 < es.length))
  | _::_,[]=>some false
  | d::ds,e::es=>if eqD d e then bFq ds es else ltD d e
end
theorem h2q (e c:Nat->Bool) (fin:Bool):∀ n i,hQq e c fin n (i+1)=hQq (λ k=>e (k+1)) (λ k=>c (k+1)) fin n i
  | 0,_=>rfl
  | n+1,i=>by rw [hQq,hQq,h2q e c fin n (i+1)]
theorem lKq (d e:D) (ds es:List D):(λ k=>eqJ (d::ds) (e::es) (k+1))=eqJ ds es:=by funext j;simp [eqJ]
theorem n3q {b:Bool}:∀ {ds es:List D},bFq ds es=some b->hQq (eqJ ds es) (λ _=>b) (decide (ds.length < es.length)) (min ds.length es.length) 0=b
  | [],es,h=>by
    rw [bFq] at h
    simp only [List.length_nil,Nat.zero_min,hQq]
    exact Option.some.inj h
  | _::_,[],h=>by
    rw [bFq] at h
    simp only [List.length_nil,Nat.min_zero,hQq]
    cases h;simp
  | d::ds,e::es,h=>by
    rw [bFq] at h
    rw [List.length_cons,List.length_cons,Nat.succ_min_succ,hQq,h2q,lKq,show eqJ (d::ds) (e::es) 0=eqD d e from rfl]
    by_cases c:eqD d e=true
    . rw [if_pos c] at h ⊢
      have z:=n3q h
      simpa using z
    . rw [if_neg c]
theorem q2q {b:Bool}:∀ {ds es:List D} {j:Nat},bFq ds es=some b->j < ds.length->j < es.length->(∀ i,i < j->eqJ ds es i=true)->eqJ ds es j=false->∃ d e,ds[j]?=some d/\es[j]?=some e/\ltD d e=some b
  | [],_,_,_,h,_,_,_=>by simp at h
  | _::_,[],_,_,_,h,_,_=>by simp at h
  | d::ds,e::es,0,h,_,_,_,hj=>by
    rw [bFq,if_neg (by rw [show eqD d e=false from hj];decide)] at h
    exact ⟨d,e,rfl,rfl,h⟩
  | d::ds,e::es,j+1,h,h1,h2,hi,hj=>by
    rw [bFq,if_pos (show eqD d e=true from hi 0 (by omega))] at h
    have e1:=lKq d e ds es
    obtain ⟨d',e',g1,g2,g3⟩:=q2q (ds:=ds) (es:=es) (j:=j) h (by simpa using h1) (by simpa using h2) (λ i hlt=>by rw [<- e1];exact hi (i+1) (by omega)) (by rw [<- e1];exact hj)
    exact ⟨d',e',g1,g2,g3⟩
section
variable {X:Cx} {pins:List (Addr × Obj)} {σ:L2.St} {H:Hp} {s:Shared}
mutual
theorem z1q (I:Inv X pins σ H s):∀ (d e:D) (b:Bool) (A:Around) (x y:V) (u v:Value),d.data=true->e.data=true->Abs X.K H d x->Abs X.K H e y->RelV x u->RelV y v->A.units+d.dp < cLine->ltD d e=some b->LtAt A s u v b
  | .tup ds,e,b,A,x,y,u,v,hd,he,ax,ay,ru,rv,hu,hb=>by
    obtain ⟨es,rfl⟩:∃ es,e=.tup es:=by cases e<;>first | exact ⟨_,rfl⟩ | (simp [ltD] at hb)
    obtain ⟨a,vs,rfl,s1,r1⟩:=ax
    cases ru
    obtain ⟨its,rr,t1,_⟩:=I.tuple s1
    obtain ⟨a2,us,rfl,s2,r2⟩:=ay
    cases rv
    obtain ⟨its2,rr2,t2,_⟩:=I.tuple s2
    have l1:=rr.length
    have l2:=rr2.length
    have l3:=r1.len
    have l4:=r2.len
    rw [ltD] at hb
    simp only [D.dp] at hu
    simp only [D.data] at hd he
    have z:=LtAt.tuples (A:=A) (e:=eqJ ds es) (c:=λ _=>b) t1 t2 (by omega) (λ j h1 h2=>by
      have q:=dXq I ds es A.in1 vs us its its2 hd he r1 r2 rr rr2 (by show A.units+1+bOq ds < cLine;omega) j (by simpa using h1) (by simpa using h2)
      simpa using q) (λ j h1 h2 hi hj=>by
      have j1:j < its.length:=by simpa using h1
      have j2:j < its2.length:=by simpa using h2
      obtain ⟨d,e,g1,g2,g3⟩:=q2q hb (by omega) (by omega) hi hj
      have q:=oSq I ds es A.in1 vs us its its2 hd he r1 r2 rr rr2 (by show A.units+1+bOq ds < cLine;omega) j j1 j2 d e b g1 g2 g3
      simpa using q)
    have ez:hQq (eqJ ds es) (λ _=>b) (decide (its.toArray.size < its2.toArray.size)) (min its.toArray.size its2.toArray.size) 0=b:=by
      rw [List.size_toArray,List.size_toArray,<- l1,<- l2,l3,l4];exact n3q hb
    rw [ez] at z
    exact z
  | .int i,e,b,A,x,y,u,v,_,_,ax,ay,ru,rv,_,hb=>by
    obtain ⟨j,rfl⟩:∃ j,e=.int j:=by cases e<;>first | exact ⟨_,rfl⟩ | (simp [ltD] at hb)
    cases ax;cases ay
    obtain ⟨t,rfl⟩:=ru
    obtain ⟨t',rfl⟩:=rv
    rw [ltD] at hb;cases hb
    exact λ prog w E Q h=>PyProof.Rows.lt_int h
  | .str i,e,b,A,x,y,u,v,_,_,ax,ay,ru,rv,_,hb=>by
    obtain ⟨j,rfl⟩:∃ j,e=.str j:=by cases e<;>first | exact ⟨_,rfl⟩ | (simp [ltD] at hb)
    cases ax;cases ay
    obtain ⟨t,rfl⟩:=ru
    obtain ⟨t',rfl⟩:=rv
    rw [ltD] at hb;cases hb
    exact λ prog w E Q h=>PyProof.Rows.lt_str h
  | .non,e,b,A,x,y,u,v,_,_,_,_,_,_,_,hb=>by simp [ltD] at hb
  | .bl _,e,b,A,x,y,u,v,_,_,_,_,_,_,_,hb=>by simp [ltD] at hb
  | .ref _,e,b,A,x,y,u,v,h,_,_,_,_,_,_,_=>by simp [D.data] at h
  | .ty _,e,b,A,x,y,u,v,h,_,_,_,_,_,_,_=>by simp [D.data] at h
  | .frl _,e,b,A,x,y,u,v,h,_,_,_,_,_,_,_=>by simp [D.data] at h
theorem oSq (I:Inv X pins σ H s):∀ (ds es:List D) (A:Around) (vs us:List V) (its its2:List Value),aXq ds=true->aXq es=true->AbsL X.K H ds vs->AbsL X.K H es us->Vals vs its->Vals us its2->A.units+bOq ds < cLine →
    ∀ j (h1:j < its.length) (h2:j < its2.length) d e b,ds[j]?=some d->es[j]?=some e->ltD d e=some b->LtAt A s its[j] its2[j] b
  | [],es,A,vs,us,its,its2,_,_,_,_,_,_,_,j,h1,h2,d,e,b,g1,_,_=>by cases g1
  | _::_,[],A,vs,us,its,its2,_,_,_,_,_,_,_,j,h1,h2,d,e,b,_,g2,_=>by cases g2
  | d0::ds,e0::es,A,vs,us,its,its2,hd,he,⟨v,r,e,q,t⟩,⟨v',r',e',q',t'⟩,rr,rr2,hu,j,h1,h2,d1,e1,b,g1,g2,g3=>by
    subst e e'
    cases rr with
    | cons r1 rt=>
      cases rr2 with
      | cons r2 rt2=>
        simp only [bOq] at hu
        simp only [aXq,Bool.and_eq_true] at hd he
        cases j with
        | zero=>
          cases g1;cases g2
          exact z1q I d0 e0 b A _ _ _ _ hd.1 he.1 q q' r1 r2 (by omega) g3
        | succ j=>
          have z:=oSq I ds es A _ _ _ _ hd.2 he.2 t t' rt rt2 (by omega) j (by simpa using h1) (by simpa using h2) d1 e1 b g1 g2 g3
          simpa using z
end
end
end L3
namespace L2
open PySem PySem.W PyProof.Rows
def kGood (n:Nat) {α:Type} (P:α->Prop):KasT α->Prop
  | .ret a=>P a
  | .ask i j k=>i < n/\j < n/\∀ b,kGood n P (k b)
theorem kGood.mono {n:Nat} {α:Type} {P R:α->Prop} (h:∀ a,P a->R a):∀ {t:KasT α},kGood n P t->kGood n R t
  | .ret a,g=>h a g
  | .ask _ _ k,g=>⟨g.1,g.2.1,λ b=>kGood.mono h (g.2.2 b)⟩
theorem kGood.bind {n:Nat} {α β:Type} {P:α->Prop} {R:β->Prop} {f:α->KasT β} (h:∀ a,P a->kGood n R (f a)):∀ {t:KasT α},kGood n P t->kGood n R (t.bind f)
  | .ret a,g=>h a g
  | .ask _ _ k,g=>⟨g.1,g.2.1,λ b=>kGood.bind h (g.2.2 b)⟩
theorem kGood.wp {n:Nat} {α:Type} {P:α->Prop} {cmp:Nat->Nat->(Bool->Shared->Prop)->Shared->Prop} {G:α->Shared->Prop} {s:Shared} {lt:Nat->Nat->Bool} (hc:∀ i j C,i < n->j < n->C (lt i j) s->cmp i j C s) (hG:∀ a,P a->G a s):∀ {t:KasT α},kGood n P t->t.kasWp cmp G s
  | .ret a,g=>hG a g
  | .ask i j k,g=>hc i j _ g.1 g.2.1 (kGood.wp hc hG (g.2.2 _))
abbrev Pm (n:Nat) (p:Array Nat):Prop:=p.toList.Perm (List.range n)
theorem c0q {n:Nat} {p:Array Nat} (h:Pm n p) (hn:0 < n) (k:Nat):p.getD k 0 < n:=by
  by_cases c:k < p.size
  . have e:p.getD k 0=p[k]:=by simp [Array.getD,c]
    rw [e]
    exact List.mem_range.mp (h.mem_iff.mp (Array.mem_toList_iff.mpr (Array.getElem_mem c)))
  . rw [show p.getD k 0=0 by simp [Array.getD,c]];exact hn
theorem dCq {n:Nat} {p:Array Nat} (h:Pm n p) (i j:Nat):Pm n (kas_rev p i j):=(Array.perm_iff_toList_perm.mp (mirror_perm p i j _)).trans h
theorem s3q {n:Nat} {p:Array Nat} (h:Pm n p) (i j:Nat):Pm n (bubble p i j):=(Array.perm_iff_toList_perm.mp (bubble_perm p i j)).trans h
section
variable {n:Nat} (hn:0 < n)
include hn
theorem i0q {p:Array Nat} (h:Pm n p):∀ f m,kGood n (λ _=>True) (kas_asc p f m)
  | 0,_=>trivial
  | f+1,m=>⟨c0q h hn _,c0q h hn _,λ b=>by cases b;exact i0q h f (m+1);exact trivial⟩
theorem e8q:∀ f p m q,Pm n p->kGood n (λ r:Array Nat × Nat × Nat=>Pm n r.1) (kas_desc f p m q)
  | 0,_,_,_,h=>h
  | f+1,p,m,q,h=>⟨c0q h hn _,c0q h hn _,λ b=>by
    cases b with
    | true=>
      by_cases c:q > 0
      . simp only [if_true,if_pos c];exact e8q f _ _ _ (dCq h _ _)
      . simp only [if_true,if_neg c];exact e8q f _ _ _ h
    | false=>exact ⟨c0q h hn _,c0q h hn _,λ d=>by cases d;exact e8q f _ _ _ h;exact h⟩⟩
theorem gGq {p:Array Nat} (h:Pm n p) (m nrem:Nat):kGood n (λ r:Nat × Array Nat=>Pm n r.2) (kas_tail3 m nrem p):=by
  unfold kas_tail3
  exact kGood.bind (R:=λ r:Nat × Array Nat=>Pm n r.2) (λ _ _=>by exact dCq h 0 m) (i0q hn (dCq h 0 m) _ _)
theorem dZq {p:Array Nat} (h:Pm n p) (m nrem:Nat):kGood n (λ r:Nat × Array Nat=>Pm n r.2) (kas_descPart m nrem p):=by
  refine kGood.bind (λ r hr=>?_) (e8q hn _ _ _ _ h)
  split
  . exact gGq hn (dCq hr _ _) _ _
  . exact gGq hn hr _ _
theorem mTq {p:Array Nat} (h:Pm n p) (nrem:Nat):kGood n (λ r:Nat × Array Nat=>Pm n r.2) (kas_count nrem p):=by
  refine kGood.bind (λ m _=>?_) (i0q hn h _ _)
  split
  . exact h
  . split
    . exact ⟨c0q h hn _,c0q h hn _,λ b=>by cases b;exact dZq hn (dCq h _ _) _ _;exact h⟩
    . exact dZq hn h _ _
theorem eKq {p:Array Nat} (h:Pm n p) (k:Nat):∀ f l r,kGood n (λ _=>True) (kas_place p k f l r)
  | 0,_,_=>trivial
  | f+1,l,r=>by
    rw [kas_place]
    split
    . exact trivial
    . exact ⟨c0q h hn _,c0q h hn _,λ b=>by cases b;exact eKq h k f _ _;exact eKq h k f _ _⟩
theorem m0q:∀ f p k,Pm n p->kGood n (Pm n) (kas_bin f p k)
  | 0,_,_,h=>h
  | f+1,_,k,h=>kGood.bind (λ _ _=>m0q f _ _ (s3q h _ _)) (eKq hn h k _ _ _)
theorem nQq:kGood n (Pm n) (kas_sort n):=by
  refine kGood.bind (λ r hr=>?_) (mTq hn (p:=List.toArray (List.range n)) (by exact .refl _) n)
  split
  . exact m0q hn _ _ _ hr
  . exact hr
end
theorem tCq {vs:List Value} {p:Array Nat} (h:Pm vs.length p):(p.toList.map λ i=>vs.getD i Value.none).Perm vs:=by
  have e:(List.range vs.length).map (λ i=>vs.getD i Value.none)=vs:=by
    apply List.ext_getElem
    . simp
    . intro i h1 h2
      simp [List.getD_eq_getElem?_getD,List.getElem?_eq_getElem h2]
  have:=h.map (λ i=>vs.getD i Value.none)
  rwa [e] at this
abbrev bIq (h:Heap) (a:Addr) (vs:List Value):Heap:=((h.update a (Obj.mapSeq λ _=>#[])).push (seqObj "tuple" vs.toArray 0)).push (seqObj "list" #[] 0)
section
variable {prog:Program} {w:World} {A:Around} {E:Value->Shared->Prop} {s:Shared}
theorem hPq {a:Addr} {vs:List Value} {n:Nat} {κ:SortKind} {lt:Nat->Nat->Bool} {P:PySem.Fin->Shared->Prop} (ho:s.heap.get? a=some (seqObj "list" vs.toArray n)) (h64:vs.length < 64)
    (hk:2<=vs.length->∀ Q:SortKind->Shared->Prop,Q κ { s with heap:=bIq s.heap a vs }->wpAny (model prog w) A (keyKind' vs.toArray) Q E { s with heap:=bIq s.heap a vs })
    (hc:∀ i j C,i < vs.length->j < vs.length->C (lt i j) { s with heap:=bIq s.heap a vs }->kas_ask prog w A κ vs i j C { s with heap:=bIq s.heap a vs })
    (h:∀ out:List Value,out.Perm vs->P (.done (.ret .none)) { s with heap:=sortedHeap s.heap a vs out.toArray }) :
    wpAny (model prog w) A (Builtin.«list.sort» ⟨[.ref a],[]⟩) P E s:=by
  rw [list_sort_plain]
  have ha:a < s.heap.objs.size:=Heap.lt_size ho
  refine wpAny_bind (listItems_at ho rfl ?_)
  refine wpAny_bind (listUpdate_at ho rfl ?_ (hsz:=by rw [List.size_toArray,sizeLine_eq];omega))
  obtain ⟨e1,ho1⟩:∃ e1,(s.heap.update a (Obj.mapSeq λ _=>#[])).get? a=some (seqObj "list" #[] e1):=⟨_,get?_update_seq ho (λ _=>#[])⟩
  refine wpAny_bind (seqEpoch_at ho1 rfl ?_)
  refine wpAny_bind (wpAny_newTuple ?_)
  refine wpAny_bind (wpAny_newList ?_)
  refine wpAny_holding ?_
  have ho6:(bIq s.heap a vs).get? a=some (seqObj "list" #[] e1):=by
    rw [Heap.get?_push_ne _ _ _ (by rw [size_push',Heap.size_update];exact Nat.ne_of_lt (Nat.lt_succ_of_lt ha)),Heap.get?_push_ne _ _ _ (by rw [Heap.size_update];exact Nat.ne_of_lt ha)]
    exact ho1
  show wpAny (model prog w) A _ P E { s with heap:=bIq s.heap a vs }
  dsimp only
  have hsz:vs.toArray.size=vs.length:=by simp
  by_cases h2:vs.toArray.size < 2
  . rw [if_pos h2,if_pos h2]
    refine wpAny_bind (wpAny_pure ?_)
    rw [StateT.run_pure]
    refine wpAny_bind (wpAny_pure ?_)
    dsimp only
    refine wpAny_bind (seqEpoch_at ho6 rfl ?_)
    have eo:(arrOf (SortSt.mk' general' (vs.toArray.zip vs.toArray) #[] 7 none)).map (·.2)=vs.toArray:=by
      show (vs.toArray.zip vs.toArray).map (·.2)=vs.toArray
      apply Array.toList_inj.mp
      rw [Array.toList_map,Array.toList_zip,List.map_snd_zip (Nat.le_refl _)]
    rw [eo]
    refine wpAny_bind (listUpdate_at ho6 rfl ?_ (hsz2:=by show vs.toArray.size<=_;rw [hsz,sizeLine_eq];omega))
    simp only [bne_self_eq_false,Bool.false_eq_true,if_false]
    exact wpAny_pure (h vs (.refl _))
  . rw [if_neg h2,if_neg h2]
    have hl2:2<=vs.length:=by omega
    refine wpAny_bind (hk hl2 _ ?_)
    refine wpAny_bind (wpAny_mono (kat_run (ks:=vs) (vs:=vs) (Q:=λ st' s'=>s'={ s with heap:=bIq s.heap a vs }/\failedOf st'=none/\∃ out:List Value,out.Perm vs/\(arrOf st').map (·.2)=out.toArray) (G:=λ p s'=>s'={ s with heap:=bIq s.heap a vs }/\Pm vs.length p) rfl hl2 h64 (λ p st' s' _ har hf g=>⟨g.1,hf,_,tCq g.2,kat_snds rfl har⟩)
      (kGood.wp hc (λ p hp=>⟨rfl,hp⟩) (nQq (by omega)))) ?_ λ _ _ e=>e)
    rintro ⟨⟨⟩,st'⟩ s' ⟨rfl,hf,out,hp,eo⟩
    dsimp only at eo ⊢
    rw [eo]
    refine wpAny_bind (seqEpoch_at ho6 rfl ?_)
    refine wpAny_bind (listUpdate_at ho6 rfl ?_ (hsz2:=by show out.toArray.size<=_;rw [List.size_toArray,hp.length_eq,sizeLine_eq];omega))
    rw [hf]
    simp only [bne_self_eq_false,Bool.false_eq_true,if_false]
    exact wpAny_pure (h out hp)
end
abbrev fXq (h:Heap) (vs:List Value):Heap:=bIq (((h.push (seqObj "list" #[] 0)).update h.objs.size (Obj.mapSeq (·++vs.toArray))).push (seqObj "list" vs.toArray 0)) (h.objs.size+1) vs
section
variable {prog:Program} {w:World} {A:Around} {E:Value->Shared->Prop} {s:Shared}
theorem gLq {l:Addr} {vs:List Value} {κ:SortKind} {lt:Nat->Nat->Bool} {Q:Value->Shared->Prop} (hl:s.heap.IsList l vs.toArray) (h64:vs.length < 64)
    (hk:2<=vs.length->∀ (A:Around) (E:Value->Shared->Prop) (R:SortKind->Shared->Prop),R κ { s with heap:=fXq s.heap vs }->wpAny (model prog w) A (keyKind' vs.toArray) R E { s with heap:=fXq s.heap vs })
    (hc:∀ (A':Around) i j C,A'.units<=A.units+5->i < vs.length->j < vs.length->C (lt i j) { s with heap:=fXq s.heap vs }->kas_ask prog w A' κ vs i j C { s with heap:=fXq s.heap vs })
    (h:∀ out:List Value,out.Perm vs->Q (.ref (s.heap.objs.size+1)) { s with heap:=sortedAll s.heap vs out.toArray }) :
    wpAny (model prog w) A (call (.builtin "sorted") [.ref l]) Q E s:=by
  refine Calls.call_function_entry kind_sorted plain_sorted entry_sorted (args_sorted1 _) ?_
  unfold Builtin.«sorted»
  refine wpAny_bind (m:=checkCount "sorted" 1 1 _) (wpAny_pure ?_)
  refine wpAny_bind (collect_list hl ?_ (hsz:=by rw [sizeLine_eq];omega))
  refine wpAny_bind (wpAny_newList ?_)
  have hsz:((s.heap.push (seqObj "list" #[] 0)).update s.heap.objs.size (Obj.mapSeq (·++vs.toArray))).objs.size=s.heap.objs.size+1:=by
    rw [Heap.size_update,size_push']
  have hoL:(((s.heap.push (seqObj "list" #[] 0)).update s.heap.objs.size (Obj.mapSeq (·++vs.toArray))).push (seqObj "list" vs.toArray 0)).get? (s.heap.objs.size+1)=some (seqObj "list" vs.toArray 0):=by
    rw [<- hsz];exact Heap.get?_push_size _ rfl
  show wpAny _ _ _ _ _ { s with heap:=((s.heap.push (seqObj "list" #[] 0)).update s.heap.objs.size (Obj.mapSeq (·++vs.toArray))).push (seqObj "list" vs.toArray 0) }
  rw [hsz]
  refine wpAny_bind (wpAny_holding (wpAny_call_entry slot_list_sort ⟨_,hoL,rfl⟩ entry_list_sort (hPq (κ:=κ) (lt:=lt) hoL h64 (λ h2 R hR=>hk h2 _ _ R hR) (λ i j C hi hj hC=>hc _ i j C ?_ hi hj hC) λ out hp=>⟨_,rfl,?_⟩) (args_list_sort _)))
  . show A.units+1+1<=A.units+5
    omega
  exact wpAny_pure ⟨_,rfl,h out hp⟩
end
end L2
namespace L3
open PySem PySem.Spec PySem.W PyProof.Rows L2
section
variable {X:Cx} {pins:List (Addr × Obj)} {σ:L2.St} {H:Hp} {s:Shared}
theorem l2q (I:Inv X pins σ H s) {prog:Program} {w:World} {A:Around} {b fin r:Bool} {Q:Bool->Shared->Prop} (q:Q r s):∀ (ds es:List D) (vs us:List V) (its its2:List Value) (i:Nat),0 < i->aXq ds=true->aXq es=true->AbsL X.K H ds vs->AbsL X.K H es us->Vals vs its->Vals us its2->A.units+bOq ds < cLine->bFq ds es=some r->fin=decide (ds.length < es.length)->KatLex prog w A b fin Q (its.zip its2) i s
  | [],es,vs,us,its,its2,i,_,_,_,e,_,rr,_,_,h,hf=>by
    rw [show vs=[] from e] at rr;cases rr
    rw [bFq] at h
    have e1:fin=r:=by rw [hf];exact Option.some.inj h
    exact kat_nil (by rw [e1];exact q)
  | _::_,[],vs,us,its,its2,i,_,_,_,_,e,_,rr2,_,h,hf=>by
    rw [show us=[] from e] at rr2;cases rr2
    rw [bFq] at h
    have e1:fin=r:=by rw [hf];cases h;simp
    rw [List.zip_nil_right]
    exact kat_nil (by rw [e1];exact q)
  | d::ds,e::es,vs,us,its,its2,i,hi,hd,he,⟨v,r1,e1,q1,t1⟩,⟨v',r1',e1',q1',t1'⟩,rr,rr2,hu,h,hf=>by
    subst e1 e1'
    cases rr with
    | cons a1 rt=>
      cases rr2 with
      | cons a2 rt2=>
        simp only [bOq] at hu
        simp only [aXq,Bool.and_eq_true] at hd he
        rw [bFq] at h
        refine kat_cons (uXq I d e A _ _ _ _ hd.1 he.1 q1 q1' a1 a2 (by omega) prog w _ _ ?_)
        cases c:eqD d e with
        | true=>
          rw [if_pos c] at h
          exact kat_yes (l2q I q ds es _ _ _ _ (i+1) (by omega) hd.2 he.2 t1 t1' rt rt2 (by omega) h (by rw [hf];simp))
        | false=>
          rw [if_neg (by rw [c];decide)] at h
          refine kat_no ?_
          rw [show (b&&i==0)=false by rw [show (i==0)=false from by simp;omega];simp]
          exact kat_one _ _ (z1q I d e r A _ _ _ _ hd.1 he.1 q1 q1' a1 a2 (by omega) h prog w _ _ q)
theorem zKq (I:Inv X pins σ H s) {prog:Program} {w:World} {A:Around} {E:Value->Shared->Prop} {r:Bool} {Q:Bool->Shared->Prop} (q:Q r s) {z z2:Str} {ds es:List D} {x y:V} {u v:Value} (hd:aXq ds=true) (he:aXq es=true) (ax:Abs X.K H (.tup (.str z::ds)) x) (ay:Abs X.K H (.tup (.str z2::es)) y) (ru:RelV x u) (rv:RelV y v)
    (hu:A.units+bOq ds < cLine) (h:ltD (.tup (.str z::ds)) (.tup (.str z2::es))=some r):wpAny (model prog w) A (keyLt' (tuples' true) u v) Q E s:=by
  obtain ⟨a,vs,rfl,s1,r1⟩:=ax
  cases ru
  obtain ⟨its,rr,t1,_⟩:=I.tuple s1
  obtain ⟨a2,us,rfl,s2,r2⟩:=ay
  cases rv
  obtain ⟨its2,rr2,t2,_⟩:=I.tuple s2
  obtain ⟨o,ho,hc,n,hdt⟩:=id t1
  obtain ⟨o2,ho2,hc2,n2,hdt2⟩:=id t2
  rw [ltD,bFq] at h
  obtain ⟨v,r',e1,q1,t1'⟩:=r1
  obtain ⟨v2,r2',e2,q2,t2'⟩:=r2
  subst e1 e2
  cases q1;cases q2
  cases rr with
  | cons a1 rt=>
    cases rr2 with
    | cons a3 rt2=>
      obtain ⟨t,rfl⟩:=a1
      obtain ⟨t',rfl⟩:=a3
      have l1:=rt.length
      have l2:=rt2.length
      have l3:=t1'.len
      have l4:=t2'.len
      refine kat_lt ho hdt ho2 hdt2 ?_
      refine kat_cons (uXq I (.str z) (.str z2) A _ _ _ _ rfl rfl rfl rfl ⟨t,rfl⟩ ⟨t',rfl⟩ (by simp only [D.dp];omega) prog w _ _ ?_)
      cases c:eqD (.str z) (.str z2) with
      | true=>
        rw [if_pos c] at h
        exact kat_yes (l2q I q ds es _ _ _ _ 1 (by omega) hd he t1' t2' rt rt2 hu h (by simp;omega))
      | false=>
        rw [if_neg (by rw [c];decide),ltD] at h
        cases h
        exact kat_no (oneLt_str q)
end
def SKey (d:D):Prop:=∃ z r,d=.tup (.str z::r)/\aXq r=true/\bOq r<=150
section
variable {X:Cx} {pins:List (Addr × Obj)} {σ:L2.St} {H:Hp} {s:Shared}
theorem o3q (I:Inv X pins σ H s):∀ (ds:List D) (vs:List V) (its:List Value),(∀ d∈ds,SKey d)->AbsL X.K H ds vs->Vals vs its->∃ fs,KatTups s.heap its fs/\fs.length=its.length/\∀ v∈fs,∃ z t,v=Value.str z t
  | [],vs,its,_,e,rr=>by
    rw [show vs=[] from e] at rr;cases rr
    exact ⟨[],.nil,rfl,by simp⟩
  | d::ds,vs,its,hs,⟨v,r1,e1,q1,t1⟩,rr=>by
    subst e1
    cases rr with
    | cons a1 rt=>
      obtain ⟨fs,k1,k2,k3⟩:=o3q I ds _ _ (λ d h=>hs d (List.mem_cons_of_mem _ h)) t1 rt
      obtain ⟨z,r,rfl,-,-⟩:=hs d (List.mem_cons_self ..)
      obtain ⟨a,vs',rfl,s1,r2⟩:=q1
      cases a1
      obtain ⟨its',rr',t1',_⟩:=I.tuple s1
      obtain ⟨v2,r3,e2,q2,-⟩:=r2
      subst e2
      cases q2
      obtain ⟨o,ho,hc,n,hdt⟩:=id t1'
      cases rr' with
      | cons a2 rt2=>
        obtain ⟨t,rfl⟩:=a2
        exact ⟨_::fs,.cons ho hc hdt rfl k1,by simp [k2],λ v hv=>by
          rcases List.mem_cons.mp hv with rfl | hv
          . exact ⟨z,t,rfl⟩
          . exact k3 v hv⟩
theorem rSq (I:Inv X pins σ H s) {M:Model} {A:Around} {E:Value->Shared->Prop} {ds:List D} {vs:List V} {its:List Value} {R:SortKind->Shared->Prop} (hs:∀ d∈ds,SKey d) (ha:AbsL X.K H ds vs) (rr:Vals vs its) (hn:0 < its.length) (h:R (tuples' true) s):wpAny M A (keyKind' its.toArray) R E s:=by
  obtain ⟨fs,k1,k2,k3⟩:=o3q I ds vs its hs ha rr
  refine kat_kind (T:=.type "str") k1 (by omega) (λ v hv=>?_) rfl h
  obtain ⟨z,t,rfl⟩:=k3 v hv
  exact Looks.of_pure rfl
end
theorem j3q {h:Heap} {vs:List Value} {b:Addr} {o:Obj} (hb:h.get? b=some o):(fXq h vs).get? b=some o:=by
  have lb:b < h.objs.size:=Heap.lt_size hb
  have h1:(h.push (seqObj "list" #[] 0)).get? b=some o:=Heap.get?_push_of_some _ hb
  have h2:((h.push (seqObj "list" #[] 0)).update h.objs.size (Obj.mapSeq (·++vs.toArray))).get? b=some o:=by
    rw [Heap.get?_update_ne _ _ _ _ (Nat.ne_of_lt lb)];exact h1
  have h3:=Heap.get?_push_of_some (seqObj "list" vs.toArray 0) h2
  refine Heap.get?_push_of_some _ (Heap.get?_push_of_some _ ?_)
  rw [Heap.get?_update_ne _ _ _ _ (show b≠h.objs.size+1 from Nat.ne_of_lt (Nat.lt_succ_of_lt lb))];exact h3
section
variable {X:Cx}
end
inductive Kn where
  | is (n:Int)
  | some
  | both (a b:Kn)
namespace Kn
end Kn
def Tm.kn:Tm->Kn
  | .whole n=>.is n
  | .pair a b=>.both a.kn b.kn
  | _=>.some
def Tm.mkK:Tm->List Kn->Kn
  | .whole n,_=>.is n
  | .pair _ _,[x,y]=>.both x y
  | _,_=>.some
inductive IsK:D->Prop
  | is (n:Int):IsK (.tup [.str "is", .int n])
  | some:IsK (.tup [.str "some"])
  | both {a b:D}:IsK a->IsK b->IsK (.tup [.str "both", a,b])
  | left {a:D}:IsK a->IsK (.tup [.str "left", a])
  | right {a:D}:IsK a->IsK (.tup [.str "right", a])
  | way {ds:List D} {k:D}:(∀ d∈ds,IsK d)->IsK k->IsK (.tup [.str "way", .tup ds,k])
theorem dSq:∀ {ds:List D},(∀ d∈ds,d.data=true)->aXq ds=true
  | [],_=>rfl
  | d::ds,h=>by rw [aXq,h d (List.mem_cons_self ..),dSq λ e he=>h e (List.mem_cons_of_mem _ he)];rfl
theorem IsK.data {d:D} (h:IsK d):d.data=true:=by
  induction h with
  | is n=>rfl
  | some=>rfl
  | both _ _ h1 h2=>simp only [D.data,aXq,h1,h2];rfl
  | left _ h1=>simp only [D.data,aXq,h1];rfl
  | right _ h1=>simp only [D.data,aXq,h1];rfl
  | way _ _ h1 h2=>simp only [D.data,aXq,dSq h1,h2];rfl
theorem j8q:∀ {ds es:List D},(∀ d∈ds,∀ e∈es,(ltD d e).isSome=true)->(bFq ds es).isSome=true
  | [],_,_=>by rw [bFq];rfl
  | _::_,[],_=>by rw [bFq];rfl
  | d::ds,e::es,h=>by
    rw [bFq]
    split
    . exact j8q λ d hd e he=>h d (List.mem_cons_of_mem _ hd) e (List.mem_cons_of_mem _ he)
    . exact h d (List.mem_cons_self ..) e (List.mem_cons_self ..)
theorem dGq {z z2:Str} {ds es:List D} (h:z=z2->(bFq ds es).isSome=true):(ltD (.tup (.str z::ds)) (.tup (.str z2::es))).isSome=true:=by
  rw [ltD,bFq]
  split
  . next c=>exact h (by simpa [eqD] using c)
  . rw [ltD];rfl
theorem g2q {a b:D} {ds es:List D} (h:(ltD a b).isSome=true) (h2:(bFq ds es).isSome=true):(bFq (a::ds) (b::es)).isSome=true:=by
  rw [bFq];split
  . exact h2
  . exact h
theorem IsK.lt {d:D} (h:IsK d):∀ {e:D},IsK e->(ltD d e).isSome=true:=by
  induction h with
  | is n=>intro e he;cases he<;>refine dGq λ c=>?_<;>first | (exact absurd c (by decide)) | (exact g2q rfl rfl)
  | some=>intro e he;cases he<;>refine dGq λ c=>?_<;>first | (exact absurd c (by decide)) | rfl
  | both _ _ h1 h2=>intro e he;cases he<;>refine dGq λ c=>?_<;>first | (exact absurd c (by decide)) | exact g2q (h1 ‹_›) (g2q (h2 ‹_›) rfl)
  | left _ h1=>intro e he;cases he<;>refine dGq λ c=>?_<;>first | (exact absurd c (by decide)) | exact g2q (h1 ‹_›) rfl
  | right _ h1=>intro e he;cases he<;>refine dGq λ c=>?_<;>first | (exact absurd c (by decide)) | exact g2q (h1 ‹_›) rfl
  | way _ _ h1 h2=>
    intro e he
    cases he with
    | way g1 g2=>exact dGq λ _=>g2q (by rw [ltD];exact j8q λ d hd e he=>h1 d hd (g1 e he)) (g2q (h2 g2) rfl)
    | _=>exact dGq λ c=>absurd c (by decide)
theorem IsK.skey {d:D} (h:IsK d) (hd:d.dp<=150):SKey d:=by
  have hx:=h.data
  cases h<;>exact ⟨_,_,rfl,by simpa [D.data,aXq] using hx,by simp only [D.dp,bOq] at hd ⊢;omega⟩
def ofA (d:D):Bool:=match d with
  | .tup (.str z::_)=>z=="is"||z=="some"||z=="both"
  | _=>false
theorem IsK.head {d:D} (h:IsK d):∃ z r,d=.tup (.str z::r)/\r.length<=2:=by
  cases h<;>exact ⟨_,_,rfl,by simp⟩
theorem sCq {ds:List D} {i:Int} {G:DV} {Q:DK} (h0:0<=i) (h1:i < ds.length) (h:∀ d∈ds,Q d G):atS ds i G Q:=by
  obtain ⟨n,rfl⟩:∃ n:Nat,i=n:=⟨i.toNat,by omega⟩
  have hl:n < ds.length:=by omega
  exact q9q (iQq (d:=ds[n]) (bCq (List.getElem?_eq_getElem hl)) (h _ (List.getElem_mem hl)))
theorem gSq {α:Type} (a:Addr) (en:α->D) (P:α->Prop) {J:DIt} {G1:DV} {g:DTG} {te:DTE} {nt:Nat} {cap:List Nat} {ρ:DSt} {Q:DK} (hz:J.items.length<=1000) (held:∀ G,J.held G) (hF:Fd G1 a)
    (turn:∀ d G (R:DK),Fd G a->(∀ x G',(∃ G0,Fx a G G0/\Sub G0 G')->P x->R (en x) G')->g d (fOq nt cap ρ) G λ ρ3 G3=>te ρ3 G3 R)
    (q:∀ (xs:List α) G',xs.length=J.items.length->(∀ x∈xs,P x)->Fx a G1 G'->∀ p,G' p=none->Q (.ref p) (up G' p (.lst (xs.map en)))):k6q g te nt cap ρ Q J G1:=by
  refine lGq (λ i ds G'=>∃ xs:List α,ds=xs.map en/\xs.length=i/\(∀ x∈xs,P x)/\Fx a G1 G') (aVq (by omega)) ⟨[],rfl,rfl,by simp,.refl hF⟩ (λ _ _ _ _ _=>held _) ?_ ?_
  . rintro i d ds G' hd ⟨xs,rfl,hxl,hx,u⟩
    refine turn d G' _ u.fd λ x G2 ⟨G0,u2,s2⟩ hp=>⟨G0,s2,xs++[x],by simp,by simp [hxl],λ y hy=>?_,u.trans u2⟩
    rcases List.mem_append.mp hy with hy | hy
    . exact hx y hy
    . simp at hy;subst hy;exact hp
  . rintro ds G' ⟨xs,rfl,hxl,hx,u⟩ p hp
    exact q xs G' hxl hx u p hp
theorem kSq {n:Nat}:∀ {ds:List D},(∀ d∈ds,d.dp<=n)->bOq ds<=n
  | [],_=>Nat.zero_le _
  | d::ds,h=>by
    have h1:=h d (List.mem_cons_self ..)
    have h2:=kSq λ e he=>h e (List.mem_cons_of_mem _ he)
    rw [bOq];omega
theorem aH5q (z:Str):inL (.str z) [.str "is", .str "some", .str "both"]=(z=="is"||z=="some"||z=="both"):=by
  have e:∀ a b:Str,(a==b)=(b==a):=λ a b=>by rw [Bool.eq_iff_iff,beq_iff_eq,beq_iff_eq];exact eq_comm
  simp only [inL,List.any_cons,List.any_nil,eqF,Bool.or_false]
  rw [e "is" z,e "some" z,e "both" z,Bool.or_assoc]
theorem nUq {ds:List D} {x:D} {i:Nat} {P:D->Prop} (h:∀ d∈ds,P d) (hx:P x):∀ d∈ds.set i x,P d:=λ d hd=>by
  rcases List.mem_or_eq_of_mem_set hd with h1 | rfl
  . exact h d h1
  . exact hx
theorem r7q {a:Addr} {G G1 G0 G9:DV} (h:∀ b o,b≠a->G b=some o->G1 b=some o) (u:Fx a G1 G0) (s:Sub G0 G9):∃ G0,Fx a G G0/\Sub G0 G9:=by
  obtain ⟨x,y,rfl⟩:=u
  refine ⟨_,.mk (x:=x) (y:=y),λ b o e=>?_⟩
  by_cases c:b=a
  . subst c;rw [a4q] at e;exact s _ _ (by rw [a4q];exact e)
  . rw [aRq c] at e;exact s _ _ (by rw [aRq c];exact h b o c e)
end L3
namespace L2
open PySem PySem.W PyProof.Rows
def kEv (n:Nat) (lt:Nat->Nat->Bool) {α:Type} (P:α->Prop):KasT α->Prop
  | .ret a=>P a
  | .ask i j k=>i < n/\j < n/\kEv n lt P (k (lt i j))
theorem kEv.bind {n:Nat} {lt:Nat->Nat->Bool} {α β:Type} {P:α->Prop} {R:β->Prop} {f:α->KasT β} (h:∀ a,P a->kEv n lt R (f a)):∀ {t:KasT α},kEv n lt P t->kEv n lt R (t.bind f)
  | .ret a,g=>h a g
  | .ask _ _ k,g=>⟨g.1,g.2.1,kEv.bind h g.2.2⟩
theorem kEv.mono {n:Nat} {lt:Nat->Nat->Bool} {α:Type} {P R:α->Prop} (h:∀ a,P a->R a):∀ {t:KasT α},kEv n lt P t->kEv n lt R t
  | .ret a,g=>h a g
  | .ask _ _ k,g=>⟨g.1,g.2.1,kEv.mono h g.2.2⟩
theorem kEv.wp {n:Nat} {α:Type} {P:α->Prop} {cmp:Nat->Nat->(Bool->Shared->Prop)->Shared->Prop} {G:α->Shared->Prop} {s:Shared} {lt:Nat->Nat->Bool} (hc:∀ i j C,i < n->j < n->C (lt i j) s->cmp i j C s) (hG:∀ a,P a->G a s):∀ {t:KasT α},kEv n lt P t->t.kasWp cmp G s
  | .ret a,g=>hG a g
  | .ask i j k,g=>hc i j _ g.1 g.2.1 (kEv.wp hc hG g.2.2)
structure Swo (lt:Nat->Nat->Bool):Prop where
  irr:∀ a,lt a a=false
  neg:∀ a b c,lt a b=false->lt b c=false->lt a c=false
  asy:∀ a b,lt a b=true->lt b a=false
abbrev gt (p:Array Nat) (i:Nat):Nat:=p.getD i 0
def Up' (lt:Nat->Nat->Bool) (p:Array Nat) (k:Nat):Prop:=∀ i j,i < j->j < k->lt (gt p j) (gt p i)=false
def Dn' (lt:Nat->Nat->Bool) (p:Array Nat) (k:Nat):Prop:=∀ i j,i < j->j < k->lt (gt p i) (gt p j)=false
theorem nOq {p q:Array Nat} {i j:Nat} (h:p[i]?=q[j]?):gt p i=gt q j:=by
  unfold gt;rw [Array.getD_eq_getD_getElem?,Array.getD_eq_getD_getElem?,h]
section
variable {n:Nat} (hn:0 < n) {lt:Nat->Nat->Bool} (O:Swo lt)
include hn O
theorem nMq {p:Array Nat} {m:Nat} (hm:1<=m) (h:Up' lt p m) (c:lt (gt p m) (gt p (m - 1))=false):Up' lt p (m+1):=λ i j hij hj=>by
  by_cases e:j=m
  . subst e
    by_cases e2:i=j - 1
    . subst e2;exact c
    . exact O.neg _ _ _ c (h i (j - 1) (by omega) (by omega))
  . exact h i j hij (by omega)
theorem sTq {p:Array Nat} (hp:Pm n p):∀ f m,1<=m->Up' lt p m->kEv n lt (λ r=>Up' lt p r/\m<=r/\r<=m+f) (kas_asc p f m)
  | 0,m,_,h=>⟨h,Nat.le_refl _,by omega⟩
  | f+1,m,hm,h=>by
    refine ⟨c0q hp hn _,c0q hp hn _,?_⟩
    cases c:lt (p.getD m 0) (p.getD (m - 1) 0) with
    | true=>exact ⟨h,Nat.le_refl _,by omega⟩
    | false=>exact kEv.mono (λ r ⟨h1,h2,h3⟩=>⟨h1,by omega,by omega⟩) (sTq hp f (m+1) (by omega) (nMq hn O hm h c))
theorem iEq {p:Array Nat} (hp:Pm n p) {k:Nat} (hk:Up' lt p k):∀ f l r,l<=r->r<=k->r - l<=f->(∀ i,i < l->lt (gt p k) (gt p i)=false)->(∀ i,r<=i->i < k->lt (gt p k) (gt p i)=true) →
    kEv n lt (λ m=>m<=k/\(∀ i,i < m->lt (gt p k) (gt p i)=false)/\∀ i,m<=i->i < k->lt (gt p k) (gt p i)=true) (kas_place p k f l r)
  | 0,l,r,h1,h2,h3,h4,h5=>by
    have e:l=r:=by omega
    subst e
    exact ⟨h2,h4,h5⟩
  | f+1,l,r,h1,h2,h3,h4,h5=>by
    rw [kas_place]
    split
    . next c=>
      have e:l=r:=by omega
      subst e
      exact ⟨h2,h4,h5⟩
    . next c=>
      refine ⟨c0q hp hn _,c0q hp hn _,?_⟩
      cases d:lt (p.getD k 0) (p.getD ((l+r) / 2) 0) with
      | true=>
        refine iEq hp hk f l ((l+r) / 2) (by omega) (by omega) (by omega) h4 λ i hi hik=>?_
        by_cases e:i=(l+r) / 2
        . subst e;exact d
        . have z:=hk ((l+r) / 2) i (by omega) hik
          cases w:lt (gt p k) (gt p i) with
          | true=>rfl
          | false=>exact absurd d (by rw [O.neg _ _ _ w z];decide)
      | false=>
        refine iEq hp hk f ((l+r) / 2+1) r (by omega) (by omega) (by omega) (λ i hi=>?_) h5
        by_cases e:i=(l+r) / 2
        . subst e;exact d
        . exact O.neg _ _ _ d (hk i ((l+r) / 2) (by omega) (by omega))
theorem aC6q {p:Array Nat} {k m:Nat} (hs:k < p.size) (hm:m<=k) (h:Up' lt p k) (h4:∀ i,i < m->lt (gt p k) (gt p i)=false) (h5:∀ i,m<=i->i < k->lt (gt p k) (gt p i)=true):Up' lt (bubble p k (k - m)) (k+1):=by
  have e:∀ i,gt (bubble p k (k - m)) i=if i=m then gt p k else if m < i/\i<=k then gt p (i - 1) else gt p i:=λ i=>by
    have z:=getElem?_bubble hs (k - m) (by omega) i
    rw [show k - (k - m)=m by omega] at z
    by_cases c:i=m
    . rw [if_pos c] at z ⊢;exact nOq z
    . rw [if_neg c] at z ⊢
      by_cases d:m < i/\i<=k
      . rw [if_pos d] at z ⊢;exact nOq z
      . rw [if_neg d] at z ⊢;exact nOq z
  intro i j hij hj
  have low:∀ i,i < m->gt (bubble p k (k - m)) i=gt p i:=λ i hi=>by rw [e i,if_neg (by omega),if_neg (by omega)]
  have mid:gt (bubble p k (k - m)) m=gt p k:=by rw [e m,if_pos rfl]
  have high:∀ i,m < i->i<=k->gt (bubble p k (k - m)) i=gt p (i - 1):=λ i hi hk=>by rw [e i,if_neg (by omega),if_pos ⟨hi,hk⟩]
  rcases Nat.lt_trichotomy i m with c1 | c1 | c1
  . rw [low i c1]
    rcases Nat.lt_trichotomy j m with c2 | c2 | c2
    . rw [low j c2];exact h i j hij (by omega)
    . rw [c2,mid];exact h4 i c1
    . rw [high j c2 (by omega)];exact h i (j - 1) (by omega) (by omega)
  . subst c1
    rw [mid,high j hij (by omega)]
    exact O.asy _ _ (h5 (j - 1) (by omega) (by omega))
  . rw [high i c1 (by omega),high j (by omega) (by omega)]
    exact h (i - 1) (j - 1) (by omega) (by omega)
theorem sKq:∀ f (p:Array Nat) k,Pm n p->k+f=n->Up' lt p k->kEv n lt (λ q=>Pm n q/\Up' lt q n) (kas_bin f p k)
  | 0,p,k,hp,he,h=>⟨hp,by rw [<- he];exact h⟩
  | f+1,p,k,hp,he,h=>by
    refine kEv.bind (λ m ⟨h1,h2,h3⟩=>?_) (iEq hn O hp h k 0 k (by omega) (by omega) (by omega) (λ i hi=>by omega) (λ i hi hik=>by omega))
    have hsz:p.size=n:=by
      have:=hp.length_eq
      simpa using this
    exact sKq f _ (k+1) (s3q hp _ _) (by omega) (aC6q hn O (by omega) h1 h h2 h3)
omit hn O in
theorem fEq {p:Array Nat} (h:Pm n p):p.size=n:=by
  have:=h.length_eq
  simpa using this
omit hn O in
theorem dWq {p:Array Nat} {i j k:Nat} (hj:j<=p.size):gt (kas_rev p i j) k=if i<=k/\k < j then gt p (i+j - 1 - k) else gt p k:=by
  have z:=getElem?_mirror_all (i:=i) hj k
  by_cases c:i<=k/\k < j
  . rw [if_pos c] at z ⊢;exact nOq z
  . rw [if_neg c] at z ⊢;exact nOq z
structure Fall (n:Nat) (lt:Nat->Nat->Bool) (p:Array Nat) (m q:Nat):Prop where
  pm:Pm n p
  dn:Dn' lt p m
  le:m<=n
  q1:q+1<=m
  al:∀ i,m - (q+1)<=i->i < m->lt (gt p (m - 1)) (gt p i)=false
omit hn in
theorem kDq {p:Array Nat} {m i:Nat} (h:Dn' lt p m) (hi:i < m):lt (gt p i) (gt p (m - 1))=false:=by
  by_cases c:i=m - 1
  . subst c;exact O.irr _
  . exact h i (m - 1) (by omega) (by omega)
omit hn in
theorem lVq {p:Array Nat} {m q:Nat} (F:Fall n lt p m q):Dn' lt (kas_rev p (m - (q+1)) m) m:=λ i j hij hj=>by
  have hs:m<=p.size:=by rw [fEq F.pm];exact F.le
  have hq:=F.q1
  rw [dWq hs,dWq hs]
  by_cases c2:m - (q+1)<=j/\j < m
  . rw [if_pos c2]
    by_cases c1:m - (q+1)<=i/\i < m
    . rw [if_pos c1]
      exact O.neg _ _ _ (kDq O F.dn (by omega)) (F.al _ (by omega) (by omega))
    . rw [if_neg c1]
      exact F.dn _ _ (by omega) (by omega)
  . rw [if_neg c2,if_neg (by omega)]
    exact F.dn i j hij hj
omit hn in
theorem hIq {p:Array Nat} {m:Nat} (h:Dn' lt p m) {x:Nat} (hx:∀ i,i < m->lt (gt p i) x=false) (e:gt p m=x):Dn' lt p (m+1):=λ i j hij hj=>by
  by_cases c:j=m
  . subst c;rw [e];exact hx i hij
  . exact h i j hij (by omega)
theorem iBq:∀ f p m q,m+f<=n->Fall n lt p m q->kEv n lt (λ r:Array Nat × Nat × Nat=>Fall n lt r.1 r.2.1 r.2.2) (kas_desc f p m q)
  | 0,p,m,q,_,F=>F
  | f+1,p,m,q,hf,F=>by
    have hq:=F.q1
    have hs:m<=p.size:=by rw [fEq F.pm];exact F.le
    refine ⟨c0q F.pm hn _,c0q F.pm hn _,?_⟩
    cases c:lt (p.getD m 0) (p.getD (m - 1) 0) with
    | true=>
      have below:∀ i,i < m->lt (gt p i) (gt p m)=false:=λ i hi=>O.neg _ _ _ (kDq O F.dn hi) (O.asy _ _ c)
      by_cases d:q > 0
      . simp only [if_true,if_pos d]
        have er:∀ i,gt (kas_rev p (m - (q+1)) m) i=if m - (q+1)<=i/\i < m then gt p (m - (q+1)+m - 1 - i) else gt p i:=λ i=>dWq hs
        refine iBq f _ (m+1) 0 (by omega) ⟨dCq F.pm _ _,hIq O (lVq O F) (x:=gt p m) (λ i hi=>?_) (by rw [er,if_neg (by omega)]),by omega,by omega,λ i h1 h2=>?_⟩
        . rw [er]
          split
          . exact below _ (by omega)
          . exact below _ hi
        . rw [show i=m+1 - 1 by omega];exact O.irr _
      . simp only [if_true,if_neg d]
        refine iBq f _ (m+1) 0 (by omega) ⟨F.pm,hIq O F.dn below rfl,by omega,by omega,λ i h1 h2=>?_⟩
        rw [show i=m+1 - 1 by omega];exact O.irr _
    | false=>
      refine ⟨c0q F.pm hn _,c0q F.pm hn _,?_⟩
      cases d:lt (p.getD (m - 1) 0) (p.getD m 0) with
      | true=>exact F
      | false=>
        refine iBq f _ (m+1) (q+1) (by omega) ⟨F.pm,hIq O F.dn (x:=gt p m) (λ i hi=>O.neg _ _ _ (kDq O F.dn hi) d) rfl,by omega,by omega,λ i h1 h2=>?_⟩
        rw [show m+1 - 1=m by omega]
        by_cases e:i=m
        . subst e;exact O.irr _
        . exact O.neg _ _ _ c (F.al i (by omega) (by omega))
omit hn in
theorem y1q {p:Array Nat} {m:Nat} (hs:m<=p.size) (h:Dn' lt p m):Up' lt (kas_rev p 0 m) m:=λ i j hij hj=>by
  rw [dWq hs,dWq hs,if_pos (by omega),if_pos (by omega)]
  exact h _ _ (by omega) (by omega)
theorem lAq {p:Array Nat} {m:Nat} (hp:Pm n p) (hm:m<=n) (h1:1<=m) (h:Dn' lt p m):kEv n lt (λ r:Nat × Array Nat=>Pm n r.2/\Up' lt r.2 r.1/\1<=r.1/\r.1<=n) (kas_tail3 m n p):=by
  unfold kas_tail3
  refine kEv.bind (P:=λ r=>Up' lt (kas_rev p 0 m) r/\m<=r/\r<=m+(n - m)) (R:=λ r:Nat × Array Nat=>Pm n r.2/\Up' lt r.2 r.1/\1<=r.1/\r.1<=n) (λ r ⟨a,b,c⟩=>?_) (sTq hn O (dCq hp 0 m) (n - m) m h1 (y1q O (by rw [fEq hp];exact hm) h))
  exact ⟨dCq hp 0 m,a,by omega,by omega⟩
theorem fBq {p:Array Nat} {m:Nat} (hp:Pm n p) (hm:m+1<=n) (h:Dn' lt p (m+1)):kEv n lt (λ r:Nat × Array Nat=>Pm n r.2/\Up' lt r.2 r.1/\1<=r.1/\r.1<=n) (kas_descPart m n p):=by
  refine kEv.bind (λ r F=>?_) (iBq hn O (n - (m+1)) p (m+1) 0 (by omega) ⟨hp,h,hm,by omega,λ i h1 h2=>by rw [show i=m+1 - 1 by omega];exact O.irr _⟩)
  have hq:=F.q1
  split
  . exact lAq hn O (dCq F.pm _ _) F.le (by omega) (lVq O F)
  . exact lAq hn O F.pm F.le (by omega) F.dn
theorem oGq {p:Array Nat} (hp:Pm n p):∀ f m,1<=m->Up' lt p m->kEv n lt (λ r=>(Up' lt p r/\m<=r/\r<=m+f)/\(r < m+f->lt (gt p r) (gt p (r - 1))=true)) (kas_asc p f m)
  | 0,m,_,h=>⟨⟨h,Nat.le_refl _,by omega⟩,λ z=>by omega⟩
  | f+1,m,hm,h=>by
    refine ⟨c0q hp hn _,c0q hp hn _,?_⟩
    cases c:lt (p.getD m 0) (p.getD (m - 1) 0) with
    | true=>exact ⟨⟨h,Nat.le_refl _,by omega⟩,λ _=>c⟩
    | false=>exact kEv.mono (λ r ⟨⟨h1,h2,h3⟩,h4⟩=>⟨⟨h1,by omega,by omega⟩,λ z=>h4 (by omega)⟩) (oGq hp f (m+1) (by omega) (nMq hn O hm h c))
theorem r2q {p:Array Nat} (hp:Pm n p):kEv n lt (λ r:Nat × Array Nat=>Pm n r.2/\Up' lt r.2 r.1/\1<=r.1/\r.1<=n) (kas_count n p):=by
  refine kEv.bind (λ m ⟨⟨h1,h2,h3⟩,h4⟩=>?_) (oGq hn O hp (n - 1) 1 (by omega) (λ i j hij hj=>by omega))
  split
  . exact ⟨hp,h1,by omega,by omega⟩
  . next c=>
    have c':m≠n:=λ e=>c (by simp [e])
    have hlast:=h4 (by omega)
    split
    . next d=>
      refine ⟨c0q hp hn _,c0q hp hn _,?_⟩
      cases w:lt (p.getD 0 0) (p.getD (m - 1) 0) with
      | true=>exact ⟨hp,h1,by omega,by omega⟩
      | false=>
        have hs:m<=p.size:=by rw [fEq hp];omega
        have up_l:∀ i,i < m->lt (gt p (m - 1)) (gt p i)=false:=λ i hi=>by
          by_cases e:i=m - 1
          . subst e;exact O.irr _
          . exact h1 i (m - 1) (by omega) (by omega)
        have up_f:∀ i,i < m->lt (gt p i) (gt p 0)=false:=λ i hi=>by
          by_cases e:i=0
          . subst e;exact O.irr _
          . exact h1 0 i (by omega) hi
        have dn0:Dn' lt (kas_rev p 0 m) m:=λ i j hij hj=>by
          rw [dWq hs,dWq hs,if_pos (by omega),if_pos (by omega)]
          exact h1 _ _ (by omega) (by omega)
        refine fBq hn O (dCq hp 0 m) (by omega) (hIq O dn0 (x:=gt p m) (λ i hi=>?_) (by rw [dWq hs,if_neg (by omega)]))
        rw [dWq hs,if_pos (by omega)]
        exact O.neg _ _ _ (O.neg _ _ _ (up_f _ (by omega)) w) (O.asy _ _ hlast)
    . next d=>
      have e:m=1:=by omega
      subst e
      refine fBq hn O hp (by omega) λ i j hij hj=>?_
      rw [show i=0 by omega,show j=1 by omega]
      exact O.asy _ _ hlast
theorem u5q:kEv n lt (λ q=>Pm n q/\Up' lt q n) (kas_sort n):=by
  refine kEv.bind (λ r ⟨h1,h2,h3,h4⟩=>?_) (r2q hn O (p:=List.toArray (List.range n)) (by exact .refl _))
  split
  . next c=>
    rw [show max r.1 1=r.1 by omega]
    exact sKq hn O (n - r.1) r.2 r.1 h1 (by omega) h2
  . next c=>
    have e:r.1=n:=by omega
    rw [e] at h2
    exact ⟨h1,h2⟩
end
end L2
namespace L2
open PySem PySem.W PyProof.Rows
theorem mSq (vs:List Value):(List.range vs.length).map (λ i=>vs.getD i Value.none)=vs:=by
  apply List.ext_getElem
  . simp
  . intro i h1 h2
    simp [List.getD_eq_getElem?_getD,List.getElem?_eq_getElem h2]
section
variable {prog:Program} {w:World} {A:Around} {E:Value->Shared->Prop} {s:Shared}
theorem hKq {a:Addr} {vs:List Value} {n:Nat} {κ:SortKind} {lt:Nat->Nat->Bool} {P:PySem.Fin->Shared->Prop} (ho:s.heap.get? a=some (seqObj "list" vs.toArray n)) (h64:vs.length < 64)
    (hk:2<=vs.length->∀ Q:SortKind->Shared->Prop,Q κ { s with heap:=bIq s.heap a vs }->wpAny (model prog w) A (keyKind' vs.toArray) Q E { s with heap:=bIq s.heap a vs })
    (hc:∀ i j C,i < vs.length->j < vs.length->C (lt i j) { s with heap:=bIq s.heap a vs }->kas_ask prog w A κ vs i j C { s with heap:=bIq s.heap a vs })
    (O:Swo lt) (h:∀ p:Array Nat,Pm vs.length p->Up' lt p vs.length->P (.done (.ret .none)) { s with heap:=sortedHeap s.heap a vs (p.toList.map λ i=>vs.getD i Value.none).toArray }) :
    wpAny (model prog w) A (Builtin.«list.sort» ⟨[.ref a],[]⟩) P E s:=by
  rw [list_sort_plain]
  have ha:a < s.heap.objs.size:=Heap.lt_size ho
  refine wpAny_bind (listItems_at ho rfl ?_)
  refine wpAny_bind (listUpdate_at ho rfl ?_ (hsz:=by rw [List.size_toArray,sizeLine_eq];omega))
  obtain ⟨e1,ho1⟩:∃ e1,(s.heap.update a (Obj.mapSeq λ _=>#[])).get? a=some (seqObj "list" #[] e1):=⟨_,get?_update_seq ho (λ _=>#[])⟩
  refine wpAny_bind (seqEpoch_at ho1 rfl ?_)
  refine wpAny_bind (wpAny_newTuple ?_)
  refine wpAny_bind (wpAny_newList ?_)
  refine wpAny_holding ?_
  have ho6:(bIq s.heap a vs).get? a=some (seqObj "list" #[] e1):=by
    rw [Heap.get?_push_ne _ _ _ (by rw [size_push',Heap.size_update];exact Nat.ne_of_lt (Nat.lt_succ_of_lt ha)),Heap.get?_push_ne _ _ _ (by rw [Heap.size_update];exact Nat.ne_of_lt ha)]
    exact ho1
  show wpAny (model prog w) A _ P E { s with heap:=bIq s.heap a vs }
  dsimp only
  have hsz:vs.toArray.size=vs.length:=by simp
  by_cases h2:vs.toArray.size < 2
  . rw [if_pos h2,if_pos h2]
    refine wpAny_bind (wpAny_pure ?_)
    rw [StateT.run_pure]
    refine wpAny_bind (wpAny_pure ?_)
    dsimp only
    refine wpAny_bind (seqEpoch_at ho6 rfl ?_)
    have eo:(arrOf (SortSt.mk' general' (vs.toArray.zip vs.toArray) #[] 7 none)).map (·.2)=vs.toArray:=by
      show (vs.toArray.zip vs.toArray).map (·.2)=vs.toArray
      apply Array.toList_inj.mp
      rw [Array.toList_map,Array.toList_zip,List.map_snd_zip (Nat.le_refl _)]
    rw [eo]
    refine wpAny_bind (listUpdate_at ho6 rfl ?_ (hsz2:=by show vs.toArray.size<=_;rw [hsz,sizeLine_eq];omega))
    simp only [bne_self_eq_false,Bool.false_eq_true,if_false]
    have z:=h (List.toArray (List.range vs.length)) (.refl _) (λ i j hij hj=>by omega)
    rw [show ((List.toArray (List.range vs.length)).toList.map λ i=>vs.getD i Value.none)=vs from mSq vs] at z
    exact wpAny_pure z
  . rw [if_neg h2,if_neg h2]
    have hl2:2<=vs.length:=by omega
    refine wpAny_bind (hk hl2 _ ?_)
    refine wpAny_bind (wpAny_mono (kat_run (ks:=vs) (vs:=vs) (Q:=λ st' s'=>s'={ s with heap:=bIq s.heap a vs }/\failedOf st'=none/\∃ p:Array Nat,Pm vs.length p/\Up' lt p vs.length/\(arrOf st').map (·.2)=(p.toList.map λ i=>vs.getD i Value.none).toArray) (G:=λ p s'=>s'={ s with heap:=bIq s.heap a vs }/\Pm vs.length p/\Up' lt p vs.length) rfl hl2 h64 (λ p st' s' _ har hf g=>⟨g.1,hf,p,g.2.1,g.2.2,kat_snds rfl har⟩)
      (kEv.wp hc (λ p hp=>⟨rfl,hp⟩) (u5q (by omega) O))) ?_ λ _ _ e=>e)
    rintro ⟨⟨⟩,st'⟩ s' ⟨rfl,hf,p,hp,hup,eo⟩
    dsimp only at eo ⊢
    rw [eo]
    refine wpAny_bind (seqEpoch_at ho6 rfl ?_)
    refine wpAny_bind (listUpdate_at ho6 rfl ?_ (hsz2:=by show (p.toList.map λ i=>vs.getD i Value.none).toArray.size<=_;rw [List.size_toArray,List.length_map,hp.length_eq,List.length_range,sizeLine_eq];omega))
    rw [hf]
    simp only [bne_self_eq_false,Bool.false_eq_true,if_false]
    exact wpAny_pure (h p hp hup)
theorem h4q {l:Addr} {vs:List Value} {κ:SortKind} {lt:Nat->Nat->Bool} {Q:Value->Shared->Prop} (hl:s.heap.IsList l vs.toArray) (h64:vs.length < 64)
    (hk:2<=vs.length->∀ (A:Around) (E:Value->Shared->Prop) (R:SortKind->Shared->Prop),R κ { s with heap:=fXq s.heap vs }->wpAny (model prog w) A (keyKind' vs.toArray) R E { s with heap:=fXq s.heap vs })
    (hc:∀ (A':Around) i j C,A'.units<=A.units+5->i < vs.length->j < vs.length->C (lt i j) { s with heap:=fXq s.heap vs }->kas_ask prog w A' κ vs i j C { s with heap:=fXq s.heap vs })
    (O:Swo lt) (h:∀ p:Array Nat,Pm vs.length p->Up' lt p vs.length->Q (.ref (s.heap.objs.size+1)) { s with heap:=sortedAll s.heap vs (p.toList.map λ i=>vs.getD i Value.none).toArray }) :
    wpAny (model prog w) A (call (.builtin "sorted") [.ref l]) Q E s:=by
  refine Calls.call_function_entry kind_sorted plain_sorted entry_sorted (args_sorted1 _) ?_
  unfold Builtin.«sorted»
  refine wpAny_bind (m:=checkCount "sorted" 1 1 _) (wpAny_pure ?_)
  refine wpAny_bind (collect_list hl ?_ (hsz:=by rw [sizeLine_eq];omega))
  refine wpAny_bind (wpAny_newList ?_)
  have hsz:((s.heap.push (seqObj "list" #[] 0)).update s.heap.objs.size (Obj.mapSeq (·++vs.toArray))).objs.size=s.heap.objs.size+1:=by
    rw [Heap.size_update,size_push']
  have hoL:(((s.heap.push (seqObj "list" #[] 0)).update s.heap.objs.size (Obj.mapSeq (·++vs.toArray))).push (seqObj "list" vs.toArray 0)).get? (s.heap.objs.size+1)=some (seqObj "list" vs.toArray 0):=by
    rw [<- hsz];exact Heap.get?_push_size _ rfl
  show wpAny _ _ _ _ _ { s with heap:=((s.heap.push (seqObj "list" #[] 0)).update s.heap.objs.size (Obj.mapSeq (·++vs.toArray))).push (seqObj "list" vs.toArray 0) }
  rw [hsz]
  refine wpAny_bind (wpAny_holding (wpAny_call_entry slot_list_sort ⟨_,hoL,rfl⟩ entry_list_sort (hKq (κ:=κ) (lt:=lt) hoL h64 (λ h2 R hR=>hk h2 _ _ R hR) (λ i j C hi hj hC=>hc _ i j C ?_ hi hj hC) O λ p hp hup=>⟨_,rfl,?_⟩) (args_list_sort _)))
  . show A.units+1+1<=A.units+5
    omega
  exact wpAny_pure ⟨_,rfl,h p hp hup⟩
end
end L2
namespace L3
open PySem L2
section
variable {S:D->Prop} (hd:∀ a,S a->a.data=true)
include hd
end
structure Std (x y:D):Prop where
  e1:eqD x y=true->x=y
  e2:eqD y x=true->x=y
  r1:eqD x x=true
  tri:x=y\/ltD x y=some true\/ltD y x=some true
theorem bEq {x y:D} {r r':List D} (h:Std x y) (t:x=y->r=r'\/bFq r r'=some true\/bFq r' r=some true):x::r=y::r'\/bFq (x::r) (y::r')=some true\/bFq (y::r') (x::r)=some true:=by
  by_cases c:x=y
  . subst c
    rcases t rfl with h1 | h1 | h1
    . exact .inl (by rw [h1])
    . exact .inr (.inl (by rw [bFq,if_pos h.r1];exact h1))
    . exact .inr (.inr (by rw [bFq,if_pos h.r1];exact h1))
  . rcases h.tri with h1 | h1 | h1
    . exact absurd h1 c
    . exact .inr (.inl (by rw [bFq,if_neg λ z=>c (h.e1 z)];exact h1))
    . exact .inr (.inr (by rw [bFq,if_neg λ z=>c (h.e2 z)];exact h1))
theorem bYq {x y z:D} {r r' r'':List D} (e1:eqD x y=true->x=y) (e2:eqD y z=true->y=z) (e3:eqD x z=true->x=z) (irr:ltD x x≠some true) (t:ltD x y=some true->ltD y z=some true->ltD x z=some true)
    (t2:x=y->y=z->bFq r r'=some true->bFq r' r''=some true->bFq r r''=some true) (a1:bFq (x::r) (y::r')=some true) (a2:bFq (y::r') (z::r'')=some true):bFq (x::r) (z::r'')=some true:=by
  rw [bFq] at a1 a2 ⊢
  by_cases c:eqD x y=true
  . have q:=e1 c
    subst q
    rw [if_pos c] at a1
    by_cases c2:eqD x z=true
    . rw [if_pos c2] at a2 ⊢;exact t2 rfl (e2 c2) a1 a2
    . rw [if_neg c2] at a2 ⊢;exact a2
  . rw [if_neg c] at a1
    by_cases c2:eqD y z=true
    . have q:=e2 c2
      subst q
      rw [if_neg c];exact a1
    . rw [if_neg c2] at a2
      have w:=t a1 a2
      rw [if_neg λ q=>by have q':=e3 q;subst q';exact irr w];exact w
theorem cFq (z z2:Str):Std (.str z) (.str z2):=by
  have e:∀ a b:Str,eqD (.str a) (.str b)=true->(D.str a)=.str b:=λ a b h=>by
    rw [eqD,beq_iff_eq] at h;rw [h]
  refine ⟨e z z2,λ h=>(e z2 z h).symm,by simp [eqD],?_⟩
  rw [ltD,ltD]
  rcases Nat.lt_trichotomy 0 0 with h | h | h
  . omega
  . by_cases c:z.cps.toList < z2.cps.toList
    . exact .inr (.inl (by simp [c]))
    . by_cases d:z2.cps.toList < z.cps.toList
      . exact .inr (.inr (by simp [d]))
      . have q:z.cps.toList=z2.cps.toList:=List.le_antisymm (List.not_lt.mp d) (List.not_lt.mp c)
        obtain ⟨⟨a⟩⟩:=z
        obtain ⟨⟨b⟩⟩:=z2
        simp at q;subst q
        exact .inl rfl
  . omega
theorem u7q {a b c:Str} (h1:ltD (.str a) (.str b)=some true) (h2:ltD (.str b) (.str c)=some true):ltD (.str a) (.str c)=some true:=by
  rw [ltD] at h1 h2 ⊢
  have z1:=of_decide_eq_true (Option.some.inj h1)
  have z2:=of_decide_eq_true (Option.some.inj h2)
  rw [decide_eq_true (List.lt_trans z1 z2)]
theorem vAq (a:Str):ltD (.str a) (.str a)≠some true:=by
  rw [ltD];simp
theorem fZq (m n:Int):Std (.int m) (.int n):=by
  have e:∀ a b:Int,eqD (.int a) (.int b)=true->(D.int a)=.int b:=λ a b h=>by
    rw [eqD,beq_iff_eq] at h;rw [h]
  refine ⟨e m n,λ h=>(e n m h).symm,by simp [eqD],?_⟩
  rw [ltD,ltD]
  rcases Int.lt_trichotomy m n with h | h | h
  . exact .inr (.inl (by simp [h]))
  . exact .inl (by rw [h])
  . exact .inr (.inr (by simp [h]))
theorem dPq:∀ {ds:List D},aXq ds=true->bFq ds ds=some false
  | [],_=>rfl
  | d::ds,h=>by
    rw [aXq,Bool.and_eq_true] at h
    rw [bFq,if_pos (c1q h.1)]
    exact dPq h.2
theorem aC3q {d:D} {ds:List D} (e:d=.tup ds) (h:d.data=true):ltD d d=some false:=by
  subst e
  rw [ltD];exact dPq (by simpa [D.data] using h)
theorem IsK.irr {d:D} (h:IsK d):ltD d d=Option.some false:=by
  have z:=h.data
  cases h<;>exact aC3q rfl z
theorem eGq {S:D->Prop}:∀ {ds es:List D},(∀ d∈ds,∀ e,S e->eqD d e=true->d=e)->(∀ e∈es,S e)->cZq ds es=true->ds=es
  | [],[],_,_,_=>rfl
  | [],_::_,_,_,h=>by rw [cZq] at h;cases h;all_goals simp
  | _::_,[],_,_,h=>by rw [cZq] at h;cases h;all_goals simp
  | d::ds,e::es,h1,h2,h=>by
    rw [cZq,Bool.and_eq_true] at h
    rw [h1 d (List.mem_cons_self ..) e (h2 e (List.mem_cons_self ..)) h.1,eGq (λ x hx=>h1 x (List.mem_cons_of_mem _ hx)) (λ x hx=>h2 x (List.mem_cons_of_mem _ hx)) h.2]
theorem fRq {z z2:Str} {r r':List D} (h:eqD (.tup (.str z::r)) (.tup (.str z2::r'))=true):z=z2/\cZq r r'=true:=by
  rw [eqD,cZq,Bool.and_eq_true] at h
  exact ⟨by simpa [eqD] using h.1,h.2⟩
theorem fMq {a b:D} {r r':List D} (h:cZq (a::r) (b::r')=true):eqD a b=true/\cZq r r'=true:=by
  rw [cZq,Bool.and_eq_true] at h;exact h
theorem IsK.eq1 {a:D} (h:IsK a):∀ b,IsK b->eqD a b=true->a=b:=by
  induction h with
  | is n=>
    intro b hb e;cases hb<;>obtain ⟨e1,e2⟩:=fRq e<;>first | (exact absurd e1 (by decide)) | skip
    obtain ⟨e3,-⟩:=fMq e2
    rw [(fZq _ _).e1 e3]
  | some=>intro b hb e;cases hb<;>obtain ⟨e1,e2⟩:=fRq e<;>first | (exact absurd e1 (by decide)) | rfl
  | both _ _ h1 h2=>
    intro b hb e;cases hb<;>obtain ⟨e1,e2⟩:=fRq e<;>first | (exact absurd e1 (by decide)) | skip
    obtain ⟨e3,e4⟩:=fMq e2
    rw [h1 _ ‹_› e3,h2 _ ‹_› (fMq e4).1]
  | left _ h1=>
    intro b hb e;cases hb<;>obtain ⟨e1,e2⟩:=fRq e<;>first | (exact absurd e1 (by decide)) | skip
    rw [h1 _ ‹_› (fMq e2).1]
  | right _ h1=>
    intro b hb e;cases hb<;>obtain ⟨e1,e2⟩:=fRq e<;>first | (exact absurd e1 (by decide)) | skip
    rw [h1 _ ‹_› (fMq e2).1]
  | way _ _ h1 h2=>
    intro b hb e
    cases hb with
    | way g1 g2=>
      obtain ⟨-,e2⟩:=fRq e
      obtain ⟨e3,e4⟩:=fMq e2
      rw [eqD] at e3
      rw [eGq h1 g1 e3,h2 _ g2 (fMq e4).1]
    | _=>exact absurd (fRq e).1 (by decide)
theorem IsK.std {a b:D} (h:IsK a) (hb:IsK b) (t:a=b\/ltD a b=Option.some true\/ltD b a=Option.some true):Std a b:=⟨h.eq1 b hb,λ e=>(hb.eq1 a h e).symm,c1q h.data,t⟩
theorem d4q {xs ys:List D} (h:xs=ys\/bFq xs ys=some true\/bFq ys xs=some true):D.tup xs=D.tup ys\/ltD (.tup xs) (.tup ys)=some true\/ltD (.tup ys) (.tup xs)=some true:=by
  rw [ltD,ltD]
  rcases h with h | h | h
  . exact .inl (by rw [h])
  . exact .inr (.inl h)
  . exact .inr (.inr h)
theorem l4q:∀ {ds es:List D},(∀ d∈ds,IsK d/\∀ b,IsK b->d=b\/ltD d b=some true\/ltD b d=some true)->(∀ e∈es,IsK e)->ds=es\/bFq ds es=some true\/bFq es ds=some true
  | [],[],_,_=>.inl rfl
  | [],e::es,_,_=>.inr (.inl (by rw [bFq];simp))
  | d::ds,[],_,_=>.inr (.inr (by rw [bFq];simp))
  | d::ds,e::es,h1,h2=>by
    obtain ⟨k,t⟩:=h1 d (List.mem_cons_self ..)
    have k2:=h2 e (List.mem_cons_self ..)
    exact bEq (k.std k2 (t e k2)) λ _=>l4q (λ x hx=>h1 x (List.mem_cons_of_mem _ hx)) (λ x hx=>h2 x (List.mem_cons_of_mem _ hx))
theorem IsK.tri {a:D} (h:IsK a):∀ b,IsK b->a=b\/ltD a b=Option.some true\/ltD b a=Option.some true:=by
  induction h with
  | is n=>intro b hb;cases hb<;>refine d4q (bEq (cFq _ _) λ e=>?_)<;>first | (exact absurd (D.str.inj e) (by decide)) | exact bEq (fZq _ _) λ _=>.inl rfl
  | some=>intro b hb;cases hb<;>refine d4q (bEq (cFq _ _) λ e=>?_)<;>first | (exact absurd (D.str.inj e) (by decide)) | exact .inl rfl
  | both k1 k2 h1 h2=>intro b hb;cases hb<;>refine d4q (bEq (cFq _ _) λ e=>?_)<;>first | (exact absurd (D.str.inj e) (by decide)) | exact bEq (k1.std ‹_› (h1 _ ‹_›)) λ _=>bEq (k2.std ‹_› (h2 _ ‹_›)) λ _=>.inl rfl
  | left k1 h1=>intro b hb;cases hb<;>refine d4q (bEq (cFq _ _) λ e=>?_)<;>first | (exact absurd (D.str.inj e) (by decide)) | exact bEq (k1.std ‹_› (h1 _ ‹_›)) λ _=>.inl rfl
  | right k1 h1=>intro b hb;cases hb<;>refine d4q (bEq (cFq _ _) λ e=>?_)<;>first | (exact absurd (D.str.inj e) (by decide)) | exact bEq (k1.std ‹_› (h1 _ ‹_›)) λ _=>.inl rfl
  | way k1 k2 h1 h2=>
    intro b hb
    cases hb with
    | way g1 g2=>
      refine d4q (bEq (cFq _ _) λ _=>bEq ⟨λ e=>?_,λ e=>?_,?_,d4q (l4q (λ d hd=>⟨k1 d hd,h1 d hd⟩) g1)⟩ λ _=>bEq (k2.std g2 (h2 _ g2)) λ _=>.inl rfl)
      . rw [eqD] at e;rw [eGq (λ d hd=>(k1 d hd).eq1) g1 e]
      . rw [eqD] at e;rw [eGq (λ d hd=>(g1 d hd).eq1) k1 e]
      . exact c1q (by rw [D.data];exact dSq λ d hd=>(k1 d hd).data)
    | _=>
      refine d4q (bEq (cFq _ _) λ e=>?_)
      exact absurd (D.str.inj e) (by decide)
theorem aYq {z z2 z3:Str} {r r2 r3:List D} (t2:z=z2->z2=z3->bFq r r2=some true->bFq r2 r3=some true->bFq r r3=some true) (a1:ltD (.tup (.str z::r)) (.tup (.str z2::r2))=some true) (a2:ltD (.tup (.str z2::r2)) (.tup (.str z3::r3))=some true):ltD (.tup (.str z::r)) (.tup (.str z3::r3))=some true:=by
  rw [ltD] at a1 a2 ⊢
  exact bYq (cFq _ _).e1 (cFq _ _).e1 (cFq _ _).e1 (vAq _) u7q (λ e1 e2=>t2 (D.str.inj e1) (D.str.inj e2)) a1 a2
theorem eJq {r:List D} (h:bFq [] []=some true):bFq [] r=some true:=by rw [bFq] at h;cases h
theorem m8q:∀ {ds es fs:List D},(∀ d∈ds,IsK d/\∀ b c,IsK b->IsK c->ltD d b=some true->ltD b c=some true->ltD d c=some true)->(∀ e∈es,IsK e)->(∀ f∈fs,IsK f)->bFq ds es=some true->bFq es fs=some true->bFq ds fs=some true
  | [],es,fs,_,_,_,_,h=>by
    rw [bFq]
    cases fs with
    | nil=>cases es with
      | nil=>rw [bFq] at h;exact h
      | cons _ _=>rw [bFq] at h;cases h
    | cons _ _=>simp
  | d::ds,[],fs,_,_,_,h,_=>by rw [bFq] at h;cases h
  | d::ds,e::es,[],_,_,_,_,h=>by rw [bFq] at h;cases h
  | d::ds,e::es,f::fs,h1,h2,h3,a1,a2=>by
    obtain ⟨k,t⟩:=h1 d (List.mem_cons_self ..)
    have k2:=h2 e (List.mem_cons_self ..)
    have k3:=h3 f (List.mem_cons_self ..)
    exact bYq (k.eq1 e k2) (k2.eq1 f k3) (k.eq1 f k3) (by rw [k.irr];simp) (t e f k2 k3) (λ _ _=>m8q (λ x hx=>h1 x (List.mem_cons_of_mem _ hx)) (λ x hx=>h2 x (List.mem_cons_of_mem _ hx)) λ x hx=>h3 x (List.mem_cons_of_mem _ hx)) a1 a2
theorem u9q {a:D} (h:IsK a):∀ b c,IsK b->IsK c->ltD a b=some true->ltD b c=some true->ltD a c=some true:=by
  induction h with
  | is n=>
    intro b c hb hc a1 a2
    cases hb<;>cases hc<;>refine aYq (λ e1 e2 b1 b2=>?_) a1 a2<;>first | (exact absurd e1 (by decide)) | (exact absurd e2 (by decide)) | skip
    refine bYq (fZq _ _).e1 (fZq _ _).e1 (fZq _ _).e1 (by rw [ltD];simp) (λ x y=>?_) (λ _ _ x _=>eJq x) b1 b2
    rw [ltD] at x y ⊢
    have x':=of_decide_eq_true (Option.some.inj x)
    have y':=of_decide_eq_true (Option.some.inj y)
    rw [decide_eq_true (by omega)]
  | some=>
    intro b c hb hc a1 a2
    cases hb<;>cases hc<;>refine aYq (λ e1 e2 b1 b2=>?_) a1 a2<;>first | (exact absurd e1 (by decide)) | (exact absurd e2 (by decide)) | exact eJq b1
  | both k1 k2 h1 h2=>
    intro b c hb hc a1 a2
    cases hb with
    | both g1 g2=>
      cases hc with
      | both g3 g4=>exact aYq (λ e1 e2 b1 b2=>bYq (k1.eq1 _ g1) (g1.eq1 _ g3) (k1.eq1 _ g3) (by rw [k1.irr];simp) (h1 _ _ g1 g3) (λ _ _=>bYq (k2.eq1 _ g2) (g2.eq1 _ g4) (k2.eq1 _ g4) (by rw [k2.irr];simp) (h2 _ _ g2 g4) λ _ _ x _=>eJq x) b1 b2) a1 a2
      | _=>
        refine aYq (λ e1 e2 b1 b2=>?_) a1 a2
        exact absurd e2 (by decide)
    | _=>
      cases hc<;>refine aYq (λ e1 e2 b1 b2=>?_) a1 a2<;>exact absurd e1 (by decide)
  | left k1 h1=>
    intro b c hb hc a1 a2
    cases hb with
    | left g1=>
      cases hc with
      | left g3=>exact aYq (λ e1 e2 b1 b2=>bYq (k1.eq1 _ g1) (g1.eq1 _ g3) (k1.eq1 _ g3) (by rw [k1.irr];simp) (h1 _ _ g1 g3) (λ _ _ x _=>eJq x) b1 b2) a1 a2
      | _=>
        refine aYq (λ e1 e2 b1 b2=>?_) a1 a2
        exact absurd e2 (by decide)
    | _=>
      cases hc<;>refine aYq (λ e1 e2 b1 b2=>?_) a1 a2<;>exact absurd e1 (by decide)
  | right k1 h1=>
    intro b c hb hc a1 a2
    cases hb with
    | right g1=>
      cases hc with
      | right g3=>exact aYq (λ e1 e2 b1 b2=>bYq (k1.eq1 _ g1) (g1.eq1 _ g3) (k1.eq1 _ g3) (by rw [k1.irr];simp) (h1 _ _ g1 g3) (λ _ _ x _=>eJq x) b1 b2) a1 a2
      | _=>
        refine aYq (λ e1 e2 b1 b2=>?_) a1 a2
        exact absurd e2 (by decide)
    | _=>
      cases hc<;>refine aYq (λ e1 e2 b1 b2=>?_) a1 a2<;>exact absurd e1 (by decide)
  | way k1 k2 h1 h2=>
    intro b c hb hc a1 a2
    cases hb with
    | way g1 g2=>
      cases hc with
      | way g3 g4=>
        have el:∀ {xs ys:List D},(∀ d∈xs,IsK d)->(∀ d∈ys,IsK d)->eqD (.tup xs) (.tup ys)=true->D.tup xs=.tup ys:=λ hx hy e=>by
          rw [eqD] at e;rw [eGq (λ d hd=>(hx d hd).eq1) hy e]
        refine aYq (λ e1 e2 b1 b2=>bYq (el k1 g1) (el g1 g3) (el k1 g3) ?_ (λ x y=>?_) (λ _ _=>bYq (k2.eq1 _ g2) (g2.eq1 _ g4) (k2.eq1 _ g4) (by rw [k2.irr];simp) (h2 _ _ g2 g4) λ _ _ x _=>eJq x) b1 b2) a1 a2
        . rw [ltD,dPq (dSq λ d hd=>(k1 d hd).data)];simp
        . rw [ltD] at x y ⊢
          exact m8q (λ d hd=>⟨k1 d hd,h1 d hd⟩) g1 g3 x y
      | _=>
        refine aYq (λ e1 e2 b1 b2=>?_) a1 a2
        exact absurd e2 (by decide)
    | _=>
      cases hc<;>refine aYq (λ e1 e2 b1 b2=>?_) a1 a2<;>exact absurd e1 (by decide)
theorem zRq {ds:List D} (h:∀ d∈ds,IsK d) (hn:0 < ds.length):Swo λ i j=>(ltD (ds.getD (min i (ds.length - 1)) .non) (ds.getD (min j (ds.length - 1)) .non)).getD false:=by
  have k:∀ i,IsK (ds.getD (min i (ds.length - 1)) .non):=λ i=>by
    have hi:min i (ds.length - 1) < ds.length:=by omega
    rw [List.getD_eq_getElem?_getD,List.getElem?_eq_getElem hi]
    exact h _ (List.getElem_mem hi)
  have asy:∀ {a b:D},IsK a->IsK b->ltD a b=some true->ltD b a≠some true:=λ ka kb h1 h2=>by
    have:=u9q ka _ _ kb ka h1 h2
    rw [ka.irr] at this;cases this
  have val:∀ {a b:D},IsK a->IsK b->((ltD a b).getD false=false ↔ a=b\/ltD b a=some true):=λ{a b} ka kb=>by
    obtain ⟨v,hv⟩:=Option.isSome_iff_exists.mp (ka.lt kb)
    rw [hv]
    constructor
    . intro e
      have e':v=false:=e
      subst e'
      rcases ka.tri b kb with h1 | h1 | h1
      . exact .inl h1
      . rw [hv] at h1;cases h1
      . exact .inr h1
    . rintro (rfl | h1)
      . rw [ka.irr] at hv;cases hv;rfl
      . cases v with
        | false=>rfl
        | true=>exact absurd h1 (asy ka kb hv)
  refine ⟨λ i=>?_,λ i j l h1 h2=>?_,λ i j h1=>?_⟩
  . exact (val (k i) (k i)).mpr (.inl rfl)
  . rw [val (k _) (k _)] at h1 h2 ⊢
    rcases h1 with h1 | h1
    . rw [h1];exact h2
    . rcases h2 with h2 | h2
      . rw [<- h2];exact .inr h1
      . exact .inr (u9q (k l) _ _ (k j) (k i) h2 h1)
  . rw [val (k _) (k _)]
    obtain ⟨v,hv⟩:=Option.isSome_iff_exists.mp ((k i).lt (k j))
    rw [hv] at h1
    have e:v=true:=h1
    subst e
    exact .inr hv
end L3
namespace L3
open PySem PySem.Spec PySem.W PyProof.Rows L2
theorem fGq {vs:List V} {its:List Value} (h:Vals vs its):∀ l:List Nat,(∀ i∈l,i < vs.length)->Vals (l.map λ i=>vs.getD i .non) (l.map λ i=>its.getD i Value.none)
  | [],_=>.nil
  | i::l,hl=>by
    have hi:=hl i (List.mem_cons_self ..)
    obtain ⟨u,h1,h2⟩:=h.get (List.getElem?_eq_getElem hi)
    rw [List.map_cons,List.map_cons]
    refine .cons ?_ (fGq h l λ j hj=>hl j (List.mem_cons_of_mem _ hj))
    rw [List.getD_eq_getElem?_getD,List.getD_eq_getElem?_getD,List.getElem?_eq_getElem hi,h1]
    exact h2
theorem iTq {K:PySem.W.Frag} {H:Hp} {ds:List D} {vs:List V} (h:AbsL K H ds vs):∀ l:List Nat,(∀ i∈l,i < ds.length)->AbsL K H (l.map λ i=>ds.getD i .non) (l.map λ i=>vs.getD i .non)
  | [],_=>rfl
  | i::l,hl=>by
    have hi:=hl i (List.mem_cons_self ..)
    obtain ⟨v,h1,h2⟩:=h.get (List.getElem?_eq_getElem hi)
    refine ⟨_,_,rfl,?_,iTq h l λ j hj=>hl j (List.mem_cons_of_mem _ hj)⟩
    dsimp only
    rw [List.getD_eq_getElem?_getD,List.getD_eq_getElem?_getD,List.getElem?_eq_getElem hi,h1]
    exact h2
def Srt (ds:List D):Prop:=ds.Pairwise λ a b=>ltD b a=some false
theorem aH3q {ds:List D} {p:Array Nat} (h:Pm ds.length p):ds.Perm (p.toList.map λ i=>ds.getD i .non):=by
  have e:(List.range ds.length).map (λ i=>ds.getD i .non)=ds:=by
    apply List.ext_getElem
    . simp
    . intro i h1 h2
      simp [List.getD_eq_getElem?_getD,List.getElem?_eq_getElem h2]
  have:=h.map (λ i=>ds.getD i .non)
  rw [e] at this
  exact this.symm
abbrev ltI (ds:List D):Nat->Nat->Bool:=λ i j=>(ltD (ds.getD (min i (ds.length - 1)) .non) (ds.getD (min j (ds.length - 1)) .non)).getD false
theorem sXq {ds:List D} (hk:∀ d∈ds,IsK d) {p:Array Nat} (h:Pm ds.length p) (up:Up' (ltI ds) p ds.length):Srt (p.toList.map λ i=>ds.getD i .non):=by
  have hsz:=fEq h
  have kk:∀ i,i < ds.length->IsK (ds.getD i .non):=λ i hi=>by
    rw [List.getD_eq_getElem?_getD,List.getElem?_eq_getElem hi]
    exact hk _ (List.getElem_mem hi)
  unfold Srt
  rw [List.pairwise_iff_getElem]
  intro i j hi hj hij
  rw [List.length_map,Array.length_toList] at hi hj
  have z:=up i j hij (by omega)
  have gi:gt p i=p.toList[i]'(by simpa using hi):=by simp [gt,Array.getD,hi]
  have gj:gt p j=p.toList[j]'(by simpa using hj):=by simp [gt,Array.getD,hj]
  have hn:0 < ds.length:=by omega
  have li:gt p i < ds.length:=c0q h hn i
  have lj:gt p j < ds.length:=c0q h hn j
  simp only [ltI] at z
  rw [show min (gt p j) (ds.length - 1)=gt p j from Nat.min_eq_left (Nat.le_sub_one_of_lt lj),show min (gt p i) (ds.length - 1)=gt p i from Nat.min_eq_left (Nat.le_sub_one_of_lt li)] at z
  rw [List.getElem_map,List.getElem_map,<- gi,<- gj]
  obtain ⟨v,hv⟩:=Option.isSome_iff_exists.mp ((kk _ lj).lt (kk _ li))
  rw [hv] at z ⊢
  have e:v=false:=z
  rw [e]
def aK5q (K:PySem.W.Frag):List V->Hp->VK->Prop:=λ xs H Q=>∃ (l:Addr) (vs:List V) (ds:List D),xs=[.ref l]/\SqL K H l vs/\AbsL K H ds vs/\ds.length < 64/\(∀ d∈ds,IsK d/\d.dp<=150) ∧
  ∀ (ds':List D) (vs':List V),ds.Perm ds'->Srt ds'->AbsL K H ds' vs'->∀ p,H p=none->Q (.ref p) (upd H p (.lst vs'))
section
variable {X:Cx}
theorem p8q (hu:X.A.units+200 < cLine):CallR X (.builtin "sorted") (aK5q X.K):=by
  intro pins s σ H xs us Q I r h
  obtain ⟨l,vs,ds,rfl,hq,ha,hl,hs,q⟩:=h
  obtain ⟨u,rfl,rx⟩:=g9q r
  cases rx
  obtain ⟨its,rv,pl,hz⟩:=I.list hq
  have hlen:=rv.length
  have hlen2:=ha.len
  have hk:∀ d∈ds,IsK d:=λ d hd=>(hs d hd).1
  have I6:Inv X pins σ H { s with heap:=fXq s.heap its }:=I.kept (t':=s.toks) λ b o e=>j3q e
  have fin:∀ p:Array Nat,Pm its.length p->Srt (p.toList.map λ i=>ds.getD i .non)->EP X pins σ Q (.ref (s.heap.objs.size+1)) { s with heap:=sortedAll s.heap its (p.toList.map λ i=>its.getD i Value.none).toArray }:=λ p hp hsrt=>by
    have hm:∀ i∈p.toList,i < its.length:=λ i hi=>List.mem_range.mp (hp.mem_iff.mp hi)
    obtain ⟨c,hcc⟩:=sortedAll_at s.heap its (p.toList.map λ i=>its.getD i Value.none).toArray
    have z:=hp.length_eq
    rw [List.length_range] at z
    have sl:=sizeLine_eq
    have r1:=fGq rv p.toList (λ i hi=>by have:=hm i hi;omega)
    have r2:=iTq ha p.toList (λ i hi=>by have:=hm i hi;omega)
    exact ⟨.ref _,_,I.laid (t':=s.toks) (λ b o e=>sortedAll_old e) (Nat.le_succ _) (show ObjOk X.prog X.w _ _ _ (.lst (p.toList.map λ i=>vs.getD i .non)) from ⟨by rw [List.length_map];omega,_,c,r1,by simpa using hcc⟩),rfl,q _ _ (aH3q (by rw [show ds.length=its.length by omega];exact hp)) hsrt r2 _ (I.hok.fresh (Nat.le_succ _))⟩
  by_cases h0:0 < ds.length
  . refine h4q (κ:=tuples' true) (lt:=ltI ds) pl.isList (by omega) (λ h2 A E R hR=>rSq I6 (λ d hd=>(hk d hd).skey (hs d hd).2) ha rv (by omega) hR) (λ A' i j C hA hi hj hC=>?_) (zRq hk h0) λ p hp hup=>fin p hp (sXq hk (by rw [show ds.length=its.length by omega];exact hp) (by rw [show ds.length=its.length by omega];exact hup))
    have ge:∀ k,k < its.length->∃ d v u,ds.getD (min k (ds.length - 1)) .non=d/\d∈ds/\Abs X.K H d v/\RelV v u/\its.getD k Value.none=u:=λ k hk'=>by
      have hk2:k < ds.length:=by omega
      obtain ⟨v,g1,g2⟩:=ha.get (List.getElem?_eq_getElem hk2)
      obtain ⟨u,g3,g4⟩:=rv.get g1
      exact ⟨ds[k],v,u,by rw [show min k (ds.length - 1)=k by omega,List.getD_eq_getElem?_getD,List.getElem?_eq_getElem hk2];rfl,List.getElem_mem hk2,g2,g4,by rw [List.getD_eq_getElem?_getD,g3];rfl⟩
    obtain ⟨d,v,u,e1,m1,a1,b1,f1⟩:=ge i hi
    obtain ⟨e,v',u',e2,m2,a2,b2,f2⟩:=ge j hj
    unfold kas_ask
    rw [f1,f2]
    simp only [ltI,e1,e2] at hC
    obtain ⟨b,hb⟩:=Option.isSome_iff_exists.mp ((hk _ m1).lt (hk _ m2))
    obtain ⟨z,r,rfl,k1,k2⟩:=(hk d m1).skey (hs d m1).2
    obtain ⟨z2,r2,rfl,k3,k4⟩:=(hk e m2).skey (hs e m2).2
    rw [hb] at hC
    exact zKq I6 hC k1 k3 a1 a2 b1 b2 (by omega) hb
  . have e0:its=[]:=List.length_eq_zero_iff.mp (by omega)
    subst e0
    refine gLq (κ:=tuples' true) (lt:=λ _ _=>false) pl.isList (by simp) (λ h2=>by simp at h2) (λ A' i j C hA hi=>by simp at hi) λ out hp=>?_
    have eo:out=[]:=List.length_eq_zero_iff.mp (by have:=hp.length_eq;simpa using this)
    subst eo
    have ed:ds=[]:=List.length_eq_zero_iff.mp (by omega)
    exact fin #[] (.refl _) (by simp [Srt])
def aE9q:D->DV->DK->Prop:=λ x G Q=>match x with
  | .ref l=>onL G l λ ds=>ds.length < 64/\(∀ d∈ds,IsK d/\d.dp<=150)/\∀ ds':List D,ds.Perm ds'->Srt ds'->∀ p,G p=none->Q (.ref p) (up G p (.lst ds'))
  | _=>False
theorem hUq (hu:X.A.units+200 < cLine):ACall X (.builtin "sorted") (pKq aE9q):=by
  refine ⟨_,⟨p8q hu⟩,λ xs vs G H DQ Q v a r F=>?_⟩
  obtain ⟨x,u,rfl,rfl,ax,r⟩:=bXq r a
  cases x with
  | ref l=>
    cases ax
    obtain ⟨ds,ws,⟨hl,hs,k⟩,s,rl⟩:=b9q v r
    exact ⟨l,ws,ds,rfl,s,rl,hl,hs,λ ds' vs' hp hsr ha p hp'=>F (.ref p) _ _ _ (Go.newL v hp' ha) rfl (k ds' hp hsr p (v.none hp'))⟩
  | _=>exact (show False from r).elim
end
end L3
namespace L3
open PySem PySem.Spec L2 PySem.SeqAt
open AutoSeq1 (wpAny_loadPart')
open MeetsSeq MeetsSeq2 MeetsSeq3 SeqRoads2
theorem pWq (l b:Addr) (items items2:Array Value) (n n2:Nat) (dd dd2:Option Addr) (sl sl2:Array (Option Value)) (e c:Nat->Bool) (k:Nat) :
    ∀ i:Nat,min items.size items2.size - i=k->i<=min items.size items2.size->Meets (Builtin.«list.__eq__.loop» ⟨[.ref l,.ref b,rawInt i,rawInt 0],[]⟩)
      (λ A R s=>s.heap.get? l=some { cls:=.type "list", dict:=dd,data:=.seq items n,slots:=sl }/\s.heap.get? b=some { cls:=.type "list", dict:=dd2,data:=.seq items2 n2,slots:=sl2 } ∧
        (∀ j (h1:j < items.size) (h2:j < items2.size),EqAt A.in1 s items[j] items2[j] (e j)) ∧
        (∀ j (h1:j < items.size) (h2:j < items2.size),(∀ i,i < j->e i=true)->e j=false->LtAt A.in1 s items[j] items2[j] (c j))/\(∀ j,j < i->e j=true) ∧
        R (.ok (.ret (.bool (hQq e c (decide (items.size < items2.size)) k i)))) s):=by
  induction k with
  | zero=>
    intro i hk hle prog w A R s h
    obtain ⟨hp,g,d,tk,os⟩:=s;obtain ⟨hl,hb,he,hc,hi,h⟩:=h
    wp_walk using wpAny_loadPart' hl,wpAny_loadPart' hb
    have fin:wpAny (model prog w) A.in1 (do
        let x ← Builtin.List.listItems (Value.ref l)
        let y ← Builtin.List.listItems (Value.ref b)
        ret (Value.bool (decide (x.size < y.size)))) (λ fin s'=>match fin with
          | .done f=>R (.ok f) s'
          | .again c'=>c'.quiet=true/\codeAny (model prog w) A c' R s') (λ e s'=>R (Except.error e) s') { heap:=hp,gens:=g,drawn:=d,toks:=tk,os:=os }:=by
      refine wpAny_bind (PyProof.Rows.listItems_at hl rfl (wpAny_bind (PyProof.Rows.listItems_at hb rfl ?_)))
      wp_walk
      exact h
    rcases (by omega:items.size<=i\/items2.size<=i) with q | q
    . have hi1:items[((i:Nat):Int).toNat]?=none:=by simp;omega
      rw [hi1]
      exact fin
    . have hi2:items2[((i:Nat):Int).toNat]?=none:=by simp;omega
      rw [hi2]
      cases items[((i:Nat):Int).toNat]?<;>exact fin
  | succ k ih=>
    intro i hk hle prog w A R s h
    obtain ⟨hp,g,d,tk,os⟩:=s;obtain ⟨hl,hb,he,hc,hi,h⟩:=h
    wp_walk using wpAny_loadPart' hl,wpAny_loadPart' hb
    have hlt:i < items.size:=by omega
    have hlt2:i < items2.size:=by omega
    have hi1:items[((i:Nat):Int).toNat]?=some items[i]:=by simp [hlt]
    have hi2:items2[((i:Nat):Int).toNat]?=some items2[i]:=by simp [hlt2]
    have hcc:((i:Int)+1)=((i+1:Nat):Int):=by push_cast;rfl
    rw [hQq] at h
    rw [hi1,hi2]
    refine wpAny_bind (he i hlt hlt2 prog w _ _ ?_)
    cases hb':e i with
    | true=>
      rw [hb',if_pos rfl] at h
      wp_walk
      rw [hcc]
      exact ⟨plainId_quiet plain_eq_loop _,codeAny_builtin entry_eq_loop (by
        rw [Around.under_plainId plain_eq_loop _]
        exact ih (i+1) (by omega) (by omega) prog w A R _ ⟨hl,hb,he,hc,λ j hj=>by rcases Nat.lt_succ_iff_lt_or_eq.mp hj with z | rfl;exact hi j z;exact hb',h⟩)⟩
    | false=>
      rw [hb',if_neg (by decide)] at h
      simp only [Bool.false_eq_true,if_false]
      refine wpAny_bind (PyProof.Rows.listItems_at hl rfl (wpAny_bind (PyProof.Rows.listItems_at hb rfl ?_)))
      rw [hi1,hi2]
      refine wpAny_bind (hc i hlt hlt2 hi hb' prog w _ _ ?_)
      wp_walk
      exact h
theorem oFq (l b:Addr) (items items2:Array Value) (n n2:Nat) (dd dd2:Option Addr) (sl sl2:Array (Option Value)) (e c:Nat->Bool) :
    Meets (Builtin.«list.__lt__» ⟨[.ref l,.ref b],[]⟩)
      (λ A R s=>s.heap.get? l=some { cls:=.type "list", dict:=dd,data:=.seq items n,slots:=sl }/\s.heap.get? b=some { cls:=.type "list", dict:=dd2,data:=.seq items2 n2,slots:=sl2 } ∧
        (∀ j (h1:j < items.size) (h2:j < items2.size),EqAt A.in1 s items[j] items2[j] (e j)) ∧
        (∀ j (h1:j < items.size) (h2:j < items2.size),(∀ i,i < j->e i=true)->e j=false->LtAt A.in1 s items[j] items2[j] (c j)) ∧
        R (.ok (.ret (.bool (hQq e c (decide (items.size < items2.size)) (min items.size items2.size) 0)))) s):=by
  intro prog w A R s h
  obtain ⟨hp,g,d,tk,os⟩:=s;obtain ⟨hl,hb,he,hc,h⟩:=h
  have f3:=AutoSeq1.sub_list_list
  wp_walk using wpAny_loadPart' hl,wpAny_loadPart' hb
  exact ⟨plainId_quiet plain_eq_loop _,codeAny_builtin entry_eq_loop (by
    rw [Around.under_plainId plain_eq_loop _]
    exact pWq l b items items2 n n2 dd dd2 sl sl2 e c _ 0 rfl (Nat.zero_le _) prog w A R _ ⟨hl,hb,he,hc,λ j hj=>by omega,by simpa using h⟩)⟩
open PyProof.Rows in
theorem k1q {prog:Program} {w:World} {E:Value->Shared->Prop} {A:Around} {s:Shared} {l b:Addr} {items items2:Array Value} {e c:Nat->Bool} {Q:Bool->Shared->Prop} (hl:s.heap.IsList l items) (hb:s.heap.IsList b items2) (hu:A.units < cLine)
    (he:∀ j (h1:j < items.size) (h2:j < items2.size),EqAt A.in1 s items[j] items2[j] (e j))
    (hc:∀ j (h1:j < items.size) (h2:j < items2.size),(∀ i,i < j->e i=true)->e j=false->LtAt A.in1 s items[j] items2[j] (c j))
    (h:Q (hQq e c (decide (items.size < items2.size)) (min items.size items2.size) 0) s):wpAny (model prog w) A (oneLt' true (.ref l) (.ref b)) Q E s:=by
  obtain ⟨⟨cls,dd,data,sl⟩,ho,hc1,n,hd⟩:=id hl
  obtain ⟨⟨cls2,dd2,data2,sl2⟩,ho2,hc2,n2,hd2⟩:=id hb
  simp only at hc1 hd hc2 hd2
  subst hc1 hd hc2 hd2
  rw [oneLt'_eq]
  simp only [if_true]
  refine wpAny_bind (wpAny_cRoomFor hu ?_)
  refine wpAny_bind (wpAny_callSpecialIfBound?_slot ⟨_,ho,rfl⟩ F.slot_list_lt (call_meets F.slot_list_lt ⟨_,ho,rfl⟩ F.entry_list_lt (F.args_list_lt_2 _ _) (oFq l b items items2 n n2 dd dd2 sl sl2 e c) ⟨ho,ho2,he,hc,?_⟩))
  exact wpAny_truthy_bool h
def D.isS:D->Bool
  | .str _=>true
  | _=>false
mutual
def flD:D->List D
  | .tup ds=>flT ds
  | d=>[d]
def flT:List D->List D
  | []=>[.int 0]
  | d::ds=>if d.isS then d::flC ds else .int 1::(flD d++flI ds)
def flC:List D->List D
  | []=>[]
  | d::ds=>flD d++flC ds
def flI:List D->List D
  | []=>[.int 0]
  | d::ds=>.int 1::(flD d++flI ds)
end
def Cl (a b:D):Prop:=∀ r r':List D,bFq (flD a++r) (flD b++r')=if eqD a b then bFq r r' else ltD a b
def ClC (xs ys:List D):Prop:=∀ r r':List D,bFq (flC xs++r) (flC ys++r')=if cZq xs ys then bFq r r' else bFq xs ys
theorem ClC.nil:ClC [] []:=λ r r'=>by simp [flC,cZq]
theorem ClC.cons {x y:D} {xs ys:List D} (h:Cl x y) (t:ClC xs ys):ClC (x::xs) (y::ys):=λ r r'=>by
  rw [flC,flC,List.append_assoc,List.append_assoc,h,t,cZq,bFq]
  cases eqD x y<;>simp
theorem Cl.one {x y:D} (hx:flD x=[x]) (hy:flD y=[y]):Cl x y:=λ r r'=>by
  rw [hx,hy,List.singleton_append,List.singleton_append,bFq]
theorem Cl.tup {z z':Str} {xs ys:List D} (h:z=z'->ClC xs ys):Cl (.tup (.str z::xs)) (.tup (.str z'::ys)):=λ r r'=>by
  rw [flD,flD,flT,flT,if_pos (show (D.str z).isS=true from rfl),if_pos (show (D.str z').isS=true from rfl),List.cons_append,List.cons_append,ltD,eqD,cZq]
  simp only [bFq]
  cases c:eqD (.str z) (.str z') with
  | false=>simp
  | true=>rw [if_pos rfl,h (by simpa [eqD] using c) r r'];simp
theorem sZq:∀ {xs ys:List D},(∀ x∈xs,∀ y∈ys,Cl x y)->∀ r r',bFq (flI xs++r) (flI ys++r')=if cZq xs ys then bFq r r' else bFq xs ys
  | [],[],_,r,r'=>by simp [flI,cZq,bFq,eqD]
  | [],y::ys,_,r,r'=>by simp [flI,cZq,bFq,eqD,ltD]
  | x::xs,[],_,r,r'=>by simp [flI,cZq,bFq,eqD,ltD]
  | x::xs,y::ys,h,r,r'=>by
    rw [flI,flI,List.cons_append,List.cons_append,bFq,if_pos (by simp [eqD]),List.append_assoc,List.append_assoc,h x (List.mem_cons_self ..) y (List.mem_cons_self ..),sZq (λ a ha b hb=>h a (List.mem_cons_of_mem _ ha) b (List.mem_cons_of_mem _ hb)),cZq,bFq]
    cases eqD x y<;>simp
theorem lEq {ds:List D} (h:∀ d∈ds,IsK d):flD (.tup ds)=flI ds:=by
  rw [flD]
  cases ds with
  | nil=>rw [flT,flI]
  | cons d ds=>
    rw [flT,flI]
    obtain ⟨z,r,e,_⟩:=(h d (List.mem_cons_self ..)).head
    rw [e];rfl
theorem IsK.cl {a:D} (h:IsK a):∀ {b:D},IsK b->Cl a b:=by
  induction h with
  | is n=>intro b hb;cases hb<;>refine Cl.tup λ e=>?_<;>first | (exact absurd e (by decide)) | exact .cons (.one rfl rfl) .nil
  | some=>intro b hb;cases hb<;>refine Cl.tup λ e=>?_<;>first | (exact absurd e (by decide)) | exact .nil
  | both _ _ h1 h2=>intro b hb;cases hb<;>refine Cl.tup λ e=>?_<;>first | (exact absurd e (by decide)) | exact .cons (h1 ‹_›) (.cons (h2 ‹_›) .nil)
  | left _ h1=>intro b hb;cases hb<;>refine Cl.tup λ e=>?_<;>first | (exact absurd e (by decide)) | exact .cons (h1 ‹_›) .nil
  | right _ h1=>intro b hb;cases hb<;>refine Cl.tup λ e=>?_<;>first | (exact absurd e (by decide)) | exact .cons (h1 ‹_›) .nil
  | way k1 _ h1 h2=>
    intro b hb
    cases hb with
    | way g1 g2=>
      refine Cl.tup λ _=>.cons (λ r r'=>?_) (.cons (h2 g2) .nil)
      rw [lEq k1,lEq g1,sZq λ x hx y hy=>h1 x hx (g1 y hy),eqD,ltD]
    | _=>refine Cl.tup λ e=>?_;exact absurd e (by decide)
theorem IsK.fl_lt {a b:D} (h:IsK a) (hb:IsK b):bFq (flD a) (flD b)=ltD a b:=by
  have z:=h.cl hb [] []
  rw [List.append_nil,List.append_nil] at z
  rw [z]
  cases c:eqD a b with
  | false=>rfl
  | true=>rw [h.eq1 b hb c,hb.irr];rfl
mutual
theorem bVq:∀ {d:D},d.data=true->aXq (flD d)=true
  | .tup ds,h=>by rw [flD];exact rCq (by simpa [D.data] using h)
  | .int _,_=>rfl
  | .str _,_=>rfl
  | .non,_=>rfl
  | .bl _,_=>rfl
theorem rCq:∀ {ds:List D},aXq ds=true->aXq (flT ds)=true
  | [],_=>rfl
  | d::ds,h=>by
    rw [aXq,Bool.and_eq_true] at h
    rw [flT]
    split
    . rw [aXq,h.1,m9q h.2];rfl
    . rw [aXq,dNq (bVq h.1) (mAq h.2)];rfl
theorem m9q:∀ {ds:List D},aXq ds=true->aXq (flC ds)=true
  | [],_=>rfl
  | d::ds,h=>by
    rw [aXq,Bool.and_eq_true] at h
    rw [flC];exact dNq (bVq h.1) (m9q h.2)
theorem mAq:∀ {ds:List D},aXq ds=true->aXq (flI ds)=true
  | [],_=>rfl
  | d::ds,h=>by
    rw [aXq,Bool.and_eq_true] at h
    rw [flI,aXq,dNq (bVq h.1) (mAq h.2)];rfl
theorem dNq:∀ {ds es:List D},aXq ds=true->aXq es=true->aXq (ds++es)=true
  | [],_,_,h=>h
  | d::ds,es,h1,h2=>by
    rw [aXq,Bool.and_eq_true] at h1
    rw [List.cons_append,aXq,h1.1,dNq h1.2 h2];rfl
end
theorem IsK.fl_inj {a b:D} (h:IsK a) (hb:IsK b) (e:flD a=flD b):a=b:=by
  have z:=dPq (bVq h.data)
  rcases h.tri b hb with h1 | h1 | h1
  . exact h1
  . rw [<- h.fl_lt hb,<- e,z] at h1;cases h1
  . rw [<- hb.fl_lt h,<- e,z] at h1;cases h1
def IS (d:D):Prop:=(∃ n,d=.int n)\/∃ z,d=.str z
theorem IS.eq {d e:D} (h:IS d) (g:IS e) (q:eqD d e=true):d=e:=by
  rcases h with ⟨n,rfl⟩ | ⟨z,rfl⟩<;>rcases g with ⟨m,rfl⟩ | ⟨y,rfl⟩<;>simp [eqD] at q<;>rw [q]
theorem s9q:∀ {ds:List D},(∀ d∈ds,∀ x∈flD d,IS x)->∀ x∈flI ds,IS x
  | [],_,x,hx=>by simp [flI] at hx;exact .inl ⟨_,hx⟩
  | d::ds,h,x,hx=>by
    rw [flI,List.mem_cons,List.mem_append] at hx
    rcases hx with rfl | hx | hx
    . exact .inl ⟨_,rfl⟩
    . exact h d (List.mem_cons_self ..) x hx
    . exact s9q (λ e he=>h e (List.mem_cons_of_mem _ he)) x hx
theorem sNq:∀ {ds:List D},(∀ d∈ds,∀ x∈flD d,IS x)->∀ x∈flC ds,IS x
  | [],_,x,hx=>by simp [flC] at hx
  | d::ds,h,x,hx=>by
    rw [flC,List.mem_append] at hx
    rcases hx with hx | hx
    . exact h d (List.mem_cons_self ..) x hx
    . exact sNq (λ e he=>h e (List.mem_cons_of_mem _ he)) x hx
theorem gKq {z:Str} {ds:List D} (h:∀ d∈ds,∀ x∈flD d,IS x):∀ x∈flD (.tup (.str z::ds)),IS x:=λ x hx=>by
  rw [flD,flT,if_pos (show (D.str z).isS=true from rfl),List.mem_cons] at hx
  rcases hx with rfl | hx
  . exact .inr ⟨_,rfl⟩
  . exact sNq h x hx
theorem IsK.fl_IS {a:D} (h:IsK a):∀ x∈flD a,IS x:=by
  induction h with
  | is n=>exact gKq λ d hd x hx=>by simp at hd;subst hd;simp [flD] at hx;exact .inl ⟨_,hx⟩
  | some=>exact gKq λ d hd=>by simp at hd
  | both _ _ h1 h2=>exact gKq λ d hd x hx=>by simp at hd;rcases hd with rfl | rfl;exact h1 x hx;exact h2 x hx
  | left _ h1=>exact gKq λ d hd x hx=>by simp at hd;subst hd;exact h1 x hx
  | right _ h1=>exact gKq λ d hd x hx=>by simp at hd;subst hd;exact h1 x hx
  | way k1 _ h1 h2=>
    refine gKq λ d hd x hx=>?_
    simp at hd
    rcases hd with rfl | rfl
    . rw [lEq k1] at hx;exact s9q h1 x hx
    . exact h2 x hx
theorem IS.dp:∀ {ds:List D},(∀ d∈ds,IS d)->bOq ds=0
  | [],_=>rfl
  | d::ds,h=>by
    rw [bOq,IS.dp λ e he=>h e (List.mem_cons_of_mem _ he)]
    rcases h d (List.mem_cons_self ..) with ⟨n,rfl⟩ | ⟨z,rfl⟩<;>rfl
theorem IsK.fl_eq {a b:D} (h:IsK a) (hb:IsK b):cZq (flD a) (flD b)=eqD a b:=by
  cases c:eqD a b with
  | true=>rw [h.eq1 b hb c];exact fYq (bVq hb.data)
  | false=>
    cases c2:cZq (flD a) (flD b) with
    | false=>rfl
    | true=>
      have e:=eGq (S:=IS) (λ d hd e he=>(h.fl_IS d hd).eq he) hb.fl_IS c2
      rw [h.fl_inj hb e,c1q hb.data] at c;cases c
end L3
namespace L3
open PySem PySem.Spec PySem.W PyProof.Rows L2 PySem.SeqAt
section
variable {X:Cx} {pins:List (Addr × Obj)} {σ:L2.St} {H:Hp} {s:Shared}
theorem rPq (I:Inv X pins σ H s) {prog:Program} {w:World} {A:Around} {E:Value->Shared->Prop} {ds es:List D} {l m:Addr} {vs us:List V} {b:Bool} {Q:Bool->Shared->Prop} (s1:SqL X.K H l vs) (s2:SqL X.K H m us) (r1:AbsL X.K H ds vs) (r2:AbsL X.K H es us) (hd:aXq ds=true) (he:aXq es=true) (hu:A.units+1+bOq ds < cLine) (h:bFq ds es=some b) (q:Q b s):wpAny (model prog w) A (keyLt' oneType' (.ref l) (.ref m)) Q E s:=by
  rw [keyLt'_oneType]
  obtain ⟨its,rr,t1,_⟩:=I.list s1
  obtain ⟨its2,rr2,t2,_⟩:=I.list s2
  have l1:=rr.length
  have l2:=rr2.length
  have l3:=r1.len
  have l4:=r2.len
  refine k1q (e:=eqJ ds es) (c:=λ _=>b) t1.isList t2.isList (by omega) (λ j h1 h2=>?_) (λ j h1 h2 hi hj=>?_) ?_
  . have q:=dXq I ds es A.in1 vs us its its2 hd he r1 r2 rr rr2 (by show A.units+1+bOq ds < cLine;omega) j (by simpa using h1) (by simpa using h2)
    simpa using q
  . have j1:j < its.length:=by simpa using h1
    have j2:j < its2.length:=by simpa using h2
    obtain ⟨d,e,g1,g2,g3⟩:=q2q h (by omega) (by omega) hi hj
    have q:=oSq I ds es A.in1 vs us its its2 hd he r1 r2 rr rr2 (by show A.units+1+bOq ds < cLine;omega) j j1 j2 d e b g1 g2 g3
    simpa using q
  . rw [List.size_toArray,List.size_toArray,<- l1,<- l2,l3,l4,n3q h];exact q
def FlK (K:PySem.W.Frag) (H:Hp) (z:Addr × D):Prop:=IsK z.2/\∃ us,SqL K H z.1 us/\AbsL K H (flD z.2) us
def aE5q (K:PySem.W.Frag):List V->Hp->VK->Prop:=λ xs H Q=>∃ (l:Addr) (zs:List (Addr × D)),xs=[.ref l]/\SqL K H l (zs.map λ z=>V.ref z.1)/\zs.length < 64/\(∀ z∈zs,FlK K H z) ∧
  ∀ zs':List (Addr × D),zs.Perm zs'->Srt (zs'.map (·.2))->∀ p,H p=none->Q (.ref p) (upd H p (.lst (zs'.map λ z=>V.ref z.1)))
theorem dTq:∀ {zs:List (Addr × D)} {its:List Value},Vals (zs.map λ z=>V.ref z.1) its->its=zs.map λ z=>Value.ref z.1
  | [],_,h=>by cases h;rfl
  | z::zs,_,h=>by
    cases h with
    | cons h t=>cases h;rw [dTq t];rfl
theorem eYq {α β:Type} {f:α->β} {xs:List α} {i:Nat} {d:β} {x:α} (h:xs[i]?=some x):(xs.map f).getD i d=f x:=by
  rw [List.getD_eq_getElem?_getD,List.getElem?_map,h];rfl
theorem nXq (hu:X.A.units+200 < cLine):CallR X (.builtin "sorted") (aE5q X.K):=by
  intro pins s σ H xs us Q I r h
  obtain ⟨l,zs,rfl,hq,hl,hz,q⟩:=h
  obtain ⟨u,rfl,rx⟩:=g9q r
  cases rx
  obtain ⟨its,rv,pl,_⟩:=I.list hq
  have eits:=dTq rv
  have hlen:its.length=zs.length:=by rw [eits,List.length_map]
  have hk:∀ d∈zs.map (·.2),IsK d:=λ d hd=>by obtain ⟨z,hz',rfl⟩:=List.mem_map.mp hd;exact (hz z hz').1
  have I6:Inv X pins σ H { s with heap:=fXq s.heap its }:=I.kept (t':=s.toks) λ b o e=>j3q e
  have fin:∀ p:Array Nat,Pm its.length p->Srt (p.toList.map λ i=>(zs.map (·.2)).getD i .non)->EP X pins σ Q (.ref (s.heap.objs.size+1)) { s with heap:=sortedAll s.heap its (p.toList.map λ i=>its.getD i Value.none).toArray }:=λ p hp hsrt=>by
    have hm:∀ i∈p.toList,i < its.length:=λ i hi=>List.mem_range.mp (hp.mem_iff.mp hi)
    obtain ⟨c,hcc⟩:=sortedAll_at s.heap its (p.toList.map λ i=>its.getD i Value.none).toArray
    have sl:=sizeLine_eq
    have zl:=hp.length_eq
    rw [List.length_range] at zl
    have gz:∀ i∈p.toList,zs[i]?=some (zs.getD i (0,.non)):=λ i hi=>by
      have hi':i < zs.length:=by have:=hm i hi;omega
      rw [List.getD_eq_getElem?_getD,List.getElem?_eq_getElem hi'];rfl
    have e1:(p.toList.map λ i=>(zs.map λ z=>V.ref z.1).getD i .non)=(p.toList.map λ i=>zs.getD i (0,.non)).map λ z=>V.ref z.1:=by
      rw [List.map_map];exact List.map_congr_left λ i hi=>eYq (gz i hi)
    have e2:(p.toList.map λ i=>(zs.map (·.2)).getD i .non)=(p.toList.map λ i=>zs.getD i (0,.non)).map (·.2):=by
      rw [List.map_map];exact List.map_congr_left λ i hi=>eYq (gz i hi)
    rw [e2] at hsrt
    have r1:=fGq rv p.toList (λ i hi=>by have:=hm i hi;rw [List.length_map];omega)
    rw [e1] at r1
    have perm:zs.Perm (p.toList.map λ i=>zs.getD i (0,.non)):=by
      have e:(List.range zs.length).map (λ i=>zs.getD i (0,.non))=zs:=by
        apply List.ext_getElem
        . simp
        . intro i h1 h2;simp [List.getD_eq_getElem?_getD,List.getElem?_eq_getElem h2]
      have hp':Pm zs.length p:=by rw [<- hlen];exact hp
      have:=hp'.map (λ i=>zs.getD i (0,D.non))
      rw [e] at this
      exact this.symm
    exact ⟨.ref _,_,I.laid (t':=s.toks) (λ b o e=>sortedAll_old e) (Nat.le_succ _) (show ObjOk X.prog X.w _ _ _ (.lst ((p.toList.map λ i=>zs.getD i (0,.non)).map λ z=>V.ref z.1)) from ⟨by rw [List.length_map,List.length_map];omega,_,c,r1,by simpa using hcc⟩),rfl,q _ perm hsrt _ (I.hok.fresh (Nat.le_succ _))⟩
  have hzl:(zs.map (·.2)).length=zs.length:=List.length_map ..
  by_cases h0:0 < zs.length
  . refine h4q (κ:=oneType') (lt:=ltI (zs.map (·.2))) pl.isList (by omega) (λ h2 A E R hR=>kas_kind (T:=.type "list") h2 (λ v hv=>?_) (by decide) (by decide) hR) (λ A' i j C hA hi hj hC=>?_) (zRq hk (by omega)) λ p hp hup=>fin p hp (sXq hk (by rw [hzl,<- hlen];exact hp) (by rw [hzl,<- hlen];exact hup))
    . rw [eits] at hv
      obtain ⟨z,hz',rfl⟩:=List.mem_map.mp hv
      obtain ⟨_,us,sq,_⟩:=hz z hz'
      obtain ⟨its',_,pl',_⟩:=I6.list sq
      obtain ⟨o,ho,hc,_⟩:=pl'.isList
      exact λ A Q E s' k q=>wpAny_typeOf (T:="list") ⟨o,k _ _ ho,hc⟩ q
    . have ge:∀ k,k < its.length->∃ z,zs[k]?=some z/\z∈zs/\(zs.map (·.2)).getD (min k ((zs.map (·.2)).length - 1)) .non=z.2/\its.getD k Value.none=.ref z.1:=λ k hk'=>by
        have hk2:k < zs.length:=by omega
        refine ⟨zs[k],List.getElem?_eq_getElem hk2,List.getElem_mem hk2,?_,?_⟩
        . rw [show min k ((zs.map (·.2)).length - 1)=k by omega];exact eYq (List.getElem?_eq_getElem hk2)
        . rw [eits];exact eYq (List.getElem?_eq_getElem hk2)
      obtain ⟨z,_,m1,e1,f1⟩:=ge i hi
      obtain ⟨y,_,m2,e2,f2⟩:=ge j hj
      unfold kas_ask
      rw [f1,f2]
      simp only [ltI,e1,e2] at hC
      obtain ⟨k1,us1,sq1,a1⟩:=hz z m1
      obtain ⟨k2,us2,sq2,a2⟩:=hz y m2
      obtain ⟨b,hb⟩:=Option.isSome_iff_exists.mp (k1.lt k2)
      rw [hb] at hC
      exact rPq I6 sq1 sq2 a1 a2 (bVq k1.data) (bVq k2.data) (by rw [IS.dp k1.fl_IS];omega) (by rw [k1.fl_lt k2];exact hb) hC
  . have e0:its=[]:=List.length_eq_zero_iff.mp (by omega)
    subst e0
    refine gLq (κ:=oneType') (lt:=λ _ _=>false) pl.isList (by simp) (λ h2=>by simp at h2) (λ A' i j C hA hi=>by simp at hi) λ out hp=>?_
    have eo:out=[]:=List.length_eq_zero_iff.mp (by have:=hp.length_eq;simpa using this)
    subst eo
    exact fin #[] (.refl _) (by simp [Srt])
def FlG (G:DV) (z:Addr × D):Prop:=IsK z.2/\G z.1=some (.lst (flD z.2))
theorem FlG.to {K:PySem.W.Frag} {G:DV} {H:Hp} {z:Addr × D} (v:Vw K G H) (h:FlG G z):FlK K H z:=by
  obtain ⟨us,e,r⟩:=v _ _ h.2
  exact ⟨h.1,us,.inl (.inl e),r⟩
def aK1q:D->DV->DK->Prop:=λ x G Q=>match x with
  | .ref l=>∃ zs:List (Addr × D),G l=some (.lst (zs.map λ z=>D.ref z.1))/\zs.length < 64/\(∀ z∈zs,FlG G z)/\∀ zs':List (Addr × D),zs.Perm zs'->Srt (zs'.map (·.2))->∀ p,G p=none->Q (.ref p) (up G p (.lst (zs'.map λ z=>D.ref z.1)))
  | _=>False
theorem dUq {K:PySem.W.Frag} {H:Hp}:∀ {zs:List (Addr × D)} {vs:List V},AbsL K H (zs.map λ z=>D.ref z.1) vs->vs=zs.map λ z=>V.ref z.1
  | [],_,h=>h
  | z::zs,_,⟨v,r,e,q,l⟩=>by subst e;rw [dUq l,show v=V.ref z.1 from q];rfl
theorem gPq {K:PySem.W.Frag} {H:Hp}:∀ (zs:List (Addr × D)),AbsL K H (zs.map λ z=>D.ref z.1) (zs.map λ z=>V.ref z.1)
  | []=>rfl
  | z::zs=>⟨_,_,rfl,rfl,gPq zs⟩
theorem h9q (hu:X.A.units+200 < cLine):ACall X (.builtin "sorted") (pKq aK1q):=by
  refine ⟨_,⟨nXq hu⟩,λ xs vs G H DQ Q v a r F=>?_⟩
  obtain ⟨x,u,rfl,rfl,ax,r⟩:=bXq r a
  cases x with
  | ref l=>
    cases ax
    obtain ⟨zs,e,hl,hz,k⟩:=r
    obtain ⟨ws,e1,rl⟩:=v _ _ e
    rw [dUq rl] at e1
    exact ⟨l,zs,rfl,.inl (.inl e1),hl,λ z h=>(hz z h).to v,λ zs' hp hs p hp'=>F (.ref p) _ _ _ (Go.newL v hp' (gPq zs')) rfl (k zs' hp hs p (v.none hp'))⟩
  | _=>exact (show False from r).elim
def aF0q (K:PySem.W.Frag):R2:=λ x y H Q=>∃ (l m:Addr) (zs ys:List (Addr × D)),x=.ref l/\y=.ref m/\SqL K H l (zs.map λ z=>V.ref z.1)/\SqL K H m (ys.map λ z=>V.ref z.1)/\(∀ z∈zs,FlK K H z)/\(∀ z∈ys,FlK K H z)/\zs.length=ys.length/\(∀ z∈zs,∀ y∈ys,z.1=y.1->z.2=y.2) ∧
  ∀ b:Bool,(b=true ↔ zs.map (·.2)=ys.map (·.2))->Q (.bl b) H
theorem w2q (hu:X.A.units+200 < cLine):OpR X (compareOp .Eq) (aF0q X.K):=by
  intro pins s σ H x y v u Q I rx ry h
  obtain ⟨l,m,zs,ys,rfl,rfl,s1,s2,hz,hy,hlen,hsame,q⟩:=h
  cases rx;cases ry
  obtain ⟨its,rr,t1,_⟩:=I.list s1
  obtain ⟨its2,rr2,t2,_⟩:=I.list s2
  have e1:=dTq rr
  have e2:=dTq rr2
  subst e1 e2
  refine SeqAt.RcAt.lists (e:=λ j=>eqD (((zs.map (·.2))[j]?).getD .non) (((ys.map (·.2))[j]?).getD .non)) t1.isList t2.isList (by simp [hlen]) (by omega) (λ j h1 h2=>?_) X.prog X.w X.xe _ ⟨.bl _,H,I,rfl,q _ ?_⟩
  . have j1:j < zs.length:=by simpa using h1
    have j2:j < ys.length:=by simpa using h2
    obtain ⟨k1,us1,sq1,a1⟩:=hz _ (List.getElem_mem j1)
    obtain ⟨k2,us2,sq2,a2⟩:=hy _ (List.getElem_mem j2)
    simp only [List.getElem?_map,List.getElem?_eq_getElem j1,List.getElem?_eq_getElem j2,Option.map_some,Option.getD_some,List.getElem_toArray,List.getElem_map]
    by_cases hne:zs[j].1=ys[j].1
    . rw [hne,hsame _ (List.getElem_mem j1) _ (List.getElem_mem j2) hne,c1q k2.data]
      exact SeqAt.EqAt.same _
    . refine SeqAt.EqAt.of_refs hne ?_
      rw [<- k1.fl_eq k2]
      obtain ⟨jts,jr,w1,_⟩:=I.list sq1
      obtain ⟨jts2,jr2,w2,_⟩:=I.list sq2
      have l1:=jr.length
      have l2:=jr2.length
      have l3:=a1.len
      have l4:=a2.len
      by_cases hl:(flD zs[j].2).length=(flD ys[j].2).length
      . have z:=SeqAt.RcAt.lists (A:=X.A.in1) (e:=eqJ (flD zs[j].2) (flD ys[j].2)) w1.isList w2.isList (by rw [List.size_toArray,List.size_toArray];omega) (by show X.A.units+1 < cLine;omega) (λ i h1 h2=>by
          have q:=dXq I (flD zs[j].2) (flD ys[j].2) X.A.in1.in1 us1 us2 jts jts2 (bVq k1.data) (bVq k2.data) a1 a2 jr jr2 (by show X.A.units+1+1+bOq _ < cLine;rw [IS.dp k1.fl_IS];omega) i (by simpa using h1) (by simpa using h2)
          simpa using q)
        rw [List.size_toArray,<- l1,l3,hHq hl] at z
        exact z
      . rw [eWq hl]
        exact SeqAt.RcAt.lists_lengths w1.isList w2.isList (by rw [List.size_toArray,List.size_toArray];simp;omega) (by show X.A.units+1 < cLine;omega)
  . rw [List.all_eq_true]
    have hs:(zs.map λ z=>Value.ref z.1).toArray.size=zs.length:=by simp
    constructor
    . intro hall
      refine List.ext_getElem (by simp [hlen]) λ i h1 h2=>?_
      rw [List.length_map] at h1 h2
      have q:=hall i (List.mem_range.mpr (by rw [hs];exact h1))
      simp only [List.getElem?_map,List.getElem?_eq_getElem h1,List.getElem?_eq_getElem h2,Option.map_some,Option.getD_some] at q
      rw [List.getElem_map,List.getElem_map]
      exact (hz _ (List.getElem_mem h1)).1.eq1 _ (hy _ (List.getElem_mem h2)).1 q
    . intro e i hi
      have h1:i < zs.length:=by rw [<- hs];exact List.mem_range.mp hi
      simp only [<- e]
      rw [List.getElem?_map,List.getElem?_eq_getElem h1]
      exact c1q (hz _ (List.getElem_mem h1)).1.data
abbrev eqLL:DR2:=λ x y G Q=>match x,y with
  | .ref l,.ref m=>∃ zs ys:List (Addr × D),G l=some (.lst (zs.map λ z=>D.ref z.1))/\G m=some (.lst (ys.map λ z=>D.ref z.1))/\(∀ z∈zs,FlG G z)/\(∀ z∈ys,FlG G z)/\zs.length=ys.length/\∀ b:Bool,(b=true ↔ zs.map (·.2)=ys.map (·.2))->Q (.bl b) G
  | _,_=>False
theorem s0q (hu:X.A.units+200 < cLine):AOp X (compareOp .Eq) eqLL:=by
  refine ⟨_,⟨w2q hu⟩,λ x y vx vy G H DQ Q v ax ay r F=>?_⟩
  cases x with
  | ref l=>
    cases y with
    | ref m=>
      cases ax;cases ay
      obtain ⟨zs,ys,e1,e2,hz,hy,hl,q⟩:=r
      obtain ⟨ws,g1,r1⟩:=v _ _ e1
      obtain ⟨ws2,g2,r2⟩:=v _ _ e2
      rw [dUq r1] at g1
      rw [dUq r2] at g2
      refine ⟨l,m,zs,ys,rfl,rfl,.inl (.inl g1),.inl (.inl g2),λ z h=>(hz z h).to v,λ z h=>(hy z h).to v,hl,λ z h1 y h2 e=>?_,λ b hb=>F (.bl b) G _ H (.refl v) rfl (q b hb)⟩
      have w1:=(hz z h1).2
      have w2:=(hy y h2).2
      rw [e,w2] at w1
      exact (hz z h1).1.fl_inj (hy y h2).1 (by simpa using w1.symm)
    | _=>exact (show False from r).elim
  | _=>exact (show False from r).elim
end
end L3
namespace L2
open PySem PySem.Spec PyProof.Rows
section
variable {X:Cx}
def rLS (K:PySem.W.Frag):R2:=λ x y H Q=>∃ a vs z,x=.ref a/\SqL K H a vs/\y=.str z/\Q (.bl false) H
theorem u1q (hu:X.A.units+200 < cLine):OpR X (compareOp .Eq) (rLS X.K):=by
  intro pins s σ H x y v u Q I rx ry h
  obtain ⟨a,vs,z,rfl,sq,rfl,q⟩:=h
  cases rx;obtain ⟨t,rfl⟩:=ry
  obtain ⟨its,rr,t1,_⟩:=I.list sq
  exact SeqAt.RcAt.list_str z t t1.isList (by omega) X.prog X.w X.xe _ ⟨.bl false,H,I,rfl,q⟩
def rInS (K:PySem.W.Frag):R2:=λ x y H Q=>∃ (p a:Addr) (zs:List Str),y=.ref p/\SqT K H p (zs.map V.str)/\x=.ref a/\((∃ vs,SqT K H a vs)\/∃ vs,SqL K H a vs)/\Q (.bl false) H
theorem jMq:∀ {zs:List Str} {its:List Value},Vals (zs.map V.str) its->∀ w∈its,∃ z t,w=Value.str z t
  | [],_,h,w,hw=>by cases h;simp at hw
  | z::zs,_,h,w,hw=>by
    cases h with
    | cons h t=>
      obtain ⟨tk,rfl⟩:=h
      rcases List.mem_cons.mp hw with rfl | hw
      . exact ⟨_,_,rfl⟩
      . exact jMq t w hw
theorem yYq (hu:X.A.units+200 < cLine):OpR X (compareOp .In) (rInS X.K):=by
  intro pins s σ H x y v u Q I rx ry h
  obtain ⟨p,a,zs,rfl,sq,rfl,hx,q⟩:=h
  cases ry;cases rx
  obtain ⟨its,r,pl,_⟩:=I.tuple sq
  refine SeqAt.in_tupleAt (λ _=>false) pl (λ w hw=>?_) ⟨.bl _,H,I,rfl,?_⟩
  . obtain ⟨z,t,rfl⟩:=jMq r w (by simpa using hw)
    rcases hx with ⟨vs,h⟩ | ⟨vs,h⟩
    . obtain ⟨its',_,pl',_⟩:=I.tuple h
      exact SeqAt.EqAt.str_tuple z t pl' (by show X.A.units+1 < cLine;omega)
    . obtain ⟨its',_,pl',_⟩:=I.list h
      exact SeqAt.EqAt.str_list z t pl'.isList (by show X.A.units+1 < cLine;omega)
  . rw [show its.toArray.any (λ _=>false)=false by simp];exact q
end
end L2
namespace L3
open PySem PySem.Spec L2
section
variable {X:Cx}
def eqX:DR2:=λ x y G Q=>match x,y with
  | .ref l,.str _=>onL G l λ _=>Q (.bl false) G
  | x,y=>eqR id x y G Q
theorem dHq (hu:X.A.units+200 < cLine):AOp X (compareOp .Eq) eqX:=by
  obtain ⟨rc,j,rr⟩:=(aKq (X:=X) hu).run
  refine ⟨_,⟨j.run.or (u1q hu)⟩,λ x y vx vy G H DQ Q v ax ay r F=>?_⟩
  unfold eqX at r
  split at r
  . cases ax;cases ay
    obtain ⟨ds,vs,k,s,rl⟩:=b9q v r
    exact .inr ⟨_,vs,_,rfl,s,rfl,F (.bl false) G _ H (.refl v) rfl k⟩
  . exact .inl (rr x y vx vy G H DQ Q v ax ay r F)
def inX:DR2:=λ x y G Q=>match y with
  | .tup ds=>∃ zs:List Str,ds=zs.map D.str/\(match x with
      | .ref l=>onL G l λ _=>Q (.bl false) G
      | .tup _=>Q (.bl false) G
      | x=>dIq x=true/\Q (.bl (inL x ds)) G)
  | _=>False
theorem n0q (zs:List Str):(zs.map D.str).all dIq=true:=by
  rw [List.all_map,List.all_eq_true];intro z _;rfl
theorem iSq {K:PySem.W.Frag} {H:Hp}:∀ {zs:List Str} {vs:List V},AbsL K H (zs.map D.str) vs->vs=zs.map V.str
  | [],_,h=>h
  | z::zs,_,⟨v,r,e,q,l⟩=>by subst e;rw [iSq l,show v=V.str z from q];rfl
theorem n5q (hu:X.A.units+200 < cLine):AOp X (compareOp .In) inX:=by
  obtain ⟨rc,j,rr⟩:=(f2q (X:=X)).run
  refine ⟨_,⟨j.run.or (yYq hu)⟩,λ x y vx vy G H DQ Q v ax ay r F=>?_⟩
  unfold inX at r
  split at r
  . obtain ⟨zs,rfl,r⟩:=r
    obtain ⟨p,ws,rfl,sq,rl⟩:=id ay
    have sq':=sq
    rw [iSq rl] at sq'
    split at r
    . cases ax
      obtain ⟨ds,vs,k,s,_⟩:=b9q v r
      exact .inr ⟨p,_,zs,rfl,sq',rfl,.inr ⟨_,s⟩,F (.bl false) G _ H (.refl v) rfl k⟩
    . obtain ⟨a,vs,rfl,s1,_⟩:=ax
      exact .inr ⟨p,a,zs,rfl,sq',rfl,.inl ⟨_,s1⟩,F (.bl false) G _ H (.refl v) rfl r⟩
    . exact .inl (rr x _ vx _ G H DQ Q v ax ay ⟨r.1,n0q zs,by simpa using r.2⟩ F)
  . exact r.elim
end
end L3
namespace L2
open PySem PySem.Spec PyProof.Rows
section
variable {prog:Program} {w:World} {A:Around} {E:Value->Shared->Prop} {s:Shared}
theorem mGq (n:Nat):Builtin.Slice.sliceAdjust none none (-1) (n:Int)=((n:Int) - 1,-1):=by
  unfold Builtin.Slice.sliceAdjust
  simp
theorem mFq (n:Nat):Builtin.Slice.slicePlaces ((n:Int) - 1) (-1) (-1)=n:=by
  unfold Builtin.Slice.slicePlaces
  simp
  try omega
theorem rIq (xs:Array Value):((List.range xs.size).filterMap λ(m:Nat)=>xs[((xs.size:Int) - 1+(m:Int) * -1).toNat]?).toArray=xs.toList.reverse.toArray:=by
  congr 1
  have e:(λ(m:Nat)=>xs[((xs.size:Int) - 1+(m:Int) * -1).toNat]?)=λ m=>xs[xs.size - 1 - m]?:=by
    funext m
    have:((xs.size:Int) - 1+(m:Int) * -1).toNat=xs.size - 1 - m:=by omega
    rw [this]
  rw [e]
  have h:=PySem.W.krv_range xs.size
  have h2:=PySem.W.krv_all xs
  have:(List.range xs.size).filterMap (λ m=>xs[xs.size - 1 - m]?)=((List.range xs.size).map λ k=>xs.size - 1 - k).filterMap (xs[·]?):=by rw [List.filterMap_map];rfl
  rw [this,h,List.filterMap_reverse,h2]
theorem eFq {t sl:Addr} {items:Array Value} {vk:Value} {Q:Value->Shared->Prop} (ht:IsTup s.heap t items) (hs:s.heap.IsSliceOf sl .none .none vk) (pk:IsPart vk (some (-1)))
    (h:Q (.ref s.heap.objs.size) { s with heap:=s.heap.push { cls:=.type "tuple", data:=.seq items.toList.reverse.toArray } })
    (hsz:items.size<=sizeLine):wpAny (model prog w) A (getItem (.ref t) (.ref sl)) Q E s:=by
  have htake:sizeOk (.seq items.toList.reverse.toArray):=by
    show items.toList.reverse.toArray.size<=sizeLine
    rw [List.size_toArray,List.length_reverse,Array.length_toList];omega
  obtain ⟨os,hos,hcs,hds⟩:=id hs
  have hTs:s.TypeIs (.ref sl) "slice":=⟨os,hos,hcs⟩
  unfold getItem
  try with_reducible refine wpAny_holding ?_
  first | refine wpAny_bind (wpAny_pure ?_) | skip
  refine wpAny_bind (wpAny_sequenceKey ht.typeIs (by decide) ?_)
  refine wpAny_bind (wpAny_callSpecial?_slot (name:=Str.ofString "__getitem__") ht.typeIs slot_tuple_getitem (wpAny_call_entry slot_tuple_getitem ht.typeIs entry_tuple_getitem ?_ (args_tuple_getitem _ _)))
  refine (show wpAny _ _ (Builtin.Tuple.tupleItemsOf (.ref t) >>= _) _ _ s from wpAny_bind (tupleItemsOf_ ht (wpAny_bind (wpAny_typeOf hTs ?_))))
  rw [if_pos (by decide)]
  have hap:∀ (Q':Int × Int × Nat->Shared->Prop) (E':Value->Shared->Prop) (A':Around),Q' ((items.size:Int) - 1,-1,items.size) s->wpAny (model prog w) A' (Builtin.Slice.sliceApplied (.ref sl) (pure (items.size:Int))) Q' E' s:=λ Q' E' A' q=>by
    unfold Builtin.Slice.sliceApplied Builtin.Slice.sliceFields
    refine wpAny_bind (wpAny_bind (wpAny_field hos hds (x:=.none) rfl (wpAny_bind (wpAny_field hos hds (x:=.none) rfl (wpAny_bind (wpAny_field hos hds (x:=vk) rfl (wpAny_pure ?_)))))))
    refine wpAny_bind (HT.slicePart_ pk ?_)
    refine (show wpAny _ _ (if ((-1:Int)==0)=true then _ else _) _ _ s from ?_)
    rw [if_neg (by decide)]
    refine wpAny_bind (HT.slicePart_ .none (wpAny_bind (HT.slicePart_ .none (wpAny_bind (wpAny_pure ?_)))))
    show wpAny _ _ (match Builtin.Slice.sliceAdjust none none (-1) (items.size:Int) with | (lo,hi)=>pure (lo,(-1:Int),Builtin.Slice.slicePlaces lo hi (-1))) _ _ s
    rw [mGq]
    show wpAny _ _ (pure ((items.size:Int) - 1,(-1:Int),Builtin.Slice.slicePlaces ((items.size:Int) - 1) (-1) (-1))) _ _ s
    rw [mFq]
    exact wpAny_pure q
  refine wpAny_bind (hap _ _ _ ?_)
  refine (show wpAny _ _ (if ((((items.size:Int) - 1)==0&&(-1:Int)==1&&items.size==items.size)=true) then _ else _) _ _ s from ?_)
  rw [if_neg (by simp),rIq]
  first
    | exact wpAny_bind (m:=Builtin.Tuple.tupleExact _) (wpAny_newObj_type (wpAny_pure ⟨_,rfl,wpAny_pure h⟩) htake)
    | exact wpAny_bind (m:=Builtin.Tuple.tupleExact _) (wpAny_newObj_type (wpAny_bind (wpAny_pure (wpAny_pure ⟨_,rfl,wpAny_pure h⟩))) htake)
    | exact wpAny_bind (wpAny_bind (m:=Builtin.Tuple.tupleExact _) (wpAny_newObj_type (wpAny_pure (wpAny_pure ⟨_,rfl,wpAny_pure h⟩)) htake))
    | exact wpAny_bind (wpAny_bind (m:=Builtin.Tuple.tupleExact _) (wpAny_newObj_type (wpAny_pure ⟨_,rfl,wpAny_pure h⟩) htake))
end
section
variable {X:Cx} {e st:Expr} {te:TE} {tk:TO} {pos p2:Pos}
def tRvT (K:PySem.W.Frag) (te:TE) (tk:TO):TE:=λ σ H Q=>te σ H λ x H1=>tk σ H1 λ k H2=>k=some (-1)/\∃ (a:Addr) (xs:List V),x=.ref a/\SqT K H2 a xs/\∀ p,H2 p=none->Q (.ref p) (upd H2 p (.tup xs.reverse))
theorem xJq (he:PE X e te) (hk:PO X (some st) tk):PE X (.Subscript e (.Slice none none (some st) p2) pos) (tRvT X.K te tk):=by
  intro pins s σ H Q I h
  refine Subscript_ (thn (he pins s σ H _ I h) λ v s1 ⟨x,H1,I1,r1,q1⟩=>?_)
  refine wpAny_Slice ?_
  rw [evalPart_none]
  refine wpAny_pure (wpAny_pure ?_)
  refine thn (hk pins s1 σ H1 _ I1 q1) λ vk s3 ⟨k,H3,I3,pk,e1,a,xs,e2,hx,q3⟩=>?_
  subst e1 e2
  cases r1
  have I4:Inv X pins σ H3 { s3 with heap:=s3.heap.push { cls:=.type "slice", data:=.fields #[.none,.none,vk] } }:=I3.kept (t':=s3.toks) λ b ob q=>Heap.get?_push_of_some _ q
  obtain ⟨its,r,ht,hz⟩:=I4.tuple hx
  have hlen:=r.length
  show wpAny (model X.prog X.w) X.A (subscriptTail e (.Slice none none (some st) p2) (.ref a) (.ref s3.heap.objs.size)) (EP X pins σ Q) X.xe { s3 with heap:=s3.heap.push { cls:=.type "slice", data:=.fields #[.none,.none,vk] } }
  refine tail_any (ops:=[.ref a,.ref s3.heap.objs.size]) ht.typeIs slot_tuple_getitem.lookup ?_ (by with_unfolding_all rfl)
  refine eFq ht (Heap.IsSliceOf.new ..) pk ?_ (by rw [List.size_toArray];omega)
  refine ⟨.ref _,_,I4.laid (t':=s3.toks) (o:=.tup xs.reverse) (λ b ob q=>Heap.get?_push_of_some _ q) (Nat.le_refl _) ?_,rfl,q3 _ (I4.hok.fresh (Nat.le_refl _))⟩
  exact ⟨by rw [List.length_reverse];exact hz,its.reverse,eRq r,IsTup.new _ _⟩
end
end L2
namespace L3
open PySem PySem.Spec L2
section
variable {X:Cx} {e st:Expr} {te:DTE} {tk:DTO} {pos p2:Pos}
abbrev dRvT (te:DTE) (tk:DTO):DTE:=λ ρ G Q=>te ρ G λ x G1=>tk ρ G1 λ k G2=>k=some (-1)/\match x with
  | .tup ds=>Q (.tup ds.reverse) G2
  | _=>False
theorem y6q (he:AE X e te) (hk:AO X (some st) tk):AE X (.Subscript e (.Slice none none (some st) p2) pos) (dRvT te tk):=by
  obtain ⟨ce,je,re⟩:=he.run
  obtain ⟨ck,jk,rk⟩:=hk.run
  refine ⟨_,⟨xJq je.run jk.run⟩,λ ρ G DQ σ H Q B q F=>re ρ G _ σ H _ B q λ x G1 v H1 g1 ax q1=>rk ρ G1 _ σ H1 _ (B.go g1) q1 λ k G2 H2 g2 ⟨e1,q2⟩=>?_⟩
  cases x with
  | tup ds=>
    obtain ⟨a,vs,rfl,s,rl⟩:=ax.mono g2.tup
    refine ⟨e1,a,vs,rfl,s,λ p hp=>?_⟩
    have g3:=Go.newT (G:=G2) (o:=.tup vs.reverse) g2.vw hp
    exact F (.tup ds.reverse) _ _ _ ((g1.trans g2).trans g3) ⟨p,vs.reverse,rfl,.inl (.inl bHq),rl.reverse.mono g3.tup⟩ q2
  | _=>exact (show False from q2).elim
end
end L3
namespace L2
open PySem PySem.Spec PyProof.Rows
def Itw (K:PySem.W.Frag) (a:Addr) (n:Nat):It:=
  ⟨λ i H=>i < n/\∃ xs,SqT K H a xs/\xs.length=n,λ i H x H'=>H'=H/\∀ xs,SqT K H a xs->xs[n - 1 - i]?=some x,λ i _=>n<=i⟩
theorem pVq {P:Program} {w:World} {K:PySem.W.Frag} {tg:Expr} (a it:Addr) (n:Nat):Turn P w K tg (Itw K a n) [it] it (λ i h=>i<=n/\KRv.IsRev h it a ((n:Int) - 1 - (i:Int))) where
  mem:=by simp
  obj:=λ i h st b hb=>by
    have e:b=it:=by simpa using hb
    subst e
    exact ⟨_,st.2,λ v z=>by cases (show Data.fields _=Data.cell v from z)⟩
  keep:=λ i h h' st k=>⟨st.1,k it (by simp) _ st.2⟩
  item:=by
    intro X hP hw hK hc i pins s σ H E I hf st hg
    subst hP hw hK
    obtain ⟨hi,xs,hq,hx⟩:=hg
    obtain ⟨_,st⟩:=st
    obtain ⟨its,rv,p,hz⟩:=I.tuple hq
    have hlt:n - 1 - i < xs.length:=by omega
    have hx':xs[n - 1 - i]?=some xs[n - 1 - i]:=List.getElem?_eq_getElem hlt
    obtain ⟨u,hu,ru⟩:=rv.get hx'
    obtain ⟨f0,f1,f2,f3,f4,f5⟩:=hf it (by simp)
    have hn:=dRq
    rw [show (n:Int) - 1 - (i:Int)=((n - 1 - i:Nat):Int) by omega] at st
    refine KRv.nextT st p (x:=u) (by simpa using hu) (by omega) λ h' tk st' sb=>?_
    have I1:Inv X pins σ H { s with heap:=h',toks:=tk }:=I.turned (λ b o hb e=>(sb.2 b hb).trans e) f0 f1 f3 f4 f5
    refine ⟨u,rfl,pUq (s:={ s with heap:=h',toks:=tk }) st' rfl rfl (by decide) ⟨_,H,I1,ru,⟨rfl,λ ys hy=>by rw [I.tuple_inj hy hq];exact hx'⟩,⟨hi,?_⟩,λ b hb=>(hf b hb).1⟩⟩
    rw [show (n:Int) - 1 - ((i+1:Nat):Int)=((n - 1 - i:Nat):Int) - 1 by omega];exact st'
  done:=by
    intro X hP hw hK hc i pins s σ H E I hf st hg
    subst hP hw hK
    have hg':n<=i:=hg
    obtain ⟨hi,st⟩:=st
    obtain ⟨f0,f1,f2,f3,f4,f5⟩:=hf it (by simp)
    exact KRv.endT (I.ok.hd hc) st (by omega) λ h' eb=>⟨rfl,I.turned (t':=s.toks) (λ b o hb e=>eb b o hb e) f0 f1 f3 f4 f5⟩
  self:=λ _ _ _ _ _ st h=>KRv.iterT st.2 h
section
variable {X:Cx}
def aK0q (K:PySem.W.Frag) (tl:TE):TI:=λ σ H R=>tl σ H λ x H1=>∃ a xs,x=.ref a/\SqT K H1 a xs/\R (Itw K a xs.length) H1
theorem uMq {tg e:Expr} {tl:TE} {p pos:Pos} (hg:Gl X "reversed") (hm:X.mg "reversed" = none) (hl:PE X e tl) (hs:bAq e=true):PI X tg (.Call (.Name "reversed" p) [e] [] pos) (aK0q X.K tl):=by
  intro pins s σ H R I h
  refine thn (nEq (R:=λ a xs H1=>R (Itw X.K a xs.length) H1) hg hm hl hs I h) λ v s1 h1=>?_
  obtain ⟨a,it,xs,its,H1,rfl,I1,hit,ht,hne,rv,hz,_,fp,q⟩:=h1
  have hl':=rv.length
  refine KRv.iterT hit ⟨it,[it],_,_,H1,rfl,I1,pVq a it xs.length,?_,λ b hb=>?_,q⟩
  . rw [List.size_toArray,<- hl'] at hit
    exact ⟨Nat.zero_le _,by simpa using hit⟩
  . have e:b=it:=by simpa using hb
    subst e
    exact fp
end
end L2
namespace L3
open PySem PySem.Spec L2
section
variable {X:Cx} {tg a:Expr} {ta:DTE} {p pos:Pos}
abbrev xDq (ta:DTE):DTI:=λ ρ G R=>ta ρ G λ x G1=>match x with
  | .tup ds=>R ⟨ds.reverse,λ _=>True⟩ G1
  | _=>False
theorem vPq (hg:Gl X "reversed") (hm:X.mg "reversed" = none) (ha:AE X a ta) (hs:bAq a=true:=by rfl):AI X tg (.Call (.Name "reversed" p) [a] [] pos) (xDq ta):=by
  obtain ⟨ca,ja,ra⟩:=ha.run
  refine ⟨_,⟨uMq hg hm ja.run hs⟩,λ ρ G DR σ H R B q F=>ra ρ G _ σ H _ B q λ x G1 v H1 g1 ax q1=>?_⟩
  cases x with
  | tup ds=>
    obtain ⟨l,vs,rfl,sq,r⟩:=ax
    refine ⟨l,vs,rfl,sq,F ⟨ds.reverse,λ _=>True⟩ _ G1 H1 g1 (λ G2 H2 g2 _=>?_) q1⟩
    have sq2:=g2.tup.tp _ _ sq
    have r2:=r.mono g2.tup
    have n1:=r.len
    refine ⟨λ i d hd'=>?_,λ i hi=>?_⟩
    . replace hd':ds.reverse[i]?=some d:=hd'
      have hi:i < ds.length:=by
        rcases Nat.lt_or_ge i ds.length with c | c
        . exact c
        . rw [List.getElem?_eq_none (by rw [List.length_reverse];exact c)] at hd';cases hd'
      rw [List.getElem?_reverse hi] at hd'
      obtain ⟨w,hw,aw⟩:=r2.get hd'
      refine ⟨⟨by omega,vs,sq2,rfl⟩,λ x H' y=>?_⟩
      obtain ⟨rfl,y⟩:=y
      have z:=y vs sq2
      rw [n1,hw] at z
      cases z
      exact ⟨.refl g2.vw,aw⟩
    . have hi':ds.reverse.length<=i:=hi
      rw [List.length_reverse] at hi'
      show vs.length<=i
      omega
  | _=>exact (show False from q1).elim
end
def g7q:List D->Bool
  | a::b::r=>(ltD b a==some false)&&g7q (b::r)
  | _=>true
inductive IsKd:D->Prop
  | is (n:Int):IsKd (.tup [.str "is", .int n])
  | some:IsKd (.tup [.str "some"])
  | both {a b:D}:IsKd a->IsKd b->ofA a=true->ofA b=true->IsKd (.tup [.str "both", a,b])
  | left {a:D}:IsKd a->IsKd (.tup [.str "left", a])
  | right {a:D}:IsKd a->IsKd (.tup [.str "right", a])
  | way {ds:List D} {k:D}:(∀ d∈ds,IsKd d)->g7q ds=true->IsKd k->IsKd (.tup [.str "way", .tup ds,k])
theorem IsKd.isK {d:D} (h:IsKd d):IsK d:=by
  induction h with
  | is n=>exact .is n
  | some=>exact .some
  | both _ _ _ _ h1 h2=>exact .both h1 h2
  | left _ h=>exact .left h
  | right _ h=>exact .right h
  | way _ _ _ h1 h2=>exact .way h1 h2
inductive Frm:D->Prop
  | is (n:Int):Frm (.tup [.str "is", .int n])
  | some:Frm (.tup [.str "some"])
  | both {a b:D}:Frm a->Frm b->ofA a=true->ofA b=true->Frm (.tup [.str "both", a,b])
  | left {a:D}:Frm a->Frm (.tup [.str "left", a])
  | right {a:D}:Frm a->Frm (.tup [.str "right", a])
  | way {ds:List D} {k:D}:(∀ d∈ds,Frm d)->Frm k->Frm (.tup [.str "way", .tup ds,k])
theorem Frm.isK {d:D} (h:Frm d):IsK d:=by
  induction h with
  | is n=>exact .is n
  | some=>exact .some
  | both _ _ _ _ h1 h2=>exact .both h1 h2
  | left _ h=>exact .left h
  | right _ h=>exact .right h
  | way _ _ h1 h2=>exact .way h1 h2
inductive HF:D->List D->List (List D)->Prop
  | is (n:Int):HF (.tup [.str "is", .int n]) [] []
  | some:HF (.tup [.str "some"]) [] []
  | both {a b:D}:ofA a=true->ofA b=true->HF (.tup [.str "both", a,b]) [a,b] []
  | left (a:D):HF (.tup [.str "left", a]) [a] []
  | right (a:D):HF (.tup [.str "right", a]) [a] []
  | way (ds:List D) (k:D):HF (.tup [.str "way", .tup ds,k]) (ds++[k]) [ds]
theorem HF.kd {d:D} {is:List D} {bs:List (List D)} (h:HF d is bs):IsKd d ↔ (∀ x∈is,IsKd x)/\∀ b∈bs,g7q b=true:=by
  cases h with
  | is n=>exact ⟨λ _=>by simp,λ _=>.is n⟩
  | some=>exact ⟨λ _=>by simp,λ _=>.some⟩
  | both o1 o2=>exact ⟨λ z=>by cases z with | both h1 h2 _ _=>simp [h1,h2],λ z=>.both (z.1 _ (by simp)) (z.1 _ (by simp)) o1 o2⟩
  | left a=>exact ⟨λ z=>by cases z with | left h=>simp [h],λ z=>.left (z.1 _ (by simp))⟩
  | right a=>exact ⟨λ z=>by cases z with | right h=>simp [h],λ z=>.right (z.1 _ (by simp))⟩
  | way ds k=>
    refine ⟨λ z=>by cases z with | way h1 h2 h3=>exact ⟨λ x hx=>by rcases List.mem_append.mp hx with hx | hx;exact h1 x hx;simp at hx;subst hx;exact h3,by simpa using h2⟩,λ z=>.way (λ d hd=>z.1 d (List.mem_append_left _ hd)) (z.2 _ (by simp)) (z.1 _ (by simp))⟩
theorem HF.fr {d:D} {is:List D} {bs:List (List D)} (h:HF d is bs) (hi:∀ x∈is,Frm x):Frm d/\∀ b∈bs,∀ x∈b,Frm x:=by
  cases h with
  | is n=>exact ⟨.is n,by simp⟩
  | some=>exact ⟨.some,by simp⟩
  | both o1 o2=>exact ⟨.both (hi _ (by simp)) (hi _ (by simp)) o1 o2,by simp⟩
  | left a=>exact ⟨.left (hi _ (by simp)),by simp⟩
  | right a=>exact ⟨.right (hi _ (by simp)),by simp⟩
  | way ds k=>exact ⟨.way (λ d hd=>hi d (List.mem_append_left _ hd)) (hi _ (by simp)),λ b hb x hx=>by simp at hb;subst hb;exact hi x (List.mem_append_left _ hx)⟩
theorem IsKd.hf {d:D} (h:IsKd d):∃ is bs,HF d is bs:=by
  cases h with
  | is n=>exact ⟨_,_,.is n⟩
  | some=>exact ⟨_,_,.some⟩
  | both _ _ o1 o2=>exact ⟨_,_,.both o1 o2⟩
  | left _=>exact ⟨_,_,.left _⟩
  | right _=>exact ⟨_,_,.right _⟩
  | way _ _ _=>exact ⟨_,_,.way _ _⟩
inductive Th (L:Addr->Prop):D->Prop
  | int (n:Int):Th L (.int n)
  | str (z:Str):Th L (.str z)
  | non:Th L .non
  | bl (b:Bool):Th L (.bl b)
  | ref {a:Addr} (h:L a):Th L (.ref a)
  | tup {ds:List D} (h:∀ d∈ds,Th L d):Th L (.tup ds)
theorem Th.mono {L M:Addr->Prop} (h:∀ a,L a->M a) {d:D} (t:Th L d):Th M d:=by
  induction t with
  | int n=>exact .int n
  | str z=>exact .str z
  | non=>exact .non
  | bl b=>exact .bl b
  | ref q=>exact .ref (h _ q)
  | tup _ ih=>exact .tup ih
theorem IsK.th {L:Addr->Prop} {d:D} (h:IsK d):Th L d:=by
  induction h with
  | is n=>exact .tup λ d hd=>by simp at hd;rcases hd with rfl | rfl;exact .str _;exact .int _
  | some=>exact .tup λ d hd=>by simp at hd;subst hd;exact .str _
  | both _ _ h1 h2=>exact .tup λ d hd=>by simp at hd;rcases hd with rfl | rfl | rfl;exact .str _;exact h1;exact h2
  | left _ h1=>exact .tup λ d hd=>by simp at hd;rcases hd with rfl | rfl;exact .str _;exact h1
  | right _ h1=>exact .tup λ d hd=>by simp at hd;rcases hd with rfl | rfl;exact .str _;exact h1
  | way _ _ h1 h2=>exact .tup λ d hd=>by simp at hd;rcases hd with rfl | rfl | rfl;exact .str _;exact .tup h1;exact h2
theorem Th.items {L:Addr->Prop} {ds:List D} (h:Th L (.tup ds)):∀ d∈ds,Th L d:=by cases h with | tup h=>exact h
abbrev isL (G:DV) (a:Addr):Prop:=∃ ds,G a=some (.lst ds)
mutual
def tsz:D->Nat
  | .tup ds=>1+bGq ds
  | _=>1
def bGq:List D->Nat
  | []=>0
  | d::ds=>tsz d+bGq ds
end
mutual
def wid:D->Nat
  | .tup ds=>max ds.length (lHq ds)
  | _=>0
def lHq:List D->Nat
  | []=>0
  | d::ds=>max (wid d) (lHq ds)
end
theorem f0q:∀ xs ys:List D,bGq (xs++ys)=bGq xs+bGq ys
  | [],ys=>by simp [bGq]
  | x::xs,ys=>by rw [List.cons_append,bGq,bGq,f0q xs ys,Nat.add_assoc]
theorem dVq {d:D}:∀ {ds:List D},d∈ds->tsz d<=bGq ds
  | [],h=>by simp at h
  | e::ds,h=>by
    rw [bGq]
    rcases List.mem_cons.mp h with rfl | h
    . omega
    . have:=dVq h;omega
theorem mBq {d:D}:∀ {ds:List D},d∈ds->wid d<=lHq ds
  | [],h=>by simp at h
  | e::ds,h=>by
    rw [lHq]
    rcases List.mem_cons.mp h with rfl | h
    . omega
    . have:=mBq h;omega
theorem nTq:∀ d:D,1<=tsz d
  | .tup ds=>by rw [tsz];omega
  | .int _=>Nat.le_refl _
  | .str _=>Nat.le_refl _
  | .non=>Nat.le_refl _
  | .bl _=>Nat.le_refl _
  | .ref _=>Nat.le_refl _
  | .ty _=>Nat.le_refl _
  | .frl _=>Nat.le_refl _
theorem e4q:∀ ds:List D,ds.length<=bGq ds
  | []=>Nat.zero_le _
  | d::ds=>by have:=e4q ds;have:=nTq d;rw [bGq,List.length_cons];omega
theorem q8q {xs ys:List D} (h:xs.Perm ys):bGq xs=bGq ys:=by
  induction h with
  | nil=>rfl
  | cons _ _ ih=>rw [bGq,bGq,ih]
  | swap _ _ _=>rw [bGq,bGq,bGq,bGq];omega
  | trans _ _ h1 h2=>rw [h1,h2]
theorem p0q {n:Nat}:∀ {ds:List D},(∀ d∈ds,wid d<=n)->lHq ds<=n
  | [],_=>Nat.zero_le _
  | d::ds,h=>by
    have h1:=h d (List.mem_cons_self ..)
    have h2:=p0q λ e he=>h e (List.mem_cons_of_mem _ he)
    rw [lHq];omega
structure Bd (s p w:Nat) (d:D):Prop where
  sz:tsz d<=s
  dp:d.dp<=p
  wd:wid d<=w
theorem Bd.mono {s p w s' p' w':Nat} {d:D} (h:Bd s p w d) (h1:s<=s') (h2:p<=p') (h3:w<=w'):Bd s' p' w' d:=⟨Nat.le_trans h.sz h1,Nat.le_trans h.dp h2,Nat.le_trans h.wd h3⟩
theorem Bd.item {s p w:Nat} {ds:List D} (h:Bd s p w (.tup ds)) {d:D} (hd:d∈ds):Bd (s - 1) (p - 1) w d:=by
  have h1:=h.sz;have h2:=h.dp;have h3:=h.wd
  rw [tsz] at h1;rw [D.dp] at h2;rw [wid] at h3
  have:=dVq hd;have:=dMq hd;have:=mBq hd
  exact ⟨by omega,by omega,by omega⟩
theorem hMq {ds:List D} (h:Srt ds):g7q ds=true:=by
  induction ds with
  | nil=>rfl
  | cons a r ih=>
    cases r with
    | nil=>rfl
    | cons b r=>
      rw [g7q,ih (List.Pairwise.of_cons h),(List.pairwise_cons.mp h).1 b (List.mem_cons_self ..)];rfl
theorem lTq {a:D}:∀ {r:List D},IsK a->(∀ d∈r,IsK d)->g7q (a::r)=true->∀ d∈r,ltD d a=some false
  | [],_,_,_,d,hd=>by simp at hd
  | b::r,ha,hr,h,d,hd=>by
    rw [g7q,Bool.and_eq_true,beq_iff_eq] at h
    have kb:=hr b (List.mem_cons_self ..)
    rcases List.mem_cons.mp hd with rfl | hd
    . exact h.1
    . have kd:=hr d (List.mem_cons_of_mem _ hd)
      have h2:=lTq kb (λ e he=>hr e (List.mem_cons_of_mem _ he)) h.2 d hd
      obtain ⟨v,hv⟩:=Option.isSome_iff_exists.mp (kd.lt ha)
      cases v with
      | false=>exact hv
      | true=>
        rcases kb.tri d kd with e | e | e
        . subst e;rw [h.1] at hv;cases hv
        . have z:=u9q kb d a kd ha e hv
          rw [h.1] at z;cases z
        . rw [h2] at e;cases e
theorem l6q:∀ {ds:List D},(∀ d∈ds,IsK d)->g7q ds=true->Srt ds
  | [],_,_=>List.Pairwise.nil
  | a::r,hk,h=>by
    have hr:∀ d∈r,IsK d:=λ d hd=>hk d (List.mem_cons_of_mem _ hd)
    refine List.pairwise_cons.mpr ⟨lTq (hk a (List.mem_cons_self ..)) hr h,l6q hr ?_⟩
    cases r with
    | nil=>rfl
    | cons b r=>rw [g7q,Bool.and_eq_true] at h;exact h.2
theorem xMq {a b:D} (ha:IsK a) (hb:IsK b) (h1:ltD a b=some false) (h2:ltD b a=some false):a=b:=by
  rcases ha.tri b hb with h | h | h
  . exact h
  . rw [h1] at h;cases h
  . rw [h2] at h;cases h
theorem l3q:∀ {xs ys:List D},(∀ d∈xs,IsK d)->xs.Perm ys->Srt xs->Srt ys->xs=ys
  | [],ys,_,hp,_,_=>(List.perm_nil.mp hp.symm).symm
  | x::xs,[],_,hp,_,_=>absurd (List.perm_nil.mp hp) (by simp)
  | x::xs,y::ys,hk,hp,h1,h2=>by
    have kx:=hk x (List.mem_cons_self ..)
    have ky:IsK y:=hk y (hp.mem_iff.mpr (List.mem_cons_self ..))
    have e:x=y:=by
      have m1:x∈y::ys:=hp.mem_iff.mp (List.mem_cons_self ..)
      have m2:y∈x::xs:=hp.mem_iff.mpr (List.mem_cons_self ..)
      rcases List.mem_cons.mp m1 with h | h
      . exact h
      . rcases List.mem_cons.mp m2 with g | g
        . exact g.symm
        . exact xMq kx ky ((List.pairwise_cons.mp h2).1 x h) ((List.pairwise_cons.mp h1).1 y g)
    subst e
    rw [l3q (λ d hd=>hk d (List.mem_cons_of_mem _ hd)) (List.Perm.cons_inv hp) (List.Pairwise.of_cons h1) (List.Pairwise.of_cons h2)]
theorem v6q {xs ys:List D} (hk:∀ d∈xs,IsK d) (hp:xs.Perm ys) (hs:Srt ys):xs=ys ↔ g7q xs=true:=
  ⟨λ e=>by rw [e];exact hMq hs,λ h=>l3q hk hp (l6q hk h) hs⟩
def kLq:DSp:=λ ds G Q=>∃ d:D,ds=[d]/\Th (isL G) d/\∀ b:Bool,(b=true ↔ ∃ n,d=.int n)->Q (.bl b) G
def uPq:DSp:=λ ds G Q=>∃ d:D,ds=[d]/\Th (isL G) d/\Q (.bl (ofA d)) G
def u6q:DSp:=λ ds G Q=>∃ d:D,ds=[d]/\Th (isL G) d/\∀ b:Bool,(b=true ↔ ∃ is bs,HF d is bs)->Q (.bl b) G
def nNq:DSp:=λ ds G Q=>∃ (d:D) (is:List D) (bs:List (List D)),ds=[d]/\HF d is bs/\tsz d<=100000/\Q (.tup is) G
def o9q:DSp:=λ ds G Q=>∃ d:D,ds=[d]/\IsK d/\tsz d<=49000/\∀ l,G l=none->Q (.ref l) (up G l (.lst (flD d)))
def hYq:DSp:=λ ds G Q=>∃ es:List D,ds=[.tup es]/\(∀ d∈es,IsK d/\tsz d<=49000)/\es.length < 64/\Q (.bl (g7q es)) G
def i4q:DSp:=λ ds G Q=>∃ d:D,ds=[d]/\Th (isL G) d/\Bd 49000 150 63 d/\∀ b:Bool,(b=true ↔ IsKd d)->Q (.bl b) G
def Dw (a:Addr) (G G':DV):Prop:=∃ G0,Fx a G G0/\Sub G0 G'
theorem HF.inv {d:D} {is:List D} {bs:List (List D)} (h:HF d is bs):∀ {z:Str} {r:List D},d=.tup (.str z::r)->(z = "is"/\(∃ n,r=[.int n]))\/(z = "some"/\r=[])\/(z = "both"/\∃ a b,r=[a,b]/\ofA a=true/\ofA b=true)\/((z = "left"\/z = "right")/\∃ a,r=[a])\/(z = "way"/\∃ ds k,r=[.tup ds,k]):=by
  intro z r e
  cases h with
  | is n=>cases e;exact .inl ⟨rfl,_,rfl⟩
  | some=>cases e;exact .inr (.inl ⟨rfl,rfl⟩)
  | both o1 o2=>cases e;exact .inr (.inr (.inl ⟨rfl,_,_,rfl,o1,o2⟩))
  | left a=>cases e;exact .inr (.inr (.inr (.inl ⟨.inl rfl,_,rfl⟩)))
  | right a=>cases e;exact .inr (.inr (.inr (.inl ⟨.inr rfl,_,rfl⟩)))
  | way ds k=>cases e;exact .inr (.inr (.inr (.inr ⟨rfl,_,_,rfl⟩)))
theorem hf_is {r:List D}:(∃ is bs,HF (.tup (.str "is"::r)) is bs) ↔ ∃ n,r=[.int n]:=by
  constructor
  . rintro ⟨_,_,h⟩
    rcases h.inv rfl with ⟨_,h⟩ | ⟨e,_⟩ | ⟨e,_⟩ | ⟨e | e,_⟩ | ⟨e,_⟩<;>first | exact h | exact absurd e (by decide)
  . rintro ⟨n,rfl⟩;exact ⟨_,_,.is n⟩
theorem tFq {r:List D}:(∃ is bs,HF (.tup (.str "some"::r)) is bs) ↔ r=[]:=by
  constructor
  . rintro ⟨_,_,h⟩
    rcases h.inv rfl with ⟨e,_⟩ | ⟨_,h⟩ | ⟨e,_⟩ | ⟨e | e,_⟩ | ⟨e,_⟩<;>first | exact h | exact absurd e (by decide)
  . rintro rfl;exact ⟨_,_,.some⟩
theorem hf_both {r:List D}:(∃ is bs,HF (.tup (.str "both"::r)) is bs) ↔ ∃ a b,r=[a,b]/\ofA a=true/\ofA b=true:=by
  constructor
  . rintro ⟨_,_,h⟩
    rcases h.inv rfl with ⟨e,_⟩ | ⟨e,_⟩ | ⟨_,h⟩ | ⟨e | e,_⟩ | ⟨e,_⟩<;>first | exact h | exact absurd e (by decide)
  . rintro ⟨a,b,rfl,o1,o2⟩;exact ⟨_,_,.both o1 o2⟩
theorem hf_way {r:List D}:(∃ is bs,HF (.tup (.str "way"::r)) is bs) ↔ ∃ ds k,r=[.tup ds,k]:=by
  constructor
  . rintro ⟨_,_,h⟩
    rcases h.inv rfl with ⟨e,_⟩ | ⟨e,_⟩ | ⟨e,_⟩ | ⟨e | e,_⟩ | ⟨_,h⟩<;>first | exact h | exact absurd e (by decide)
  . rintro ⟨a,b,rfl⟩;exact ⟨_,_,.way _ _⟩
theorem aL1q {z:Str} {r:List D} (h1:z≠"is") (h2:z≠"some") (h3:z≠"way") (h4:z≠"both"):(∃ is bs,HF (.tup (.str z::r)) is bs) ↔ (z = "left"\/z = "right")/\∃ a,r=[a]:=by
  constructor
  . rintro ⟨_,_,h⟩
    rcases h.inv rfl with ⟨e,_⟩ | ⟨e,_⟩ | ⟨e,_⟩ | h | ⟨e,_⟩
    . exact absurd e h1
    . exact absurd e h2
    . exact absurd e h4
    . exact h
    . exact absurd e h3
  . rintro ⟨rfl | rfl,a,rfl⟩
    . exact ⟨_,_,.left a⟩
    . exact ⟨_,_,.right a⟩
theorem y5q {d:D} {is:List D} {bs:List (List D)} (h:HF d is bs):∃ z r,d=.tup (.str z::r):=by cases h<;>exact ⟨_,_,rfl⟩
theorem wMq {d:D} (h:∀ z r,d≠.tup (.str z::r)):¬ ∃ is bs,HF d is bs:=λ⟨_,_,f⟩=>by
  obtain ⟨z,r,e⟩:=y5q f
  exact h z r e
theorem sUq (z:Str):inL (.str z) [.str "left", .str "right"]=(z=="left"||z=="right"):=by
  have e:∀ a b:Str,(a==b)=(b==a):=λ a b=>by rw [Bool.eq_iff_iff,beq_iff_eq,beq_iff_eq];exact eq_comm
  simp only [inL,List.any_cons,List.any_nil,eqF,Bool.or_false]
  rw [e "left" z,e "right" z]
mutual
def ws:D->Nat
  | .tup ds=>2+wss ds+ds.length
  | _=>1
def wss:List D->Nat
  | []=>0
  | d::ds=>ws d+wss ds
end
theorem p7q:∀ xs ys:List D,wss (xs++ys)=wss xs+wss ys
  | [],ys=>by simp [wss]
  | x::xs,ys=>by rw [List.cons_append,wss,wss,p7q xs ys,Nat.add_assoc]
mutual
theorem zYq:∀ d:D,ws d+1<=4 * tsz d
  | .tup ds=>by rw [ws,tsz];have:=sHq ds;omega
  | .int _=>by simp [ws,tsz]
  | .str _=>by simp [ws,tsz]
  | .non=>by simp [ws,tsz]
  | .bl _=>by simp [ws,tsz]
  | .ref _=>by simp [ws,tsz]
  | .ty _=>by simp [ws,tsz]
  | .frl _=>by simp [ws,tsz]
theorem sHq:∀ ds:List D,wss ds+ds.length<=4 * bGq ds
  | []=>by simp [wss,bGq]
  | d::ds=>by rw [wss,bGq,List.length_cons];have:=zYq d;have:=sHq ds;omega
end
theorem sRq (d:D):1<=ws d:=by cases d<;>simp [ws]<;>omega
theorem hTq:∀ ds:List D,ds.length<=wss ds
  | []=>Nat.zero_le _
  | d::ds=>by have:=hTq ds;have:=sRq d;rw [wss,List.length_cons];omega
mutual
theorem h7q:∀ d:D,(flD d).length<=ws d
  | .tup ds=>by rw [flD,ws];have:=tGq ds;omega
  | .int _=>by simp [ws,flD]
  | .str _=>by simp [ws,flD]
  | .non=>by simp [ws,flD]
  | .bl _=>by simp [ws,flD]
  | .ref _=>by simp [ws,flD]
  | .ty _=>by simp [ws,flD]
  | .frl _=>by simp [ws,flD]
theorem tGq:∀ ds:List D,(flT ds).length<=1+wss ds+ds.length
  | []=>by simp [flT,wss]
  | d::ds=>by
    have h1:=h7q d
    have h2:=n4q ds
    have h3:=p2q ds
    have h4:=sRq d
    rw [flT,wss,List.length_cons]
    split<;>simp only [List.length_cons,List.length_append]<;>omega
theorem n4q:∀ ds:List D,(flC ds).length<=wss ds
  | []=>by simp [flC]
  | d::ds=>by rw [flC,wss,List.length_append];have:=h7q d;have:=n4q ds;omega
theorem p2q:∀ ds:List D,(flI ds).length<=1+wss ds+ds.length
  | []=>by simp [flI,wss]
  | d::ds=>by rw [flI,wss,List.length_cons,List.length_append,List.length_cons];have:=h7q d;have:=p2q ds;omega
end
theorem pRq:∀ xs ys:List D,flC (xs++ys)=flC xs++flC ys
  | [],ys=>by simp [flC]
  | x::xs,ys=>by rw [List.cons_append,flC,flC,pRq xs ys,List.append_assoc]
abbrev cGq (ds:List D):List D:=ds.flatMap λ d=>[.int 1,d]
theorem pXq (ps:List D):∀ ds:List D,flC (cGq ds++.int 0::ps)=flI ds++flC ps
  | []=>by simp [cGq,flC,flD,flI]
  | d::ds=>by
    have:=pXq ps ds
    simp only [cGq,List.flatMap_cons,List.cons_append,List.nil_append,flC,flD,flI,List.append_assoc] at this ⊢
    rw [this]
theorem oDq (ps:List D):∀ ds:List D,wss (cGq ds++.int 0::ps)=1+wss ds+ds.length+wss ps
  | []=>by simp [cGq,wss,ws]
  | d::ds=>by
    have:=oDq ps ds
    simp only [cGq,List.flatMap_cons,List.cons_append,List.nil_append,wss,ws,List.length_cons] at this ⊢
    omega
theorem nWq (ds:List D):(cGq ds).reverse=ds.reverse.flatMap λ d=>[d,.int 1]:=by
  induction ds with
  | nil=>rfl
  | cons d ds ih=>
    have e:cGq (d::ds)=[.int 1,d]++cGq ds:=rfl
    rw [e,List.reverse_append,ih,show (d::ds).reverse=ds.reverse++[d] from List.reverse_cons,List.flatMap_append];rfl
theorem jJq:∀ xs:List D,(xs.flatMap λ x=>[x,D.int 1]).length=2 * xs.length
  | []=>rfl
  | x::xs=>by rw [List.flatMap_cons,List.length_append,jJq xs];simp;omega
inductive PK:D->Prop
  | k {d:D}:IsK d->PK d
  | bag {ds:List D}:(∀ d∈ds,IsK d)->PK (.tup ds)
  | int (n:Int):PK (.int n)
  | str (z:Str):PK (.str z)
theorem IsK.pks {d:D} (h:IsK d):∃ z r,d=.tup (.str z::r)/\∀ x∈r,PK x:=by
  cases h with
  | is n=>exact ⟨_,_,rfl,λ x hx=>by simp at hx;subst hx;exact .int _⟩
  | some=>exact ⟨_,_,rfl,by simp⟩
  | both h1 h2=>exact ⟨_,_,rfl,λ x hx=>by simp at hx;rcases hx with rfl | rfl;exact .k h1;exact .k h2⟩
  | left h1=>exact ⟨_,_,rfl,λ x hx=>by simp at hx;subst hx;exact .k h1⟩
  | right h1=>exact ⟨_,_,rfl,λ x hx=>by simp at hx;subst hx;exact .k h1⟩
  | way h1 h2=>exact ⟨_,_,rfl,λ x hx=>by simp at hx;rcases hx with rfl | rfl;exact .bag h1;exact .k h2⟩
theorem HF.sz {d:D} {is:List D} {bs:List (List D)} (h:HF d is bs):bGq is < tsz d/\∀ b∈bs,bGq b < tsz d/\b.length<=wid d:=by
  cases h with
  | way ds k=>
    refine ⟨by simp only [f0q,bGq,tsz];omega,λ b hb=>?_⟩
    simp at hb;subst hb
    exact ⟨by simp only [bGq,tsz];omega,by simp only [wid,lHq];omega⟩
  | _=>exact ⟨by simp only [bGq,tsz];omega,by simp⟩
theorem HF.mem {d:D} {is:List D} {bs:List (List D)} (h:HF d is bs) {L:Addr->Prop} (t:Th L d) {s p w:Nat} (b:Bd s p w d):∀ x∈is,Th L x/\Bd s p w x:=by
  have it:∀ ds:List D,Th L (.tup ds)->Bd s p w (.tup ds)->∀ x∈ds,Th L x/\Bd s p w x:=λ ds t b x hx=>⟨t.items x hx,(b.item hx).mono (by omega) (by omega) (Nat.le_refl _)⟩
  cases h with
  | is n=>intro x hx;simp at hx
  | some=>intro x hx;simp at hx
  | both _ _=>intro x hx;exact it _ t b x (List.mem_cons_of_mem _ hx)
  | left a=>intro x hx;exact it _ t b x (List.mem_cons_of_mem _ hx)
  | right a=>intro x hx;exact it _ t b x (List.mem_cons_of_mem _ hx)
  | way ds k=>
    intro x hx
    rcases List.mem_append.mp hx with hx | hx
    . obtain ⟨t2,b2⟩:=it _ t b (.tup ds) (by simp)
      exact it _ t2 b2 x hx
    . simp at hx;subst hx;exact it _ t b _ (by simp)
theorem l1q (ds:List D):bGq ds.reverse=bGq ds:=q8q (List.reverse_perm ds)
theorem Dw.of {a:Addr} {G G':DV} (h:Fx a G G'):Dw a G G':=⟨G',h,.refl _⟩
theorem Dw.kp {a:Addr} {G G':DV} (h:Dw a G G') {b:Addr} {o:DO} (hb:b≠a) (e:G b=some o):G' b=some o:=by
  obtain ⟨G0,u,s⟩:=h
  exact s _ _ (u.kp hb e)
theorem Dw.fd {a:Addr} {G G':DV} (h:Dw a G G'):Fd G' a:=by
  obtain ⟨G0,u,s⟩:=h
  obtain ⟨x,y,e⟩:=u.fd
  exact ⟨x,y,s _ _ e⟩
theorem Dw.trans {a:Addr} {G G1 G2:DV} (h:Dw a G G1) (g:Dw a G1 G2):Dw a G G2:=by
  obtain ⟨G0,u,s⟩:=g
  exact r7q (λ b o nb e=>h.kp nb e) u s
theorem q4q {α:Type} {xs:List α} {k:Nat} (h:k<=xs.length):cut xs (some (k:Int)) none=xs.drop k:=by
  unfold cut
  rw [show HT.sIx xs.length xs.length none=xs.length from rfl,show HT.sIx xs.length 0 (some (k:Int))=k by unfold HT.sIx;simp only [];rw [if_neg (by omega)];omega]
  rw [List.take_of_length_le (by rw [List.length_drop];omega)]
end L3
namespace L2
open PySem PySem.Spec PyProof.Rows
section
variable {prog:Program} {w:World} {A:Around} {E:Value->Shared->Prop} {s:Shared} {e it:Addr} {i:Nat} {old:Value}
theorem oLq {R:Value->Prop} {P:Heap->Prop} {Q:Option Value->Shared->Prop} (he:IsEnum s.heap e it i old) (hne:e≠it) (hP:∀ h h',P h->(∀ o,h.get? it=some o->h'.get? it=some o)->P h')
    (hn:∀ (A:Around) (Q:Value->Shared->Prop) (E:Value->Shared->Prop),(∀ h₁ tk x,R x->Heap.SameBut it s.heap h₁->P h₁->Q x { s with heap:=h₁,toks:=tk })->wpAny (model prog w) A (Builtin.SmallTypes.nextOf (.ref it)) Q E s)
    (hQ:∀ h' tk x t,R x->IsEnumOut h' e it ((i:Int)+1) x s.heap.objs.size->P h'->h'.get? s.heap.objs.size=some { cls:=.type "tuple", data:=.seq #[.int i t,x] } →
      (∀ b o,b≠e->b≠it->s.heap.get? b=some o->h'.get? b=some o)->Q (some (.ref s.heap.objs.size)) { s with heap:=h',toks:=tk }) :
    wpAny (model prog w) A (pyNext (.ref e)) Q E s:=by
  have hT:s.TypeIs (.ref e) "enumerate":=⟨_,he,rfl⟩
  unfold pyNext
  refine wpAny_bind (wpAny_attempt (wpAny_callSpecial?_slot (name:=Str.ofString "__next__") hT PySem.F.slot_enumerate_next (wpAny_call_entry PySem.F.slot_enumerate_next hT PySem.F.entry_enumerate_next ?_ (PySem.F.args_enumerate_next_1 _))))
  obtain ⟨hp,g,d,tk,os⟩:=s
  refine (show wpAny _ _ (field (.ref e) 2 >>= _) _ _ _ from wpAny_bind (wpAny_field he rfl (x:=.ref it) rfl (wpAny_bind (hn _ _ _ λ h₁ tk1 x rx s1 p1=>?_))))
  replace s1:Heap.SameBut it hp h₁:=s1
  have e1:IsEnum h₁ e it i old:=(s1.2 e hne).trans he
  refine (show wpAny _ _ (field (.ref e) 3 >>= _) _ _ ⟨h₁,g,d,tk1,os⟩ from wpAny_bind (wpAny_field e1 rfl (x:=rawInt i) rfl ?_))
  refine (show wpAny _ _ (field (.ref e) 4 >>= _) _ _ ⟨h₁,g,d,tk1,os⟩ from wpAny_bind (wpAny_field e1 rfl (x:=.none) rfl ?_))
  refine (show wpAny _ _ (mkInt i >>= _) _ _ ⟨h₁,g,d,tk1,os⟩ from wpAny_bind (wpAny_mkInt ?_))
  refine (show wpAny _ _ (setField (.ref e) 3 (rawInt ((i:Int)+1)) >>= _) _ _ ⟨h₁,g,d,tk1+1,os⟩ from wpAny_bind (wpAny_setField_rec e1 (by simp) λ h₂ e2 s2=>?_))
  replace s2:Heap.SameBut e h₁ h₂:=s2
  replace e2:IsEnum h₂ e it ((i:Int)+1) old:=e2
  refine (show wpAny _ _ (setField (.ref e) 4 .none >>= _) _ _ ⟨h₂,g,d,tk1+1,os⟩ from wpAny_bind (wpAny_setField_rec e2 (by simp) λ h₃ e3 s3=>?_))
  replace s3:Heap.SameBut e h₂ h₃:=s3
  replace e3:IsEnum h₃ e it ((i:Int)+1) old:=e3
  refine (show wpAny _ _ (newTuple [.int i tk1,x] >>= _) _ _ ⟨h₃,g,d,tk1+1,os⟩ from wpAny_bind (wpAny_newTuple ?_))
  have e4:IsEnum (h₃.push { cls:=.type "tuple", data:=.seq #[.int i tk1,x] }) e it ((i:Int)+1) old:=Heap.get?_push_of_some _ e3
  have hsz:h₃.objs.size=hp.objs.size:=by rw [s3.1,s2.1,s1.1]
  have hel:e < hp.objs.size:=Heap.lt_size he
  have t4:(h₃.push { cls:=.type "tuple", data:=.seq #[.int i tk1,x] }).get? hp.objs.size=some { cls:=.type "tuple", data:=.seq #[.int i tk1,x] }:=by rw [<- hsz];exact Heap.get?_push_size _ rfl
  have k4:∀ b o,b≠e->b≠it->hp.get? b=some o->(h₃.push { cls:=.type "tuple", data:=.seq #[.int i tk1,x] }).get? b=some o:=λ b o hbe hbi hb=>Heap.get?_push_of_some _ (s3.extBut b o hbe (s2.extBut b o hbe (s1.extBut b o hbi hb)))
  have p4:P (h₃.push { cls:=.type "tuple", data:=.seq #[.int i tk1,x] }):=hP _ _ p1 λ o ho=>Heap.get?_push_of_some _ (s3.extBut _ _ (Ne.symm hne) (s2.extBut _ _ (Ne.symm hne) ho))
  rw [hsz]
  generalize h₃.push { cls:=.type "tuple", data:=.seq #[.int i tk1,x] }=h₄ at e4 t4 k4 p4 ⊢
  refine (show wpAny _ _ (Builtin.SmallTypes.ownedTupleIsFree (.ref e) >>= _) _ _ ⟨h₄,g,d,tk1+1,os⟩ from wpAny_bind ?_)
  unfold Builtin.SmallTypes.ownedTupleIsFree
  refine wpAny_bind (wpAny_field e4 rfl (x:=.none) rfl (wpAny_pure ?_))
  simp only [if_true]
  refine wpAny_bind (wpAny_rule (wpAny_bind (wpAny_field e4 rfl (x:=old) rfl (wpAny_bind (wpAny_setField_rec e4 (by simp) λ h₅ e5 s5=>?_)))))
  replace s5:Heap.SameBut e h₄ h₅:=s5
  replace e5:IsEnum h₅ e it ((i:Int)+1) x:=e5
  refine (show wpAny _ _ (Builtin.SmallTypes.ownedTupleHandOut (.ref e) (.ref hp.objs.size) >>= _) _ _ ⟨h₅,g,d,tk1+1,os⟩ from wpAny_bind ?_)
  unfold Builtin.SmallTypes.ownedTupleHandOut
  refine wpAny_bind (wpAny_setField_rec e5 (by simp) λ h₆ e6 s6=>?_)
  replace s6:Heap.SameBut e h₅ h₆:=s6
  replace e6:IsEnumOut h₆ e it ((i:Int)+1) x hp.objs.size:=e6
  refine wpAny_setField_rec e6 (by simp) λ h₇ e7 s7=>?_
  replace s7:Heap.SameBut e h₆ h₇:=s7
  replace e7:IsEnumOut h₇ e it ((i:Int)+1) x hp.objs.size:=e7
  have kk:∀ b o,b≠e->h₄.get? b=some o->h₇.get? b=some o:=λ b o hb q=>s7.extBut b o hb (s6.extBut b o hb (s5.extBut b o hb q))
  exact wpAny_bind (wpAny_letGo (wpAny_pure ⟨_,rfl,wpAny_pure (hQ h₇ _ x tk1 rx e7 (hP _ _ p4 λ o ho=>kk _ _ (Ne.symm hne) ho) (kk _ _ (Nat.ne_of_gt hel) t4) λ b o hb hi q=>kk b o hb (k4 b o hb hi q))⟩))
theorem rXq {Q:Option Value->Shared->Prop} (he:IsEnum s.heap e it i old)
    (hn:∀ (A:Around) (Q:Value->Shared->Prop) (E:Value->Shared->Prop),A.handled=none->(∀ h' x,Heap.ExtBut it s.heap h'->(∃ o,h'.get? x=some o/\o.cls=.type "StopIteration")->E (.ref x) { s with heap:=h' })->wpAny (model prog w) A (Builtin.SmallTypes.nextOf (.ref it)) Q E s)
    (hh:A.handled=none) (hQ:∀ h',Heap.ExtBut it s.heap h'->Q none { s with heap:=h' }):wpAny (model prog w) A (pyNext (.ref e)) Q E s:=by
  have hT:s.TypeIs (.ref e) "enumerate":=⟨_,he,rfl⟩
  unfold pyNext
  refine wpAny_bind (wpAny_attempt (wpAny_callSpecial?_slot (name:=Str.ofString "__next__") hT PySem.F.slot_enumerate_next (wpAny_call_entry PySem.F.slot_enumerate_next hT PySem.F.entry_enumerate_next ?_ (PySem.F.args_enumerate_next_1 _))))
  refine (show wpAny _ _ (field (.ref e) 2 >>= _) _ _ _ from wpAny_bind (wpAny_field he rfl (x:=.ref it) rfl (wpAny_bind (hn _ _ _ hh λ h' x e' hx=>?_))))
  obtain ⟨o,ho,hc⟩:=hx
  refine wpAny_bind (wpAny_isInstance (T:="StopIteration") (b:=true) ⟨o,ho,hc⟩ isSubtype_stop ?_)
  exact wpAny_pure (hQ _ e')
end
def ItEn (z:Str):It:=⟨λ i _=>i < z.length,λ i H x H'=>∃ T c,z.cps[i]?=some c/\x=.ref T/\H T=none/\H'=upd H T (.tup [.int i,.str ⟨#[c]⟩]),λ i _=>z.length<=i⟩
theorem d2q {h h':Heap} {it:Addr} {ty:String} {z:Str} {t:Tok} {i:Nat} (x:h.IsStrIter it ty z t i) (k:∀ o,h.get? it=some o->h'.get? it=some o):h'.IsStrIter it ty z t i:=let ⟨o,ho,r⟩:=x;⟨o,k o ho,r⟩
theorem oEq {P:Program} {w:World} {K:PySem.W.Frag} {es:List Expr} {k:Nat} {pos:Pos} (e it:Addr) (z:Str) (t:Tok) (ty:String) (hty:ty = "str_ascii_iterator"\/ty = "str_iterator") (hne:e≠it) :
    Turn P w K (.Tuple es k pos) (ItEn z) [e,it] e (λ i h=>i<=z.length/\(∃ old,IsEnum h e it i old)/\h.IsStrIter it ty z t i) where
  mem:=by simp
  obj:=λ i h st b hb=>by
    obtain ⟨_,⟨old,a1⟩,o,a2,c,d⟩:=st
    simp only [List.mem_cons,List.not_mem_nil,or_false] at hb
    rcases hb with rfl | rfl
    . exact ⟨_,a1,λ v z=>by cases (show Data.fields _=Data.cell v from z)⟩
    . exact ⟨o,a2,λ v z=>by rw [d] at z;cases z⟩
  keep:=λ i h h' st kk=>⟨st.1,let ⟨old,a1⟩:=st.2.1;⟨old,kk _ (by simp) _ a1⟩,d2q st.2.2 λ o ho=>kk _ (by simp) _ ho⟩
  item:=by
    intro X hP hw hK hc i pins s σ H E I hf st hg
    subst hP hw hK
    obtain ⟨_,⟨old,a1⟩,a2⟩:=st
    obtain ⟨c,hx⟩:∃ c,z.cps[i]?=some c:=⟨z.cps[i]'hg,Array.getElem?_eq_getElem hg⟩
    refine oLq (R:=λ x=>∃ u,x=.str ⟨#[c]⟩ u) (P:=λ h=>h.IsStrIter it ty z t (i+1)) a1 hne (λ h h' p k=>d2q p k) (λ A Q E q=>?_) λ h' tk x u rx Out p' hT kk=>?_
    . rcases hty with rfl | rfl
      . exact wpAny_nextOf_ascii_item a2 hx λ h' p sb=>q h' _ _ ⟨_,rfl⟩ sb p
      . exact wpAny_nextOf_wide_item a2 hx λ h' p sb=>q h' _ _ ⟨_,rfl⟩ sb p
    obtain ⟨u2,rfl⟩:=rx
    refine ⟨_,rfl,wpAny_letOwnedTupleGo_enum (s:={ s with heap:=h',toks:=tk }) Out λ h2 J2 sb=>?_⟩
    have el:e < s.heap.objs.size:=Heap.lt_size a1
    have il:it < s.heap.objs.size:=let ⟨_,ho,_⟩:=a2;Heap.lt_size ho
    have I1:Inv X pins σ (upd H s.heap.objs.size (.tup [.int i,.str ⟨#[c]⟩])) { s with heap:=s.heap.push { cls:=.type "tuple", data:=.seq #[.int i u,.str ⟨#[c]⟩ u2] } }:=
      I.laid (t':=s.toks) (λ b o e=>Heap.get?_push_of_some _ e) (Nat.le_refl _) (show ObjOk X.prog X.w _ _ _ (.tup [.int i,.str ⟨#[c]⟩]) from ⟨by show 2<=sizeLine;decide,[.int i u,.str ⟨#[c]⟩ u2],.cons ⟨_,rfl⟩ (.cons ⟨_,rfl⟩ .nil),IsTup.new _ _⟩)
    have lts:∀ b∈[e,it],b < s.heap.objs.size:=λ b hb=>by
      simp only [List.mem_cons,List.not_mem_nil,or_false] at hb
      rcases hb with rfl | rfl
      . exact el
      . exact il
    have I2:Inv X pins σ (upd H s.heap.objs.size (.tup [.int i,.str ⟨#[c]⟩])) { s with heap:=h2,toks:=tk }:=
      Inv.turnedL (s:={ s with heap:=s.heap.push { cls:=.type "tuple", data:=.seq #[.int i u,.str ⟨#[c]⟩ u2] } }) (h':=h2) (t':=tk) (fp:=[e,it]) I1 (λ b hb=>by
        obtain ⟨f0,fr⟩:=hf b hb
        exact ⟨by rw [b0q (Nat.ne_of_lt (lts b hb))];exact f0,fr⟩) (λ b o hb q=>by
        have hb':b≠e/\b≠it:=by simpa using hb
        rcases Heap.get?_push_cases q with ⟨z1,z2⟩ | q
        . rw [z1,z2];exact sb.extBut _ _ (Nat.ne_of_gt el) hT
        . exact sb.extBut _ _ hb'.1 (kk b o hb'.1 hb'.2 q))
    exact ⟨.ref s.heap.objs.size,_,I2,rfl,⟨_,c,hx,rfl,I.hok.fresh (Nat.le_refl _),rfl⟩,⟨hg,⟨_,J2⟩,d2q p' λ o ho=>sb.extBut _ _ (Ne.symm hne) ho⟩,λ b hb=>by rw [b0q (Nat.ne_of_lt (lts b hb))];exact (hf b hb).1⟩
  done:=by
    intro X hP hw hK hc i pins s σ H E I hf st hg
    subst hP hw hK
    obtain ⟨_,⟨old,a1⟩,a2⟩:=st
    have hx:z.cps[i]?=none:=Array.getElem?_eq_none hg
    refine rXq a1 (λ A Q E hh q=>?_) (I.ok.hd hc) λ h' eb=>⟨rfl,?_⟩
    . rcases hty with rfl | rfl
      . exact wpAny_nextOf_ascii_end hh a2 hx q
      . exact wpAny_nextOf_wide_end hh a2 hx q
    . refine I.turnedL (t':=s.toks) (fp:=[e,it]) hf λ b o hb q=>?_
      have hb':b≠e/\b≠it:=by simpa using hb
      exact eb b o hb'.2 q
  self:=λ _ _ _ _ _ st h=>by
    obtain ⟨_,⟨old,a1⟩,_⟩:=st
    exact wpAny_pyIter_enum a1 h
section
variable {X:Cx}
theorem mQq (x:Str):strIterType x = "str_ascii_iterator"\/strIterType x = "str_iterator":=by
  unfold strIterType;split<;>simp
def iEn (t:TA):TI:=λ σ H R=>t σ H λ vs H1=>∃ z,vs=[.str z]/\R (ItEn z) H1
theorem uHq {es:List Expr} {k:Nat} {tp:Pos} {a:Expr} {ta:TA} {p pos:Pos} (hg:Gl X "enumerate") (hm:X.mg "enumerate" = none) (ha:PA X [a] ta) (hs:bAq a=true):PI X (.Tuple es k tp) (.Call (.Name "enumerate" p) [a] [] pos) (iEn ta):=by
  intro pins s σ H R I h
  refine Call_ (e6q I hg hm PyProof.Rows.boot_enumerate (PyProof.Rows.callWith_type1 (thn (ha pos pins s σ H _ I h) λ us s1 ⟨vs,H1,I1,r1,z,ev,q⟩=>?_) (aLq hs) rfl))
  subst ev
  cases r1 with
  | cons r rr=>
    cases rr
    obtain ⟨t,rfl⟩:=r
    refine call_enumerate_str λ h' a1 a2 _ kk=>?_
    refine wpAny_pyIter_enum a1 ?_
    refine ⟨s1.heap.objs.size+1,[s1.heap.objs.size+1,s1.heap.objs.size],_,_,H1,rfl,I1.kept (t':=s1.toks) kk,oEq _ _ z t _ (mQq z) (Nat.succ_ne_self _),⟨Nat.zero_le _,⟨_,a1⟩,a2⟩,λ b hb=>?_,q⟩
    have hb':s1.heap.objs.size<=b:=by
      simp only [List.mem_cons,List.not_mem_nil,or_false] at hb
      rcases hb with e | e<;>(rw [e];first | exact Nat.le_refl _ | exact Nat.le_add_right _ _)
    exact I1.fpOk hb' (I1.hok.fresh hb')
end
end L2
namespace L3
open PySem PySem.Spec L2
section
variable {X:Cx} {es:List Expr} {a:Expr} {t:DTA} {p pos:Pos}
def enS (z:Str):List D:=z.cps.toList.zipIdx.map λ c=>.tup [.int (c.2:Int),.str ⟨#[c.1]⟩]
abbrev diEn (t:DTA):DTI:=λ ρ G R=>t ρ G λ ds G1=>match ds with
  | [.str z]=>R ⟨enS z,λ _=>True⟩ G1
  | _=>False
theorem t0q {k:Nat} {tp:Pos} (hg:Gl X "enumerate") (hm:X.mg "enumerate" = none) (ha:AA X [a] t) (hs:bAq a=true:=by rfl):AI X (.Tuple es k tp) (.Call (.Name "enumerate" p) [a] [] pos) (diEn t):=by
  obtain ⟨ca,ja,ra⟩:=ha.run
  refine ⟨_,⟨uHq hg hm ja.run hs⟩,λ ρ G DR σ H R B q F=>ra ρ G _ σ H _ B q λ ds G1 vs H1 g1 al hl q1=>?_⟩
  split at q1
  . next z=>
    obtain ⟨v,r,rfl,rfl,e⟩:=al
    cases e
    refine ⟨z,rfl,F ⟨enS z,λ _=>True⟩ _ G1 H1 g1 (λ G2 H2 g2 _=>⟨λ n d hd=>?_,λ n hn=>?_⟩) q1⟩
    . replace hd:(enS z)[n]?=some d:=hd
      unfold enS at hd
      rw [List.getElem?_map,List.getElem?_zipIdx] at hd
      cases hc:z.cps.toList[n]? with
      | none=>rw [hc] at hd;cases hd
      | some c=>
        rw [hc] at hd
        simp at hd
        subst hd
        have hlt:=(List.getElem?_eq_some_iff.mp hc).1
        refine ⟨hlt,λ x H' y=>?_⟩
        obtain ⟨T,c',e1,rfl,hT,rfl⟩:=y
        rw [<- Array.getElem?_toList,hc] at e1
        cases e1
        have g3:=Go.newT (o:=.tup [.int n,.str ⟨#[c]⟩]) g2.vw hT
        exact ⟨g3,T,_,rfl,.of bHq,⟨_,_,rfl,rfl,.one rfl⟩⟩
    . replace hn:(enS z).length<=n:=hn
      unfold enS at hn
      rw [List.length_map,List.length_zipIdx] at hn
      exact hn
  . exact q1.elim
end
end L3
namespace L2
open PySem PySem.Spec PyProof.Rows
section
variable {X:Cx}
def ev2 {α:Type}:List α->List α
  | x::_::r=>x::ev2 r
  | [x]=>[x]
  | []=>[]
theorem nRq {α:Type}:∀ (xs:List α) (i:Nat),(ev2 xs)[i]?=xs[2 * i]?
  | [],i=>by simp [ev2]
  | [x],0=>rfl
  | [x],i+1=>by simp [ev2]
  | x::y::r,0=>rfl
  | x::y::r,i+1=>by
    rw [ev2,List.getElem?_cons_succ,nRq r i,show 2 * (i+1)=2 * i+1+1 by omega,List.getElem?_cons_succ,List.getElem?_cons_succ]
theorem kWq {α:Type}:∀ xs:List α,(ev2 xs).length=(xs.length+1) / 2
  | []=>by simp [ev2]
  | [x]=>by simp [ev2]
  | x::y::r=>by rw [ev2,List.length_cons,kWq r,List.length_cons,List.length_cons];omega
theorem aI2q (its:List Value) (a:Nat):slicePick its.toArray (some (a:Int)) none (some 2)=(ev2 (its.drop a)).toArray:=by
  unfold slicePick sliceBounds sliceRange
  simp only [Option.getD_some,List.size_toArray]
  congr 1
  by_cases ha:a<=its.length
  case neg=>
    have e1:(max (0:Int) (min (if (a:Int) < 0 then (a:Int)+its.length else a) its.length))=its.length:=by rw [if_neg (by omega)];omega
    simp only [show (2:Int) > 0 by decide,if_true,e1]
    rw [if_neg (by omega),List.drop_eq_nil_of_le (by omega)]
    rfl
  have e1:(max (0:Int) (min (if (a:Int) < 0 then (a:Int)+its.length else a) its.length))=a:=by rw [if_neg (by omega)];omega
  simp only [show (2:Int) > 0 by decide,if_true,e1]
  have hc:(if (a:Int) < (its.length:Int) then ((its.length:Int) - a+2 - 1) / 2 else 0).toNat=(ev2 (its.drop a)).length:=by
    rw [kWq,List.length_drop]
    split<;>omega
  rw [hc,List.filterMap_map]
  have hf:((λ x=>its.toArray[x]?) ∘ λ(k:Nat)=>((a:Int)+2 * (k:Int)).toNat)=λ k=>(ev2 (its.drop a)).toArray[k]?:=by
    funext k
    show its.toArray[((a:Int)+2 * (k:Int)).toNat]?=(ev2 (its.drop a)).toArray[k]?
    rw [show ((a:Int)+2 * (k:Int)).toNat=a+2 * k by omega,List.getElem?_toArray,List.getElem?_toArray,nRq,List.getElem?_drop]
  rw [hf]
  have z:=PySem.W.krv_all (ev2 (its.drop a)).toArray
  rw [List.size_toArray] at z
  exact z
theorem iPq:∀ {xs:List V} {us:List Value} (n:Nat),Vals xs us->Vals (xs.drop n) (us.drop n)
  | _,_,0,r=>r
  | _,_,_+1,.nil=>.nil
  | _,_,n+1,.cons _ t=>iPq n t
theorem lNq:∀ {xs:List V} {us:List Value},Vals xs us->Vals (ev2 xs) (ev2 us)
  | _,_,.nil=>.nil
  | _,_,.cons r .nil=>.cons r .nil
  | _,_,.cons r (.cons _ t)=>.cons r (lNq t)
variable {e lo st:Expr} {te:TE} {tl tk:TO} {pos p2:Pos}
def tEv (K:PySem.W.Frag) (te:TE) (tl tk:TO):TE:=λ σ H Q=>te σ H λ x H1=>tl σ H1 λ l H2=>tk σ H2 λ k H3=>k=some 2/\∃ (a:Addr) (xs:List V) (n:Nat),l=some (n:Int)/\x=.ref a/\SqL K H3 a xs/\∀ p,H3 p=none->Q (.ref p) (upd H3 p (.lst (ev2 (xs.drop n))))
theorem aI3q (he:PE X e te) (hl:PO X (some lo) tl) (hk:PO X (some st) tk):PE X (.Subscript e (.Slice (some lo) none (some st) p2) pos) (tEv X.K te tl tk):=by
  intro pins s σ H Q I h
  refine Subscript_ (thn (he pins s σ H _ I h) λ v s1 ⟨x,H1,I1,r1,q1⟩=>?_)
  refine wpAny_Slice (thn (hl pins s1 σ H1 _ I1 q1) λ vl s2 ⟨l,H2,I2,pl,q2⟩=>?_)
  rw [evalPart_none]
  refine wpAny_pure ?_
  refine thn (hk pins s2 σ H2 _ I2 q2) λ vk s3 ⟨k,H3,I3,pk,e1,a,xs,n,e2,e3,hx,q3⟩=>?_
  subst e1 e2 e3
  cases r1
  have I4:Inv X pins σ H3 { s3 with heap:=s3.heap.push { cls:=.type "slice", data:=.fields #[vl,.none,vk] } }:=I3.kept (t':=s3.toks) λ b ob q=>Heap.get?_push_of_some _ q
  obtain ⟨its,r,ht,hz⟩:=I4.list hx
  have hlen:=r.length
  show wpAny (model X.prog X.w) X.A (subscriptTail e (.Slice (some lo) none (some st) p2) (.ref a) (.ref s3.heap.objs.size)) (EP X pins σ Q) X.xe { s3 with heap:=s3.heap.push { cls:=.type "slice", data:=.fields #[vl,.none,vk] } }
  refine tail_any (ops:=[.ref a,.ref s3.heap.objs.size]) ht.isList.typeIs slot_list_getitem.lookup ?_ (by with_unfolding_all rfl)
  refine wpAny_getItem_list_slice ht.isList (Heap.IsSliceOf.new ..) pl .none pk (by simp) ?_ (by rw [List.size_toArray];omega)
  rw [aI2q its n]
  have hle:(ev2 (xs.drop n)).length<=xs.length:=by rw [kWq,List.length_drop];omega
  refine ⟨.ref _,_,I4.laid (t':=s3.toks) (o:=.lst (ev2 (xs.drop n))) (λ b ob q=>Heap.get?_push_of_some _ q) (Nat.le_refl _) ?_,rfl,q3 _ (I4.hok.fresh (Nat.le_refl _))⟩
  exact ⟨by omega,_,0,lNq (iPq n r),Heap.get?_push_size _ rfl⟩
def aG0q:List V->Hp->VK->Prop:=λ xs H Q=>∃ z n,xs=[.str z]/\PySem.intText? z=some n/\z.length<=640/\Q (.int n) H
theorem q7q:CallR X (.type "int") aG0q:=by
  intro pins s σ H xs us Q I r h
  obtain ⟨z,n,rfl,hn,hl,q⟩:=h
  obtain ⟨u,rfl,rx⟩:=g9q r
  obtain ⟨t,rfl⟩:=rx
  exact PySem.W.KIN.call_text hn hl ⟨.int n,H,I.tok _,⟨_,rfl⟩,q⟩
end
end L2
namespace L3
open PySem PySem.Spec L2
section
variable {X:Cx} {e lo st:Expr} {te:DTE} {tl tk:DTO} {pos p2:Pos}
def aU5q:D->List D->DV->DK->Prop:=λ x xs G Q=>match x,xs with
  | .ref l,[]=>onM G l λ ds=>Q .non (up G l (.lst ds.reverse))
  | _,_=>False
theorem AbsL.ev2 {K:PySem.W.Frag} {H:Hp}:∀ {ds:List D} {vs:List V},AbsL K H ds vs->AbsL K H (L2.ev2 ds) (L2.ev2 vs)
  | [],_,h=>by rw [show _=[] from h];rfl
  | [d],_,⟨v,r,e,q,l⟩=>by subst e;rw [show r=[] from l];exact ⟨v,[],rfl,q,rfl⟩
  | d::d'::ds,_,⟨v,r,e,q,v',r',e',q',l⟩=>by subst e e';exact ⟨v,_,rfl,q,AbsL.ev2 l⟩
abbrev dEv (te:DTE) (tl tk:DTO):DTE:=λ ρ G Q=>te ρ G λ x G1=>tl ρ G1 λ l G2=>tk ρ G2 λ k G3=>k=some 2/\match x with
  | .ref a=>onL G3 a λ ds=>∃ n:Nat,l=some (n:Int)/\∀ p,G3 p=none->Q (.ref p) (up G3 p (.lst (L2.ev2 (ds.drop n))))
  | _=>False
theorem rUq (he:AE X e te) (hl:AO X (some lo) tl) (hk:AO X (some st) tk):AE X (.Subscript e (.Slice (some lo) none (some st) p2) pos) (dEv te tl tk):=by
  obtain ⟨ce,je,re⟩:=he.run
  obtain ⟨cl,jl,rl⟩:=hl.run
  obtain ⟨ck,jk,rk⟩:=hk.run
  refine ⟨_,⟨aI3q je.run jl.run jk.run⟩,λ ρ G DQ σ H Q B q F=>re ρ G _ σ H _ B q λ x G1 v H1 g1 ax q1=>rl ρ G1 _ σ H1 _ (B.go g1) q1 λ l G2 H2 g2 q2=>rk ρ G2 _ σ H2 _ ((B.go g1).go g2) q2 λ k G3 H3 g3 ⟨e1,q3⟩=>?_⟩
  cases x with
  | ref a=>
    cases ax
    obtain ⟨ds,vs,⟨n,e2,k2⟩,s,r⟩:=b9q g3.vw q3
    exact ⟨e1,a,vs,n,e2,rfl,s,λ p hp=>F (.ref p) _ _ _ (((g1.trans g2).trans g3).trans (Go.newL g3.vw hp (r.drop n).ev2)) rfl (k2 p (g3.vw.none hp))⟩
  | _=>exact (show False from q3).elim
def aJ9q:D->DV->DK->Prop:=λ x G Q=>match x with
  | .str z=>∃ n,PySem.intText? z=some n/\z.length<=640/\Q (.int n) G
  | _=>False
theorem mLq:ACall X (.type "int") (pKq aJ9q):=by
  refine ⟨_,⟨q7q⟩,λ xs vs G H DQ Q v a r F=>?_⟩
  obtain ⟨x,u,rfl,rfl,ax,r⟩:=bXq r a
  cases x with
  | str z=>cases ax;obtain ⟨n,hn,hl,q⟩:=r;exact ⟨z,n,rfl,hn,hl,F (.int n) G _ H (.refl v) rfl q⟩
  | _=>exact (show False from r).elim
end
end L3
namespace L2
open PySem PySem.Spec PyProof.Rows
section
variable {X:Cx}
end
end L2
namespace L3
open PySem PySem.Spec L2
section
variable {X:Cx} {es:List Expr} {a b:Expr} {t:DTA} {p pos:Pos}
end
end L3
namespace L2
open PySem PySem.Spec PyProof.Rows
section
variable {X:Cx}
theorem v1q {α:Type} (xs:List α) (n:Nat) (h1:n<=1000) (h2:xs.length<=1000):(List.replicate n xs).flatten.length<=1000000:=by
  have e:(List.replicate n xs).flatten.length=n * xs.length:=by
    induction n with
    | zero=>simp
    | succ n ih=>rw [List.replicate_succ,List.flatten_cons,List.length_append,ih (by omega),Nat.succ_mul];omega
  rw [e]
  have:=Nat.mul_le_mul h1 h2;omega
end
end L2
namespace L3
open PySem PySem.Spec L2
theorem AbsL.rep {K:PySem.W.Frag} {H:Hp} {ds:List D} {vs:List V} (h:AbsL K H ds vs):∀ n,AbsL K H (List.replicate n ds).flatten (List.replicate n vs).flatten
  | 0=>rfl
  | n+1=>by rw [List.replicate_succ,List.replicate_succ,List.flatten_cons,List.flatten_cons];exact h.append (AbsL.rep h n)
section
variable {X:Cx}
end
end L3
namespace L2
open PySem PySem.Spec PyProof.Rows
section
variable {X:Cx}
def aM0q (K:PySem.W.Frag):R2:=λ x y H Q=>∃ (a:Addr) (xs:List V) (n:Int),x=.ref a/\y=.int n/\SqL K H a xs/\-1000<=n/\n<=1000/\xs.length<=1000/\∀ p,H p=none->Q (.ref p) (upd H p (.lst (List.replicate n.toNat xs).flatten))
theorem vDq:OpR X (binaryOp .Mult) (aM0q X.K):=by
  intro pins s σ H x y v u Q I rx ry h
  obtain ⟨a,xs,n,rfl,rfl,ha,h0,hn,hx,q⟩:=h
  cases rx
  obtain ⟨t,rfl⟩:=ry
  obtain ⟨its,r,p,hz⟩:=I.list ha
  have hlen:=r.length
  have hn':n.toNat<=1000:=by omega
  obtain ⟨⟨cls,d,data,sl⟩,ho,hcl,k,hd⟩:=id p.isList
  simp only at hcl hd
  subst hcl hd
  have hsz':its.toArray.size * n.toNat<=1000000:=by
    rw [List.size_toArray,<- hlen]
    have:=Nat.mul_le_mul hx hn';omega
  refine wpAny_binaryOp_repeat_ref (T:="list") (U:="int") (by decide) ⟨_,ho,rfl⟩ (λ s'=>typeIs_int s' n t) noFill_list_mul F.fills_int_mul F.slot_int_rmul repeat_list F.slot_int_index.lookup
    (call_meets F.slot_int_rmul (typeIs_int s n t) F.entry_int_rmul (F.args_int_rmul_2 _ _) (lm_int_rmul_list_any n t a its.toArray k d sl)
      ⟨ho,rfl,⟨_,ho,rfl⟩,call_meets F.slot_list_mul ⟨_,ho,rfl⟩ F.entry_list_mul (F.args_list_mul_2 _ _)
        (lm_list_mul_any a its.toArray k d sl n t (by simp [Builtin.List.listFitsIndex];omega) (by omega) (by unfold Builtin.List.listTooLong;rw [decide_eq_true_eq,sizeLine_eq];omega))
        ⟨ho,?_⟩⟩)
  rw [listMul_foldl_if]
  refine ⟨.ref s.heap.objs.size,_,I.laid (t':=s.toks) (o:=.lst (List.replicate n.toNat xs).flatten) (λ b ob q=>Heap.get?_push_of_some _ q) (Nat.le_refl _) ?_,rfl,q _ (I.hok.fresh (Nat.le_refl _))⟩
  exact ⟨by have:=v1q xs n.toNat hn' hx;rw [sizeLine_eq];omega,_,0,lFq r n.toNat,Heap.get?_push_size _ rfl⟩
end
end L2
namespace L3
open PySem PySem.Spec L2
section
variable {X:Cx}
def zOq:DR2:=λ x y G Q=>match x,y with
  | .ref l,.int n=>onL G l λ ds=>-1000<=n/\n<=1000/\ds.length<=1000/\∀ p,G p=none->Q (.ref p) (up G p (.lst (List.replicate n.toNat ds).flatten))
  | _,_=>False
theorem lOq:AOp X (binaryOp .Mult) zOq:=by
  refine ⟨_,⟨vDq⟩,λ x y vx vy G H DQ Q v ax ay r F=>?_⟩
  unfold zOq at r
  split at r
  . next l n=>
    cases ax;cases ay
    obtain ⟨ds,vs,⟨h0,h1,h2,k⟩,s,rl⟩:=b9q v r
    exact ⟨l,vs,n,rfl,rfl,s,h0,h1,by rw [rl.len];exact h2,λ p hp=>F (.ref p) _ _ _ (Go.newL v hp (rl.rep _)) rfl (k p (v.none hp))⟩
  . exact r.elim
end
end L3
namespace L3
open PySem L2 PySem.NumText PyProof.Rows PySem.W PySem.W.KIN
abbrev cOq (n:Int):Str:=Str.ofString (toString n)
abbrev dg (m:Nat):List Nat:=(Nat.toDigits 10 m).map Char.toNat
theorem cJq (m:Nat):AllDigits (dg m):=by
  intro c hc
  obtain ⟨ch,hch,e⟩:=List.mem_map.mp hc
  rw [<- e]
  exact digit_range (Nat.isDigit_of_mem_toDigits (by decide) (by decide) hch)
theorem k3q (m:Nat):dg m≠[]:=by
  intro e
  have h:=toDigits_len_ge 10 m
  rw [List.map_eq_nil_iff.mp e] at h
  exact absurd h (by decide)
theorem lZq {m:Nat} (h:m < 10 ^ 12):(dg m).length<=12:=by
  rw [List.length_map];exact toDigits_len_pow (by decide) (by decide) h
theorem kAq (m:Nat):(cOq (m:Int)).cps.toList=dg m:=signs_num m
theorem k4q (m:Nat):(cOq (Int.negSucc m)).cps.toList=45::dg (m+1):=by
  rw [signs_ofString]
  show (("-"++Nat.repr (m+1)).toList.map Char.toNat)=_
  rw [String.toList_append,List.map_append,Nat.toList_repr]
  rfl
theorem i3q {n:Int} (h:n.natAbs < 10 ^ 12):PySem.intText? (cOq n)=some n/\(cOq n).length<=13:=by
  have hl:(cOq n).cps.toList.length=(cOq n).length:=Array.length_toList
  cases n with
  | ofNat m=>
    have e:=kAq m
    have l:=lZq h
    have hl:(cOq (m:Int)).cps.toList.length=(cOq (m:Int)).length:=Array.length_toList
    rw [e] at hl
    have le:(cOq (m:Int)).length<=12:=by rw [<- hl];exact l
    have z:=intText_digits (x:=cOq (m:Int)) (by rw [e];exact cJq m) (by rw [e];exact k3q m) (by omega)
    rw [e,val_back] at z
    exact ⟨z,by show (cOq (m:Int)).length<=13;omega⟩
  | negSucc m=>
    have e:=k4q m
    have l:=lZq (m:=m+1) h
    have le:(cOq (Int.negSucc m)).length<=13:=by rw [<- hl,e,List.length_cons];omega
    have z:=intText_neg (x:=cOq (Int.negSucc m)) e (cJq _) (k3q _) (by omega)
    rw [val_back] at z
    exact ⟨z,le⟩
theorem q5q (m:Nat) (h:0 < m):(dg m).head?≠some 48:=by
  induction m using Nat.strongRecOn with
  | _ m ih=>
    by_cases h1:m < 10
    . have key:∀ k < 10,0 < k->(dg k).head?≠some 48:=by decide +kernel
      exact key m h1 h
    . have hm:m % 10 < 10:=Nat.mod_lt m (by decide)
      have t:Nat.toDigits 10 (m / 10)++Nat.toDigits 10 (m % 10)=Nat.toDigits 10 (10 * (m / 10)+m % 10):=Nat.toDigits_append_toDigits (by decide) (by omega) hm
      rw [Nat.div_add_mod] at t
      have i:=ih (m / 10) (by omega) (by omega)
      have ne:=k3q (m / 10)
      show ((Nat.toDigits 10 m).map Char.toNat).head?≠_
      rw [<- t,List.map_append]
      cases e:dg (m / 10) with
      | nil=>exact absurd e ne
      | cons c r=>rw [show (Nat.toDigits 10 (m / 10)).map Char.toNat=c::r from e];rw [e] at i;simpa using i
def wAq (z:Str):Bool:=decide (1<=((bare z).length:Int))&&(decide (((bare z).length:Int)<=12)&&gBq (bare z) figs)&&(!Txt.startswith (bare z) "0"||z=="0")
theorem r8q:figs.cps.toList=[48,49,50,51,52,53,54,55,56,57]:=by decide +kernel
theorem lLq {z:Str} {m:Nat} (e:z.cps.toList=dg m):gBq z figs=true:=by
  unfold gBq
  rw [e,r8q,List.all_eq_true]
  intro c hc
  have:=cJq m c hc
  rw [decide_eq_true_iff]
  simp
  omega
theorem tSq {n:Int} (h:n.natAbs < 10 ^ 12):wAq (cOq n)=true:=by
  cases n with
  | ofNat m=>
    have e:=kAq m
    have l:(dg m).length<=12:=lZq h
    have b:bare (cOq (m:Int))=cOq (m:Int):=by
      unfold bare
      rw [dash,cYq,e,if_neg]
      intro c
      have c:=eq_of_beq c
      cases hd:dg m with
      | nil=>exact k3q m hd
      | cons x r=>
        rw [hd] at c;cases c
        have:=cJq m 45 (by rw [hd];exact List.mem_cons_self ..)
        omega
    have hl:(cOq (m:Int)).cps.toList.length=(cOq (m:Int)).length:=Array.length_toList
    have l1:1<=(dg m).length:=List.length_pos_iff.mpr (k3q m)
    rw [e] at hl
    show wAq (cOq (m:Int))=true
    unfold wAq
    rw [b,lLq e,sFq,cYq,e,decide_eq_true (by omega),decide_eq_true (by omega)]
    by_cases h0:m=0
    . subst h0;decide +kernel
    . have:=q5q m (by omega)
      have hh:((dg m).head?==some 48)=false:=by rw [beq_eq_false_iff_ne];exact this
      rw [hh];rfl
  | negSucc m=>
    have e:=k4q m
    have l:=lZq (m:=m+1) h
    have hl:(cOq (Int.negSucc m)).cps.toList.length=(cOq (Int.negSucc m)).length:=Array.length_toList
    have b:(bare (cOq (Int.negSucc m))).cps.toList=dg (m+1):=by
      unfold bare
      rw [dash,cYq,e,if_pos (by rfl),PyProof.Rows.slice_from_eq (by decide) (by rw [<- hl,e,List.length_cons];omega) rfl]
      show (((cOq (Int.negSucc m)).cps.toList.drop 1).take _)=_
      rw [e,List.drop_succ_cons,List.drop_zero,List.take_of_length_le]
      rw [<- hl,e,List.length_cons]
      omega
    have hb:(bare (cOq (Int.negSucc m))).cps.toList.length=(bare (cOq (Int.negSucc m))).length:=Array.length_toList
    have l1:1<=(dg (m+1)).length:=List.length_pos_iff.mpr (k3q _)
    rw [b] at hb
    unfold wAq
    rw [lLq b,sFq,cYq,b,decide_eq_true (by omega),decide_eq_true (by omega)]
    have hh:((dg (m+1)).head?==some 48)=false:=by rw [beq_eq_false_iff_ne];exact q5q _ (by omega)
    rw [hh];rfl
theorem lCq (n:Int):(∀ c∈(cOq n).cps.toList,c=45\/48<=c/\c<=57)/\(cOq n).cps.toList≠[]:=by
  cases n with
  | ofNat m=>show (∀ c∈(cOq (m:Int)).cps.toList,_)/\(cOq (m:Int)).cps.toList≠[];rw [kAq];exact ⟨λ c hc=>.inr (cJq m c hc),k3q m⟩
  | negSucc m=>
    rw [k4q]
    refine ⟨λ c hc=>?_,by simp⟩
    rcases List.mem_cons.mp hc with rfl | hc
    . exact .inl rfl
    . exact .inr (cJq _ c hc)
inductive IsKc:D->Prop
  | is (n:Int):n.natAbs < 10 ^ 12->IsKc (.tup [.str "is", .int n])
  | some:IsKc (.tup [.str "some"])
  | both {a b:D}:IsKc a->IsKc b->ofA a=true->ofA b=true->IsKc (.tup [.str "both", a,b])
  | left {a:D}:IsKc a->IsKc (.tup [.str "left", a])
  | right {a:D}:IsKc a->IsKc (.tup [.str "right", a])
  | way {ds:List D} {k:D}:(∀ d∈ds,IsKc d)->g7q ds=true->IsKc k->IsKc (.tup [.str "way", .tup ds,k])
theorem IsKc.kd {d:D} (h:IsKc d):IsKd d:=by
  induction h with
  | is n=>exact .is n
  | some=>exact .some
  | both _ _ o1 o2 h1 h2=>exact .both h1 h2 o1 o2
  | left _ h=>exact .left h
  | right _ h=>exact .right h
  | way _ s _ h1 h2=>exact .way h1 s h2
theorem IsKc.isK {d:D} (h:IsKc d):IsK d:=h.kd.isK
def b3q {α:Type} (s:α):List (List α)->List α
  | []=>[]
  | [x]=>x
  | x::y::r=>x++s::b3q s (y::r)
inductive Tk:D->List Str->Prop
  | is (n:Int):n.natAbs < 10 ^ 12->Tk (.tup [.str "is", .int n]) [cOq n]
  | some:Tk (.tup [.str "some"]) ["~"]
  | left {a:D} {x:List Str}:Tk a x->Tk (.tup [.str "left", a]) (("(" : Str)::(x++[(",":Str),(")":Str)]))
  | right {a:D} {x:List Str}:Tk a x->Tk (.tup [.str "right", a]) (("(" : Str)::("," : Str)::(x++[(")":Str)]))
  | both {a b:D} {x y:List Str}:Tk a x->Tk b y->Tk (.tup [.str "both", a,b]) (("(" : Str)::(x++("," : Str)::(y++[(")":Str)])))
  | way {ps:List (D × List Str)} {k:D} {y:List Str}:(∀ p∈ps,Tk p.1 p.2)->Tk k y->ps.length<=40->Tk (.tup [.str "way", .tup (ps.map (·.1)),k]) (("[" : Str)::(b3q (" " : Str) (ps.map (·.2))++(":" : Str)::(y++[("]":Str)])))
theorem fVq {P:D->List Str->Prop}:∀ {ds:List D},(∀ d∈ds,∃ x,P d x)->∃ ps:List (D × List Str),ps.map (·.1)=ds/\∀ p∈ps,P p.1 p.2
  | [],_=>⟨[],rfl,by simp⟩
  | d::ds,h=>by
    obtain ⟨x,hx⟩:=h d (List.mem_cons_self ..)
    obtain ⟨ps,e,hp⟩:=fVq λ e he=>h e (List.mem_cons_of_mem _ he)
    refine ⟨(d,x)::ps,by rw [List.map_cons,e],λ p m=>?_⟩
    rcases List.mem_cons.mp m with rfl | m
    . exact hx
    . exact hp p m
theorem e5q {α:Type} {s:α}:∀ xs:List (List α),(b3q s xs).length+1<=(xs.map λ x=>x.length+1).sum+1
  | []=>by simp [b3q]
  | [x]=>by simp [b3q]
  | x::y::r=>by
    have:=e5q (s:=s) (y::r)
    rw [b3q,List.length_append,List.length_cons,List.map_cons,List.sum_cons]
    omega
theorem jHq {α:Type} {s a:α}:∀ {xs:List (List α)},a∈b3q s xs->a=s\/∃ x∈xs,a∈x
  | [],h=>by simp [b3q] at h
  | [x],h=>.inr ⟨x,by simp,h⟩
  | x::y::r,h=>by
    rw [b3q] at h
    rcases List.mem_append.mp h with h | h
    . exact .inr ⟨x,by simp,h⟩
    . rcases List.mem_cons.mp h with h | h
      . exact .inl h
      . rcases jHq h with h | ⟨z,h1,h2⟩
        . exact .inl h
        . exact .inr ⟨z,List.mem_cons_of_mem _ h1,h2⟩
theorem iVq:∀ {ps:List (D × List Str)},(∀ p∈ps,p.2.length+1<=2 * tsz p.1)->((ps.map (·.2)).map λ x=>x.length+1).sum<=2 * bGq (ps.map (·.1))
  | [],_=>by simp
  | p::ps,h=>by
    have h1:=h p (List.mem_cons_self ..)
    have h2:=iVq λ q hq=>h q (List.mem_cons_of_mem _ hq)
    simp only [List.map_cons,List.sum_cons,bGq] at *
    omega
theorem Tk.len {d:D} {x:List Str} (h:Tk d x):x.length+1<=2 * tsz d:=by
  induction h with
  | is n=>simp [tsz,bGq]
  | some=>simp [tsz,bGq]
  | left _ h=>simp only [List.length_cons,List.length_append,List.length_nil,tsz,bGq] at *;omega
  | right _ h=>simp only [List.length_cons,List.length_append,List.length_nil,tsz,bGq] at *;omega
  | both _ _ h1 h2=>simp only [List.length_cons,List.length_append,List.length_nil,tsz,bGq] at *;omega
  | @way ps k y _ _ hl h1 h2=>
    have a:=e5q (s:=(" " : Str)) (ps.map (·.2))
    have b:=iVq h1
    simp only [List.length_cons,List.length_append,List.length_nil,tsz,bGq] at *
    omega
theorem Tk.few {d:D} {x:List Str} (h:Tk d x):∀ z∈x,z.length<=13:=by
  have l1:∀ z∈([",", ")", "(", "[", "]", " ", ":", "~"]:List Str),z.length<=13:=by decide +kernel
  induction h with
  | is n h=>intro z hz;simp at hz;subst hz;exact (i3q h).2
  | some=>intro z hz;exact l1 z (by simp at hz;subst hz;simp)
  | left _ h=>
    intro z hz
    simp only [List.mem_cons,List.mem_append,List.not_mem_nil,or_false] at hz
    rcases hz with e | e | e | e
    . exact l1 z (by simp [e])
    . exact h z e
    . exact l1 z (by simp [e])
    . exact l1 z (by simp [e])
  | right _ h=>
    intro z hz
    simp only [List.mem_cons,List.mem_append,List.not_mem_nil,or_false] at hz
    rcases hz with e | e | e | e
    . exact l1 z (by simp [e])
    . exact l1 z (by simp [e])
    . exact h z e
    . exact l1 z (by simp [e])
  | both _ _ h1 h2=>
    intro z hz
    simp only [List.mem_cons,List.mem_append,List.not_mem_nil,or_false] at hz
    rcases hz with e | e | e | e | e
    . exact l1 z (by simp [e])
    . exact h1 z e
    . exact l1 z (by simp [e])
    . exact h2 z e
    . exact l1 z (by simp [e])
  | way _ _ _ h1 h2=>
    intro z hz
    simp only [List.mem_cons,List.mem_append,List.not_mem_nil,or_false] at hz
    rcases hz with e | e | e | e | e
    . exact l1 z (by simp [e])
    . rcases jHq e with e | ⟨x,hx,e⟩
      . exact l1 z (by simp [e])
      . obtain ⟨p,hp,rfl⟩:=List.mem_map.mp hx
        exact h1 p hp z e
    . exact l1 z (by simp [e])
    . exact h2 z e
    . exact l1 z (by simp [e])
def cat:List Str->List Nat
  | []=>[]
  | z::r=>z.cps.toList++cat r
theorem aHq:∀ x y:List Str,cat (x++y)=cat x++cat y
  | [],y=>rfl
  | z::x,y=>by rw [List.cons_append,cat,cat,aHq x y,List.append_assoc]
def ofL (l:List Nat):Str:=⟨l.toArray⟩
abbrev txt (x:List Str):Str:=ofL (cat x)
theorem aWq (l:List Nat):(ofL l).cps.toList=l:=rfl
theorem c6q {a b:Str} (h:a.cps.toList=b.cps.toList):a=b:=by
  obtain ⟨x⟩:=a;obtain ⟨y⟩:=b
  rw [show x=y from Array.toList_inj.mp h]
theorem bSq (a b:Str):(a++b).cps.toList=a.cps.toList++b.cps.toList:=PySem.W.KT.app_list a b
theorem g3q:∀ {x:List Str},(∀ z∈x,z.length<=13)->(cat x).length<=13 * x.length
  | [],_=>by simp [cat]
  | z::x,h=>by
    have h1:=h z (List.mem_cons_self ..)
    have h2:=g3q λ y hy=>h y (List.mem_cons_of_mem _ hy)
    have e:z.cps.toList.length=z.length:=Array.length_toList
    rw [cat,List.length_append,List.length_cons]
    omega
theorem hXq (ys:List Str):Txt.join "" ys=ofL (cat ys):=by
  rw [eq_of_beq (PyProof.Rows.join_plain_closes "" ys)]
  refine c6q ?_
  rw [aWq]
  have he:(("" : String):Str).cps.toList=[]:=by decide +kernel
  induction ys with
  | nil=>rfl
  | cons y ys ih=>
    cases ys with
    | nil=>simp [Str.join,cat]
    | cons z zs=>rw [show Str.join "" (y::z::zs)=y++""++Str.join "" (z::zs) from rfl,bSq,bSq,he,ih,List.append_nil];rfl
theorem f3q:((" " : String):Str).cps.toList=[32]:=by decide +kernel
theorem pTq (xs:List (List Str)):Txt.join " " (xs.map txt)=txt (b3q (" " : Str) xs):=by
  rw [eq_of_beq (PyProof.Rows.join_plain_closes " " _)]
  refine c6q ?_
  rw [aWq]
  induction xs with
  | nil=>rfl
  | cons y ys ih=>
    cases ys with
    | nil=>rfl
    | cons z zs=>
      rw [show Str.join " " ((y::z::zs).map txt)=txt y++" "++Str.join " " ((z::zs).map txt) from rfl,bSq,bSq,ih,b3q,aHq,cat,List.append_assoc];rfl
def pcs (S:List Nat):List Nat->List Nat->List Str
  | cur,[]=>if cur=[] then [] else [ofL cur]
  | cur,c::r=>if c∈S then (if cur=[] then [] else [ofL cur])++ofL [c]::pcs S [] r else pcs S (cur++[c]) r
def Hds (S rest:List Nat):Prop:=rest=[]\/∃ c r,rest=c::r/\c∈S
theorem iCq {S:List Nat} {c:Nat} {r:List Nat} (h:c∈S):pcs S [] (c::r)=ofL [c]::pcs S [] r:=by
  rw [pcs,if_pos h,if_pos rfl];rfl
theorem kNq {S rest:List Nat} (hr:Hds S rest):∀ (l cur:List Nat),(∀ c∈l,c ∉ S)->cur++l≠[]->pcs S cur (l++rest)=ofL (cur++l)::pcs S [] rest
  | [],cur,_,hne=>by
    rw [List.append_nil] at hne ⊢
    rcases hr with rfl | ⟨c,r,rfl,hc⟩
    . rw [List.nil_append,pcs,if_neg hne,pcs,if_pos rfl]
    . rw [List.nil_append,pcs,if_pos hc,if_neg hne,iCq hc];rfl
  | c::l,cur,h,_=>by
    rw [List.cons_append,pcs,if_neg (h c (List.mem_cons_self ..)),kNq hr l (cur++[c]) (λ d hd=>h d (List.mem_cons_of_mem _ hd)) (by simp),List.append_assoc];rfl
abbrev SG:List Nat:=[91,93,40,41,32,58,44,126]
theorem xOq:(("[]() :,~" : String):Str).cps.toList=SG:=by decide +kernel
def Gd (x:List Str):Prop:=∀ rest,Hds SG rest->pcs SG [] (cat x++rest)=x++pcs SG [] rest
theorem cBq {z:Str} {c:Nat} (h:z=ofL [c]) (x:List Str) (rest:List Nat) (hc:c∈SG):pcs SG [] (cat (z::x)++rest)=z::pcs SG [] (cat x++rest):=by
  subst h;exact iCq hc
theorem kRq {z:Str} {c:Nat} (h:z=ofL [c]) (x:List Str) (rest:List Nat) (hc:c∈SG):Hds SG (cat (z::x)++rest):=by
  subst h;exact .inr ⟨c,_,rfl,hc⟩
theorem gFq:(("(" : String):Str)=ofL [40]:=by decide +kernel
theorem gAq:((")" : String):Str)=ofL [41]:=by decide +kernel
theorem vYq:(("[" : String):Str)=ofL [91]:=by decide +kernel
theorem sAq:(("]" : String):Str)=ofL [93]:=by decide +kernel
theorem wBq:((" " : String):Str)=ofL [32]:=by decide +kernel
theorem s_cl:((":" : String):Str)=ofL [58]:=by decide +kernel
theorem oUq:(("," : String):Str)=ofL [44]:=by decide +kernel
theorem tXq:(("~" : String):Str)=ofL [126]:=by decide +kernel
theorem l0q:∀ {xs:List (List Str)},(∀ x∈xs,Gd x)->Gd (b3q (" " : Str) xs)
  | [],_,rest,_=>rfl
  | [x],h,rest,hr=>h x (by simp) rest hr
  | x::y::r,h,rest,hr=>by
    rw [b3q,aHq,List.append_assoc,h x (by simp) _ (kRq wBq _ _ (by decide)),cBq wBq _ _ (by decide),l0q (λ z hz=>h z (List.mem_cons_of_mem _ hz)) rest hr,List.append_assoc];rfl
theorem Tk.gd {d:D} {x:List Str} (h:Tk d x):Gd x:=by
  induction h with
  | is n hn=>
    intro rest hr
    obtain ⟨h1,h2⟩:=lCq n
    have z:=kNq hr (cOq n).cps.toList [] (λ c hc hS=>by have:=h1 c hc;simp at hS;omega) (by simpa using h2)
    rw [cat,cat,List.append_nil,z];rfl
  | some=>intro rest hr;rw [cBq tXq _ _ (by decide)];rfl
  | left _ h=>
    intro rest hr
    rw [cBq gFq _ _ (by decide),aHq,List.append_assoc,h _ (kRq oUq _ _ (by decide)),cBq oUq _ _ (by decide),cBq gAq _ _ (by decide)]
    simp [cat]
  | right _ h=>
    intro rest hr
    rw [cBq gFq _ _ (by decide),cBq oUq _ _ (by decide),aHq,List.append_assoc,h _ (kRq gAq _ _ (by decide)),cBq gAq _ _ (by decide)]
    simp [cat]
  | both _ _ h1 h2=>
    intro rest hr
    rw [cBq gFq _ _ (by decide),aHq,List.append_assoc,h1 _ (kRq oUq _ _ (by decide)),cBq oUq _ _ (by decide),aHq,List.append_assoc,h2 _ (kRq gAq _ _ (by decide)),cBq gAq _ _ (by decide)]
    simp [cat]
  | @way ps k y _ _ hl h1 h2=>
    intro rest hr
    have g:=l0q (xs:=ps.map (·.2)) λ x hx=>by obtain ⟨p,hp,rfl⟩:=List.mem_map.mp hx;exact h1 p hp
    rw [cBq vYq _ _ (by decide),aHq,List.append_assoc,g _ (kRq s_cl _ _ (by decide)),cBq s_cl _ _ (by decide),aHq,List.append_assoc,h2 _ (kRq sAq _ _ (by decide)),cBq sAq _ _ (by decide)]
    simp [cat]
theorem Tk.pieces {d:D} {x:List Str} (h:Tk d x):pcs SG [] (cat x)=x:=by
  have:=h.gd [] (.inl rfl)
  rw [List.append_nil,pcs,if_pos rfl,List.append_nil] at this
  exact this
abbrev eCq (ds:List D):List D:=b3q (.str " ") (ds.map λ d=>[d])
inductive PC:List D->D->Prop
  | left (a:D):PC [a,.str ","] (.tup [.str "left", a])
  | right (xs:List D):PC [.str ",", .tup xs] (.tup [.str "right", .tup xs])
  | both (a b:D):PC [a,.str ",", b] (.tup [.str "both", a,b])
inductive Clo:List D->Str->D->Prop
  | way (ds:List D) (k:D):ds.length<=40->Clo (.str "["::(eCq ds++[.str ":", k])) "]" (.tup [.str "way", .tup ds,k])
  | pair {row:List D} {k:D}:PC row k->Clo (.str "("::row) ")" k
inductive RP:Str->D->Prop
  | sgn {p:Str}:p = " "\/p = ":"\/p = ","->RP p (.str p)
  | som:RP "~" (.tup [.str "some"])
  | num (n:Int):n.natAbs < 10 ^ 12->RP (cOq n) (.tup [.str "is", .int n])
inductive Stp:List (List D)->Str->List (List D)->Prop
  | opn (st:List (List D)) {p:Str}:p = "["\/p = "("->Stp st p ([.str p]::st)
  | cls {c:List D} {p:Str} {k:D} (t:List D) (st:List (List D)):Clo c p k->Stp (c::t::st) p ((t++[k])::st)
  | rd (t:List D) (st:List (List D)) {p:Str} {q:D}:RP p q->Stp (t::st) p ((t++[q])::st)
inductive Rn:List (List D)->List Str->List (List D)->Prop
  | nil (st:List (List D)):Rn st [] st
  | cons {st st' st'':List (List D)} {p:Str} {r:List Str}:Stp st p st'->Rn st' r st''->Rn st (p::r) st''
theorem Rn.app {st st' st'':List (List D)} {x y:List Str} (h1:Rn st x st') (h2:Rn st' y st''):Rn st (x++y) st'':=by
  induction h1 with
  | nil=>exact h2
  | cons s _ ih=>exact .cons s (ih h2)
theorem dLq (d e:D) (ds:List D):eCq (d::e::ds)=d::.str " "::eCq (e::ds):=rfl
theorem sIq:∀ {ps:List (D × List Str)} {t:List D} {st:List (List D)},(∀ p∈ps,∀ t st,Rn (t::st) p.2 ((t++[p.1])::st))->Rn (t::st) (b3q (" " : Str) (ps.map (·.2))) ((t++eCq (ps.map (·.1)))::st)
  | [],t,st,_=>by rw [show t++eCq (([]:List (D × List Str)).map (·.1))=t from List.append_nil t];exact .nil _
  | [p],t,st,h=>h p (by simp) t st
  | p::q::r,t,st,h=>by
    have h1:=h p (by simp) t st
    have h2:=sIq (ps:=q::r) (t:=t++[p.1]++[.str " "]) (st:=st) λ z hz=>h z (List.mem_cons_of_mem _ hz)
    have h3:=h1.app (.cons (.rd _ _ (.sgn (.inl rfl))) h2)
    simp only [List.map_cons,b3q,dLq] at h3 ⊢
    simpa [List.append_assoc] using h3
theorem sQq {d:D} {x:List Str} (h:Tk d x):∃ xs,d=.tup xs:=by cases h<;>exact ⟨_,rfl⟩
theorem Tk.rn {d:D} {x:List Str} (h:Tk d x):∀ t st,Rn (t::st) x ((t++[d])::st):=by
  induction h with
  | is n hn=>intro t st;exact .cons (.rd t st (.num n hn)) (.nil _)
  | some=>intro t st;exact .cons (.rd t st .som) (.nil _)
  | left _ h=>intro t st;exact .cons (.opn _ (.inr rfl)) ((h _ _).app (.cons (.rd _ _ (.sgn (.inr (.inr rfl)))) (.cons (.cls t st (.pair (.left _))) (.nil _))))
  | right h0 h=>
    intro t st
    obtain ⟨xs,rfl⟩:=sQq h0
    exact .cons (.opn _ (.inr rfl)) (.cons (.rd _ _ (.sgn (.inr (.inr rfl)))) ((h _ _).app (.cons (.cls t st (.pair (.right _))) (.nil _))))
  | both _ _ h1 h2=>intro t st;exact .cons (.opn _ (.inr rfl)) ((h1 _ _).app (.cons (.rd _ _ (.sgn (.inr (.inr rfl)))) ((h2 _ _).app (.cons (.cls t st (.pair (.both _ _))) (.nil _)))))
  | @way ps k y _ _ hl h1 h2=>
    intro t st
    refine .cons (.opn _ (.inl rfl)) ((sIq h1).app (.cons (.rd _ _ (.sgn (.inr (.inl rfl)))) ((h2 _ _).app (.cons (.cls t st ?_) (.nil _)))))
    rw [List.append_assoc,List.append_assoc]
    exact .way _ _ (by rw [List.length_map];exact hl)
theorem s7q:∀ ds:List D,ev2 (eCq ds)=ds/\ev2 ((eCq ds).drop 1)=List.replicate (ds.length - 1) (.str " ")
  | []=>⟨rfl,rfl⟩
  | [d]=>⟨rfl,rfl⟩
  | d::e::ds=>by
    obtain ⟨h1,h2⟩:=s7q (e::ds)
    rw [dLq]
    refine ⟨by rw [ev2,h1],?_⟩
    rw [List.drop_succ_cons,List.drop_zero]
    have hx:∀ (a:D) (l:List D),ev2 (a::l)=a::ev2 (l.drop 1):=λ a l=>by cases l<;>rfl
    rw [hx,h2];rfl
inductive Spl:D->List D->Prop
  | is (n:Int):n.natAbs < 10 ^ 12->Spl (.tup [.str "is", .int n]) [.str (cOq n)]
  | some:Spl (.tup [.str "some"]) [.str "~"]
  | left (a:D):Spl (.tup [.str "left", a]) [.str "(", a,.str ",)"]
  | right (a:D):Spl (.tup [.str "right", a]) [.str "(,", a,.str ")"]
  | both (a b:D):Spl (.tup [.str "both", a,b]) [.str "(", a,.str ",", b,.str ")"]
  | way (ds:List D) (k:D):ds.length<=40->Spl (.tup [.str "way", .tup ds,k]) (.str "["::(eCq ds++[.str ":", k,.str "]"]))
inductive Its:List D->List Nat->Nat->Prop
  | nil:Its [] [] 0
  | str {ps:List D} {l:List Nat} {m:Nat} (z:Str):Its ps l m->Its (.str z::ps) (z.cps.toList++l) (1+m)
  | kd {d:D} {x:List Str} {ps:List D} {l:List Nat} {m:Nat}:Tk d x->tsz d<=9100->Its ps l m->Its (d::ps) (cat x++l) (3 * x.length+m)
theorem Its.of {ps qs:List D} {l k:List Nat} {m:Nat} (h:Its ps l m) (e1:ps=qs) (e2:l=k):Its qs k m:=by subst e1 e2;exact h
theorem pJq:∀ {ps:List (D × List Str)} {rs:List D} {l:List Nat} {m:Nat},(∀ p∈ps,Tk p.1 p.2/\tsz p.1<=9100)->Its rs l m->∃ m',m'<=3 * (b3q (" " : Str) (ps.map (·.2))).length+m/\Its (eCq (ps.map (·.1))++rs) (cat (b3q (" " : Str) (ps.map (·.2)))++l) m'
  | [],rs,l,m,_,h=>⟨m,by simp,h⟩
  | [p],rs,l,m,hp,h=>⟨_,Nat.le_refl _,.kd (hp p (by simp)).1 (hp p (by simp)).2 h⟩
  | p::q::r,rs,l,m,hp,h=>by
    obtain ⟨m',h1,h2⟩:=pJq (ps:=q::r) (λ z hz=>hp z (List.mem_cons_of_mem _ hz)) h
    have z:=Its.kd (hp p (by simp)).1 (hp p (by simp)).2 (Its.str " " h2)
    refine ⟨_,?_,z.of rfl ?_⟩
    . simp only [List.map_cons,b3q,List.length_append,List.length_cons] at h1 ⊢;omega
    . simp only [List.map_cons,b3q,aHq,cat,List.append_assoc]
theorem s_cp:((",)" : String):Str).cps.toList=(("," : String):Str).cps.toList++((")" : String):Str).cps.toList:=by decide +kernel
theorem s_pc:(("(," : String):Str).cps.toList=(("(" : String):Str).cps.toList++(("," : String):Str).cps.toList:=by decide +kernel
theorem Tk.spl {d:D} {x:List Str} (h:Tk d x) (hs:tsz d<=9100):∃ qs,Spl d qs/\qs.length<=30000/\∀ rs l m,Its rs l m->∃ m',m' < 3 * x.length+m/\Its (qs++rs) (cat x++l) m':=by
  cases h with
  | is n hn=>exact ⟨_,.is n hn,by simp,λ rs l m h=>⟨_,by simp,(Its.str (cOq n) h).of (by simp) (by simp [cat])⟩⟩
  | some=>exact ⟨_,.some,by simp,λ rs l m h=>⟨_,by simp,(Its.str "~" h).of (by simp) (by simp [cat])⟩⟩
  | @left a x h0=>exact ⟨_,.left a,by simp,λ rs l m h=>⟨1+(3 * x.length+(1+m)),by simp;omega,(Its.str "(" (.kd h0 (by simp only [tsz,bGq] at hs;omega) (.str ",)" h))).of (by simp) (by simp [cat,aHq,s_cp])⟩⟩
  | @right a x h0=>exact ⟨_,.right a,by simp,λ rs l m h=>⟨1+(3 * x.length+(1+m)),by simp;omega,(Its.str "(," (.kd h0 (by simp only [tsz,bGq] at hs;omega) (.str ")" h))).of (by simp) (by simp [cat,aHq,s_pc])⟩⟩
  | @both a b x y h1 h2=>exact ⟨_,.both a b,by simp,λ rs l m h=>⟨1+(3 * x.length+(1+(3 * y.length+(1+m)))),by simp;omega,(Its.str "(" (.kd h1 (by simp only [tsz,bGq] at hs;omega) (.str "," (.kd h2 (by simp only [tsz,bGq] at hs;omega) (.str ")" h))))).of (by simp) (by simp [cat,aHq])⟩⟩
  | @way ps k y h1 h2 h40=>
    have hl:=e4q (ps.map (·.1))
    have hl2:=e5q (s:=(D.str " ")) ((ps.map (·.1)).map λ d=>[d])
    have hl3:(((ps.map (·.1)).map λ d=>[d]).map λ x=>x.length+1).sum=2 * ps.length:=by
      clear hs h1 hl hl2 h40
      induction ps with
      | nil=>rfl
      | cons p ps ih=>simp only [List.map_cons,List.sum_cons,List.length_cons,List.length_nil] at ih ⊢;omega
    rw [hl3] at hl2
    rw [List.length_map] at hl
    simp only [tsz,bGq] at hs
    refine ⟨_,.way _ _ (by rw [List.length_map];omega),by simp only [List.length_cons,List.length_append,List.length_nil,eCq];omega,λ rs l m h=>?_⟩
    obtain ⟨m',e1,e2⟩:=pJq (λ p hp=>⟨h1 p hp,by have:=dVq (List.mem_map_of_mem (f:=(·.1)) hp);omega⟩) (.str ":" (.kd h2 (by omega) (.str "]" h)))
    refine ⟨1+m',?_,(Its.str "[" e2).of ?_ ?_⟩
    . simp only [List.length_cons,List.length_append,List.length_nil];omega
    . simp
    . simp [cat,aHq]
def hRq:DSp:=λ ds G Q=>∃ z:Str,ds=[.str z,.int 12]/\z.length<=1000/\Q (.bl (wAq z)) G
abbrev sgnS:Str:="[]() :,~"
def nAq (sg:Str) (S:List Nat):DSp:=λ ds G Q=>∃ z:Str,ds=[.str z,.str sg]/\z.length<=300000/\∀ l,G l=none->Q (.ref l) (up G l (.lst ((pcs S [] z.cps.toList).map D.str)))
def lDq:DSp:=λ ds G Q=>∃ z:Str,ds=[.str z,.str sgnS]/\z.length<=300000/\∀ l,G l=none->Q (.ref l) (up G l (.lst ((pcs SG [] z.cps.toList).map D.str)))
def tLq:DSp:=λ ds G Q=>∃ (d:D) (qs:List D),ds=[d]/\Spl d qs/\∀ l,G l=none->Q (.ref l) (up G l (.lst qs))
def uFq (f:Addr):DSp:=λ ds G Q=>∃ (d:D) (x:List Str),ds=[d,.ref f]/\Tk d x/\tsz d<=9100/\Q (.str (txt x)) G
def kBq:DSp:=λ ds G Q=>∃ (d:D) (x:List Str),ds=[d]/\Tk d x/\tsz d<=9100/\Q (.str (txt x)) G
def jUq:DSp:=λ ds G Q=>∃ (d:D) (x:List Str),ds=[.str (txt x)]/\Tk d x/\IsKd d/\Bd 9100 120 40 d/\Q d G
def kHq:DSp:=λ ds G Q=>∃ (p:Str) (q:D),ds=[.str p]/\RP p q/\Q q G
def w5q:DSp:=λ ds G Q=>∃ (l:Addr) (p:Str) (c:List D) (k:D),ds=[.ref l,.str p]/\G l=some (.lst c)/\Clo c p k/\Q k G
def nKq:DSp:=λ ds G Q=>∃ (l:Addr) (es:List D) (k:D),es.length<=40/\ds=[.ref l]/\G l=some (.lst (eCq es++[.str ":", k]))/\Q (.tup [.str "way", .tup es,k]) G
def kIq:DSp:=λ ds G Q=>∃ (l:Addr) (row:List D) (k:D),ds=[.ref l]/\G l=some (.lst row)/\PC row k/\Q k G
inductive Ad:D->Prop
  | int (n:Int):Ad (.int n)
  | str (z:Str):Ad (.str z)
  | tup {ds:List D}:(∀ d∈ds,Ad d)->Ad (.tup ds)
theorem IsK.ad {d:D} (h:IsK d):Ad d:=by
  induction h with
  | is n=>exact .tup λ d hd=>by simp at hd;rcases hd with rfl | rfl;exact .str _;exact .int _
  | some=>exact .tup λ d hd=>by simp at hd;subst hd;exact .str _
  | both _ _ h1 h2=>exact .tup λ d hd=>by simp at hd;rcases hd with rfl | rfl | rfl;exact .str _;exact h1;exact h2
  | left _ h1=>exact .tup λ d hd=>by simp at hd;rcases hd with rfl | rfl;exact .str _;exact h1
  | right _ h1=>exact .tup λ d hd=>by simp at hd;rcases hd with rfl | rfl;exact .str _;exact h1
  | way _ _ h1 h2=>exact .tup λ d hd=>by simp at hd;rcases hd with rfl | rfl | rfl;exact .str _;exact .tup h1;exact h2
theorem uWq {α:Type} (x:α) (r:List α):cut (x::r) (some 1) none=r:=q4q (xs:=x::r) (k:=1) (by simp)
theorem m4q {n:Nat} (h:n<=700000):n < sizeLine:=by rw [sizeLine_eq];omega
theorem big {n:Nat} (h:n<=700000):n<=sizeLine:=by rw [sizeLine_eq];omega
theorem j4q {m:Nat} (h:m < 10 ^ 12):m.log2 < 1920:=by
  by_cases h0:m=0
  . subst h0;decide
  . have:m.log2 < 40:=(Nat.log2_lt h0).mpr (Nat.lt_trans h (by decide))
    omega
theorem lQq (e:D):∀ {ds:List D},ds≠[]->eCq (ds++[e])=eCq ds++[.str " ", e]
  | [],h=>absurd rfl h
  | [d],_=>rfl
  | d::f::ds,_=>by
    have:=lQq e (ds:=f::ds) (by simp)
    rw [show d::f::ds++[e]=d::f::(ds++[e]) from rfl,dLq,dLq,show f::(ds++[e])=f::ds++[e] from rfl,this];rfl
theorem hOq (ds:List D):(eCq ds).length<=2 * ds.length:=by
  have h:=e5q (s:=(D.str " ")) (ds.map λ d=>[d])
  have h3:((ds.map λ d=>[d]).map λ x=>x.length+1).sum=2 * ds.length:=by
    clear h
    induction ds with
    | nil=>rfl
    | cons p ps ih=>simp only [List.map_cons,List.sum_cons,List.length_cons,List.length_nil] at ih ⊢;omega
  show (b3q (D.str " ") (ds.map λ d=>[d])).length<=_
  omega
theorem vTq {ds:List D} (h:ds≠[]):1<=(eCq ds).length:=by
  cases ds with
  | nil=>exact absurd rfl h
  | cons d ds=>
    cases ds with
    | nil=>exact Nat.le_refl _
    | cons e ds=>rw [dLq];simp
theorem pAq {ps:List D} {l:List Nat} {m:Nat} (h:Its ps l m):ps.length<=m:=by
  induction h with
  | nil=>exact Nat.le_refl _
  | str z _ ih=>simp only [List.length_cons];omega
  | @kd d x ps l m hk _ _ ih=>
    have:1<=x.length:=by cases hk<;>simp
    simp only [List.length_cons];omega
theorem i8q:∀ ys:List Str,(ys.map (·.length)).sum=(cat ys).length
  | []=>rfl
  | y::ys=>by rw [List.map_cons,List.sum_cons,i8q ys,cat,List.length_append];rfl
theorem sEq {n:Int} {c:Nat} (hc:c∈SG):cOq n≠ofL [c]:=λ e=>by
  have h:=(lCq n).1 c (by rw [e];exact List.mem_cons_self ..)
  simp at hc;omega
theorem w8q (n:Int):(!(Builtin.Str.occurrences " :," (cOq n) 0 ((" :," : String):Str).length 1).isEmpty)=false:=by
  rw [Bool.eq_false_iff]
  intro h
  obtain ⟨i,h1,h2⟩:=(PySem.StrLaws.found_iff _ _).mp h
  obtain ⟨h3,h4⟩:=lCq n
  unfold Builtin.Str.subAt at h2
  have h2:=eq_of_beq h2
  have h5:=congrArg Array.toList h2
  cases e:(cOq n).cps.toList with
  | nil=>exact h4 e
  | cons c r=>
    rw [e] at h5
    have m:c∈((" :," : String):Str).cps.toList:=by
      have:c∈(((" :," : String):Str).cps.extract i (i+(cOq n).length)).toList:=by rw [h5];exact List.mem_cons_self ..
      rw [Array.toList_extract] at this
      exact List.mem_of_mem_drop (List.mem_of_mem_take this)
    have hk:∀ c∈((" :," : String):Str).cps.toList,¬ (c=45\/48<=c/\c<=57):=by decide +kernel
    exact hk c m (h3 c (by rw [e];exact List.mem_cons_self ..))
theorem s8q {ds:List D} {i:Int} {j:Nat} {d:D} (h0:i < 0) (h1:(j:Int)=ds.length+i) (h:ds[j]?=some d):atI ds i=some d:=by
  have e:ixN ds.length i=some j:=by
    unfold ixN
    rw [if_neg (by omega),if_pos (by omega)]
    congr 1;omega
  unfold atI;rw [e];exact h
theorem iAq (z:Str):∀ n,cZq (List.replicate n (.str z)) (List.replicate n (.str z))=true
  | 0=>rfl
  | n+1=>by rw [List.replicate_succ,cZq,iAq z n];simp [eqD]
theorem i1q (z:Str):∀ n,aXq (List.replicate n (.str z))=true/\bOq (List.replicate n (.str z))<=150
  | 0=>⟨rfl,by simp [bOq]⟩
  | n+1=>by
    obtain ⟨h1,h2⟩:=i1q z n
    rw [List.replicate_succ]
    exact ⟨by rw [aXq,h1];rfl,by rw [bOq];simp only [D.dp];omega⟩
theorem k9q (z:D):∀ n,(List.replicate n [z]).flatten=List.replicate n z
  | 0=>rfl
  | n+1=>by rw [List.replicate_succ,List.flatten_cons,k9q z n];rfl
theorem RP.no {p:Str} {q:D} (h:RP p q):(p=="[")=false/\(p=="(")=false/\(p=="]")=false/\(p==")")=false:=by
  cases h with
  | sgn h=>rcases h with rfl | rfl | rfl<;>exact ⟨by decide,by decide,by decide,by decide⟩
  | som=>exact ⟨by decide,by decide,by decide,by decide⟩
  | num n _=>
    have z:∀ c∈SG,(cOq n==ofL [c])=false:=λ c hc=>by rw [beq_eq_false_iff_ne];exact sEq hc
    rw [vYq,gFq,sAq,gAq]
    exact ⟨z _ (by decide),z _ (by decide),z _ (by decide),z _ (by decide)⟩
structure Frs (G:DV) (fr:Addr) (fs:List (Addr × List D)):Prop where
  top:G fr=some (.lst ((fs.map (·.1)).reverse.map D.ref))
  at_:∀ p∈fs,G p.1=some (.lst p.2)
  nd:(fs.map (·.1)).Nodup
  ne:∀ p∈fs,p.1≠fr
theorem Frs.push {G:DV} {fr q:Addr} {fs:List (Addr × List D)} {f:List D} (h:Frs G fr fs) (hq:G q=none):Frs (up (up G q (.lst f)) fr (.lst ((fs.map (·.1)).reverse.map D.ref++[.ref q]))) fr ((q,f)::fs):=by
  have n1:q≠fr:=by rintro rfl;rw [h.top] at hq;cases hq
  have n2:∀ p∈fs,p.1≠q:=λ p hp e=>by rw [<- e,h.at_ p hp] at hq;cases hq
  refine ⟨by rw [a4q];simp,λ p hp=>?_,?_,λ p hp=>?_⟩
  . rcases List.mem_cons.mp hp with rfl | hp
    . rw [aRq n1];exact a4q
    . rw [aRq (h.ne p hp),aRq (n2 p hp)];exact h.at_ p hp
  . rw [List.map_cons,List.nodup_cons]
    refine ⟨λ m=>?_,h.nd⟩
    obtain ⟨p,hp,e⟩:=List.mem_map.mp m
    exact n2 p hp e
  . rcases List.mem_cons.mp hp with rfl | hp
    . exact n1
    . exact h.ne p hp
theorem Frs.pop {G:DV} {fr:Addr} {p:Addr × List D} {fs:List (Addr × List D)} (h:Frs G fr (p::fs)):Frs (up G fr (.lst ((fs.map (·.1)).reverse.map D.ref))) fr fs:=
  ⟨a4q,λ q hq=>by rw [aRq (h.ne q (List.mem_cons_of_mem _ hq))];exact h.at_ q (List.mem_cons_of_mem _ hq),(List.nodup_cons.mp h.nd).2,λ q hq=>h.ne q (List.mem_cons_of_mem _ hq)⟩
theorem Frs.set {G:DV} {fr a:Addr} {t t':List D} {fs:List (Addr × List D)} (h:Frs G fr ((a,t)::fs)):Frs (up G a (.lst t')) fr ((a,t')::fs):=by
  have n1:=h.ne (a,t) (List.mem_cons_self ..)
  refine ⟨by rw [aRq n1.symm];exact h.top,λ p hp=>?_,h.nd,λ p hp=>?_⟩
  . rcases List.mem_cons.mp hp with rfl | hp
    . exact a4q
    . rw [aRq]
      . exact h.at_ p (List.mem_cons_of_mem _ hp)
      . intro e
        exact (List.nodup_cons.mp h.nd).1 (by rw [<- e];exact List.mem_map_of_mem (f:=(·.1)) hp)
  . rcases List.mem_cons.mp hp with rfl | hp
    . exact n1
    . exact h.ne p (List.mem_cons_of_mem _ hp)
theorem Sub.ext' {G G1:DV} {p:Addr} {o:DO} (h:Sub G G1) (n:G1 p=Option.none):Sub G (up G1 p o):=λ b u e=>Sub.new (Sub.refl _) n b u (h b u e)
theorem hGq (z:Str):txt [z]=z:=c6q (by simp [aWq,cat])
theorem Tk.txt_len {d:D} {x:List Str} (h:Tk d x) (hs:tsz d<=9100):(txt x).length<=240000:=by
  have h1:=h.len
  have h2:=g3q h.few
  show (cat x).length<=_
  omega
theorem bRq (a b:Str):(a++b).length=a.length+b.length:=by
  show (a.cps++b.cps).size=_
  rw [Array.size_append];rfl
theorem wDq {z t:Str} (h1:z.length<=2) (h2:t.length<=240000):z.length+t.length<=sizeLine:=big (by omega)
theorem qSq {z t:Str} (h1:z.length<=2) (h2:t.length<=240002):t.length+z.length<=sizeLine:=big (by omega)
theorem f1q {z t:Str} (h1:z.length<=2) (h2:t.length<=240000):(z++t).length<=240002:=by rw [bRq];omega
theorem l_cm:(("," : String):Str).length=1:=by decide
theorem l_cl:((":" : String):Str).length=1:=by decide
theorem l_rp:((")" : String):Str).length=1:=by decide
theorem l_rb:(("]" : String):Str).length=1:=by decide
theorem dKq:∀ xs:List (List Str),(xs.map λ x=>(cat x).length).sum<=(cat (b3q (" " : Str) xs)).length
  | []=>Nat.le_refl _
  | [x]=>by simp [b3q]
  | x::y::r=>by
    have:=dKq (y::r)
    rw [b3q,aHq,cat,List.length_append,List.length_append,List.map_cons,List.sum_cons]
    omega
end L3
namespace L2
open PySem PySem.Spec PyProof.Rows
section
variable {X:Cx}
theorem qEq {x:Str} {ad:Addr} {tab:Str->Option V} {e:Expr} {ty:TE} {p apos cpos:Pos} (hg:Gl X x) (hm:X.mg x=some (.ref ad)) (T:KTab X.K X.w ad tab) (he:PE X e ty) (m:M1 X (.Name x p) "get" apos e cpos) (hd:(x==("__debug__" : Str))=false:=by decide) :
    PE X (.Call (.Attribute (.Name x p) "get" apos) [e] [] cpos) (λ σ H Q=>ty σ H λ y H1=>∃ z,y=.str z/\Q ((tab z).getD .non) H1):=by
  intro pins s σ H Q I h
  obtain ⟨⟨es,n,hl,hk,ht⟩,lo⟩:=T
  refine wpAny_Call_method m.base m.few m.line PySem.F.plainAttrs_dict PySem.F.slot_dict_get PySem.F.type_dict_get (thn (kZq (v:=.ref ad) hg hm rfl hd pins s σ H (λ v H1=>v=.ref ad/\H1=H) I ⟨rfl,rfl⟩) λ u s1 ⟨x1,H1,I1,rx,ex,eH⟩=>?_)
  subst ex eH
  obtain rfl:u=Value.ref ad:=rx
  have mp:∀ {s':Shared},X.K.In s'.heap->s'.heap.MapOf (strKind X.prog X.w) ad (λ k=>findBy Value.isStrOf es k):=λ k=>PySem.W.mapOf_K k hl hk
  refine ⟨(mp I1.kIn).typeIs,(mp I1.kIn).noDict,?_⟩
  rw [m.trees]
  refine Calls.callWith_builtin rfl (Calls.evalArgs_plain (Calls.spliced_cons (thn (he pins s1 σ H1 _ I1 h) λ iv s2 ⟨y,H2,I2,ry,z,ey,q2⟩=>Calls.spliced_nil ?_)))
  subst ey
  obtain ⟨t,rfl⟩:=ry
  refine call_meetsIn PySem.F.slot_dict_get (mp I2.kIn).typeIs PySem.F.entry_dict_get (PySem.F.args_dict_get_2 _ _) (meets_dict_get (strKind X.prog X.w) ad (strKind_is X.prog X.w z t) lo) ⟨_,mp I2.kIn,(tab z).getD .non,H2,I2.tok _,?_,q2⟩
  exact (ht z).getD rfl
end
end L2
namespace L3
open PySem PySem.Spec L2
section
variable {X:Cx} {e:Expr} {x:Str} {ad:Addr} {tab:Str->Option D} {te:DTE} {p apos cpos:Pos}
abbrev zPq (tab:Str->Option D) (te:DTE):DTE:=λ ρ G Q=>te ρ G λ y G1=>match y with
  | .str z=>Q ((tab z).getD .non) G1
  | _=>False
theorem qBq (hg:Gl X x) (hm:X.mg x=some (.ref ad)) (T:KTabD X.K X.w ad tab) (he:AE X e te) (m:M1 X (.Name x p) "get" apos e cpos:=by exact ⟨rfl,rfl,rfl,rfl⟩) (hd:(x==("__debug__" : Str))=false:=by decide) :
    AE X (.Call (.Attribute (.Name x p) "get" apos) [e] [] cpos) (zPq tab te):=by
  obtain ⟨tv,T,t1,t2⟩:=T
  obtain ⟨ce,je,re⟩:=he.run
  refine ⟨_,⟨qEq hg hm T je.run m hd⟩,λ ρ G DQ σ H Q B q F=>re ρ G _ σ H _ B q λ y G1 v H1 g1 ay q1=>?_⟩
  cases y with
  | str z=>
    cases ay
    refine ⟨z,rfl,?_⟩
    replace q1:DQ ((tab z).getD .non) G1:=q1
    cases ez:tab z with
    | none=>rw [t1 z ez];rw [ez] at q1;exact F .non G1 _ H1 g1 rfl q1
    | some d'=>
      obtain ⟨v',e1,e2⟩:=t2 z d' ez
      rw [e1];rw [ez] at q1
      exact F d' G1 v' H1 g1 (e2 _) q1
  | _=>exact (show False from q1).elim
end
end L3
namespace L2
open PySem PySem.Spec PyProof.Rows
section
variable {X:Cx}
def rIsT (K:PySem.W.Frag):List V->Hp->VK->Prop:=λ xs H Q=>∃ x a,xs=[x,.ref a]/\SqT K H a [.ty "str", .ty "int"]/\((∃ n,x=.int n)\/∃ z,x=.str z)/\Q (.bl true) H
theorem n2q:CallR X (.builtin "isinstance") (rIsT X.K):=by
  intro pins s σ H xs us Q I r h
  obtain ⟨x,a,rfl,sq,hx,hQ⟩:=h
  obtain ⟨u,v,rfl,ru,rv⟩:=Vals.two r
  cases rv
  obtain ⟨its,vt,⟨⟨cls,dd,data,sl⟩,h1,h2,h3⟩,_⟩:=I.tuple sq
  obtain ⟨u1,u2,e,r1,r2⟩:=Vals.two vt
  simp only at h2 h3
  subst h2
  cases r1
  cases r2
  have e':its=[Value.type "str", Value.type "int"]:=e
  subst e'
  obtain ⟨n,rfl⟩:∃ n,data=.seq #[Value.type "str", Value.type "int"] n:=by
    first | exact ⟨_,h3⟩ | exact h3 | (obtain ⟨n,h3⟩:=h3;exact ⟨n,h3⟩)
  have k1:PySem.W.kitAny X.K (.type "int") [.type "str", .type "int"]=some true:=by
    unfold PySem.W.kitAny
    rw [L3.bZq (t:="int") (T:="str") (b:=false) rfl]
    unfold PySem.W.kitAny
    rw [L3.bZq (t:="int") (T:="int") (b:=true) rfl]
  have k2:PySem.W.kitAny X.K (.type "str") [.type "str", .type "int"]=some true:=by
    unfold PySem.W.kitAny
    rw [L3.bZq (t:="str") (T:="str") (b:=true) rfl]
  rcases hx with ⟨n,rfl⟩ | ⟨z,rfl⟩
  . obtain ⟨t,rfl⟩:=ru
    exact PySem.W.kia_tup (its:=[Value.type "str", Value.type "int"]) PySem.W.kitx_int I.kIn trivial h1 k1 (λ z=>nomatch z) λ tk=>⟨.bl true,H,I.tok tk,rfl,hQ⟩
  . obtain ⟨t,rfl⟩:=ru
    exact PySem.W.kia_tup (its:=[Value.type "str", Value.type "int"]) PySem.W.kitx_str I.kIn trivial h1 k2 (λ z=>nomatch z) λ tk=>⟨.bl true,H,I.tok tk,rfl,hQ⟩
end
end L2
namespace L3
open PySem PySem.Spec L2
section
variable {X:Cx}
def isSI:D->D->DV->DK->Prop:=λ x y G Q=>y=.tup [.ty "str", .ty "int"]/\match x with
  | .int _=>Q (.bl true) G
  | .str _=>Q (.bl true) G
  | _=>False
theorem mOq:ACall X (.builtin "isinstance") (wEq isSI):=by
  refine ⟨_,⟨n2q⟩,λ xs vs G H DQ Q v a r F=>?_⟩
  obtain ⟨x,y,u,w,rfl,rfl,ax,ay,r1⟩:=eXq r a
  clear r
  obtain ⟨rfl,r0⟩:=r1
  obtain ⟨l,ws,rfl,sq,rl⟩:=ay
  obtain ⟨v1,r3,rfl,a1,v2,r2,rfl,a2,e⟩:=rl
  cases a1;cases a2;cases e
  cases x with
  | int z=>cases ax;exact ⟨_,l,rfl,sq,.inl ⟨z,rfl⟩,F (.bl true) G _ H (.refl v) rfl r0⟩
  | str z=>cases ax;exact ⟨_,l,rfl,sq,.inr ⟨z,rfl⟩,F (.bl true) G _ H (.refl v) rfl r0⟩
  | _=>exact (show False from r0).elim
end
abbrev SQ2:List Nat:=[40,41,91,93,32,35,46,126]
theorem uAq:(("()[] #.~" : String):Str).cps.toList=SQ2:=by decide +kernel
theorem cXq (S:List Nat):∀ l cur,cat (pcs S cur l)=cur++l
  | [],cur=>by
    rw [pcs,List.append_nil]
    split
    . next h=>rw [h];rfl
    . simp [cat,aWq]
  | c::l,cur=>by
    rw [pcs]
    split
    . rw [aHq,cat,cXq S l []]
      split
      . next h=>rw [h];rfl
      . simp [cat,aWq]
    . rw [cXq S l,List.append_assoc];rfl
theorem kMq {S rest:List Nat} (hr:Hds S rest):∀ l cur,pcs S cur (l++rest)=pcs S cur l++pcs S [] rest
  | [],cur=>by
    rw [List.nil_append]
    rcases hr with rfl | ⟨c,r,rfl,hc⟩
    . simp [pcs]
    . conv=>lhs;rw [pcs,if_pos hc]
      rw [iCq hc,pcs]
  | c::l,cur=>by
    rw [List.cons_append,pcs,pcs]
    split
    . rw [kMq hr l [],List.append_assoc];rfl
    . rw [kMq hr l]
def Cutd (S:List Nat) (x:List Str):Prop:=∀ z∈x,(∃ c∈S,z=ofL [c])\/(z.cps.toList≠[]/\∀ c∈z.cps.toList,c ∉ S)
theorem kTq (S:List Nat):∀ l cur,(∀ c∈cur,c ∉ S)->Cutd S (pcs S cur l)
  | [],cur,h,z,hz=>by
    rw [pcs] at hz
    split at hz
    . cases hz
    . next hne=>simp at hz;subst hz;exact .inr ⟨hne,h⟩
  | c::l,cur,h,z,hz=>by
    rw [pcs] at hz
    split at hz
    . next hc=>
      rcases List.mem_append.mp hz with hz | hz
      . split at hz
        . cases hz
        . next hne=>simp at hz;subst hz;exact .inr ⟨hne,h⟩
      . rcases List.mem_cons.mp hz with rfl | hz
        . exact .inl ⟨c,hc,rfl⟩
        . exact kTq S l [] (by simp) z hz
    . next hc=>exact kTq S l (cur++[c]) (λ d hd=>by rcases List.mem_append.mp hd with hd | hd;exact h d hd;simp at hd;subst hd;exact hc) z hz
theorem jYq (S:List Nat):∀ l cur,(pcs S cur l).length<=cur.length+l.length
  | [],cur=>by
    rw [pcs]
    split
    . simp
    . next h=>
      have:1<=cur.length:=List.length_pos_iff.mpr h
      simp;omega
  | c::l,cur=>by
    rw [pcs]
    split
    . have:=jYq S l []
      rw [List.length_append,List.length_cons]
      split
      . simp only [List.length_nil,List.length_cons] at *;omega
      . next h=>
        have:1<=cur.length:=List.length_pos_iff.mpr h
        simp only [List.length_nil,List.length_cons] at *;omega
    . have:=jYq S l (cur++[c])
      simp only [List.length_append,List.length_nil,List.length_cons] at *;omega
def stc (e c:Nat):Option Nat:=
  if e=0/\(c=32\/c=41\/c=93) then none else if c=40\/c=91 then some (e+1) else if c=41\/c=93 then some (e - 1) else some e
def rnc:Nat->List Nat->Option Nat
  | e,[]=>some e
  | e,c::l=>(stc e c).bind λ e'=>rnc e' l
theorem cHq:∀ (l:List Nat) {e e':Nat} {r:List Nat},rnc e l=some e'->rnc e (l++r)=rnc e' r
  | [],e,e',r,h=>by cases h;rfl
  | c::l,e,e',r,h=>by
    rw [List.cons_append,rnc] at *
    cases hs:stc e c with
    | none=>rw [hs] at h;cases h
    | some e1=>rw [hs] at h;exact cHq l h
theorem cNq {e:Nat}:∀ {l:List Nat},(∀ c∈l,c≠32/\c≠41/\c≠40/\c≠91/\c≠93)->rnc e l=some e
  | [],_=>rfl
  | c::l,h=>by
    have h1:=h c (List.mem_cons_self ..)
    have h2:=cNq (e:=e) λ d hd=>h d (List.mem_cons_of_mem _ hd)
    rw [rnc,stc,if_neg (by omega),if_neg (by omega),if_neg (by omega)]
    exact h2
def Bal (l:List Nat):Prop:=∀ e,rnc e l=some e
theorem m2q {l:List Nat} (o c:Nat) (ho:o=40\/o=91) (hc:c=41\/c=93) (h:∀ e,0 < e->rnc e l=some e):Bal (o::(l++[c])):=λ e=>by
  rw [rnc,stc,if_neg (by omega),if_pos ho]
  show rnc (e+1) (l++[c])=some e
  rw [cHq l (h (e+1) (by omega)),rnc,stc,if_neg (by omega),if_neg (by omega),if_pos hc]
  rfl
theorem jGq:∀ {xs:List (List Str)},(∀ x∈xs,Bal (cat x))->∀ e,0 < e->rnc e (cat (b3q (" " : Str) xs))=some e
  | [],_,e,_=>rfl
  | [x],h,e,_=>h x (by simp) e
  | x::y::r,h,e,he=>by
    rw [b3q,aHq,cHq _ (h x (by simp) e),cat,f3q]
    show rnc e (32::cat (b3q (" " : Str) (y::r)))=some e
    rw [rnc,stc,if_neg (by omega),if_neg (by omega),if_neg (by omega)]
    exact jGq (λ z hz=>h z (List.mem_cons_of_mem _ hz)) e he
theorem aB4q {d:D} {x:List Str} (h:Tk d x):Bal (cat x):=by
  have b1:∀ e,rnc e [44]=some e:=λ e=>cNq (by simp)
  have b2:∀ e,rnc e [58]=some e:=λ e=>cNq (by simp)
  induction h with
  | is n hn=>
    intro e
    rw [cat,cat,List.append_nil]
    exact cNq λ c hc=>by have:=(lCq n).1 c hc;omega
  | some=>intro e;rw [tXq];exact cNq (by simp [cat,ofL])
  | @left a x _ h=>
    have e:cat ("("::(x++[(",":Str),(")":Str)]))=40::((cat x++[44])++[41]):=by rw [gFq,oUq,gAq];simp [cat,aHq,aWq]
    rw [e]
    exact m2q _ _ (.inl rfl) (.inl rfl) λ e _=>by rw [cHq _ (h e)];exact b1 e
  | @right a x _ h=>
    have e:cat ("("::","::(x++[(")":Str)]))=40::(([44]++cat x)++[41]):=by rw [gFq,oUq,gAq];simp [cat,aHq,aWq]
    rw [e]
    exact m2q _ _ (.inl rfl) (.inl rfl) λ e _=>by rw [cHq _ (b1 e)];exact h e
  | @both a b x y _ _ h1 h2=>
    have e:cat ("("::(x++("," : Str)::(y++[(")":Str)])))=40::((cat x++([44]++cat y))++[41]):=by rw [gFq,oUq,gAq];simp [cat,aHq,aWq]
    rw [e]
    exact m2q _ _ (.inl rfl) (.inl rfl) λ e _=>by rw [cHq _ (h1 e),cHq _ (b1 e)];exact h2 e
  | @way ps k y _ _ _ h1 h2=>
    have e:cat ("["::(b3q (" " : Str) (ps.map (·.2))++(":" : Str)::(y++[("]":Str)])))=91::((cat (b3q (" " : Str) (ps.map (·.2)))++([58]++cat y))++[93]):=by rw [vYq,s_cl,sAq];simp [cat,aHq,aWq]
    rw [e]
    exact m2q _ _ (.inr rfl) (.inr rfl) λ e he=>by
      rw [cHq _ (jGq (λ x hx=>by obtain ⟨p,hp,rfl⟩:=List.mem_map.mp hx;exact h1 p hp) e he),cHq _ (b2 e)]
      exact h2 e
def unW:List Str:=["way", "left", "right", "first", "second"]
def biW:List Str:=["both", "plus", "look"]
inductive Nd:Str->List D->D->Prop
  | un {w:Str} (p:D):w∈unW->Nd w [p] (.tup [.str w,p])
  | bi {w:Str} (p q:D):w∈biW->Nd w [p,q] (.tup [.str w,p,q])
  | give (p:D) (ps:List D):ps.length<=6->Nd "give" (p::ps) (.tup [.str "give", p,.tup ps])
def e0q:List (List Str)->List Str
  | []=>[]
  | x::xs=>" "::(x++e0q xs)
inductive Pk:D->List Str->Prop
  | some:Pk (.tup [.str "some"]) ["~"]
  | whole:Pk (.tup [.str "whole"]) ["."]
  | name {k:D} {x:List Str}:Tk k x->IsKd k->Bd 9100 120 40 k->(cat x).length<=1300->Pk (.tup [.str "name", k]) (("#" : Str)::pcs SQ2 [] (cat x))
  | node {w:Str} {ps:List (D × List Str)} {d:D}:Nd w (ps.map (·.1)) d->(∀ p∈ps,Pk p.1 p.2)->Pk d (("(" : Str)::w::(e0q (ps.map (·.2))++[(")" : Str)]))
theorem h6q {w:Str} {ds:List D} {d:D} (h:Nd w ds d):w∈unW++biW++[("give" : Str)]:=by
  cases h with
  | un _ h=>simp [h]
  | bi _ _ h=>simp [h]
  | give=>simp
theorem cKq:∀ w∈unW++biW++[("give" : Str)],w.cps.toList≠[]/\(∀ c∈w.cps.toList,c ∉ SQ2)/\w.length<=6:=by decide +kernel
theorem mRq {w:Str} {ds:List D} {d:D} (h:Nd w ds d):ds≠[]/\ds.length<=7:=by
  cases h with
  | un=>simp
  | bi=>simp
  | give p ps h=>simp;omega
theorem s_hs:(("#" : String):Str)=ofL [35]:=by decide +kernel
theorem s_dt:(("." : String):Str)=ofL [46]:=by decide +kernel
def Gp (x:List Str):Prop:=∀ rest,Hds SQ2 rest->pcs SQ2 [] (cat x++rest)=x++pcs SQ2 [] rest
theorem mUq {z:Str} {c:Nat} (h:z=ofL [c]) (x:List Str) (rest:List Nat) (hc:c∈SQ2):pcs SQ2 [] (cat (z::x)++rest)=z::pcs SQ2 [] (cat x++rest):=by
  subst h;exact iCq hc
theorem hd_p {z:Str} {c:Nat} (h:z=ofL [c]) (x:List Str) (rest:List Nat) (hc:c∈SQ2):Hds SQ2 (cat (z::x)++rest):=by
  subst h;exact .inr ⟨c,_,rfl,hc⟩
theorem n6q (xs:List (List Str)) {rest:List Nat} (hr:Hds SQ2 rest):Hds SQ2 (cat (e0q xs)++rest):=by
  cases xs with
  | nil=>exact hr
  | cons x xs=>exact hd_p wBq _ _ (by decide)
theorem pHq:∀ {xs:List (List Str)},(∀ x∈xs,Gp x)->Gp (e0q xs)
  | [],_,rest,_=>rfl
  | x::xs,h,rest,hr=>by
    rw [e0q,mUq wBq _ _ (by decide),aHq,List.append_assoc,h x (by simp) _ (n6q xs hr),pHq (λ z hz=>h z (List.mem_cons_of_mem _ hz)) rest hr]
    simp
theorem aF7q {d:D} {x:List Str} (h:Pk d x):Gp x:=by
  induction h with
  | some=>intro rest hr;rw [mUq tXq _ _ (by decide)];rfl
  | whole=>intro rest hr;rw [mUq s_dt _ _ (by decide)];rfl
  | @name k x _ _ _ _=>intro rest hr;rw [mUq s_hs _ _ (by decide),cXq,List.nil_append,kMq hr];rfl
  | @node w ps d hn _ h=>
    intro rest hr
    obtain ⟨w1,w2,_⟩:=cKq w (h6q hn)
    have hR:=pHq (xs:=ps.map (·.2)) λ x hx=>by obtain ⟨p,hp,rfl⟩:=List.mem_map.mp hx;exact h p hp
    rw [mUq gFq _ _ (by decide),cat,List.append_assoc,kNq (show Hds SQ2 (cat (e0q (ps.map (·.2))++[(")" : Str)])++rest) by rw [aHq,List.append_assoc];exact n6q _ (hd_p gAq _ _ (by decide))) _ _ w2 (by simpa using w1),aHq,List.append_assoc,hR _ (hd_p gAq _ _ (by decide)),mUq gAq _ _ (by decide)]
    simp [cat,ofL]
theorem iWq {d:D} {x:List Str} (h:Pk d x):pcs SQ2 [] (cat x)=x:=by
  have:=aF7q h [] (.inl rfl)
  rw [List.append_nil,pcs,if_pos rfl,List.append_nil] at this
  exact this
def c5q:List D->List D
  | []=>[]
  | d::ds=>.str " "::d::c5q ds
inductive Pcl:List D->D->Prop
  | mk {w:Str} {ds:List D} {k:D}:Nd w ds k->(∀ d∈ds,∃ xs,d=.tup xs)->Pcl (.str w::c5q ds) k
inductive RP2:Str->D->Prop
  | sp:RP2 " " (.str " ")
  | som:RP2 "~" (.tup [.str "some"])
  | whl:RP2 "." (.tup [.str "whole"])
  | wrd {w:Str}:w∈unW++biW++[("give" : Str)]->RP2 w (.str w)
def EndR (r:List Str):Prop:=r=[]\/∃ z r',r=z::r'/\(z = " "\/z = ")")
inductive Rp:List (List D)->List Str->List (List D)->Prop
  | nil (st:List (List D)):Rp st [] st
  | opn {st st':List (List D)} {r:List Str}:Rp ([]::st) r st'->Rp st (("(" : Str)::r) st'
  | cls {c t:List D} {k:D} {st st':List (List D)} {r:List Str}:Pcl c k->Rp ((t++[k])::st) r st'->Rp (c::t::st) ((")" : Str)::r) st'
  | nam {k:D} {x:List Str} {t:List D} {st st':List (List D)} {r:List Str}:Tk k x->IsKd k->Bd 9100 120 40 k->EndR r->Rp ((t++[.tup [.str "name", k]])::st) r st'->Rp (t::st) (("#" : Str)::(pcs SQ2 [] (cat x)++r)) st'
  | oth {p:Str} {q:D} {t:List D} {st st':List (List D)} {r:List Str}:RP2 p q->Rp ((t++[q])::st) r st'->Rp (t::st) (p::r) st'
theorem xSq {w:Str} {ds:List D} {d:D} (h:Nd w ds d):∃ xs,d=.tup xs:=by cases h<;>exact ⟨_,rfl⟩
theorem nGq {d:D} {x:List Str} (h:Pk d x):∃ xs,d=.tup xs:=by
  cases h with
  | some=>exact ⟨_,rfl⟩
  | whole=>exact ⟨_,rfl⟩
  | name=>exact ⟨_,rfl⟩
  | node hn _=>exact xSq hn
theorem o4q:∀ {ps:List (D × List Str)} {c:List D} {st st':List (List D)} {r:List Str},(∀ p∈ps,∀ (t:List D) (st:List (List D)) (r:List Str) (st':List (List D)),EndR r->Rp ((t++[p.1])::st) r st'->Rp (t::st) (p.2++r) st')->Rp ((c++c5q (ps.map (·.1)))::st) ((")" : Str)::r) st'->Rp (c::st) (e0q (ps.map (·.2))++(")" : Str)::r) st'
  | [],c,st,st',r,_,h=>by simpa [e0q,c5q] using h
  | p::ps,c,st,st',r,hp,h=>by
    rw [List.map_cons,e0q,List.cons_append,List.append_assoc]
    refine .oth .sp (hp p (by simp) _ _ _ _ ?_ (o4q (λ q hq=>hp q (List.mem_cons_of_mem _ hq)) ?_))
    . cases ps with
      | nil=>exact .inr ⟨_,_,rfl,.inr rfl⟩
      | cons q qs=>exact .inr ⟨_,_,rfl,.inl rfl⟩
    . simpa [c5q,List.append_assoc] using h
theorem aE2q {d:D} {x:List Str} (h:Pk d x):∀ (t:List D) (st:List (List D)) (r:List Str) (st':List (List D)),EndR r->Rp ((t++[d])::st) r st'->Rp (t::st) (x++r) st':=by
  induction h with
  | some=>intro t st r st' _ h;exact .oth .som h
  | whole=>intro t st r st' _ h;exact .oth .whl h
  | name h1 h2 h3 _=>intro t st r st' hr h;exact .nam h1 h2 h3 hr h
  | @node w ps d hn h0 ih=>
    intro t st r st' hr h
    rw [List.cons_append,List.cons_append,List.append_assoc]
    refine .opn (.oth (.wrd (h6q hn)) (o4q ih (.cls (.mk hn ?_) h)))
    intro d hd
    obtain ⟨p,hp,rfl⟩:=List.mem_map.mp hd
    exact nGq (h0 p hp)
theorem oQq:∀ ds:List D,ev2 (c5q ds)=List.replicate ds.length (.str " ")/\ev2 ((c5q ds).drop 1)=ds
  | []=>⟨rfl,rfl⟩
  | d::ds=>by
    obtain ⟨h1,h2⟩:=oQq ds
    have hx:∀ (a:D) (l:List D),ev2 (a::l)=a::ev2 (l.drop 1):=λ a l=>by cases l<;>rfl
    rw [c5q]
    refine ⟨by rw [ev2,h1];rfl,?_⟩
    rw [List.drop_succ_cons,List.drop_zero,hx,h2]
theorem oAq {d:D} {x:List Str} (h:Tk d x):1<=(cat x).length:=by
  have h1:=h.gd [] (.inl rfl)
  cases e:cat x with
  | nil=>
    exfalso
    have h2:=h.pieces
    rw [e,pcs,if_pos rfl] at h2
    rw [<- h2] at h
    cases h
  | cons _ _=>simp
theorem pYq (xs:List (List Str)):(xs.map λ x=>(cat x).length).sum<=(cat (b3q (" " : Str) xs)).length:=dKq xs
theorem nCq:∀ {ps:List (D × List Str)},(∀ p∈ps,tsz p.1<=3 * (cat p.2).length)->bGq (ps.map (·.1))<=3 * ((ps.map (·.2)).map λ x=>(cat x).length).sum
  | [],_=>by simp [bGq]
  | p::ps,h=>by
    have h1:=h p (List.mem_cons_self ..)
    have h2:=nCq λ q hq=>h q (List.mem_cons_of_mem _ hq)
    simp only [List.map_cons,List.sum_cons,bGq] at *
    omega
theorem xUq {d:D} {x:List Str} (h:Tk d x):tsz d<=3 * (cat x).length:=by
  induction h with
  | is n hn=>
    have:=oAq (.is n hn)
    simp only [tsz,bGq];omega
  | some=>have:=oAq .some;simp only [tsz,bGq];omega
  | left _ h=>rw [gFq];simp only [tsz,bGq,cat,aHq,aWq,List.length_append,List.length_cons,List.length_nil];omega
  | right _ h=>rw [gFq];simp only [tsz,bGq,cat,aHq,aWq,List.length_append,List.length_cons,List.length_nil];omega
  | both _ _ h1 h2=>rw [gFq];simp only [tsz,bGq,cat,aHq,aWq,List.length_append,List.length_cons,List.length_nil];omega
  | @way ps k y _ _ _ h1 h2=>
    have a:=nCq h1
    have b:=pYq (ps.map (·.2))
    rw [vYq,sAq];simp only [tsz,bGq,cat,aHq,aWq,List.length_append,List.length_cons,List.length_nil];omega
theorem wSq {d:D} {x:List Str} (h:Tk d x):wid d<=40:=by
  induction h with
  | is n hn=>simp [wid,lHq]
  | some=>simp [wid,lHq]
  | left _ h=>simp only [wid,lHq,List.length_cons,List.length_nil];omega
  | right _ h=>simp only [wid,lHq,List.length_cons,List.length_nil];omega
  | both _ _ h1 h2=>simp only [wid,lHq,List.length_cons,List.length_nil];omega
  | @way ps k y _ _ hl h1 h2=>
    have:lHq (ps.map (·.1))<=40:=p0q λ d hd=>by obtain ⟨p,hp,rfl⟩:=List.mem_map.mp hd;exact h1 p hp
    simp only [wid,lHq,List.length_cons,List.length_nil,List.length_map];omega
def KC (c p:Nat) (d:D):Prop:=IsKc d/\d.dp<=p/\∃ x,Tk d x/\(cat x).length<=c
theorem KC.mono {c p c' p':Nat} {d:D} (h:KC c p d) (h1:c<=c') (h2:p<=p'):KC c' p' d:=by
  obtain ⟨a,b,x,t,l⟩:=h
  exact ⟨a,by omega,x,t,by omega⟩
theorem KC.bd {d:D} (h:KC 1300 100 d):Bd 9100 120 40 d:=by
  obtain ⟨_,b,x,t,l⟩:=h
  have:=xUq t
  exact ⟨by omega,by omega,wSq t⟩
theorem rRq {n:Int} (h:n.natAbs < 10 ^ 12):KC 13 1 (.tup [.str "is", .int n]):=⟨.is n h,by simp [D.dp,bOq],_,.is n h,by rw [cat,cat,List.append_nil];exact (i3q h).2⟩
theorem kc_some:KC 13 1 (.tup [.str "some"]):=⟨.some,by simp [D.dp,bOq],_,.some,by rw [tXq];simp [cat,ofL]⟩
theorem vMq {c p c' p':Nat} {a b:D} (h1:KC c p a) (h2:KC c' p' b) (o1:ofA a=true) (o2:ofA b=true):KC (c+c'+3) (1+max p p') (.tup [.str "both", a,b]):=by
  obtain ⟨k1,d1,x,t1,l1⟩:=h1
  obtain ⟨k2,d2,y,t2,l2⟩:=h2
  refine ⟨.both k1 k2 o1 o2,by simp only [D.dp,bOq];omega,_,.both t1 t2,?_⟩
  rw [gFq,oUq,gAq];simp only [cat,aHq,aWq,List.length_append,List.length_cons,List.length_nil];omega
theorem nVq {c p:Nat} {a:D} (h1:KC c p a):KC (c+3) (1+p) (.tup [.str "left", a]):=by
  obtain ⟨k1,d1,x,t1,l1⟩:=h1
  refine ⟨.left k1,by simp only [D.dp,bOq];omega,_,.left t1,?_⟩
  rw [gFq,oUq,gAq];simp only [cat,aHq,aWq,List.length_append,List.length_cons,List.length_nil];omega
theorem l7q {c p:Nat} {a:D} (h1:KC c p a):KC (c+3) (1+p) (.tup [.str "right", a]):=by
  obtain ⟨k1,d1,x,t1,l1⟩:=h1
  refine ⟨.right k1,by simp only [D.dp,bOq];omega,_,.right t1,?_⟩
  rw [gFq,oUq,gAq];simp only [cat,aHq,aWq,List.length_append,List.length_cons,List.length_nil];omega
theorem lRq {c:Nat}:∀ {xs:List (List Str)},(∀ x∈xs,(cat x).length<=c)->(cat (b3q (" " : Str) xs)).length<=xs.length * (c+1)
  | [],_=>by simp [b3q,cat]
  | [x],h=>by have:=h x (by simp);simp [b3q];omega
  | x::y::r,h=>by
    have h1:=h x (by simp)
    have h2:=lRq (xs:=y::r) λ z hz=>h z (List.mem_cons_of_mem _ hz)
    rw [b3q,aHq,cat,f3q,List.length_cons,Nat.succ_mul]
    simp only [List.length_append,List.length_cons,List.length_nil] at *
    omega
theorem pSq {c p c' p' n:Nat} {ds:List D} {k:D} (h1:∀ d∈ds,KC c p d) (hs:g7q ds=true) (h2:KC c' p' k) (hl:ds.length<=n) (hn:n<=40):KC (n * (c+1)+c'+3) (1+max (1+p) p') (.tup [.str "way", .tup ds,k]):=by
  obtain ⟨k2,d2,y,t2,l2⟩:=h2
  obtain ⟨ps,e,hp⟩:=fVq λ d hd=>(h1 d hd).2.2
  have hd:bOq ds<=p:=kSq λ d hd=>(h1 d hd).2.1
  refine ⟨.way (λ d hd=>(h1 d hd).1) hs k2,by simp only [D.dp,bOq];omega,?_⟩
  subst e
  rw [List.length_map] at hl
  refine ⟨_,.way (λ p hp'=>(hp p hp').1) t2 (by omega),?_⟩
  have:=lRq (xs:=ps.map (·.2)) (c:=c) λ x hx=>by obtain ⟨p,hp',rfl⟩:=List.mem_map.mp hx;exact (hp p hp').2
  have h3:(ps.map (·.2)).length * (c+1)<=n * (c+1):=Nat.mul_le_mul_right _ (by rw [List.length_map];exact hl)
  rw [vYq,s_cl,sAq];simp only [cat,aHq,aWq,List.length_append,List.length_cons,List.length_nil];omega
def PC2 (c p:Nat) (d:D):Prop:=d.dp<=p/\∃ x,Pk d x/\(cat x).length<=c
theorem PC2.mono {c p c' p':Nat} {d:D} (h:PC2 c p d) (h1:c<=c') (h2:p<=p'):PC2 c' p' d:=by
  obtain ⟨b,x,t,l⟩:=h
  exact ⟨by omega,x,t,by omega⟩
theorem pc_some:PC2 2000 1 (.tup [.str "some"]):=⟨by simp [D.dp,bOq],_,.some,by rw [tXq];simp [cat,ofL]⟩
theorem pc_whole:PC2 2000 1 (.tup [.str "whole"]):=⟨by simp [D.dp,bOq],_,.whole,by rw [s_dt];simp [cat,ofL]⟩
theorem vFq {k:D} (h:KC 1300 100 k):PC2 2000 (1+k.dp) (.tup [.str "name", k]):=by
  have hb:=h.bd
  obtain ⟨k1,d1,x,t1,l1⟩:=h
  refine ⟨by simp only [D.dp,bOq];omega,_,.name t1 k1.kd hb (by omega),?_⟩
  rw [s_hs,cat,cXq];simp only [aWq,List.length_append,List.length_cons,List.length_nil];omega
theorem aE8q {c p:Nat} {w:Str} {a:D} (hw:w∈unW) (h:PC2 c p a):PC2 (c+20) (1+p) (.tup [.str w,a]):=by
  obtain ⟨d1,x,t1,l1⟩:=h
  refine ⟨by simp only [D.dp,bOq];omega,_,.node (ps:=[(a,x)]) (.un a hw) (by simpa using t1),?_⟩
  have:=(cKq w (by simp [hw])).2.2
  have e:w.cps.toList.length=w.length:=Array.length_toList
  rw [gFq,gAq];simp only [List.map_cons,List.map_nil,e0q,cat,aHq,f3q,aWq,List.length_append,List.length_cons,List.length_nil];omega
theorem aK4q {c p c' p':Nat} {w:Str} {a b:D} (hw:w∈biW) (h:PC2 c p a) (h':PC2 c' p' b):PC2 (c+c'+20) (1+max p p') (.tup [.str w,a,b]):=by
  obtain ⟨d1,x,t1,l1⟩:=h
  obtain ⟨d2,y,t2,l2⟩:=h'
  refine ⟨by simp only [D.dp,bOq];omega,_,.node (ps:=[(a,x),(b,y)]) (.bi a b hw) (by simpa using ⟨t1,t2⟩),?_⟩
  have:=(cKq w (by simp [hw])).2.2
  have e:w.cps.toList.length=w.length:=Array.length_toList
  rw [gFq,gAq];simp only [List.map_cons,List.map_nil,e0q,cat,aHq,f3q,aWq,List.length_append,List.length_cons,List.length_nil];omega
theorem l9q {c:Nat}:∀ {xs:List (List Str)},(∀ x∈xs,(cat x).length<=c)->(cat (e0q xs)).length<=xs.length * (c+1)
  | [],_=>by simp [e0q,cat]
  | x::xs,h=>by
    have h1:=h x (by simp)
    have h2:=l9q (xs:=xs) λ z hz=>h z (List.mem_cons_of_mem _ hz)
    rw [e0q,cat,f3q,aHq,List.length_cons,Nat.succ_mul]
    simp only [List.length_append,List.length_cons,List.length_nil] at *
    omega
theorem tJq {c p c' p' n:Nat} {a:D} {ds:List D} (h:PC2 c p a) (h':∀ d∈ds,PC2 c' p' d) (hl:ds.length<=n) (hn:n<=6):PC2 (c+n * (c'+1)+20) (1+max p (1+p')) (.tup [.str "give", a,.tup ds]):=by
  obtain ⟨d1,x,t1,l1⟩:=h
  obtain ⟨ps,e,hp⟩:=fVq λ d hd=>(h' d hd).2
  have hd:bOq ds<=p':=kSq λ d hd=>(h' d hd).1
  refine ⟨by simp only [D.dp,bOq];omega,?_⟩
  subst e
  rw [List.length_map] at hl
  refine ⟨_,.node (w:="give") (ps:=(a,x)::ps) (.give a _ (by rw [List.length_map];omega)) (λ q hq=>by rcases List.mem_cons.mp hq with rfl | hq;exact t1;exact (hp q hq).1),?_⟩
  have:=l9q (xs:=ps.map (·.2)) (c:=c') λ x hx=>by obtain ⟨p,hp',rfl⟩:=List.mem_map.mp hx;exact (hp p hp').2
  have h3:(ps.map (·.2)).length * (c'+1)<=n * (c'+1):=Nat.mul_le_mul_right _ (by rw [List.length_map];exact hl)
  have e:("give" : Str).cps.toList.length=4:=by decide
  rw [gFq,gAq];simp only [List.map_cons,e0q,cat,aHq,f3q,aWq,List.length_append,List.length_cons,List.length_nil,e];omega
inductive SplP:D->List D->Prop
  | some:SplP (.tup [.str "some"]) [.str "~"]
  | whole:SplP (.tup [.str "whole"]) [.str "."]
  | name {k:D} {x:List Str}:Tk k x->tsz k<=9100->SplP (.tup [.str "name", k]) [.str (("#" : Str)++txt x)]
  | node {w:Str} {es:List D} {d:D}:Nd w es d->SplP d (.str (("(" : Str)++w)::(c5q es++[.str ")"]))
inductive ItsP:List D->List Nat->Nat->Prop
  | nil:ItsP [] [] 0
  | str {ps:List D} {l:List Nat} {m:Nat} (z:Str):ItsP ps l m->ItsP (.str z::ps) (z.cps.toList++l) (1+m)
  | kd {d:D} {x:List Str} {ps:List D} {l:List Nat} {m:Nat}:Pk d x->ItsP ps l m->ItsP (d::ps) (cat x++l) (3 * x.length+m)
theorem ItsP.of {ps qs:List D} {l k:List Nat} {m:Nat} (h:ItsP ps l m) (e1:ps=qs) (e2:l=k):ItsP qs k m:=by subst e1 e2;exact h
theorem iJq:∀ {ps:List (D × List Str)} {rs:List D} {l:List Nat} {m:Nat},(∀ p∈ps,Pk p.1 p.2)->ItsP rs l m->∃ m',m'<=3 * (e0q (ps.map (·.2))).length+m/\ItsP (c5q (ps.map (·.1))++rs) (cat (e0q (ps.map (·.2)))++l) m'
  | [],rs,l,m,_,h=>⟨m,by simp,h⟩
  | p::ps,rs,l,m,hp,h=>by
    obtain ⟨m',h1,h2⟩:=iJq (ps:=ps) (λ z hz=>hp z (List.mem_cons_of_mem _ hz)) h
    have z:=ItsP.str " " (ItsP.kd (hp p (by simp)) h2)
    refine ⟨_,?_,z.of rfl ?_⟩
    . simp only [List.map_cons,e0q,List.length_append,List.length_cons] at h1 ⊢;omega
    . simp only [List.map_cons,e0q,aHq,cat,List.append_assoc]
theorem eAq:∀ ds:List D,(c5q ds).length=2 * ds.length
  | []=>rfl
  | d::ds=>by rw [c5q,List.length_cons,List.length_cons,eAq ds,List.length_cons];omega
theorem j7q:∀ (xs:List D) (e:D),c5q (xs++[e])=c5q xs++[.str " ", e]
  | [],e=>rfl
  | d::xs,e=>by rw [List.cons_append,c5q,j7q xs e,c5q];rfl
theorem zBq {d:D} {x:List Str} (h:Pk d x):∃ qs,SplP d qs/\qs.length<=30/\∀ rs l m,ItsP rs l m->∃ m',m' < 3 * x.length+m/\ItsP (qs++rs) (cat x++l) m':=by
  cases h with
  | some=>exact ⟨_,.some,by simp,λ rs l m h=>⟨_,by simp,(ItsP.str "~" h).of (by simp) (by simp [cat])⟩⟩
  | whole=>exact ⟨_,.whole,by simp,λ rs l m h=>⟨_,by simp,(ItsP.str "." h).of (by simp) (by simp [cat])⟩⟩
  | @name k x h1 h2 h3 _=>exact ⟨_,.name h1 h3.sz,by simp,λ rs l m h=>⟨1+m,by simp;omega,(ItsP.str (("#" : Str)++txt x) h).of (by simp) (by rw [bSq,cat,cXq];rfl)⟩⟩
  | @node w ps _ hn h1=>
    have hl:=(mRq hn).2
    refine ⟨_,.node hn,by simp only [List.length_cons,List.length_append,List.length_nil,eAq];omega,λ rs l m h=>?_⟩
    obtain ⟨m',e1,e2⟩:=iJq h1 (.str ")" h)
    refine ⟨1+m',?_,(ItsP.str (("(" : Str)++w) e2).of ?_ ?_⟩
    . simp only [List.length_cons,List.length_append,List.length_nil];omega
    . simp
    . simp [cat,aHq,bSq]
theorem m7q {ps:List D} {l:List Nat} {m:Nat} (h:ItsP ps l m):ps.length<=m:=by
  induction h with
  | nil=>exact Nat.le_refl _
  | str z _ ih=>simp only [List.length_cons];omega
  | @kd d x ps l m hk _ ih=>
    have:1<=x.length:=by cases hk<;>simp
    simp only [List.length_cons];omega
theorem sWq {d:D} {x:List Str} (h:Pk d x):x.length<=(cat x).length:=by
  have:=jYq SQ2 (cat x) []
  rw [iWq h] at this
  simpa using this
abbrev sgnP:Str:="()[] #.~"
def jQq:DSp:=λ ds G Q=>∃ z:Str,ds=[.str z,.str sgnP]/\z.length<=300000/\∀ l,G l=none->Q (.ref l) (up G l (.lst ((pcs SQ2 [] z.cps.toList).map D.str)))
def u8q:DSp:=λ ds G Q=>∃ (w:Str) (es:List D),ds=[.str w,.tup es]/\w.length<=10/\es.length<=10/\∀ l,G l=none->Q (.ref l) (up G l (.lst (.str (("(" : Str)++w)::(c5q es++[.str ")"]))))
def nSq:DSp:=λ ds G Q=>∃ (d:D) (w:Str) (es:List D),ds=[d]/\Nd w es d/\Q (.tup es) G
def v9q:DSp:=λ ds G Q=>∃ (d:D) (qs:List D),ds=[d]/\SplP d qs/\∀ l,G l=none->Q (.ref l) (up G l (.lst qs))
def pGq (f:Addr):DSp:=λ ds G Q=>∃ (d:D) (x:List Str),ds=[d,.ref f]/\Pk d x/\(cat x).length<=5000/\Q (.str (txt x)) G
def kJq:DSp:=λ ds G Q=>∃ (d:D) (x:List Str),ds=[d]/\Pk d x/\(cat x).length<=5000/\Q (.str (txt x)) G
def p4q:DSp:=λ ds G Q=>∃ (l:Addr) (xs:List Str) (i:Nat) (x r:List Str) (k:D),ds=[.ref l,.int i]/\G l=some (.lst (xs.map D.str))/\xs.length<=5000/\xs.drop i=pcs SQ2 [] (cat x)++r/\Tk k x/\EndR r/\i<=xs.length/\Q (.int ((i+(pcs SQ2 [] (cat x)).length:Nat):Int)) G
def uDq:DSp:=λ ds G Q=>∃ (l:Addr) (c:List D) (k:D),ds=[.ref l]/\G l=some (.lst c)/\Pcl c k/\Q k G
def kFq:DSp:=λ ds G Q=>∃ (d:D) (x:List Str),ds=[.str (txt x)]/\Pk d x/\(cat x).length<=5000/\Q d G
def cK (k:Nat):Nat:=if k=0 then 13 else if k=1 then 100 else if k=2 then 406 else 1223
def pK (k:Nat):Nat:=if k=0 then 1 else 22+2 * k
def j2q (n:Nat):DSp:=λ ds G Q=>∃ (a:Addr) (k:Int),ds=[.ref a,.int k]/\Fd G a/\0<=k/\k < n/\k<=3/\∀ d G',Fx a G G'->KC (16 * 2 ^ k.toNat - 3) (k.toNat+1) d->ofA d=true->Q d G'
def spKe (n:Nat):DSp:=λ ds G Q=>∃ (a:Addr) (k:Int),ds=[.ref a,.int k]/\Fd G a/\0<=k/\k < n/\k<=3/\∀ d G',Dw a G G'->KC (cK k.toNat) (pK k.toNat) d->(k=0->ofA d=true)->Q d G'
def fFq (n:Nat):DSp:=λ ds G Q=>∃ (a:Addr) (r k:Int),ds=[.ref a,.int r,.int k]/\Fd G a/\0<=r/\r<=40/\0<=k/\k < n/\k<=14/\∀ d G',Dw a G G'->PC2 (2100 * (8 * r.toNat+1)) (40+2 * k.toNat) d->Q d G'
def f5q (n:Nat):DSp:=λ ds G Q=>∃ (d:D) (x:List Str),ds=[d]/\Tk d x/\d.dp < n/\tsz d<=9100/\Q (.str (txt x)) G
def eLq (n:Nat):DSp:=λ ds G Q=>∃ (d:D) (x:List Str),ds=[d]/\Pk d x/\d.dp < n/\(cat x).length<=700000/\Q (.str (txt x)) G
def t2q:DSp:=λ ds G Q=>∃ d:D,ds=[d]/\PC2 700000 100 d/\∀ d',PC2 5000 100 d'->Q d' G
def e3q (n:Nat):DSp:=λ ds G Q=>∃ d:D,ds=[d]/\Ad d/\d.dp < n/\Q (.bl true) G
def q0q:DSp:=λ ds G Q=>∃ (d:D) (x:List Str),ds=[d,.str (txt x)]/\Pk d x/\(cat x).length<=5000/\d.dp<=100/\Q (.bl true) G
def ipL:List (Str × D):=[("some", .int 0),("whole", .int 0),("way", .int 1),("left", .int 1),("right", .int 1),("first", .int 1),("second", .int 1),("both", .int 2),("plus", .int 2),("look", .int 2)]
def ipLV:List (Str × V):=[("some", .int 0),("whole", .int 0),("way", .int 1),("left", .int 1),("right", .int 1),("first", .int 1),("second", .int 1),("both", .int 2),("plus", .int 2),("look", .int 2)]
def ipT (z:Str):Option D:=(ipL.find? λ kv=>decide (kv.1=z)).map (·.2)
theorem ipP {K:PySem.W.Frag}:Paired (λ(a:Str × D) (b:Str × V)=>a.1=b.1/\∀ H,Abs K H a.2 b.2) ipL ipLV:=
  .cons ⟨rfl,λ _=>rfl⟩ (.cons ⟨rfl,λ _=>rfl⟩ (.cons ⟨rfl,λ _=>rfl⟩ (.cons ⟨rfl,λ _=>rfl⟩ (.cons ⟨rfl,λ _=>rfl⟩ (.cons ⟨rfl,λ _=>rfl⟩ (.cons ⟨rfl,λ _=>rfl⟩ (.cons ⟨rfl,λ _=>rfl⟩ (.cons ⟨rfl,λ _=>rfl⟩ (.cons ⟨rfl,λ _=>rfl⟩ .nil)))))))))
def psL:List (Str × D):=[(".", .tup [.str "whole"]),("~", .tup [.str "some"])]
def psT (z:Str):Option D:=(psL.find? λ kv=>decide (kv.1=z)).map (·.2)
theorem aF3q:∀ w∈unW,ipT w=some (.int 1):=by intro w hw;simp only [unW,List.mem_cons,List.not_mem_nil,or_false] at hw;rcases hw with rfl | rfl | rfl | rfl | rfl<;>rfl
theorem aF5q:∀ w∈biW,ipT w=some (.int 2):=by intro w hw;simp only [biW,List.mem_cons,List.not_mem_nil,or_false] at hw;rcases hw with rfl | rfl | rfl<;>rfl
theorem uZq {d:D} {x:List Str} (h:Pk d x):d.data=true/\Ad d:=by
  induction h with
  | some=>exact ⟨rfl,.tup λ d hd=>by simp at hd;subst hd;exact .str _⟩
  | whole=>exact ⟨rfl,.tup λ d hd=>by simp at hd;subst hd;exact .str _⟩
  | @name k x h1 h2 h3 _=>exact ⟨by simp [D.data,aXq,h2.isK.data],.tup λ d hd=>by simp at hd;rcases hd with rfl | rfl;exact .str _;exact h2.isK.ad⟩
  | @node w ps d hn _ ih=>
    have h1:∀ e∈ps.map (·.1),e.data=true/\Ad e:=λ e he=>by obtain ⟨p,hp,rfl⟩:=List.mem_map.mp he;exact ih p hp
    generalize ps.map (·.1)=es at hn h1
    cases hn with
    | un p hw=>exact ⟨by simp [D.data,aXq,(h1 p (by simp)).1],.tup λ d hd=>by simp at hd;rcases hd with rfl | rfl;exact .str _;exact (h1 _ (by simp)).2⟩
    | bi p q hw=>exact ⟨by simp [D.data,aXq,(h1 p (by simp)).1,(h1 q (by simp)).1],.tup λ d hd=>by simp at hd;rcases hd with rfl | rfl | rfl;exact .str _;exact (h1 _ (by simp)).2;exact (h1 _ (by simp)).2⟩
    | give p qs hl=>
      have hq:aXq qs=true:=dSq λ d hd=>(h1 d (by simp [hd])).1
      exact ⟨by simp [D.data,aXq,(h1 p (by simp)).1,hq],.tup λ d hd=>by simp at hd;rcases hd with rfl | rfl | rfl;exact .str _;exact (h1 _ (by simp)).2;exact .tup λ d hd=>(h1 d (by simp [hd])).2⟩
theorem x7q:((" " : String):Str).length=1:=by decide
theorem eEq:∀ {xs:List (List Str)},xs≠[]->e0q xs=(" " : Str)::b3q (" " : Str) xs
  | [],h=>absurd rfl h
  | [x],_=>by simp [e0q,b3q]
  | x::y::r,_=>by rw [e0q,eEq (xs:=y::r) (by simp),b3q]
theorem qOq {w:Str} {xs:List (List Str)} (h:xs≠[]):("(" : Str)++w++(" " : Str)++txt (b3q (" " : Str) xs)++(")" : Str)=txt (("(" : Str)::w::(e0q xs++[(")" : Str)])):=by
  rw [eEq h]
  exact c6q (by simp [bSq,aWq,cat,aHq])
theorem rJq (x:List Str):("#" : Str)++txt x=txt (("#" : Str)::pcs SQ2 [] (cat x)):=c6q (by simp [bSq,aWq,cat,cXq])
theorem rMq {d:D} {x:List Str} (h:Pk d x) (hl:5000 < (cat x).length):∃ z p r y,d=.tup (.str z::p::r)/\Pk p y/\(cat y).length<=(cat x).length/\tsz p < tsz d/\p.dp<=d.dp:=by
  cases h with
  | some=>rw [tXq] at hl;simp [cat,ofL] at hl
  | whole=>rw [s_dt] at hl;simp [cat,ofL] at hl
  | name _ _ _ h4=>rw [s_hs,cat,cXq] at hl;simp only [aWq,List.length_append,List.length_cons,List.length_nil] at hl;omega
  | @node w ps _ hn hp=>
    cases ps with
    | nil=>exact absurd rfl (mRq hn).1
    | cons q qs=>
      have l1:(cat q.2).length<=(cat (("(" : Str)::w::(e0q ((q::qs).map (·.2))++[(")" : Str)]))).length:=by
        rw [List.map_cons,e0q]
        simp only [cat,aHq,List.length_append]
        omega
      have hq:=hp q (by simp)
      generalize he:(q::qs).map (·.1)=es at hn
      cases hn with
      | un p hw=>simp at he;obtain ⟨rfl,_⟩:=he;exact ⟨_,_,_,q.2,rfl,hq,l1,by simp only [tsz,bGq];omega,by simp only [D.dp,bOq];omega⟩
      | bi p p' hw=>simp at he;obtain ⟨rfl,_⟩:=he;exact ⟨_,_,_,q.2,rfl,hq,l1,by simp only [tsz,bGq];omega,by simp only [D.dp,bOq];omega⟩
      | give p ps' hl'=>simp at he;obtain ⟨rfl,_⟩:=he;exact ⟨_,_,_,q.2,rfl,hq,l1,by simp only [tsz,bGq];omega,by simp only [D.dp,bOq];omega⟩
theorem aK6q {w:Str} {es:List D} {d e:D} (h:Nd w es d) (he:e∈es):e.dp < d.dp:=by
  cases h with
  | un p _=>simp at he;subst he;simp only [D.dp,bOq];omega
  | bi p q _=>simp at he;rcases he with rfl | rfl<;>(simp only [D.dp,bOq];omega)
  | give p ps _=>
    rcases List.mem_cons.mp he with rfl | he
    . simp only [D.dp,bOq];omega
    . have:=dMq he;simp only [D.dp,bOq];omega
theorem lUq {x:List Str}:∀ {xs:List (List Str)},x∈xs->(cat x).length<=(cat (e0q xs)).length
  | [],h=>by simp at h
  | y::ys,h=>by
    rw [e0q]
    simp only [cat,aHq,List.length_append]
    rcases List.mem_cons.mp h with rfl | h
    . omega
    . have:=lUq h;omega
theorem pPq (p a b:Str):inL (.str p) [.str a,.str b]=(p==a||p==b):=by
  have e:∀ a b:Str,(a==b)=(b==a):=λ a b=>by rw [Bool.eq_iff_iff,beq_iff_eq,beq_iff_eq];exact eq_comm
  simp only [inL,List.any_cons,List.any_nil,eqF,Bool.or_false]
  rw [e a p,e b p]
theorem mDq {p:Str} {e:Nat} {l:List Nat} (hp:(∃ c∈SQ2,p=ofL [c])\/(p.cps.toList≠[]/\∀ c∈p.cps.toList,c ∉ SQ2)) (h:rnc e (p.cps.toList++l)=some 0) :
    (e=0->(p==" "||p==")")=false)/\(((p=="("||p=="[")=true/\rnc (e+1) l=some 0)\/((p=="("||p=="[")=false/\(p==")"||p=="]")=true/\1<=e/\rnc (e - 1) l=some 0)\/((p=="("||p=="[")=false/\(p==")"||p=="]")=false/\rnc e l=some 0)):=by
  rcases hp with ⟨c,hc,rfl⟩ | ⟨hne,hp⟩
  . have h':((stc e c).bind λ e'=>rnc e' l)=some 0:=h
    simp only [List.mem_cons,List.not_mem_nil,or_false] at hc
    rw [wBq,gAq,gFq,vYq,sAq]
    unfold stc at h'
    rcases hc with rfl | rfl | rfl | rfl | rfl | rfl | rfl | rfl
    . exact ⟨λ _=>by decide,.inl ⟨by decide,by simpa using h'⟩⟩
    . by_cases e0:e=0
      . subst e0;simp at h'
      . rw [if_neg (by omega),if_neg (by decide),if_pos (by decide)] at h'
        exact ⟨λ h=>absurd h e0,.inr (.inl ⟨by decide,by decide,by omega,h'⟩)⟩
    . exact ⟨λ _=>by decide,.inl ⟨by decide,by simpa using h'⟩⟩
    . by_cases e0:e=0
      . subst e0;simp at h'
      . rw [if_neg (by omega),if_neg (by decide),if_pos (by decide)] at h'
        exact ⟨λ h=>absurd h e0,.inr (.inl ⟨by decide,by decide,by omega,h'⟩)⟩
    . by_cases e0:e=0
      . subst e0;simp at h'
      . rw [if_neg (by omega),if_neg (by decide),if_neg (by decide)] at h'
        exact ⟨λ h=>absurd h e0,.inr (.inr ⟨by decide,by decide,h'⟩)⟩
    . rw [if_neg (by omega),if_neg (by decide),if_neg (by decide)] at h'
      exact ⟨λ _=>by decide,.inr (.inr ⟨by decide,by decide,h'⟩)⟩
    . rw [if_neg (by omega),if_neg (by decide),if_neg (by decide)] at h'
      exact ⟨λ _=>by decide,.inr (.inr ⟨by decide,by decide,h'⟩)⟩
    . rw [if_neg (by omega),if_neg (by decide),if_neg (by decide)] at h'
      exact ⟨λ _=>by decide,.inr (.inr ⟨by decide,by decide,h'⟩)⟩
  . have no:∀ c∈SQ2,(p==ofL [c])=false:=λ c hc=>by
      rw [beq_eq_false_iff_ne]
      intro e;subst e
      exact hp c (by simp [ofL]) hc
    have pl:rnc e p.cps.toList=some e:=cNq λ c hc=>by
      have:=hp c hc
      simp at this
      omega
    rw [cHq _ pl] at h
    rw [wBq,gAq,gFq,vYq,sAq,no 32 (by decide),no 41 (by decide),no 40 (by decide),no 91 (by decide),no 93 (by decide)]
    exact ⟨λ _=>rfl,.inr (.inr ⟨rfl,rfl,h⟩)⟩
theorem xAq {p:Str} {q:D} (h:RP2 p q):(p=="(")=false/\(p==")")=false/\(p=="#")=false/\(psT p).getD (.str p)=q:=by
  cases h with
  | sp=>exact ⟨by decide,by decide,by decide,rfl⟩
  | som=>exact ⟨by decide,by decide,by decide,rfl⟩
  | whl=>exact ⟨by decide,by decide,by decide,rfl⟩
  | wrd hw=>
    simp only [unW,biW,List.cons_append,List.nil_append,List.mem_cons,List.not_mem_nil,or_false] at hw
    rcases hw with rfl | rfl | rfl | rfl | rfl | rfl | rfl | rfl | rfl<;>exact ⟨by decide,by decide,by decide,rfl⟩
theorem rAq {α:Type} {xs ys r:List α} {a:Nat} (h:xs.drop a=ys++r) (ha:a<=xs.length):cut xs (some (a:Int)) (some ((a+ys.length:Nat):Int))=ys:=by
  have hl:=congrArg List.length h
  rw [List.length_drop,List.length_append] at hl
  unfold cut
  rw [show HT.sIx xs.length 0 (some (a:Int))=a by unfold HT.sIx;simp only [];rw [if_neg (by omega)];omega,show HT.sIx xs.length xs.length (some ((a+ys.length:Nat):Int))=a+ys.length by unfold HT.sIx;simp only [];rw [if_neg (by omega)];omega,h,show a+ys.length - a=ys.length by omega]
  exact List.take_left' rfl
end L3
namespace KB
open PySem L2
def top (i:Nat):Stmt:=PySem.Challenge.pw_kindbags_k37_whole_papers_written_and_re.main.body.getD i (.Pass ⟨0,0,0,0⟩)
structure Blt (mg:Str->Option Value):Prop where
  len:mg "len" = none
  isinstance:mg "isinstance" = none
  range:mg "range" = none
  int:mg "int" = none
  bool:mg "bool" = none
  str:mg "str" = none
  tuple:mg "tuple" = none
  list:mg "list" = none
  sorted:mg "sorted" = none
  all:mg "all" = none
  reversed:mg "reversed" = none
  min:mg "min" = none
  max:mg "max" = none
  enumerate:mg "enumerate" = none
  zip:mg "zip" = none
end KB
namespace KB
open PySem
abbrev gDq:List Str:=["thing"]
abbrev jEq:List Str:=["thing"]
abbrev eSq:List Str:=["thing"]
abbrev iZq:List Str:=["thing"]
abbrev jIq:List Str:=["thing"]
abbrev gYq:List Str:=["kind"]
abbrev eOq:List Str:=["kinds"]
abbrev fTq:List Str:=["thing", "spelled"]
abbrev j6q:List Str:=["word", "things"]
abbrev d8q:List Str:=["text", "signs"]
abbrev gIq:List Str:=["text", "most"]
abbrev eTq:List Str:=["text", "signs"]
abbrev gWq:List Str:=["kind"]
abbrev iGq:List Str:=["kind"]
abbrev gQq:List Str:=["text"]
abbrev eVq:List Str:=["piece"]
abbrev j1q:List Str:=["frame", "sign"]
abbrev h5q:List Str:=["row"]
abbrev fJq:List Str:=["row"]
abbrev h0q:List Str:=["paper"]
abbrev f6q:List Str:=["paper"]
abbrev j9q:List Str:=["paper"]
abbrev g0q:List Str:=["text"]
abbrev gMq:List Str:=["pieces", "start"]
abbrev jAq:List Str:=["row"]
abbrev gXq:List Str:=["_law_script", "_law_k"]
abbrev gOq:List Str:=["_law_feed_here", "_law_many"]
abbrev eQq:List Str:=["_law_feed_here", "_law_deep"]
abbrev gRq:List Str:=["_law_feed_here", "_law_deep"]
abbrev f7q:List Str:=["_law_feed_here", "_law_room", "_law_deep"]
abbrev fCq:List Str:=["_law_kind_here"]
abbrev gZq:List Str:=["_law_paper"]
abbrev iKq:List Str:=["_law_paper"]
abbrev fAq:List Str:=["_law_found"]
abbrev h1q:List Str:=["_law_paper", "_law_text_here"]
end KB
namespace KB
open PySem L2 L3
section
variable {P:Program} {w:World} {K:PySem.W.Frag} {mg:Str->Option Value} {base:Heap} {f:Addr} {fd:FuncData}
set_option maxHeartbeats 4000000
abbrev kKq:Stmt:=top 47
theorem sc_take:FnScope ["_law_feed_here", "_law_many", "_law_digit", "_law_one"] ["_law_feed_here", "_law_many"] (aDq kKq):=⟨rfl,rfl,rfl,by decide +kernel,rfl,by decide +kernel,by decide +kernel⟩
theorem uUq (F:Fun K "_law_take" "_law_take" kKq f fd):FnOk P w K mg base CX0 1 f fd ["_law_feed_here", "_law_many"] (aUq K ePq):=by
  refine okD (k:=0) F sc_take (λ ds G DQ h=>?_) (λ cdv A outer s H E hr ds G DQ h=>?_)
  . unfold ePq at h;split at h
    . rfl
    . exact h.elim
  unfold ePq at h;split at h
  case h_2=>exact h.elim
  next a m=>
  obtain ⟨⟨x,y,hF⟩,h0,h1,q⟩:=h
  refine ⟨_,(a5q (aNq (aBq d5q (aGq aix (a1q 0) a3q (λ _ _=>rfl)) a3q (aAq _)) (a5q (aJq (k:=2) sc_take.nd rfl (Or.inl rfl) (aSq d6q (aGq aix (a1q 0) a3q (λ _ _=>rfl)) (a1q 1)))
      (a5q (lPq (aSq eZq (aGq aix (a1q 0) a3q (λ _ _=>rfl)) (a1q 1)) (lWq (a1q 0) a3q))
      (a6q (aEq (a1q 2))))) aFq)
      (a5q (aJq (k:=3) sc_take.nd rfl (Or.inl rfl) (aSq d6q (aSq d9q (aGq aix (a1q 0) a3q (λ _ _=>rfl)) a3q) a3q))
      (a5q (lPq (aSq aTq (aSq d6q (aSq aTq (aSq d9q (a1q 3) a3q) a3q) a3q) a3q) (lWq (a1q 0) a3q))
      (a6q (aEq (aSq d6q (aSq eZq (aSq aTq (aSq d9q (a1q 3) a3q) (aGq aix (a1q 0) a3q (λ _ _=>rfl))) a3q) (a1q 1))))))),?_⟩
  refine a7q hF ⟨λ c=>?_,λ c=>?_⟩
  . refine a7q hF ⟨h0,a7q hF ⟨⟨h0,by omega⟩,aMq hF ⟨0,rfl,Dr.of (q _ _ .mk (Int.emod_nonneg _ (by omega)) (Int.emod_lt_of_pos _ h0))⟩⟩⟩
  . refine a7q hF ⟨.inr ⟨by decide,by decide⟩,by simp,.inr ⟨by decide,by decide⟩,by simp,aMq hF ⟨1,rfl,.inr ⟨by decide,by decide⟩,a7q a4q ⟨⟨by decide,by decide⟩,h0,Dr.of (q _ _ .mk (Int.emod_nonneg _ (by omega)) (Int.emod_lt_of_pos _ h0))⟩⟩⟩
abbrev kXq:Stmt:=top 46
theorem sc_feed:FnScope ["_law_script", "_law_k", "_law_cell", "_law_own"] ["_law_script", "_law_k"] (aDq kXq):=⟨rfl,rfl,rfl,by decide +kernel,rfl,by decide +kernel,by decide +kernel⟩
theorem uEq (B:Blt mg) (F:Fun K "_law_feed" "_law_feed" kXq f fd):FnOk P w K mg base CX0 1 f fd ["_law_script", "_law_k"] (aUq K jOq):=by
  refine okD (k:=0) F sc_feed (λ ds G DQ h=>?_) (λ cdv A outer s H E hr ds G DQ h=>?_)
  . unfold jOq at h;split at h
    . rfl
    . exact h.elim
  unfold jOq at h;split at h
  case h_2=>exact h.elim
  next ss k=>
  obtain ⟨ns,rfl,hl,h0,h1,q⟩:=h
  have fin:∀ x y:Int,∀ p,G p=none->Dr DQ (.ref p) (up G p (fed x y)):=λ x y p hp=>Dr.of (q p x y hp)
  have at_ok:∀ j:Int,0<=j->j < ns.length->∃ v,atI (ns.map D.int) j=some (.int v):=λ j j0 j1=>by
    refine ⟨ns[j.toNat],?_⟩
    have e:=bCq (xs:=ns.map D.int) (j:=j.toNat) (v:=D.int ns[j.toNat]) (by simp [show j.toNat < ns.length by omega])
    rwa [show ((j.toNat:Nat):Int)=j by omega] at e
  refine ⟨_,(a5q (aJq (k:=2) sc_feed.nd rfl (Or.inl rfl) (aSq aTq (aSq d9q a3q (a1q 1)) a3q))
      (a5q (aNq (aBq c7q (a1q 1) (aCq aIq rfl B.len PySem.boot_len (a0q (a1q 0) a2q)) (aAq _)) (a6q (aJq (k:=2) sc_feed.nd rfl (Or.inl rfl) (aGq aix (a1q 0) (a1q 1) (λ _ _=>rfl)))) (a6q (aNq (aBq d5q (aCq aIq rfl B.len PySem.boot_len (a0q (a1q 0) a2q)) a3q (aAq _)) (a6q (aJq (k:=2) sc_feed.nd rfl (Or.inl rfl) (aSq aTq (aSq d9q (aSq d6q (aGq aix (a1q 0) (aSq d6q (a1q 1) (aCq aIq rfl B.len PySem.boot_len (a0q (a1q 0) a2q))) (λ _ _=>rfl)) a3q) a3q) (aSq d9q a3q (a1q 1))))) aFq)))
      (a5q (aJq (k:=3) sc_feed.nd rfl (Or.inl rfl) a3q)
      (a5q (aNq (aBq wWq (a1q 2) (aSq t6q a3q a3q) (aAq _)) (a6q (aJq (k:=3) sc_feed.nd rfl (Or.inl rfl) (a1q 2))) aFq)
      (a6q (aEq (b7q (a0q (a1q 3) (a0q (aSq aTq (aSq d6q (aSq aTq (aSq d9q (aSq d6q (a1q 2) a3q) a3q) (aSq d9q a3q (a1q 1))) a3q) a3q) a2q))))))))),?_⟩
  refine ⟨.inl ⟨by decide,by decide⟩,⟨λ c=>?_,λ c=>?_⟩⟩
  . have c':k < ns.length:=by simpa using c
    obtain ⟨v,hv⟩:=at_ok k h0 c'
    refine (sSq hv ⟨⟨by decide,by decide,by decide⟩,λ c=>?_,λ c=>?_⟩)
    . exact ⟨by simp,.inr ⟨by decide,by decide⟩,.inl ⟨by decide,by decide⟩,by simp,λ p hp=>fin _ _ p hp⟩
    . exact ⟨by simp,.inr ⟨by decide,by decide⟩,.inl ⟨by decide,by decide⟩,by simp,λ p hp=>fin _ _ p hp⟩
  . refine ⟨λ c=>?_,λ c=>?_⟩
    . have c':0 < ns.length:=by
        have:(0:Int) < (ns.map D.int).length:=by simpa using c
        simpa using this
      obtain ⟨v,hv⟩:=at_ok (k % (ns.map D.int).length) (Int.emod_nonneg _ (show ((ns.map D.int).length:Int)≠0 by rw [List.length_map];omega)) (by have:=Int.emod_lt_of_pos k (show (0:Int) < (ns.map D.int).length by simpa using c');simpa using this)
      refine ⟨by simpa using c',?_⟩
      refine (sSq hv ⟨by simp,.inr ⟨by decide,by decide⟩,.inl ⟨by decide,by decide⟩,⟨by decide,by decide,by decide⟩,λ c=>?_,λ c=>?_⟩)
      . exact ⟨by simp,.inr ⟨by decide,by decide⟩,.inl ⟨by decide,by decide⟩,by simp,λ p hp=>fin _ _ p hp⟩
      . exact ⟨by simp,.inr ⟨by decide,by decide⟩,.inl ⟨by decide,by decide⟩,by simp,λ p hp=>fin _ _ p hp⟩
    . refine ⟨⟨by decide,by decide,by decide⟩,λ c=>?_,λ c=>?_⟩
      . exact ⟨by simp,.inr ⟨by decide,by decide⟩,.inl ⟨by decide,by decide⟩,by simp,λ p hp=>fin _ _ p hp⟩
      . exact ⟨by simp,.inr ⟨by decide,by decide⟩,.inl ⟨by decide,by decide⟩,by simp,λ p hp=>fin _ _ p hp⟩
abbrev nLq:Stmt:=top 8
theorem zEq:FnScope ["thing"] ["thing"] (aDq nLq):=⟨rfl,rfl,rfl,by decide +kernel,rfl,by decide +kernel,by decide +kernel⟩
theorem zCq (B:Blt mg)  (F:Fun K "is_whole_number" "is_whole_number" nLq f fd):FnOk P w K mg base CX0 1 f fd ["thing"] (aUq K kLq):=by
  refine okD (k:=0) F zEq (λ ds G DQ h=>?_) (λ cdv A outer s H E hr ds G DQ h=>?_)
  . obtain ⟨_,rfl,_⟩:=h;rfl
  obtain ⟨d,rfl,t,q⟩:=h
  refine ⟨_,(a6q (aEq (cIq (aCq b5q rfl B.isinstance PyProof.Rows.boot_isinstance (a0q (a1q 0) (a0q (bJq rfl B.int PyProof.Rows.boot_int) a2q))) (dEq (oPq (aCq b5q rfl B.isinstance PyProof.Rows.boot_isinstance (a0q (a1q 0) (a0q (bJq rfl B.bool PyProof.Rows.boot_bool) a2q)))))))),?_⟩
  cases t with
  | int n=>exact ⟨true,rfl,λ _=>⟨false,rfl,Dr.of (q true ⟨λ _=>⟨n,rfl⟩,λ _=>rfl⟩)⟩,nofun⟩
  | bl b=>exact ⟨true,rfl,λ _=>⟨true,rfl,Dr.of (q false ⟨nofun,λ⟨_,e⟩=>nomatch e⟩)⟩,nofun⟩
  | ref h=>obtain ⟨ds,h⟩:=h;exact a7q h ⟨false,rfl,nofun,λ _=>Dr.of (q false ⟨nofun,λ⟨_,e⟩=>nomatch e⟩)⟩
  | str z=>exact ⟨false,rfl,nofun,λ _=>Dr.of (q false ⟨nofun,λ⟨_,e⟩=>nomatch e⟩)⟩
  | non=>exact ⟨false,rfl,nofun,λ _=>Dr.of (q false ⟨nofun,λ⟨_,e⟩=>nomatch e⟩)⟩
  | tup _=>exact ⟨false,rfl,nofun,λ _=>Dr.of (q false ⟨nofun,λ⟨_,e⟩=>nomatch e⟩)⟩
abbrev oOq:Stmt:=top 12
theorem yFq:FnScope ["thing"] ["thing"] (aDq oOq):=⟨rfl,rfl,rfl,by decide +kernel,rfl,by decide +kernel,by decide +kernel⟩
theorem wRq (B:Blt mg)  (F:Fun K "has_answer_word" "has_answer_word" oOq f fd):FnOk P w K mg base CX0 1 f fd ["thing"] (aUq K uPq):=by
  refine okD (k:=0) F yFq (λ ds G DQ h=>?_) (λ cdv A outer s H E hr ds G DQ h=>?_)
  . obtain ⟨_,rfl,_⟩:=h;rfl
  obtain ⟨d,rfl,t,q⟩:=h
  refine ⟨_,(a6q (aEq (cIq (aCq b5q rfl B.isinstance PyProof.Rows.boot_isinstance (a0q (a1q 0) (a0q (bJq rfl B.tuple PyProof.Rows.boot_tuple) a2q))) (cIq (cDq d5q (aCq aIq rfl B.len PySem.boot_len (a0q (a1q 0) a2q)) a3q (aAq _)) (dEq (cDq (n5q (aQq hr)) (aGq aix (a1q 0) a3q (λ _ _=>rfl)) (b4q (a0q a8q (a0q a8q (a0q a8q a2q)))) (by with_unfolding_all rfl))))))),?_⟩
  cases t with
  | ref h=>obtain ⟨ds,h⟩:=h;exact a7q h ⟨false,rfl,nofun,λ _=>Dr.of q⟩
  | @tup ds hd=>
    refine ⟨true,rfl,λ _=>⟨λ c=>?_,λ c=>?_⟩,nofun⟩
    . cases ds with
      | nil=>exact absurd c (by decide)
      | cons x r=>
        cases hd x (List.mem_cons_self ..) with
        | str z=>
          refine ⟨["is", "some", "both"],rfl,rfl,Dr.of ?_⟩
          rw [aH5q];exact q
        | ref h=>obtain ⟨es,h⟩:=h;exact ⟨["is", "some", "both"],rfl,a7q h (Dr.of q)⟩
        | tup _=>exact ⟨["is", "some", "both"],rfl,Dr.of q⟩
        | int n=>exact ⟨["is", "some", "both"],rfl,rfl,Dr.of q⟩
        | bl b=>exact ⟨["is", "some", "both"],rfl,rfl,Dr.of q⟩
        | non=>exact ⟨["is", "some", "both"],rfl,rfl,Dr.of q⟩
    . cases ds with
      | nil=>exact Dr.of q
      | cons x r=>have c':=of_decide_eq_false c;simp only [List.length_cons] at c';omega
  | _=>exact ⟨false,rfl,nofun,λ _=>Dr.of q⟩
abbrev oZq:Stmt:=top 11
theorem xIq:FnScope ["thing"] ["thing"] (aDq oZq):=⟨rfl,rfl,rfl,by decide +kernel,rfl,by decide +kernel,by decide +kernel⟩
theorem aC8q (B:Blt mg) (g_isw:Got P w K mg base 1 "is_whole_number" ["thing"] (aUq K kLq))(g_haw:Got P w K mg base 1 "has_answer_word" ["thing"] (aUq K uPq)) (F:Fun K "has_kind_form" "has_kind_form" oZq f fd):FnOk P w K mg base CX0 2 f fd ["thing"] (aUq K u6q):=by
  refine okD (k:=1) F xIq (λ ds G DQ h=>?_) (λ cdv A outer s H E hr ds G DQ h=>?_)
  . obtain ⟨_,rfl,_⟩:=h;rfl
  obtain ⟨d,rfl,t,q⟩:=h
  refine ⟨_,(a5q (aNq (AW.at (dBq (d7q (b2q (aCq b5q rfl B.isinstance PyProof.Rows.boot_isinstance (a0q (a1q 0) (a0q (bJq rfl B.tuple PyProof.Rows.boot_tuple) a2q))))) (cMq (aBq (aKq (aQq hr)) (aCq aIq rfl B.len PySem.boot_len (a0q (a1q 0) a2q)) a3q (aAq _))))) (a6q (aEq k7q)) aFq)
      (a5q (aNq (aBq (dHq (aQq hr)) (aGq aix (a1q 0) a3q (λ _ _=>rfl)) a8q (aAq _)) (a6q (aEq (cIq (cDq (aKq (aQq hr)) (aCq aIq rfl B.len PySem.boot_len (a0q (a1q 0) a2q)) a3q (aAq _)) (dEq (a9q g_isw hr (by omega) rfl (a0q (aGq aix (a1q 0) a3q (λ _ _=>rfl)) a2q)))))) aFq)
      (a5q (aNq (aBq (dHq (aQq hr)) (aGq aix (a1q 0) a3q (λ _ _=>rfl)) a8q (aAq _)) (a6q (aEq (cDq (aKq (aQq hr)) (aCq aIq rfl B.len PySem.boot_len (a0q (a1q 0) a2q)) a3q (aAq _)))) aFq)
      (a5q (aNq (aBq (dHq (aQq hr)) (aGq aix (a1q 0) a3q (λ _ _=>rfl)) a8q (aAq _)) (a6q (aEq (cIq (cDq (aKq (aQq hr)) (aCq aIq rfl B.len PySem.boot_len (a0q (a1q 0) a2q)) a3q (aAq _)) (dEq (aCq b5q rfl B.isinstance PyProof.Rows.boot_isinstance (a0q (aGq aix (a1q 0) a3q (λ _ _=>rfl)) (a0q (bJq rfl B.tuple PyProof.Rows.boot_tuple) a2q))))))) aFq)
      (a5q (aNq (aBq (dHq (aQq hr)) (aGq aix (a1q 0) a3q (λ _ _=>rfl)) a8q (aAq _)) (a6q (aEq (cIq (cDq (aKq (aQq hr)) (aCq aIq rfl B.len PySem.boot_len (a0q (a1q 0) a2q)) a3q (aAq _)) (cIq (a9q g_haw hr (by omega) rfl (a0q (aGq aix (a1q 0) a3q (λ _ _=>rfl)) a2q)) (dEq (a9q g_haw hr (by omega) rfl (a0q (aGq aix (a1q 0) a3q (λ _ _=>rfl)) a2q))))))) aFq)
      (a6q (aEq (cIq (cDq (n5q (aQq hr)) (aGq aix (a1q 0) a3q (λ _ _=>rfl)) (b4q (a0q a8q (a0q a8q a2q))) (by with_unfolding_all rfl)) (dEq (cDq (aKq (aQq hr)) (aCq aIq rfl B.len PySem.boot_len (a0q (a1q 0) a2q)) a3q (aAq _))))))))))),?_⟩
  have no:(∀ z r,d≠.tup (.str z::r))->DQ (.bl false) G:=λ h=>q false ⟨nofun,λ e=>absurd e (wMq h)⟩
  cases t with
  | ref h=>obtain ⟨ds,h⟩:=h;exact a7q h ⟨false,rfl,⟨λ _=>⟨λ _=>Dr.of (no λ z r=>nofun),nofun⟩,nofun⟩⟩
  | @tup ds hd=>
    refine ⟨true,rfl,⟨nofun,λ _=>⟨λ c=>?_,λ c=>?_⟩⟩⟩
    . refine Dr.of (no λ z r e=>?_)
      cases e
      have c':=eq_of_beq c
      simp only [List.length_cons] at c';omega
    . cases ds with
      | nil=>exact absurd c (by decide)
      | cons x r=>
        clear c
        cases hd x (List.mem_cons_self ..) with
        | ref h=>
          obtain ⟨es,h⟩:=h
          exact a7q h ⟨nofun,λ _=>a7q h ⟨nofun,λ _=>a7q h ⟨nofun,λ _=>a7q h ⟨nofun,λ _=>⟨["left", "right"],rfl,a7q h ⟨nofun,λ _=>Dr.of (no λ z r=>nofun)⟩⟩⟩⟩⟩⟩
        | tup _=>exact ⟨nofun,λ _=>⟨nofun,λ _=>⟨nofun,λ _=>⟨nofun,λ _=>⟨["left", "right"],rfl,nofun,λ _=>Dr.of (no λ z r=>nofun)⟩⟩⟩⟩⟩
        | int n=>exact ⟨rfl,rfl,Nat.zero_le _,nofun,λ _=>⟨rfl,rfl,Nat.zero_le _,nofun,λ _=>⟨rfl,rfl,Nat.zero_le _,nofun,λ _=>⟨rfl,rfl,Nat.zero_le _,nofun,λ _=>⟨["left", "right"],rfl,rfl,nofun,λ _=>Dr.of (no λ z r=>nofun)⟩⟩⟩⟩⟩
        | bl n=>exact ⟨rfl,rfl,Nat.zero_le _,nofun,λ _=>⟨rfl,rfl,Nat.zero_le _,nofun,λ _=>⟨rfl,rfl,Nat.zero_le _,nofun,λ _=>⟨rfl,rfl,Nat.zero_le _,nofun,λ _=>⟨["left", "right"],rfl,rfl,nofun,λ _=>Dr.of (no λ z r=>nofun)⟩⟩⟩⟩⟩
        | non=>exact ⟨rfl,rfl,Nat.zero_le _,nofun,λ _=>⟨rfl,rfl,Nat.zero_le _,nofun,λ _=>⟨rfl,rfl,Nat.zero_le _,nofun,λ _=>⟨rfl,rfl,Nat.zero_le _,nofun,λ _=>⟨["left", "right"],rfl,rfl,nofun,λ _=>Dr.of (no λ z r=>nofun)⟩⟩⟩⟩⟩
        | str z=>
          refine ⟨λ c=>?_,λ c1=>⟨λ c=>?_,λ c2=>⟨λ c=>?_,λ c3=>⟨λ c=>?_,λ c4=>?_⟩⟩⟩⟩
          . obtain rfl:=eq_of_beq c
            rcases r with _ | ⟨y,_ | ⟨u,r⟩⟩
            . exact ⟨nofun,λ _=>Dr.of (q false ⟨nofun,λ e=>by obtain ⟨n,e⟩:=hf_is.mp e;cases e⟩)⟩
            . refine ⟨λ _=>⟨y,rfl,hd y (by simp),λ b hb=>Dr.of (q b (hb.trans ⟨?_,λ e=>?_⟩))⟩,nofun⟩
              . rintro ⟨n,rfl⟩;exact hf_is.mpr ⟨n,rfl⟩
              . obtain ⟨n,e⟩:=hf_is.mp e;cases e;exact ⟨n,rfl⟩
            . exact ⟨λ c=>absurd (eq_of_beq c) (by simp only [List.length_cons];omega),λ _=>Dr.of (q false ⟨nofun,λ e=>by obtain ⟨n,e⟩:=hf_is.mp e;cases e⟩)⟩
          . obtain rfl:=eq_of_beq c
            refine Dr.of (q _ ?_)
            rw [tFq]
            cases r with
            | nil=>exact ⟨λ _=>rfl,λ _=>rfl⟩
            | cons y r=>exact ⟨λ c=>absurd (eq_of_beq c) (by simp only [List.length_cons];omega),nofun⟩
          . obtain rfl:=eq_of_beq c
            rcases r with _ | ⟨y,_ | ⟨u,_ | ⟨v,r⟩⟩⟩
            . exact ⟨nofun,λ _=>Dr.of (q false ⟨nofun,λ e=>by obtain ⟨_,_,e⟩:=hf_way.mp e;cases e⟩)⟩
            . exact ⟨nofun,λ _=>Dr.of (q false ⟨nofun,λ e=>by obtain ⟨_,_,e⟩:=hf_way.mp e;cases e⟩)⟩
            . refine ⟨λ _=>?_,nofun⟩
              have f:(∀ es,y≠.tup es)->DQ (.bl false) G:=λ h=>q false ⟨nofun,λ e=>by obtain ⟨es,_,e⟩:=hf_way.mp e;cases e;exact absurd rfl (h es)⟩
              cases hd y (by simp) with
              | ref h=>obtain ⟨es,h⟩:=h;exact a7q h ⟨false,rfl,Dr.of (f λ es=>nofun)⟩
              | tup _=>exact ⟨true,rfl,Dr.of (q true ⟨λ _=>hf_way.mpr ⟨_,_,rfl⟩,λ _=>rfl⟩)⟩
              | _=>exact ⟨false,rfl,Dr.of (f λ es=>nofun)⟩
            . exact ⟨λ c=>absurd (eq_of_beq c) (by simp only [List.length_cons];omega),λ _=>Dr.of (q false ⟨nofun,λ e=>by obtain ⟨_,_,e⟩:=hf_way.mp e;cases e⟩)⟩
          . obtain rfl:=eq_of_beq c
            rcases r with _ | ⟨y,_ | ⟨u,_ | ⟨v,r⟩⟩⟩
            . exact ⟨nofun,λ _=>Dr.of (q false ⟨nofun,λ e=>by obtain ⟨_,_,e,_⟩:=hf_both.mp e;cases e⟩)⟩
            . exact ⟨nofun,λ _=>Dr.of (q false ⟨nofun,λ e=>by obtain ⟨_,_,e,_⟩:=hf_both.mp e;cases e⟩)⟩
            . refine ⟨λ _=>⟨y,rfl,hd y (by simp),⟨λ c1=>⟨u,rfl,hd u (by simp),Dr.of (q _ ⟨λ c2=>hf_both.mpr ⟨_,_,rfl,c1,c2⟩,λ e=>by obtain ⟨_,_,e,_,h⟩:=hf_both.mp e;cases e;exact h⟩)⟩,λ c1=>Dr.of (q false ⟨nofun,λ e=>by obtain ⟨_,_,e,h,_⟩:=hf_both.mp e;cases e;rw [c1] at h;exact h⟩)⟩⟩,nofun⟩
            . exact ⟨λ c=>absurd (eq_of_beq c) (by simp only [List.length_cons];omega),λ _=>Dr.of (q false ⟨nofun,λ e=>by obtain ⟨_,_,e,_⟩:=hf_both.mp e;cases e⟩)⟩
          . have n1:z≠"is":=ne_of_beq_false c1
            have n2:z≠"some":=ne_of_beq_false c2
            have n3:z≠"way":=ne_of_beq_false c3
            have n4:z≠"both":=ne_of_beq_false c4
            have iff:=aL1q (r:=r) n1 n2 n3 n4
            refine ⟨["left", "right"],rfl,rfl,⟨λ c=>?_,λ c=>?_⟩⟩
            . rw [sUq,Bool.or_eq_true,beq_iff_eq,beq_iff_eq] at c
              refine Dr.of (q _ ?_)
              rw [iff]
              rcases r with _ | ⟨y,_ | ⟨u,r⟩⟩
              . exact ⟨nofun,λ⟨_,a,e⟩=>by cases e⟩
              . exact ⟨λ _=>⟨c,y,rfl⟩,λ _=>rfl⟩
              . exact ⟨λ c=>absurd (eq_of_beq c) (by simp only [List.length_cons];omega),λ⟨_,a,e⟩=>by cases e⟩
            . rw [sUq,Bool.or_eq_false_iff] at c
              exact Dr.of (q false ⟨nofun,λ e=>by
                rcases (iff.mp e).1 with e | e
                . exact absurd e (ne_of_beq_false c.1)
                . exact absurd e (ne_of_beq_false c.2)⟩)
  | _=>exact ⟨false,rfl,⟨λ _=>⟨λ _=>Dr.of (no λ z r=>nofun),nofun⟩,nofun⟩⟩
abbrev k2q:Stmt:=top 13
theorem w1q:FnScope ["kind"] ["kind"] (aDq k2q):=⟨rfl,rfl,rfl,by decide +kernel,rfl,by decide +kernel,by decide +kernel⟩
theorem tAq (B:Blt mg)  (F:Fun K "inner_kinds" "inner_kinds" k2q f fd):FnOk P w K mg base CX0 1 f fd ["kind"] (aUq K nNq):=by
  refine okD (k:=0) F w1q (λ ds G DQ h=>?_) (λ cdv A outer s H E hr ds G DQ h=>?_)
  . obtain ⟨_,_,_,rfl,_⟩:=h;rfl
  obtain ⟨d,is,bs,rfl,hf,hz,q⟩:=h
  refine ⟨_,(a5q (aNq (AW.at (dBq (aBq (aKq (aQq hr)) (aGq aix (a1q 0) a3q (λ _ _=>rfl)) a8q (aAq _)) (cMq (aBq (aKq (aQq hr)) (aGq aix (a1q 0) a3q (λ _ _=>rfl)) a8q (aAq _))))) (a6q (aEq (b4q a2q))) aFq)
      (a5q (aNq (aBq (aKq (aQq hr)) (aGq aix (a1q 0) a3q (λ _ _=>rfl)) a8q (aAq _)) (a6q (aEq (aSq aTq (aGq aix (a1q 0) a3q (λ _ _=>rfl)) (b4q (a0q (aGq aix (a1q 0) a3q (λ _ _=>rfl)) a2q))))) aFq)
      (a6q (aEq (bQq asl (a1q 0) (b8q a3q) cPq))))),?_⟩
  cases hf with
  | is n=>exact ⟨λ _=>⟨λ _=>Dr.of q,nofun⟩,λ c=>absurd c (by decide)⟩
  | some=>exact ⟨λ c=>absurd c (by decide),λ _=>⟨λ _=>Dr.of q,λ c=>absurd c (by decide)⟩⟩
  | both _ _=>exact ⟨λ c=>absurd c (by decide),λ _=>⟨λ c=>absurd c (by decide),λ _=>⟨λ c=>absurd c (by decide),λ _=>Dr.of q⟩⟩⟩
  | left _=>exact ⟨λ c=>absurd c (by decide),λ _=>⟨λ c=>absurd c (by decide),λ _=>⟨λ c=>absurd c (by decide),λ _=>Dr.of q⟩⟩⟩
  | right _=>exact ⟨λ c=>absurd c (by decide),λ _=>⟨λ c=>absurd c (by decide),λ _=>⟨λ c=>absurd c (by decide),λ _=>Dr.of q⟩⟩⟩
  | way ds k=>
    refine ⟨λ c=>absurd c (by decide),λ _=>⟨λ c=>absurd c (by decide),λ _=>⟨λ _=>?_,λ c=>absurd c (by decide)⟩⟩⟩
    have:=e4q ds
    simp only [tsz,bGq] at hz
    exact ⟨dJq (by simp;omega),Dr.of q⟩
abbrev kGq:Stmt:=top 6
theorem sc_flat:FnScope ["thing", "told", "pending", "one", "item"] ["thing"] (aDq kGq):=⟨rfl,rfl,rfl,by decide +kernel,rfl,by decide +kernel,by decide +kernel⟩
theorem tIq {ti te:Tok} (B:Blt mg) (m_ITEM:mg "ITEM" = some (.int 1 ti)) (m_END:mg "END" = some (.int 0 te))  (F:Fun K "flat" "flat" kGq f fd):FnOk P w K mg base CX0 1 f fd ["thing"] (aUq K o9q):=by
  refine okD (k:=0) F sc_flat (λ ds G DQ h=>?_) (λ cdv A outer s H E hr ds G DQ h=>?_)
  . obtain ⟨_,rfl,_⟩:=h;rfl
  obtain ⟨d,rfl,hk,hz,q⟩:=h
  refine ⟨_,(a5q (aJq (k:=1) sc_flat.nd rfl (Or.inl rfl) (b7q a2q))
      (a5q (aJq (k:=2) sc_flat.nd rfl (Or.inl rfl) (b7q (a0q (a1q 0) a2q)))
      (a5q (cVq PassesOwn.never (b2q (a1q 2)) (a5q (aJq (k:=3) sc_flat.nd rfl (Or.inl rfl) (h3q PySem.F.plainAttrs_list PySem.F.slot_list_pop PySem.F.type_list_pop eHq (a1q 2)))
      (a6q (aNq (d7q (b2q (aCq b5q rfl B.isinstance PyProof.Rows.boot_isinstance (a0q (a1q 3) (a0q (bJq rfl B.tuple PyProof.Rows.boot_tuple) a2q))))) (a6q (aZq (bKq PySem.F.plainAttrs_list PySem.F.slot_list_append PySem.F.type_list_append aOq (a1q 1) (a0q (a1q 3) a2q)))) (a6q (aNq (AW.at (d3q (aBq d5q (aCq aIq rfl B.len PySem.boot_len (a0q (a1q 3) a2q)) a3q (aAq _)) (c8q (b2q (aCq b5q rfl B.isinstance PyProof.Rows.boot_isinstance (a0q (aGq aix (a1q 3) a3q (λ _ _=>rfl)) (a0q (bJq rfl B.str PyProof.Rows.boot_str) a2q))))))) (a6q (aZq (bKq PySem.F.plainAttrs_list PySem.F.slot_list_extend PySem.F.type_list_extend dAq (a1q 2) (a0q (y6q (a1q 3) (b8q (i2q cWq a3q))) a2q)))) (a5q (aZq (bKq PySem.F.plainAttrs_list PySem.F.slot_list_append PySem.F.type_list_append aOq (a1q 2) (a0q (cTq (d:=.int _) (v:=.int _) rfl m_END ⟨_,rfl⟩ (λ _=>rfl)) a2q)))
      (a6q (fSq PassesOwn.never rfl (vPq rfl B.reversed (a1q 3)) (bLq (k:=4) sc_flat.nd rfl (Or.inl rfl)) (a5q (aZq (bKq PySem.F.plainAttrs_list PySem.F.slot_list_append PySem.F.type_list_append aOq (a1q 2) (a0q (a1q 4) a2q)))
      (a6q (aZq (bKq PySem.F.plainAttrs_list PySem.F.slot_list_append PySem.F.type_list_append aOq (a1q 2) (a0q (cTq (d:=.int _) (v:=.int _) rfl m_ITEM ⟨_,rfl⟩ (λ _=>rfl)) a2q))))))))))))))
      (a6q (aEq (a1q 1)))))),?_⟩
  intro a ha b hb
  obtain ⟨-,hb0,hne⟩:=eNq (o:=.lst []) hb
  have hw:=zYq d
  refine ⟨λ μ ρ G'=>∃ (ps fs:List D) (o3 o4:Option D),ρ=[some d,some (.ref a),some (.ref b),o3,o4]/\up (up G a (.lst fs)) b (.lst ps.reverse)=G'/\fs++flC ps=flD d/\(∀ p∈ps,PK p)/\wss ps<=196000/\wss ps=μ,⟨_,[d],[],_,_,rfl,rfl,by simp [flC],by simpa using .k hk,by simp only [wss];omega,rfl⟩,?_⟩
  rintro μ ρ G' ⟨ps,fs,o3,o4,rfl,rfl,hfs,hps,hw6,rfl⟩
  have hfl:fs.length<=196000:=by have:=congrArg List.length hfs;have:=h7q d;simp only [List.length_append] at *;omega
  refine a7q a4q ⟨λ c=>?_,λ c=>?_⟩
  . obtain ⟨y,qs,rfl⟩:∃ y qs,ps=y::qs:=by
      cases ps with
      | nil=>simp at c
      | cons z qs=>exact ⟨z,qs,rfl⟩
    rw [wss] at hw6
    have hql:=hTq qs
    refine ⟨a7q a4q trivial,aMq a4q ⟨qs.reverse,y,by simp,?_⟩⟩
    rw [bPq]
    have ha1:∀ o,up (up G a (.lst fs)) b o a=some (.lst fs):=λ o=>by rw [aRq (Ne.symm hne)];exact a4q
    have hqs:∀ p∈qs,PK p:=λ p hp=>hps p (List.mem_cons_of_mem _ hp)
    have fin:∀ (fs' ps':List D),fs'++flC ps'=flD d->(∀ p∈ps',PK p)->wss ps'+1<=ws y+wss qs->∀ (G9:DV) (ρ:DSt),(∃ o4,ρ=[some d,some (.ref a),some (.ref b),some y,o4])->up (up G a (.lst fs')) b (.lst ps'.reverse)=G9->Wk (λ ρ G'=>∃ μ',μ' < wss (y::qs)/\∃ (ps fs:List D) (o3 o4:Option D),ρ=[some d,some (.ref a),some (.ref b),o3,o4]/\up (up G a (.lst fs)) b (.lst ps.reverse)=G'/\fs++flC ps=flD d/\(∀ p∈ps,PK p)/\wss ps<=196000/\wss ps=μ') ρ G9:=λ fs' ps' h1 h2 h3 G9 ρ ⟨o4,e1⟩ e2=>Wk.of ⟨wss ps',by rw [wss];omega,ps',fs',_,o4,e1,e2,h1,h2,by omega,rfl⟩
    rw [flC] at hfs
    cases hps y (List.mem_cons_self ..) with
    | int n=>
      refine ⟨false,rfl,⟨λ _=>⟨a7q (ha1 _) trivial,aMq (ha1 _) ⟨aVq (by omega),?_⟩⟩,nofun⟩⟩
      rw [up3 hne]
      exact fin (fs++[.int n]) qs (by rw [<- hfs];simp [flD]) hqs (by simp only [ws];omega) _ _ ⟨_,rfl⟩ rfl
    | str z=>
      refine ⟨false,rfl,⟨λ _=>⟨a7q (ha1 _) trivial,aMq (ha1 _) ⟨aVq (by omega),?_⟩⟩,nofun⟩⟩
      rw [up3 hne]
      exact fin (fs++[.str z]) qs (by rw [<- hfs];simp [flD]) hqs (by simp only [ws];omega) _ _ ⟨_,rfl⟩ rfl
    | k h=>
      obtain ⟨z,r,rfl,hr⟩:=h.pks
      have hlr:=hTq (.str z::r)
      rw [ws] at hw6
      refine ⟨true,rfl,⟨nofun,λ _=>⟨λ _=>⟨true,rfl,⟨λ _=>?_,nofun⟩⟩,λ c=>absurd (of_decide_eq_false c) (by simp only [List.length_cons];omega)⟩⟩⟩
      refine ⟨a7q a4q trivial,rfl,aMq a4q ⟨dJq (by simp only [List.length_reverse];omega),?_⟩⟩
      rw [bPq]
      refine fin fs ((.str z::r)++qs) ?_ (λ p hp=>?_) ?_ _ _ ⟨_,rfl⟩ ?_
      . rw [<- hfs,pRq];simp only [flD,flT,flC];rfl
      . rcases List.mem_append.mp hp with hp | hp
        . rcases List.mem_cons.mp hp with rfl | hp
          . exact .str _
          . exact hr p hp
        . exact hqs p hp
      . rw [p7q,ws];omega
      . rw [List.reverse_append]
    | @bag ds hds=>
      have hlr:=hTq ds
      have hqd:qs.length+2 * ds.length+2<=196000:=by rw [ws] at hw6;omega
      refine ⟨true,rfl,⟨nofun,λ _=>⟨λ c=>?els0,λ c=>?els2⟩⟩⟩
      case' els0=>
        obtain ⟨d0,ds',e⟩:∃ d0 ds',ds=d0::ds':=by
          cases ds with
          | nil=>exact absurd c (by decide)
          | cons x xs=>exact ⟨x,xs,rfl⟩
        refine wGq (d:=d0) (by rw [e];exact bCq (j:=0) rfl) ?_
        obtain ⟨z,r,rfl,_⟩:=(hds d0 (by rw [e];exact List.mem_cons_self ..)).head
        refine ⟨false,rfl,⟨nofun,λ _=>?_⟩⟩
      case' els2=>
        refine ⟨nofun,λ _=>?_⟩
      case els0 | els2=>
        refine ⟨a7q a4q trivial,aMq a4q ⟨aVq (by simp only [List.length_reverse];omega),?_⟩⟩
        rw [bPq]
        refine ⟨λ i ρ G'=>∃ o4,ρ=[some d,some (.ref a),some (.ref b),some (.tup ds),o4]/\up (up G a (.lst fs)) b (.lst (qs.reverse++[.int 0]++(ds.reverse.take i).flatMap λ x=>[x,.int 1]))=G',⟨_,rfl,by simp⟩,λ _ _ _ _ _=>trivial,?_,?_⟩
        . rintro i x ρ G' he ⟨o4,rfl,rfl⟩
          have he':ds.reverse[i]?=some x:=he
          have hsm:(qs.reverse++[D.int 0]++(ds.reverse.take i).flatMap λ x=>[x,.int 1]).length+1<=196000:=by
            have h2:=(List.getElem?_eq_some_iff.mp he').1
            rw [List.length_reverse] at h2
            simp only [List.length_append,List.length_reverse,List.length_singleton,jJq,List.length_take]
            omega
          refine ⟨a7q a4q trivial,aMq a4q ⟨aVq (by omega),?_⟩⟩
          rw [bPq]
          refine ⟨a7q a4q trivial,aMq a4q ⟨aVq (by rw [List.length_append,List.length_singleton];omega),?_⟩⟩
          rw [bPq]
          refine Wk.of ⟨_,rfl,?_⟩
          rw [List.take_add_one,he',Option.toList_some,List.flatMap_append]
          simp
        . rintro ρ G' ⟨o4,rfl,rfl⟩
          refine fin fs (cGq ds++.int 0::qs) ?_ (λ p hp=>?_) ?_ _ _ ⟨_,rfl⟩ ?_
          . rw [<- hfs,pXq,lEq hds]
          . rcases List.mem_append.mp hp with hp | hp
            . obtain ⟨x,hx,hp⟩:=List.mem_flatMap.mp hp
              simp at hp
              rcases hp with rfl | rfl
              . exact .int _
              . exact .k (hds _ hx)
            . rcases List.mem_cons.mp hp with rfl | hp
              . exact .int _
              . exact hqs p hp
          . rw [oDq,ws];omega
          . rw [List.reverse_append,nWq,List.reverse_cons,show ds.reverse.take (⟨ds.reverse,λ _=>True⟩:DIt).items.length=ds.reverse from List.take_length]
  . have e:ps=[]:=by
      cases ps with
      | nil=>rfl
      | cons _ _=>simp at c
    subst e
    have e2:fs=flD d:=by simpa [flC] using hfs
    subst e2
    exact ⟨up G a (.lst (flD d)),Sub.new (Sub.refl _) (by rw [aRq hne];exact hb0),q a ha⟩
abbrev fQq:Stmt:=top 14
theorem sc_sorted:FnScope ["kinds", "keys"] ["kinds"] (aDq fQq):=⟨rfl,rfl,rfl,by decide +kernel,rfl,by decide +kernel,by decide +kernel⟩
theorem oIq (B:Blt mg) (g_flat:Got P w K mg base 1 "flat" ["thing"] (aUq K o9q)) (F:Fun K "is_sorted" "is_sorted" fQq f fd):FnOk P w K mg base CX0 2 f fd ["kinds"] (aUq K hYq):=by
  refine okD (k:=1) F sc_sorted (λ ds G DQ h=>?_) (λ cdv A outer s H E hr ds G DQ h=>?_)
  . obtain ⟨_,rfl,_⟩:=h;rfl
  obtain ⟨es,rfl,hk,hl,q⟩:=h
  refine ⟨_,(a5q (aNq (aBq c7q (aCq aIq rfl B.len PySem.boot_len (a0q (a1q 0) a2q)) a3q (aAq _)) (a6q (aEq k7q)) aFq)
      (a5q (eDq (k:=1) rfl sc_sorted.nd rfl (Or.inl rfl) (CompOk.of (N':=["kind"]) (nt:=1) (cap:=[]) rfl (by kernel_rfl)) (bNq (k:=0) (by decide)) (e1q (a1q 0)) (λ _ _ _ _=>(bLq (k:=0) (show List.Nodup (["kind"]:List Str) by decide +kernel) rfl (Or.inl rfl)))  (λ _ _ _ _=>(a9q g_flat hr (by omega) rfl (a0q (a1q 0) a2q))))
      (a6q (aEq (cDq (s0q (aQq hr)) (a1q 1) (aCq (h9q (aQq hr)) rfl B.sorted PyProof.Rows.boot_sorted (a0q (a1q 1) a2q)) (aAq _)))))),?_⟩
  refine ⟨λ c=>?_,λ c=>?_⟩
  . have c':=of_decide_eq_true c
    refine Dr.of ?_
    rcases es with _ | ⟨x,_ | ⟨y,r⟩⟩
    . exact q
    . exact q
    . simp only [List.length_cons] at c';omega
  . refine lGq (λ i ds G'=>∃ zs:List (Addr × D),ds=zs.map (λ z=>D.ref z.1)/\zs.map (·.2)=es.take i/\(∀ z∈zs,FlG G' z)/\Sub G G') (aVq (by show es.length<=_;omega)) ⟨[],rfl,rfl,by simp,Sub.refl _⟩ (λ _ _ _ _ _=>trivial) ?_ ?_
    . rintro i d ds G' hd ⟨zs,rfl,hzs,hF,hS⟩
      have hd':es[i]?=some d:=hd
      have hm:=List.mem_of_getElem? hd'
      refine ⟨d,rfl,(hk d hm).1,(hk d hm).2,λ l hl'=>⟨_,Sub.refl _,zs++[(l,d)],by simp,?_,λ z hz=>?_,Sub.trans hS (Sub.new (Sub.refl _) hl')⟩⟩
      . rw [List.map_append,hzs,List.take_add_one,hd'];rfl
      . rcases List.mem_append.mp hz with hz | hz
        . obtain ⟨h1,h2⟩:=hF z hz
          exact ⟨h1,by rw [aRq (by rintro e;rw [e,hl'] at h2;cases h2)];exact h2⟩
        . simp at hz;subst hz;exact ⟨(hk d hm).1,a4q⟩
    . rintro ds G' ⟨zs,rfl,hzs,hF,hS⟩ p hp
      have hzs':zs.map (·.2)=es:=by
        rw [hzs];exact List.take_length
      have hzl:zs.length=es.length:=by rw [<- hzs',List.length_map]
      have hF1:∀ z∈zs,FlG (up G' p (.lst (zs.map λ z=>D.ref z.1))) z:=λ z hz=>by
        obtain ⟨h1,h2⟩:=hF z hz
        exact ⟨h1,by rw [aRq (by rintro e;rw [e,hp] at h2;cases h2)];exact h2⟩
      refine ⟨zs,a4q,by omega,hF1,λ zs' hperm hsrt p' hp'=>?_⟩
      have hF2:∀ z∈zs,FlG (up (up G' p (.lst (zs.map λ z=>D.ref z.1))) p' (.lst (zs'.map λ z=>D.ref z.1))) z:=λ z hz=>by
        obtain ⟨h1,h2⟩:=hF1 z hz
        exact ⟨h1,by rw [aRq (by rintro e;rw [e,hp'] at h2;cases h2)];exact h2⟩
      have npp:p≠p':=by rintro rfl;rw [a4q] at hp';cases hp'
      refine ⟨zs,zs',by rw [aRq npp];exact a4q,a4q,hF2,λ z hz=>hF2 z (hperm.mem_iff.mpr hz),hperm.length_eq,λ b hb=>⟨G,Sub.trans hS (Sub.trans (Sub.new (Sub.refl _) hp) (Sub.new (Sub.refl _) hp')),?_⟩⟩
      have e:b=g7q es:=by
        rw [hzs',v6q (λ d hd=>(hk d hd).1) (by rw [<- hzs'];exact hperm.map _) hsrt] at hb
        cases b<;>cases h:g7q es<;>simp_all
      rw [e];exact q
abbrev f4q:Stmt:=top 10
theorem sc_iskind:FnScope ["thing", "bags", "pending", "one"] ["thing"] (aDq f4q):=⟨rfl,rfl,rfl,by decide +kernel,rfl,by decide +kernel,by decide +kernel⟩
theorem p3q (B:Blt mg) (g_hkf:Got P w K mg base 2 "has_kind_form" ["thing"] (aUq K u6q))(g_innk:Got P w K mg base 1 "inner_kinds" ["kind"] (aUq K nNq))(g_sorted:Got P w K mg base 2 "is_sorted" ["kinds"] (aUq K hYq)) (F:Fun K "is_kind" "is_kind" f4q f fd):FnOk P w K mg base CX0 3 f fd ["thing"] (aUq K i4q):=by
  refine okD (k:=2) F sc_iskind (λ ds G DQ h=>?_) (λ cdv A outer s H E hr ds G DQ h=>?_)
  . obtain ⟨_,rfl,_⟩:=h;rfl
  obtain ⟨d,rfl,ht,hB,q⟩:=h
  refine ⟨_,(a5q (aJq (k:=1) sc_iskind.nd rfl (Or.inl rfl) (b7q a2q))
      (a5q (aJq (k:=2) sc_iskind.nd rfl (Or.inl rfl) (b7q (a0q (a1q 0) a2q)))
      (a5q (cVq PassesOwn.never (b2q (a1q 2)) (a5q (aJq (k:=3) sc_iskind.nd rfl (Or.inl rfl) (h3q PySem.F.plainAttrs_list PySem.F.slot_list_pop PySem.F.type_list_pop eHq (a1q 2)))
      (a5q (aNq (d7q (b2q (a9q g_hkf hr (by omega) rfl (a0q (a1q 3) a2q)))) (a6q (aEq k7q)) aFq)
      (a5q (aNq (aBq (aKq (aQq hr)) (aGq aix (a1q 3) a3q (λ _ _=>rfl)) a8q (aAq _)) (a6q (aZq (bKq PySem.F.plainAttrs_list PySem.F.slot_list_append PySem.F.type_list_append aOq (a1q 1) (a0q (aGq aix (a1q 3) a3q (λ _ _=>rfl)) a2q)))) aFq)
      (a6q (aZq (bKq PySem.F.plainAttrs_list PySem.F.slot_list_extend PySem.F.type_list_extend dAq (a1q 2) (a0q (a9q g_innk hr (by omega) rfl (a0q (a1q 3) a2q)) a2q))))))))
      (a6q (aEq (cCq (aCq (fHq rfl) rfl B.all PyProof.Rows.boot_all (a0q (fUq rfl (CompOk.of (N':=["bag"]) (nt:=1) (cap:=[]) rfl (by kernel_rfl)) (bNq (k:=0) (by decide)) (e1q (a1q 1)) (λ _ _ _ _=>(bLq (k:=0) (show List.Nodup (["bag"]:List Str) by decide +kernel) rfl (Or.inl rfl))) (λ _ _ _ _=>(a9q g_sorted hr (by omega) rfl (a0q (a1q 0) a2q)))) a2q)))))))),?_⟩
  intro a ha b hb
  obtain ⟨-,hb0,hne⟩:=eNq (o:=.lst []) hb
  have lsG:∀ (X Y:DO) (r:Addr),isL G r->isL (up (up G a X) b Y) r:=λ X Y r ⟨ds,h⟩=>⟨ds,by rw [aRq (by rintro rfl;rw [hb0] at h;cases h),aRq (by rintro rfl;rw [ha] at h;cases h)];exact h⟩
  refine ⟨λ μ ρ G'=>∃ (ps:List D) (bs:List (List D)) (o3:Option D),ρ=[some d,some (.ref a),some (.ref b),o3]/\up (up G a (.lst (bs.map D.tup))) b (.lst ps.reverse)=G'/\(IsKd d ↔ (∀ x∈bs,g7q x=true)/\∀ p∈ps,IsKd p)/\((∀ p∈ps,Frm p)->∀ x∈bs,∀ y∈x,Frm y)/\(∀ p∈ps,Th (isL G) p/\Bd 49000 150 63 p)/\(∀ x∈bs,x.length<=63/\∀ y∈x,tsz y<=49000)/\bGq ps+bs.length<=49000/\bGq ps=μ,⟨_,[d],[],_,rfl,rfl,by simp,by simp,by simpa using ⟨ht,hB⟩,by simp,by have:=hB.sz;simp only [bGq,List.length_nil];omega,rfl⟩,?_⟩
  rintro μ ρ G' ⟨ps,bs,o3,rfl,rfl,hV,hFr,hps,hbs,hsz,rfl⟩
  refine a7q a4q ⟨λ c=>?_,λ c=>?_⟩
  . obtain ⟨y,qs,rfl⟩:∃ y qs,ps=y::qs:=by
      cases ps with
      | nil=>simp at c
      | cons z qs=>exact ⟨z,qs,rfl⟩
    rw [bGq] at hsz
    have hql:=e4q qs
    have hyp:=nTq y
    obtain ⟨hty,hBy⟩:=hps y (List.mem_cons_self ..)
    refine ⟨a7q a4q trivial,aMq a4q ⟨qs.reverse,y,by simp,?_⟩⟩
    rw [bPq]
    have ha1:∀ (X:DO) o,up (up G a X) b o a=some X:=λ X o=>by rw [aRq (Ne.symm hne)];exact a4q
    refine ⟨y,rfl,hty.mono (lsG _ _),λ bb hbb=>⟨λ c=>?_,λ c=>?_⟩⟩
    . have n:¬ ∃ is bs,HF y is bs:=λ e=>by
        have z:=hbb.mpr e
        subst z;cases c
      refine ⟨G,Sub.trans (Sub.new (Sub.refl _) ha) (Sub.new (Sub.refl _) (by rw [aRq hne];exact hb0)),q false ⟨nofun,λ e=>absurd ((hV.mp e).2 y (List.mem_cons_self ..)).hf n⟩⟩
    . obtain ⟨is,ys,hf⟩:∃ is bs,HF y is bs:=hbb.mp (by cases bb;cases c;rfl)
      obtain ⟨sz1,sz2⟩:=hf.sz
      have hm:=hf.mem hty hBy
      have kd:=hf.kd
      have fin:∀ (ρ:DSt) (G9:DV),ρ=[some d,some (.ref a),some (.ref b),some y]->up (up G a (.lst ((bs++ys).map D.tup))) b (.lst (qs.reverse++is))=G9->ys.length<=1->Wk (λ ρ G'=>∃ μ',μ' < bGq (y::qs)/\∃ (ps:List D) (bs:List (List D)) (o3:Option D),ρ=[some d,some (.ref a),some (.ref b),o3]/\up (up G a (.lst (bs.map D.tup))) b (.lst ps.reverse)=G'/\(IsKd d ↔ (∀ x∈bs,g7q x=true)/\∀ p∈ps,IsKd p)/\((∀ p∈ps,Frm p)->∀ x∈bs,∀ y∈x,Frm y)/\(∀ p∈ps,Th (isL G) p/\Bd 49000 150 63 p)/\(∀ x∈bs,x.length<=63/\∀ y∈x,tsz y<=49000)/\bGq ps+bs.length<=49000/\bGq ps=μ') ρ G9:=λ ρ G9 e1 e2 hyl=>by
        have sy:=hBy.sz
        refine Wk.of ⟨_,?_,is.reverse++qs,bs++ys,_,e1,?_,?_,?_,?_,?_,?_,rfl⟩
        . rw [bGq,f0q,l1q];omega
        . rw [<- e2];simp
        . rw [hV]
          constructor
          . rintro ⟨h1,h2⟩
            have z:=kd.mp (h2 y (List.mem_cons_self ..))
            refine ⟨λ x hx=>?_,λ p hp=>?_⟩
            . rcases List.mem_append.mp hx with hx | hx
              . exact h1 x hx
              . exact z.2 x hx
            . rcases List.mem_append.mp hp with hp | hp
              . exact z.1 p (List.mem_reverse.mp hp)
              . exact h2 p (List.mem_cons_of_mem _ hp)
          . rintro ⟨h1,h2⟩
            refine ⟨λ x hx=>h1 x (List.mem_append_left _ hx),λ p hp=>?_⟩
            rcases List.mem_cons.mp hp with rfl | hp
            . exact kd.mpr ⟨λ x hx=>h2 x (List.mem_append_left _ (List.mem_reverse.mpr hx)),λ x hx=>h1 x (List.mem_append_right _ hx)⟩
            . exact h2 p (List.mem_append_right _ hp)
        . intro h x hx
          obtain ⟨f1,f2⟩:=hf.fr λ x hx=>h x (List.mem_append_left _ (List.mem_reverse.mpr hx))
          rcases List.mem_append.mp hx with hx | hx
          . refine hFr (λ p hp=>?_) x hx
            rcases List.mem_cons.mp hp with rfl | hp
            . exact f1
            . exact h p (List.mem_append_right _ hp)
          . exact f2 x hx
        . intro p hp
          rcases List.mem_append.mp hp with hp | hp
          . exact hm p (List.mem_reverse.mp hp)
          . exact hps p (List.mem_cons_of_mem _ hp)
        . intro x hx
          rcases List.mem_append.mp hx with hx | hx
          . exact hbs x hx
          . obtain ⟨z1,z2⟩:=sz2 x hx
            have:=hBy.wd
            exact ⟨by omega,λ y hy=>by have:=dVq hy;omega⟩
        . rw [f0q,l1q,List.length_append];omega
      have szi:=e4q is
      have sy:=hBy.sz
      cases hf with
      | is n=>exact ⟨nofun,λ _=>⟨a7q a4q trivial,_,_,_,rfl,(HF.is n),by omega,aMq a4q ⟨dJq (by simp only [List.length_reverse,List.length_cons,List.length_nil];omega),by rw [bPq];exact fin _ _ rfl (by simp) (by simp)⟩⟩⟩
      | some=>exact ⟨nofun,λ _=>⟨a7q a4q trivial,_,_,_,rfl,HF.some,by omega,aMq a4q ⟨dJq (by simp only [List.length_reverse,List.length_cons,List.length_nil];omega),by rw [bPq];exact fin _ _ rfl (by simp) (by simp)⟩⟩⟩
      | both o1 o2=>exact ⟨nofun,λ _=>⟨a7q a4q trivial,_,_,_,rfl,(HF.both o1 o2),by omega,aMq a4q ⟨dJq (by simp only [List.length_reverse,List.length_cons,List.length_nil];omega),by rw [bPq];exact fin _ _ rfl (by simp) (by simp)⟩⟩⟩
      | left x=>exact ⟨nofun,λ _=>⟨a7q a4q trivial,_,_,_,rfl,(HF.left x),by omega,aMq a4q ⟨dJq (by simp only [List.length_reverse,List.length_cons,List.length_nil];omega),by rw [bPq];exact fin _ _ rfl (by simp) (by simp)⟩⟩⟩
      | right x=>exact ⟨nofun,λ _=>⟨a7q a4q trivial,_,_,_,rfl,(HF.right x),by omega,aMq a4q ⟨dJq (by simp only [List.length_reverse,List.length_cons,List.length_nil];omega),by rw [bPq];exact fin _ _ rfl (by simp) (by simp)⟩⟩⟩
      | way ds k=>
        refine ⟨λ _=>⟨a7q (ha1 _ _) trivial,aMq (ha1 _ _) ⟨aVq (by rw [List.length_map];omega),?_⟩⟩,nofun⟩
        rw [up3 hne]
        refine ⟨a7q a4q trivial,_,_,_,rfl,HF.way ds k,by omega,aMq a4q ⟨dJq (by simp only [List.length_reverse,List.length_append,List.length_singleton] at szi ⊢;omega),?_⟩⟩
        rw [bPq]
        exact fin _ _ rfl (by simp) (by simp)
  . have e:ps=[]:=by
      cases ps with
      | nil=>rfl
      | cons _ _=>simp at c
    subst e
    have hK:∀ x∈bs,∀ y∈x,IsK y:=λ x hx y hy=>(hFr (by simp) x hx y hy).isK
    have ha1:∀ (X:DO) o,up (up G a X) b o a=some X:=λ X o=>by rw [aRq (Ne.symm hne)];exact a4q
    refine hNq (ha1 _ _) ?_
    refine cQq bs D.tup (λ x=>.bl (g7q x)) ?_ ?_ ?_ ?_ ?_
    . rfl
    . exact aVq (by simp only [bGq] at hsz;omega)
    . exact ha1 _ _
    . intro x hx R hR
      exact ⟨x,rfl,λ y hy=>⟨hK x hx y hy,(hbs x hx).2 y hy⟩,by have:=(hbs x hx).1;omega,hR⟩
    . intro p hp
      refine a7q a4q ⟨bs.map g7q,?_,G,?_,Dr.of (q _ ?_)⟩
      . rw [show (bs.map λ x=>D.bl (g7q x))=(bs.map g7q).map D.bl from (List.map_map ..).symm];exact cSq _
      . exact Sub.trans (Sub.trans (Sub.new (Sub.refl _) ha) (Sub.new (Sub.refl _) (by rw [aRq hne];exact hb0))) (Sub.new (Sub.refl _) hp)
      . rw [hV];simp
abbrev g1q:Stmt:=top 22
theorem oNq:FnScope ["text", "signs"] ["text", "signs"] (aDq g1q):=⟨rfl,rfl,rfl,by decide +kernel,rfl,by decide +kernel,by decide +kernel⟩
theorem nFq (B:Blt mg) (F:Fun K "made_of" "made_of" g1q f fd):FnOk P w K mg base CX0 1 f fd ["text", "signs"] (aUq K hZq):=by
  refine okD (k:=0) F oNq (λ ds G DQ h=>?_) (λ cdv A outer s H E hr ds G DQ h=>?_)
  . obtain ⟨_,_,rfl,_⟩:=h;rfl
  obtain ⟨z,y,rfl,hz,q⟩:=h
  refine ⟨_,(a6q (aEq (cCq (aCq (fHq rfl) rfl B.all PyProof.Rows.boot_all (a0q (fUq rfl (CompOk.of (N':=["sign", "signs"]) (nt:=1) (cap:=[1]) rfl (by kernel_rfl)) (bNq (k:=0) (by decide)) (aA0q (a1q 0)) (λ _ _ _ _=>(bLq (k:=0) (show List.Nodup (["sign", "signs"]:List Str) by decide +kernel) rfl (Or.inl rfl))) (λ _ _ _ _=>(cDq f2q (a1q 0) (a1q 1) (by with_unfolding_all rfl)))) a2q))))),?_⟩
  refine cQq z.cps.toList (λ c=>.str ⟨#[c]⟩) (λ c=>.bl (decide (c∈y.cps.toList))) rfl (aVq ?_) trivial (λ c _ R hR=>?_) (λ p hp=>?_)
  . have:z.cps.toList.length=z.length:=rfl
    omega
  . show R (.bl (false ^^ !(Builtin.Str.occurrences y ⟨#[c]⟩ 0 y.length 1).isEmpty)) G
    rw [q3q,Bool.false_xor];exact hR
  . refine a7q a4q ⟨z.cps.toList.map λ c=>decide (c∈y.cps.toList),?_,G,Sub.new (Sub.refl _) hp,Dr.of ?_⟩
    . rw [show (z.cps.toList.map λ c=>D.bl (decide (c∈y.cps.toList)))=(z.cps.toList.map λ c=>decide (c∈y.cps.toList)).map D.bl by simp];exact cSq _
    . rw [List.all_map];exact q
abbrev g4q:Stmt:=top 18
theorem sc_pieces:FnScope ["text", "signs", "pieces", "start", "at", "sign"] ["text", "signs"] (aDq g4q):=⟨rfl,rfl,rfl,by decide +kernel,rfl,by decide +kernel,by decide +kernel⟩
theorem jPq {sg:Str} {S:List Nat} (hS:sg.cps.toList=S) (B:Blt mg) (F:Fun K "pieces_of" "pieces_of" g4q f fd):FnOk P w K mg base CX0 1 f fd ["text", "signs"] (aUq K (nAq sg S)):=by
  refine okD (k:=0) F sc_pieces (λ ds G DQ h=>?_) (λ cdv A outer s H E hr ds G DQ h=>?_)
  . obtain ⟨_,rfl,_⟩:=h;rfl
  obtain ⟨z,rfl,hz,q⟩:=h
  refine ⟨_,(a5q (aJq (k:=2) sc_pieces.nd rfl (Or.inl rfl) (b7q a2q))
      (a5q (aJq (k:=3) sc_pieces.nd rfl (Or.inl rfl) a3q)
      (a5q (fSq PassesOwn.never rfl (t0q rfl B.enumerate (a0q (a1q 0) a2q)) (aA5q (n:=2) rfl (lXq (bLq (k:=4) sc_pieces.nd rfl (Or.inl rfl)) (lXq (bLq (k:=5) sc_pieces.nd rfl (Or.inl rfl)) tPq))) (a6q (aNq (aBq f2q (a1q 5) (a1q 1) (by with_unfolding_all rfl)) (a5q (aNq (aBq c7q (a1q 3) (a1q 4) (aAq _)) (a6q (aZq (bKq PySem.F.plainAttrs_list PySem.F.slot_list_append PySem.F.type_list_append aOq (a1q 2) (a0q (bQq aslS (a1q 0) (b8q (a1q 3)) (b8q (a1q 4))) a2q)))) aFq)
      (a5q (aZq (bKq PySem.F.plainAttrs_list PySem.F.slot_list_append PySem.F.type_list_append aOq (a1q 2) (a0q (a1q 5) a2q)))
      (a6q (aJq (k:=3) sc_pieces.nd rfl (Or.inl rfl) (aSq aTq (a1q 4) a3q))))) aFq)))
      (a5q (aNq (aBq c7q (a1q 3) (aCq aIq rfl B.len PySem.boot_len (a0q (a1q 0) a2q)) (aAq _)) (a6q (aZq (bKq PySem.F.plainAttrs_list PySem.F.slot_list_append PySem.F.type_list_append aOq (a1q 2) (a0q (bQq aslS (a1q 0) (b8q (a1q 3)) cPq) a2q)))) aFq)
      (a6q (aEq (a1q 2))))))),?_⟩
  intro a ha
  have hzl:z.cps.toList.length=z.length:=Array.length_toList
  generalize hzz:z.cps.toList=zl at q hzl
  refine ⟨λ i ρ G'=>∃ (dn:List Str) (s:Nat) (o4 o5:Option D),ρ=[some (.str z),some (.str sg),some (.ref a),some (.int (s:Int)),o4,o5]/\up G a (.lst (dn.map D.str))=G'/\s<=i/\i<=zl.length/\dn++pcs S ((zl.take i).drop s) (zl.drop i)=pcs S [] zl/\dn.length+(i - s)<=i,⟨[],0,_,_,rfl,rfl,Nat.le_refl _,Nat.zero_le _,by simp,Nat.le_refl _⟩,λ _ _ _ _ _=>trivial,?_,?_⟩
  . rintro i e ρ G' he ⟨dn,s,o4,o5,rfl,rfl,hs,hil,hd,hn⟩
    have he':(enS z)[i]?=some e:=he
    unfold enS at he'
    rw [List.getElem?_map,List.getElem?_zipIdx,hzz] at he'
    cases hc:zl[i]? with
    | none=>rw [hc] at he';cases he'
    | some c=>
      rw [hc] at he'
      simp at he'
      subst he'
      have hlt:=(List.getElem?_eq_some_iff.mp hc).1
      have ed:zl.drop i=c::zl.drop (i+1):=by rw [List.drop_eq_getElem_cons hlt,(List.getElem?_eq_some_iff.mp hc).2]
      have et:zl.take (i+1)=zl.take i++[c]:=by rw [List.take_add_one,hc,Option.toList_some]
      have hcl:((zl.take i).drop s).length=i - s:=by rw [List.length_drop,List.length_take];omega
      rw [ed,pcs] at hd
      refine ⟨λ c1=>?_,λ c1=>?_⟩
      . rw [Bool.false_xor,q3q,decide_eq_true_eq,hS] at c1
        rw [if_pos c1] at hd
        refine ⟨λ c2=>?_,λ c2=>?_⟩
        . have c2':s < i:=by have:=of_decide_eq_true c2;omega
          have es:Txt.slice z (some (s:Int)) (some (i:Int))=ofL ((zl.take i).drop s):=by
            rw [eq_of_beq (PyProof.Rows.slice_closes (x:=z) (i:=s) (j:=i) ⟨by omega,by omega,by rw [hzz];omega⟩),hzz]
            refine c6q ?_
            rw [aWq,List.drop_take]
            show (zl.drop s).take ((i:Int) - (s:Int)).toNat=_
            rw [show ((i:Int) - (s:Int)).toNat=i - s by omega]
          refine ⟨a7q a4q trivial,⟨big (by omega),aMq a4q ⟨m4q (by rw [List.length_map];omega),?_⟩⟩⟩
          rw [bPq]
          refine ⟨a7q a4q trivial,aMq a4q ⟨m4q (by simp only [List.length_append,List.length_map,List.length_cons,List.length_nil];omega),Wk.of ⟨dn++[ofL ((zl.take i).drop s),ofL [c]],i+1,_,_,rfl,?_,Nat.le_refl _,by omega,?_,by simp only [List.length_append,List.length_cons,List.length_nil];omega⟩⟩⟩
          . rw [bPq,es];simp [ofL]
          . rw [<- hd,if_neg (by intro e0;have:=congrArg List.length e0;rw [hcl,List.length_nil] at this;omega),show (zl.take (i+1)).drop (i+1)=[] from List.drop_eq_nil_of_le (by rw [List.length_take];omega)]
            simp
        . have c2':s=i:=by have:=of_decide_eq_false c2;omega
          subst c2'
          refine ⟨a7q a4q trivial,aMq a4q ⟨m4q (by rw [List.length_map];omega),Wk.of ⟨dn++[ofL [c]],s+1,_,_,rfl,?_,Nat.le_refl _,by omega,?_,by simp only [List.length_append,List.length_cons,List.length_nil];omega⟩⟩⟩
          . rw [bPq];simp [ofL]
          . rw [<- hd,if_pos (List.eq_nil_of_length_eq_zero (by rw [hcl];omega)),show (zl.take (s+1)).drop (s+1)=[] from List.drop_eq_nil_of_le (by rw [List.length_take];omega)]
            simp
      . rw [Bool.false_xor,q3q,decide_eq_false_iff_not,hS] at c1
        rw [if_neg c1] at hd
        refine Wk.of ⟨dn,s,_,_,rfl,rfl,by omega,by omega,?_,by omega⟩
        rw [<- hd,et,List.drop_append_of_le_length (by rw [List.length_take];omega)]
  . rintro ρ G' ⟨dn,s,o4,o5,rfl,rfl,hs,hil,hd,hn⟩
    have el:(⟨enS z,λ _=>True⟩:DIt).items.length=zl.length:=by show (enS z).length=_;unfold enS;rw [List.length_map,List.length_zipIdx,hzz]
    rw [el] at hs hil hd hn
    have hcl:((zl.take zl.length).drop s).length=zl.length - s:=by rw [List.length_drop,List.length_take];omega
    rw [List.drop_length,pcs] at hd
    refine ⟨big (by omega),⟨λ c2=>?_,λ c2=>?_⟩⟩
    . have c2':s < zl.length:=by have:=of_decide_eq_true c2;omega
      have es:Txt.slice z (some (s:Int)) none=ofL ((zl.take zl.length).drop s):=by
        rw [PyProof.Rows.slice_from_eq (x:=z) (i:=s) (by omega) (by omega) rfl,hzz]
        refine c6q ?_
        rw [aWq,List.take_length]
        show (zl.drop s).take _=_
        rw [List.take_of_length_le]
        rw [List.length_drop];omega
      refine ⟨a7q a4q trivial,⟨big (by omega),aMq a4q ⟨m4q (by rw [List.length_map];omega),?_⟩⟩⟩
      rw [bPq,es]
      rw [if_neg (by intro e0;have:=congrArg List.length e0;rw [hcl,List.length_nil] at this;omega)] at hd
      have:=q a ha
      rw [<- hd,List.map_append] at this
      exact Dr.of this
    . have c2':s=zl.length:=by have:=of_decide_eq_false c2;omega
      rw [if_pos (List.eq_nil_of_length_eq_zero (by rw [hcl];omega)),List.append_nil] at hd
      have:=q a ha
      rw [<- hd] at this
      exact Dr.of this
abbrev jXq:Stmt:=top 28
theorem sc_read:FnScope ["text", "frames", "piece", "closed"] ["text"] (aDq jXq):=⟨rfl,rfl,rfl,by decide +kernel,rfl,by decide +kernel,by decide +kernel⟩
theorem vHq (B:Blt mg) {ts:Tok} (m_SIGNS_kindtexts:mg "SIGNS_kindtexts" = some (.str sgnS ts)) (g_pieces:Got P w K mg base 1 "pieces_of" ["text", "signs"] (aUq K lDq)) (g_kcl:Got P w K mg base 2 "kind_closed" ["frame", "sign"] (aUq K w5q)) (g_rpiece:Got P w K mg base 3 "read_piece" ["piece"] (aUq K kHq)) (g_iskind:Got P w K mg base 3 "is_kind" ["thing"] (aUq K i4q)) (F:Fun K "read_kind" "read_kind" jXq f fd):FnOk P w K mg base CX0 4 f fd ["text"] (aUq K jUq):=by
  refine okD (k:=3) F sc_read (λ ds G DQ h=>?_) (λ cdv A outer s H E hr ds G DQ h=>?_)
  . obtain ⟨_,_,rfl,_⟩:=h;rfl
  obtain ⟨d,x,rfl,hx,hk,hb,q⟩:=h
  refine ⟨_,(a5q (aJq (k:=1) sc_read.nd rfl (Or.inl rfl) (b7q (a0q (b7q a2q) a2q)))
      (a5q (fSq PassesOwn.never rfl (e1q (a9q g_pieces hr (by omega) rfl (a0q (a1q 0) (a0q (cTq (d:=.str _) (v:=.str _) rfl m_SIGNS_kindtexts ⟨_,rfl⟩ (λ _=>rfl)) a2q)))) (bLq (k:=2) sc_read.nd rfl (Or.inl rfl)) (a6q (aNq (AW.at (dBq (aBq (aKq (aQq hr)) (a1q 2) a8q (aAq _)) (cMq (aBq (aKq (aQq hr)) (a1q 2) a8q (aAq _))))) (a6q (aZq (bKq PySem.F.plainAttrs_list PySem.F.slot_list_append PySem.F.type_list_append aOq (a1q 1) (a0q (b7q (a0q (a1q 2) a2q)) a2q)))) (a6q (aNq (AW.at (dBq (aBq (aKq (aQq hr)) (a1q 2) a8q (aAq _)) (cMq (aBq (aKq (aQq hr)) (a1q 2) a8q (aAq _))))) (a5q (aJq (k:=3) sc_read.nd rfl (Or.inl rfl) (h3q PySem.F.plainAttrs_list PySem.F.slot_list_pop PySem.F.type_list_pop eHq (a1q 1)))
      (a5q (aNq (aBq (aKq (aQq hr)) (aCq aIq rfl B.len PySem.boot_len (a0q (a1q 1) a2q)) a3q (aAq _)) (a6q bUq) aFq)
      (a6q (aZq (bKq PySem.F.plainAttrs_list PySem.F.slot_list_append PySem.F.type_list_append aOq (aGq aix (a1q 1) (i2q cWq a3q) (λ _ _=>rfl)) (a0q (a9q g_kcl hr (by omega) rfl (a0q (a1q 3) (a0q (a1q 2) a2q))) a2q)))))) (a6q (aZq (bKq PySem.F.plainAttrs_list PySem.F.slot_list_append PySem.F.type_list_append aOq (aGq aix (a1q 1) (i2q cWq a3q) (λ _ _=>rfl)) (a0q (a9q g_rpiece hr (by omega) rfl (a0q (a1q 2) a2q)) a2q)))))))))
      (a5q (aNq (AW.at (dBq (aBq (dYq (aQq hr)) (aCq aIq rfl B.len PySem.boot_len (a0q (a1q 1) a2q)) a3q (aAq _)) (dBq (aBq (dYq (aQq hr)) (aCq aIq rfl B.len PySem.boot_len (a0q (aGq aix (a1q 1) a3q (λ _ _=>rfl)) a2q)) a3q (aAq _)) (cMq (d7q (b2q (a9q g_iskind hr (by omega) rfl (a0q (aGq aix (aGq aix (a1q 1) a3q (λ _ _=>rfl)) a3q (λ _ _=>rfl)) a2q)))))))) (a6q bUq) aFq)
      (a6q (aEq (aGq aix (aGq aix (a1q 1) a3q (λ _ _=>rfl)) a3q (λ _ _=>rfl))))))),?_⟩
  have hxl:=hx.len
  have hcl:=g3q hx.few
  have hsz:=hb.sz
  intro p0 hp0 p1 hp1
  obtain ⟨-,hp10,hne⟩:=eNq (o:=.lst []) hp1
  refine ⟨txt x,rfl,?_,λ l hl=>?_⟩
  . show (cat x).length<=_
    omega
  rw [show (txt x).cps.toList=cat x from rfl,hx.pieces]
  have h2:up G p0 (.lst []) l=none/\l≠p1:=by
    have n:l≠p1:=by rintro rfl;rw [a4q] at hl;cases hl
    rw [aRq n] at hl;exact ⟨hl,n⟩
  have h3:G l=none/\l≠p0:=by
    have n:l≠p0:=by rintro rfl;have:=h2.1;rw [a4q] at this;cases this
    have:=h2.1;rw [aRq n] at this;exact ⟨this,n⟩
  refine hNq a4q ⟨λ i ρ G'=>∃ (fs:List (Addr × List D)) (o2 o3:Option D),ρ=[some (.str (txt x)),some (.ref p1),o2,o3]/\Frs G' p1 fs/\Sub (up G l (.lst (x.map D.str))) G'/\(∀ p∈fs,up G l (.lst (x.map D.str)) p.1=none)/\Rn (fs.map (·.2)) (x.drop i) [[d]]/\fs.length<=i+1/\∀ p∈fs,p.2.length<=i+1,⟨[(p0,[])],_,_,rfl,?_,?_,?_,?_,Nat.le_refl _,by simp⟩,?_,?_,?_⟩
  . refine ⟨by rw [aRq h2.2.symm,a4q];rfl,λ p hp=>?_,by simp,λ p hp=>?_⟩
    . simp at hp;subst hp
      rw [aRq h3.2.symm,aRq hne.symm];exact a4q
    . simp at hp;subst hp;exact hne.symm
  . exact Sub.put (Sub.new (Sub.new (Sub.refl _) hp0) hp10)
  . intro p hp
    simp at hp;subst hp
    rw [aRq h3.2.symm];exact hp0
  . exact hx.rn [] []
  . rintro i ρ G' _ ⟨fs,o2,o3,rfl,hF,hS,_⟩
    exact hS l _ a4q
  . rintro i e ρ G' he ⟨fs,o2,o3,rfl,hF,hS,hfs,hR,hl1,hl2⟩
    have he':(x.map D.str)[i]?=some e:=he
    rw [List.getElem?_map] at he'
    cases hc:x[i]? with
    | none=>rw [hc] at he';cases he'
    | some p=>
      rw [hc] at he';cases he'
      have hlt:=(List.getElem?_eq_some_iff.mp hc).1
      rw [List.drop_eq_getElem_cons hlt,(List.getElem?_eq_some_iff.mp hc).2] at hR
      have hp1x:up G l (.lst (x.map D.str)) p1=none:=by rw [aRq h2.2.symm];exact hp10
      cases hR with
      | cons hst hR=>
        generalize hs0:fs.map (·.2)=st at hst
        cases hst with
        | opn _ hp=>
          rcases hp with rfl | rfl
          . refine ⟨λ _=>⟨λ _=>?_,nofun⟩,λ c=>absurd c (by decide)⟩
            refine ⟨a7q hF.top trivial,λ r hr=>?_⟩
            have n1:r≠p1:=by rintro rfl;rw [hF.top] at hr;cases hr
            have hr0:=hS.none hr
            refine aMq (by rw [aRq n1.symm];exact hF.top) ⟨aVq (by simp only [List.length_map,List.length_reverse];omega),Wk.of ⟨(r,[.str "["])::fs,_,_,rfl,hF.push hr,Sub.new (Sub.new hS hr0) hp1x,λ p hp=>?_,?_,by simp only [List.length_cons];omega,λ p hp=>?_⟩⟩
            . rcases List.mem_cons.mp hp with rfl | hp
              . exact hr0
              . exact hfs p hp
            . rw [List.map_cons,hs0];exact hR
            . rcases List.mem_cons.mp hp with rfl | hp
              . simp
              . have:=hl2 p hp;omega
          . refine ⟨λ c=>absurd c (by decide),λ _=>⟨λ _=>?_,λ c=>absurd c (by decide)⟩⟩
            refine ⟨a7q hF.top trivial,λ r hr=>?_⟩
            have n1:r≠p1:=by rintro rfl;rw [hF.top] at hr;cases hr
            have hr0:=hS.none hr
            refine aMq (by rw [aRq n1.symm];exact hF.top) ⟨aVq (by simp only [List.length_map,List.length_reverse];omega),Wk.of ⟨(r,[.str "("])::fs,_,_,rfl,hF.push hr,Sub.new (Sub.new hS hr0) hp1x,λ p hp=>?_,?_,by simp only [List.length_cons];omega,λ p hp=>?_⟩⟩
            . rcases List.mem_cons.mp hp with rfl | hp
              . exact hr0
              . exact hfs p hp
            . rw [List.map_cons,hs0];exact hR
            . rcases List.mem_cons.mp hp with rfl | hp
              . simp
              . have:=hl2 p hp;omega
        | @cls c p k t st hclo=>
          obtain ⟨⟨a1,c⟩,⟨a2,t⟩,gs,rfl⟩:∃ u v gs,fs=u::v::gs:=by
            cases fs with
            | nil=>cases hs0
            | cons u r=>
              cases r with
              | nil=>simp at hs0
              | cons v gs=>exact ⟨u,v,gs,rfl⟩
          simp only [List.map_cons,List.cons.injEq] at hs0
          obtain ⟨rfl,rfl,rfl⟩:=hs0
          have hp:p = "]"\/p = ")":=by
            cases hclo
            . exact .inl rfl
            . exact .inr rfl
          have F1:=hF.pop
          rcases hp with rfl | rfl
          . refine ⟨λ c=>absurd c (by decide),λ _=>⟨λ c=>absurd c (by decide),λ _=>⟨λ _=>⟨λ _=>?_,nofun⟩,λ c=>absurd c (by decide)⟩⟩⟩
            refine ⟨a7q hF.top trivial,aMq hF.top ⟨(((a2,t)::gs).map (·.1)).reverse.map D.ref,.ref a1,by simp,?_⟩⟩
            refine a7q F1.top ⟨λ c=>?_,λ _=>aPq F1.top (d:=.ref a2) (s8q (j:=gs.length) (by decide) (by simp only [List.length_map,List.length_reverse,List.length_cons];omega) (by simp)) ⟨a7q (F1.at_ _ (List.mem_cons_self ..)) trivial,⟨a1,_,c,k,rfl,by rw [aRq (hF.ne _ (List.mem_cons_self ..))];exact hF.at_ _ (List.mem_cons_self ..),hclo,aMq (F1.at_ _ (List.mem_cons_self ..)) ⟨aVq (by have:=hl2 (a2,t) (by simp);show t.length<=_;simp only at this;omega),Wk.of ⟨(a2,t++[k])::gs,_,_,rfl,F1.set,Sub.new (Sub.new hS hp1x) (hfs (a2,t) (by simp)),λ p hp=>?_,hR,by simp only [List.length_cons] at *;omega,λ p hp=>?_⟩⟩⟩⟩⟩
            . have c':=eq_of_beq (show (_==_)=true from c)
              simp at c'
              omega
            . rcases List.mem_cons.mp hp with rfl | hp
              . exact hfs (a2,t) (by simp)
              . exact hfs p (by simp [hp])
            . rcases List.mem_cons.mp hp with rfl | hp
              . have:=hl2 (a2,t) (by simp);simp only [List.length_append,List.length_cons,List.length_nil] at *;omega
              . have:=hl2 p (by simp [hp]);omega
          . refine ⟨λ c=>absurd c (by decide),λ _=>⟨λ c=>absurd c (by decide),λ _=>⟨λ c=>absurd c (by decide),λ _=>⟨λ _=>?_,λ c=>absurd c (by decide)⟩⟩⟩⟩
            refine ⟨a7q hF.top trivial,aMq hF.top ⟨(((a2,t)::gs).map (·.1)).reverse.map D.ref,.ref a1,by simp,?_⟩⟩
            refine a7q F1.top ⟨λ c=>?_,λ _=>aPq F1.top (d:=.ref a2) (s8q (j:=gs.length) (by decide) (by simp only [List.length_map,List.length_reverse,List.length_cons];omega) (by simp)) ⟨a7q (F1.at_ _ (List.mem_cons_self ..)) trivial,⟨a1,_,c,k,rfl,by rw [aRq (hF.ne _ (List.mem_cons_self ..))];exact hF.at_ _ (List.mem_cons_self ..),hclo,aMq (F1.at_ _ (List.mem_cons_self ..)) ⟨aVq (by have:=hl2 (a2,t) (by simp);show t.length<=_;simp only at this;omega),Wk.of ⟨(a2,t++[k])::gs,_,_,rfl,F1.set,Sub.new (Sub.new hS hp1x) (hfs (a2,t) (by simp)),λ p hp=>?_,hR,by simp only [List.length_cons] at *;omega,λ p hp=>?_⟩⟩⟩⟩⟩
            . have c':=eq_of_beq (show (_==_)=true from c)
              simp at c'
              omega
            . rcases List.mem_cons.mp hp with rfl | hp
              . exact hfs (a2,t) (by simp)
              . exact hfs p (by simp [hp])
            . rcases List.mem_cons.mp hp with rfl | hp
              . have:=hl2 (a2,t) (by simp);simp only [List.length_append,List.length_cons,List.length_nil] at *;omega
              . have:=hl2 p (by simp [hp]);omega
        | @rd t st p q hrp=>
          obtain ⟨c1,c2,c3,c4⟩:=hrp.no
          obtain ⟨⟨a,t⟩,gs,rfl⟩:∃ u gs,fs=u::gs:=by
            cases fs with
            | nil=>cases hs0
            | cons u r=>exact ⟨u,r,rfl⟩
          simp only [List.map_cons,List.cons.injEq] at hs0
          obtain ⟨rfl,rfl⟩:=hs0
          refine ⟨λ c=>g8q (c1.symm.trans c),λ _=>⟨λ c=>g8q (c2.symm.trans c),λ _=>⟨λ c=>g8q (c3.symm.trans c),λ _=>⟨λ c=>g8q (c4.symm.trans c),λ _=>?_⟩⟩⟩⟩
          refine aPq hF.top (d:=.ref a) (s8q (j:=gs.length) (by decide) (by simp only [List.length_map,List.length_reverse,List.length_cons];omega) (by simp)) ⟨a7q (hF.at_ _ (List.mem_cons_self ..)) trivial,⟨p,q,rfl,hrp,aMq (hF.at_ _ (List.mem_cons_self ..)) ⟨aVq (by have:=hl2 (a,t) (by simp);show t.length<=_;simp only at this;omega),Wk.of ⟨(a,t++[q])::gs,_,_,rfl,hF.set,Sub.new hS (hfs (a,t) (by simp)),λ p hp=>?_,hR,by simp only [List.length_cons] at *;omega,λ p hp=>?_⟩⟩⟩⟩
          . rcases List.mem_cons.mp hp with rfl | hp
            . exact hfs (a,t) (by simp)
            . exact hfs p (by simp [hp])
          . rcases List.mem_cons.mp hp with rfl | hp
            . have:=hl2 (a,t) (by simp);simp only [List.length_append,List.length_cons,List.length_nil] at *;omega
            . have:=hl2 p (by simp [hp]);omega
  . rintro ρ G' ⟨fs,o2,o3,rfl,hF,hS,hfs,hR,hl1,hl2⟩
    have el:(⟨x.map D.str,λ G=>G l=some (.lst (x.map D.str))⟩:DIt).items.length=x.length:=by show (x.map D.str).length=_;rw [List.length_map]
    rw [el,List.drop_length] at hR
    generalize hs0:fs.map (·.2)=st at hR
    cases hR
    obtain ⟨⟨a,t'⟩,rfl⟩:∃ u,fs=[u]:=by
      cases fs with
      | nil=>cases hs0
      | cons u r=>
        cases r with
        | nil=>exact ⟨u,rfl⟩
        | cons v gs=>simp at hs0
    simp only [List.map_cons,List.cons.injEq,List.map_nil,and_true] at hs0
    subst hs0
    have e1:=hF.at_ _ (List.mem_cons_self ..)
    refine a7q hF.top ⟨λ c=>g8q c,λ _=>aPq hF.top (d:=.ref a) rfl (a7q e1 ⟨λ c=>g8q c,λ _=>aPq hF.top (d:=.ref a) rfl (aPq e1 (d:=d) rfl ⟨d,rfl,hk.isK.th,hb.mono (by decide) (by decide) (by decide),λ b hbb=>?_⟩)⟩)⟩
    have eb:b=true:=hbb.mpr hk
    subst eb
    refine ⟨nofun,λ _=>aPq hF.top (d:=.ref a) rfl (aPq e1 (d:=d) rfl ⟨G,Sub.trans (Sub.new (Sub.refl _) h3.1) hS,q⟩)⟩
abbrev lYq:Stmt:=top 16
theorem sc_out:FnScope ["thing", "spelled", "pieces", "pending", "one"] ["thing", "spelled"] (aDq lYq):=⟨rfl,rfl,rfl,by decide +kernel,rfl,by decide +kernel,by decide +kernel⟩
theorem aC0q (B:Blt mg) {fk:Addr} (G_spelled:FnV P w K mg base 1 fk (aUq K tLq)) (F:Fun K "spelled_out" "spelled_out" lYq f fd):FnOk P w K mg base CX0 2 f fd ["thing", "spelled"] (aUq K (uFq fk)):=by
  refine okD (k:=1) F sc_out (λ ds G DQ h=>?_) (λ cdv A outer s H E hr ds G DQ h=>?_)
  . obtain ⟨_,_,rfl,_⟩:=h;rfl
  obtain ⟨d,x,rfl,hx,hs,q⟩:=h
  refine ⟨_,(a5q (aJq (k:=2) sc_out.nd rfl (Or.inl rfl) (b7q a2q))
      (a5q (aJq (k:=3) sc_out.nd rfl (Or.inl rfl) (b7q (a0q (a1q 0) a2q)))
      (a5q (cVq PassesOwn.never (b2q (a1q 3)) (a5q (aJq (k:=4) sc_out.nd rfl (Or.inl rfl) (h3q PySem.F.plainAttrs_list PySem.F.slot_list_pop PySem.F.type_list_pop eHq (a1q 3)))
      (a6q (aNq (b2q (aCq b5q rfl B.isinstance PyProof.Rows.boot_isinstance (a0q (a1q 4) (a0q (bJq rfl B.str PyProof.Rows.boot_str) a2q)))) (a6q (aZq (bKq PySem.F.plainAttrs_list PySem.F.slot_list_append PySem.F.type_list_append aOq (a1q 2) (a0q (a1q 4) a2q)))) (a6q (aZq (bKq PySem.F.plainAttrs_list PySem.F.slot_list_extend PySem.F.type_list_extend dAq (a1q 3) (a0q (d0q rfl B.list rfl B.reversed (zAq 1 G_spelled hr (by omega) (a0q (a1q 4) a2q))) a2q))))))))
      (a6q (aEq (bKq PySem.F.plainAttrs_str PySem.F.slot_str_join PySem.F.type_str_join e9q a8q (a0q (a1q 2) a2q))))))),?_⟩
  intro a ha b hb
  obtain ⟨-,hb0,hne⟩:=eNq (o:=.lst []) hb
  have hxl:=hx.len
  have hcl:=g3q hx.few
  refine ⟨λ μ ρ G'=>∃ (ps:List D) (ys:List Str) (l:List Nat) (o4:Option D),ρ=[some d,some (.ref fk),some (.ref a),some (.ref b),o4]/\up (up G a (.lst (ys.map D.str))) b (.lst ps.reverse)=G'/\Its ps l μ/\cat ys++l=cat x/\ys.length+μ<=3 * x.length,⟨_,[d],[],_,_,rfl,rfl,.kd hx hs .nil,by simp [cat],by simp⟩,?_⟩
  rintro μ ρ G' ⟨ps,ys,l,o4,rfl,rfl,hi,hc,hm⟩
  have ha1:∀ o,up (up G a (.lst (ys.map D.str))) b o a=some (.lst (ys.map D.str)):=λ o=>by rw [aRq (Ne.symm hne)];exact a4q
  refine a7q a4q ⟨λ c=>?_,λ c=>?_⟩
  . cases hi with
    | nil=>exact absurd c (by decide)
    | @str qs l m z hi=>
      have hql:=pAq hi
      refine ⟨a7q a4q trivial,aMq a4q ⟨qs.reverse,.str z,by simp,?_⟩⟩
      rw [bPq]
      refine ⟨true,rfl,⟨λ _=>⟨a7q (ha1 _) trivial,aMq (ha1 _) ⟨aVq (by rw [List.length_map];omega),?_⟩⟩,nofun⟩⟩
      rw [up3 hne]
      exact Wk.of ⟨m,by omega,qs,ys++[z],l,_,rfl,by rw [List.map_append];rfl,hi,by rw [aHq];simpa [cat] using hc,by simp only [List.length_append,List.length_cons,List.length_nil];omega⟩
    | @kd y x' qs l m hk hy hi=>
      have hql:=pAq hi
      obtain ⟨xs,rfl⟩:=sQq hk
      obtain ⟨rs,h1,h2,h3⟩:=hk.spl hy
      obtain ⟨m',h4,h5⟩:=h3 _ _ _ hi
      refine ⟨a7q a4q trivial,aMq a4q ⟨qs.reverse,.tup xs,by simp,?_⟩⟩
      rw [bPq]
      refine ⟨false,rfl,⟨nofun,λ _=>⟨a7q a4q trivial,rfl,_,rs,rfl,h1,λ r hr=>a7q a4q λ r2 hr2=>?_⟩⟩⟩
      have hr0:=hr
      rw [aRq (by rintro rfl;rw [a4q] at hr;cases hr)] at hr0
      have nb:b≠r:=by rintro rfl;rw [a4q] at hr;cases hr
      have nb2:b≠r2:=by rintro rfl;rw [aRq nb,a4q] at hr2;cases hr2
      have hr20:=Sub.none (Sub.new (Sub.refl _) hr) hr2
      refine aMq (by rw [aRq nb2,aRq nb];exact a4q) (aMq a4q ⟨dJq (by simp only [List.length_reverse];omega),?_⟩)
      refine ⟨_,up (up G a (.lst (ys.map D.str))) b (.lst (rs++qs).reverse),.refl _,?_,m',by omega,rs++qs,ys,_,_,rfl,rfl,h5,hc,by omega⟩
      rw [List.reverse_append,eIq nb2.symm,eIq nb.symm,bPq]
      refine Sub.new (Sub.new (Sub.refl _) ?_) ?_
      . rw [aRq nb.symm];rw [aRq nb.symm] at hr;exact hr
      . rw [aRq nb2.symm];rw [aRq nb2.symm] at hr20;exact hr20
  . have e:ps=[]:=by
      cases ps with
      | nil=>rfl
      | cons _ _=>simp at c
    subst e
    cases hi
    rw [List.append_nil] at hc
    refine ⟨trivial,a7q (ha1 _) ⟨ys,rfl,by decide +kernel,?_,?_⟩⟩
    . rw [i8q,hc];omega
    . rw [hXq,hc]
      exact ⟨G,Sub.new (Sub.new (Sub.refl _) ha) hb0,q⟩
theorem tVq (B:Blt mg) {fk:Addr} (G_spelled:FnV P w K mg base 4 fk (aUq K v9q)) (F:Fun K "spelled_out" "spelled_out" lYq f fd):FnOk P w K mg base CX0 5 f fd ["thing", "spelled"] (aUq K (pGq fk)):=by
  refine okD (k:=4) F sc_out (λ ds G DQ h=>?_) (λ cdv A outer s H E hr ds G DQ h=>?_)
  . obtain ⟨_,_,rfl,_⟩:=h;rfl
  obtain ⟨d,x,rfl,hx,hs,q⟩:=h
  refine ⟨_,(a5q (aJq (k:=2) sc_out.nd rfl (Or.inl rfl) (b7q a2q))
      (a5q (aJq (k:=3) sc_out.nd rfl (Or.inl rfl) (b7q (a0q (a1q 0) a2q)))
      (a5q (cVq PassesOwn.never (b2q (a1q 3)) (a5q (aJq (k:=4) sc_out.nd rfl (Or.inl rfl) (h3q PySem.F.plainAttrs_list PySem.F.slot_list_pop PySem.F.type_list_pop eHq (a1q 3)))
      (a6q (aNq (b2q (aCq b5q rfl B.isinstance PyProof.Rows.boot_isinstance (a0q (a1q 4) (a0q (bJq rfl B.str PyProof.Rows.boot_str) a2q)))) (a6q (aZq (bKq PySem.F.plainAttrs_list PySem.F.slot_list_append PySem.F.type_list_append aOq (a1q 2) (a0q (a1q 4) a2q)))) (a6q (aZq (bKq PySem.F.plainAttrs_list PySem.F.slot_list_extend PySem.F.type_list_extend dAq (a1q 3) (a0q (d0q rfl B.list rfl B.reversed (zAq 1 G_spelled hr (by omega) (a0q (a1q 4) a2q))) a2q))))))))
      (a6q (aEq (bKq PySem.F.plainAttrs_str PySem.F.slot_str_join PySem.F.type_str_join e9q a8q (a0q (a1q 2) a2q))))))),?_⟩
  intro a ha b hb
  obtain ⟨-,hb0,hne⟩:=eNq (o:=.lst []) hb
  have hxl:=sWq hx
  refine ⟨λ μ ρ G'=>∃ (ps:List D) (ys:List Str) (l:List Nat) (o4:Option D),ρ=[some d,some (.ref fk),some (.ref a),some (.ref b),o4]/\up (up G a (.lst (ys.map D.str))) b (.lst ps.reverse)=G'/\ItsP ps l μ/\cat ys++l=cat x/\ys.length+μ<=3 * x.length,⟨_,[d],[],_,_,rfl,rfl,.kd hx .nil,by simp [cat],by simp⟩,?_⟩
  rintro μ ρ G' ⟨ps,ys,l,o4,rfl,rfl,hi,hc,hm⟩
  have ha1:∀ o,up (up G a (.lst (ys.map D.str))) b o a=some (.lst (ys.map D.str)):=λ o=>by rw [aRq (Ne.symm hne)];exact a4q
  refine a7q a4q ⟨λ c=>?_,λ c=>?_⟩
  . cases hi with
    | nil=>exact absurd c (by decide)
    | @str qs l m z hi=>
      have hql:=m7q hi
      refine ⟨a7q a4q trivial,aMq a4q ⟨qs.reverse,.str z,by simp,?_⟩⟩
      rw [bPq]
      refine ⟨true,rfl,⟨λ _=>⟨a7q (ha1 _) trivial,aMq (ha1 _) ⟨aVq (by rw [List.length_map];omega),?_⟩⟩,nofun⟩⟩
      rw [up3 hne]
      exact Wk.of ⟨m,by omega,qs,ys++[z],l,_,rfl,by rw [List.map_append];rfl,hi,by rw [aHq];simpa [cat] using hc,by simp only [List.length_append,List.length_cons,List.length_nil];omega⟩
    | @kd y x' qs l m hk hi=>
      have hql:=m7q hi
      obtain ⟨xs,rfl⟩:=nGq hk
      obtain ⟨rs,h1,h2,h3⟩:=zBq hk
      obtain ⟨m',h4,h5⟩:=h3 _ _ _ hi
      refine ⟨a7q a4q trivial,aMq a4q ⟨qs.reverse,.tup xs,by simp,?_⟩⟩
      rw [bPq]
      refine ⟨false,rfl,⟨nofun,λ _=>⟨a7q a4q trivial,rfl,_,rs,rfl,h1,λ r hr=>a7q a4q λ r2 hr2=>?_⟩⟩⟩
      have hr0:=hr
      rw [aRq (by rintro rfl;rw [a4q] at hr;cases hr)] at hr0
      have nb:b≠r:=by rintro rfl;rw [a4q] at hr;cases hr
      have nb2:b≠r2:=by rintro rfl;rw [aRq nb,a4q] at hr2;cases hr2
      have hr20:=Sub.none (Sub.new (Sub.refl _) hr) hr2
      refine aMq (by rw [aRq nb2,aRq nb];exact a4q) (aMq a4q ⟨dJq (by simp only [List.length_reverse];omega),?_⟩)
      refine ⟨_,up (up G a (.lst (ys.map D.str))) b (.lst (rs++qs).reverse),.refl _,?_,m',by omega,rs++qs,ys,_,_,rfl,rfl,h5,hc,by omega⟩
      rw [List.reverse_append,eIq nb2.symm,eIq nb.symm,bPq]
      refine Sub.new (Sub.new (Sub.refl _) ?_) ?_
      . rw [aRq nb.symm];rw [aRq nb.symm] at hr;exact hr
      . rw [aRq nb2.symm];rw [aRq nb2.symm] at hr20;exact hr20
  . have e:ps=[]:=by
      cases ps with
      | nil=>rfl
      | cons _ _=>simp at c
    subst e
    cases hi
    rw [List.append_nil] at hc
    refine ⟨trivial,a7q (ha1 _) ⟨ys,rfl,by decide +kernel,?_,?_⟩⟩
    . rw [i8q,hc];omega
    . rw [hXq,hc]
      exact ⟨G,Sub.new (Sub.new (Sub.refl _) ha) hb0,q⟩
abbrev iFq:Stmt:=top 51
theorem qHq:FnScope ["_law_kind_here"] ["_law_kind_here"] (aDq iFq):=⟨rfl,rfl,rfl,by decide +kernel,rfl,by decide +kernel,by decide +kernel⟩
theorem rHq:FnOk P w K mg base CX0 1 f fd ["_law_kind_here"] (aUq K (f5q 0)):=wCq λ ds G DQ h=>by obtain ⟨_,_,_,_,h,_⟩:=h;omega
theorem qLq {n:Nat} (B:Blt mg) (g_ktext:Got P w K mg base (n+1) "_law_kind_text" ["_law_kind_here"] (aUq K (f5q n))) (F:Fun K "_law_kind_text" "_law_kind_text" iFq f fd):FnOk P w K mg base CX0 (n+2) f fd ["_law_kind_here"] (aUq K (f5q (n+1))):=by
  refine okD (k:=n+1) F qHq (λ ds G DQ h=>?_) (λ cdv A outer s H E hr ds G DQ h=>?_)
  . obtain ⟨_,_,rfl,_⟩:=h;rfl
  obtain ⟨d,x,rfl,hx,hd,hs,q⟩:=h
  refine ⟨_,(a5q (aNq (aBq (aKq (aQq hr)) (aGq aix (a1q 0) a3q (λ _ _=>rfl)) a8q (aAq _)) (a6q (aEq (bMq j5q rfl B.str PyProof.Rows.boot_str (a0q (aGq aix (a1q 0) a3q (λ _ _=>rfl)) a2q)))) aFq)
      (a5q (aNq (aBq (aKq (aQq hr)) (aGq aix (a1q 0) a3q (λ _ _=>rfl)) a8q (aAq _)) (a6q (aEq a8q)) aFq)
      (a5q (aNq (aBq (aKq (aQq hr)) (aGq aix (a1q 0) a3q (λ _ _=>rfl)) a8q (aAq _)) (a6q (aEq (aSq aTq (aSq aTq a8q (a9q g_ktext hr (by omega) rfl (a0q (aGq aix (a1q 0) a3q (λ _ _=>rfl)) a2q))) a8q))) aFq)
      (a5q (aNq (aBq (aKq (aQq hr)) (aGq aix (a1q 0) a3q (λ _ _=>rfl)) a8q (aAq _)) (a6q (aEq (aSq aTq (aSq aTq a8q (a9q g_ktext hr (by omega) rfl (a0q (aGq aix (a1q 0) a3q (λ _ _=>rfl)) a2q))) a8q))) aFq)
      (a5q (aNq (aBq (aKq (aQq hr)) (aGq aix (a1q 0) a3q (λ _ _=>rfl)) a8q (aAq _)) (a6q (aEq (aSq aTq (aSq aTq (aSq aTq (aSq aTq a8q (a9q g_ktext hr (by omega) rfl (a0q (aGq aix (a1q 0) a3q (λ _ _=>rfl)) a2q))) a8q) (a9q g_ktext hr (by omega) rfl (a0q (aGq aix (a1q 0) a3q (λ _ _=>rfl)) a2q))) a8q))) aFq)
      (a6q (aEq (aSq aTq (aSq aTq (aSq aTq (aSq aTq a8q (bKq PySem.F.plainAttrs_str PySem.F.slot_str_join PySem.F.type_str_join e9q a8q (a0q (fUq rfl (CompOk.of (N':=["_law_one"]) (nt:=1) (cap:=[]) rfl (by kernel_rfl)) (bNq (k:=0) (by decide)) (e1q (aGq aix (a1q 0) a3q (λ _ _=>rfl))) (λ _ _ _ _=>(bLq (k:=0) (show List.Nodup (["_law_one"]:List Str) by decide +kernel) rfl (Or.inl rfl))) (λ _ _ _ _=>(a9q g_ktext hr (by omega) rfl (a0q (a1q 0) a2q)))) a2q))) a8q) (a9q g_ktext hr (by omega) rfl (a0q (aGq aix (a1q 0) a3q (λ _ _=>rfl)) a2q))) a8q)))))))),?_⟩
  have hxt:=hx.txt_len hs
  cases hx with
  | is m hm=>rw [hGq] at q;exact ⟨λ _=>⟨j4q hm,Dr.of q⟩,λ c=>absurd c (by decide)⟩
  | some=>rw [hGq] at q;exact ⟨λ c=>absurd c (by decide),λ _=>⟨λ _=>Dr.of q,λ c=>absurd c (by decide)⟩⟩
  | @left a x h0=>
    have l0:=h0.txt_len (by simp only [tsz,bGq] at hs;omega)
    have l1:=f1q (z:=("(" : Str)) (by decide) l0
    refine ⟨λ c=>absurd c (by decide),λ _=>⟨λ c=>absurd c (by decide),λ _=>⟨λ _=>⟨a,x,rfl,h0,(by simp only [D.dp,bOq] at hd;omega),(by simp only [tsz,bGq] at hs;omega),⟨wDq (by decide) l0,qSq (by decide) l1,Dr.of ?_⟩⟩,λ c=>absurd c (by decide)⟩⟩⟩
    rw [show (("(" : Str)++txt x++(",)" : Str))=txt ("("::(x++[(",":Str),(")":Str)])) from c6q (by simp [bSq,aWq,cat,aHq,s_cp])]
    exact q
  | @right a x h0=>
    have l0:=h0.txt_len (by simp only [tsz,bGq] at hs;omega)
    have l2:=f1q (z:=("(," : Str)) (by decide) l0
    refine ⟨λ c=>absurd c (by decide),λ _=>⟨λ c=>absurd c (by decide),λ _=>⟨λ c=>absurd c (by decide),λ _=>⟨λ _=>⟨a,x,rfl,h0,(by simp only [D.dp,bOq] at hd;omega),(by simp only [tsz,bGq] at hs;omega),⟨wDq (by decide) l0,qSq (by decide) l2,Dr.of ?_⟩⟩,λ c=>absurd c (by decide)⟩⟩⟩⟩
    rw [show (("(," : Str)++txt x++(")" : Str))=txt ("("::","::(x++[(")":Str)])) from c6q (by simp [bSq,aWq,cat,aHq,s_pc])]
    exact q
  | @both a b x y h1 h2=>
    have l0:=h1.txt_len (by simp only [tsz,bGq] at hs;omega)
    have l0':=h2.txt_len (by simp only [tsz,bGq] at hs;omega)
    have l1:=f1q (z:=("(" : Str)) (by decide) l0
    have l2:(("(" : Str)++txt x++("," : Str)).length<=240004:=by rw [bRq,l_cm];omega
    refine ⟨λ c=>absurd c (by decide),λ _=>⟨λ c=>absurd c (by decide),λ _=>⟨λ c=>absurd c (by decide),λ _=>⟨λ c=>absurd c (by decide),λ _=>⟨λ _=>⟨a,x,rfl,h1,(by simp only [D.dp,bOq] at hd;omega),(by simp only [tsz,bGq] at hs;omega),⟨wDq (by decide) l0,qSq (by decide) l1,b,y,rfl,h2,(by simp only [D.dp,bOq] at hd;omega),(by simp only [tsz,bGq] at hs;omega),big (by omega),big ?_,Dr.of ?_⟩⟩,λ c=>absurd c (by decide)⟩⟩⟩⟩⟩
    . rw [bRq,l_rp];omega
    . rw [show (("(" : Str)++txt x++("," : Str)++txt y++(")" : Str))=txt ("("::(x++("," : Str)::(y++[(")":Str)]))) from c6q (by simp [bSq,aWq,cat,aHq])]
      exact q
  | @way ps k y h1 h2 h40=>
    have l0:=h2.txt_len (by simp only [tsz,bGq] at hs;omega)
    have hsum:=dKq (ps.map (·.2))
    have hil:(cat (b3q (" " : Str) (ps.map (·.2)))).length<=240000:=by
      have:(cat ("["::(b3q (" " : Str) (ps.map (·.2))++(":" : Str)::(y++[("]":Str)])))).length<=240000:=hxt
      simp only [cat,aHq,List.length_append] at this
      omega
    refine ⟨λ c=>absurd c (by decide),λ _=>⟨λ c=>absurd c (by decide),λ _=>⟨λ c=>absurd c (by decide),λ _=>⟨λ c=>absurd c (by decide),λ _=>⟨λ c=>absurd c (by decide),λ _=>⟨trivial,cQq ps (·.1) (λ p=>.str (txt p.2)) rfl (aVq (by omega)) trivial (λ p hp R hR=>⟨p.1,p.2,rfl,h1 p hp,?_,?_,hR⟩) (λ l hl=>a7q a4q ⟨(ps.map (·.2)).map txt,by simp,by decide,?_,?_⟩)⟩⟩⟩⟩⟩⟩
    . have:=dMq (List.mem_map_of_mem (f:=(·.1)) hp)
      simp only [D.dp,bOq] at hd;omega
    . have:=dVq (List.mem_map_of_mem (f:=(·.1)) hp)
      simp only [tsz,bGq] at hs;omega
    . rw [List.length_map,List.length_map,List.map_map]
      show ((ps.map (·.2)).map λ x=>(cat x).length).sum+_<=_
      omega
    . rw [pTq]
      have l1:(txt (b3q (" " : Str) (ps.map (·.2)))).length<=240000:=hil
      have l2:=f1q (z:=("[" : Str)) (by decide) l1
      have l3:(("[" : Str)++txt (b3q (" " : Str) (ps.map (·.2)))++(":" : Str)).length<=240004:=by rw [bRq,l_cl];omega
      refine ⟨wDq (by decide) l1,qSq (by decide) l2,k,y,rfl,h2,(by simp only [D.dp,bOq] at hd;omega),(by simp only [tsz,bGq] at hs;omega),big (by omega),big ?_,⟨G,Sub.new (Sub.refl _) hl,?_⟩⟩
      . rw [bRq,l_rb];omega
      . rw [show (("[" : Str)++txt (b3q (" " : Str) (ps.map (·.2)))++(":" : Str)++txt y++("]" : Str))=txt ("["::(b3q (" " : Str) (ps.map (·.2))++(":" : Str)::(y++[("]":Str)]))) from c6q (by simp [bSq,aWq,cat,aHq])]
        exact q
abbrev k0q:Stmt:=top 21
theorem sc_iswt:FnScope ["text", "most", "figures"] ["text", "most"] (aDq k0q):=⟨rfl,rfl,rfl,by decide +kernel,rfl,by decide +kernel,by decide +kernel⟩
theorem v7q (B:Blt mg) {tF:Tok} (m_FIGURES:mg "FIGURES" = some (.str figs tF)) (g_madeof:Got P w K mg base 1 "made_of" ["text", "signs"] (aUq K hZq)) (F:Fun K "is_whole_text" "is_whole_text" k0q f fd):FnOk P w K mg base CX0 2 f fd ["text", "most"] (aUq K hRq):=by
  refine okD (k:=1) F sc_iswt (λ ds G DQ h=>?_) (λ cdv A outer s H E hr ds G DQ h=>?_)
  . obtain ⟨_,rfl,_⟩:=h;rfl
  obtain ⟨z,rfl,hz,q⟩:=h
  refine ⟨_,(a5q (aJq (k:=2) sc_iswt.nd rfl (Or.inl rfl) (qWq (b2q (bKq PySem.F.plainAttrs_str PySem.F.slot_str_startswith PySem.F.type_str_startswith dDq (a1q 0) (a0q a8q a2q))) (bQq aslS (a1q 0) (b8q a3q) cPq) (a1q 0)))
      (a5q (aNq (d7q (AW.at (d3q (qQq s2q s2q a3q (aCq aIq rfl B.len PySem.boot_len (a0q (a1q 2) a2q)) (a1q 1)) (c8q (b2q (a9q g_madeof hr (by omega) rfl (a0q (a1q 2) (a0q (cTq (d:=.str _) (v:=.str _) rfl m_FIGURES ⟨_,rfl⟩ (λ _=>rfl)) a2q)))))))) (a6q (aEq k7q)) aFq)
      (a6q (aEq (aG4q (oPq (bKq PySem.F.plainAttrs_str PySem.F.slot_str_startswith PySem.F.type_str_startswith dDq (a1q 2) (a0q a8q a2q))) (dEq (cDq (aKq (aQq hr)) (a1q 0) a8q (aAq _)))))))),?_⟩
  have hbl:=tOq z
  unfold wAq at q
  refine ⟨trivial,⟨λ hs=>⟨dJq (by omega),?_⟩,λ hs=>?_⟩⟩
  . rw [show Txt.slice z (some 1) none=bare z from (if_pos hs).symm]
    generalize bare z=y at q hbl ⊢
    refine ⟨dJq (by omega),⟨λ c1=>⟨λ c2=>⟨y,figs,rfl,by omega,⟨λ c3=>Dr.of ?_,λ c3=>⟨trivial,⟨λ c4=>Dr.of ?_,λ c4=>Dr.of ?_⟩⟩⟩⟩,λ c2=>⟨λ _=>Dr.of ?_,λ c=>s1q c⟩⟩,λ c1=>⟨λ c=>g8q c,λ _=>⟨λ _=>Dr.of ?_,λ c=>s1q c⟩⟩⟩⟩
    . rw [c1,c2,show gBq y figs=false by simpa using c3] at q;exact q
    . rw [c1,c2,show gBq y figs=true by simpa using c3,c4] at q;exact q
    . rw [c1,c2,show gBq y figs=true by simpa using c3,c4] at q;exact q
    . rw [c1,c2] at q;exact q
    . rw [c1] at q;exact q
  . rw [show bare z=z from if_neg (by rw [hs];decide)] at q
    refine ⟨dJq (by omega),⟨λ c1=>⟨λ c2=>⟨z,figs,rfl,by omega,⟨λ c3=>Dr.of ?_,λ c3=>⟨trivial,⟨λ c4=>Dr.of ?_,λ c4=>Dr.of ?_⟩⟩⟩⟩,λ c2=>⟨λ _=>Dr.of ?_,λ c=>s1q c⟩⟩,λ c1=>⟨λ c=>g8q c,λ _=>⟨λ _=>Dr.of ?_,λ c=>s1q c⟩⟩⟩⟩
    . rw [c1,c2,show gBq z figs=false by simpa using c3] at q;exact q
    . rw [c1,c2,show gBq z figs=true by simpa using c3,c4] at q;exact q
    . rw [c1,c2,show gBq z figs=true by simpa using c3,c4] at q;exact q
    . rw [c1,c2] at q;exact q
    . rw [c1] at q;exact q
abbrev pCq:Stmt:=top 27
theorem sc_spk:FnScope ["kind", "row", "one"] ["kind"] (aDq pCq):=⟨rfl,rfl,rfl,by decide +kernel,rfl,by decide +kernel,by decide +kernel⟩
theorem zVq (B:Blt mg) (F:Fun K "spelled_kind" "spelled_kind" pCq f fd):FnOk P w K mg base CX0 1 f fd ["kind"] (aUq K tLq):=by
  refine okD (k:=0) F sc_spk (λ ds G DQ h=>?_) (λ cdv A outer s H E hr ds G DQ h=>?_)
  . obtain ⟨_,_,rfl,_⟩:=h;rfl
  obtain ⟨d,qs,rfl,hs,q⟩:=h
  refine ⟨_,(a5q (aNq (aBq (aKq (aQq hr)) (aGq aix (a1q 0) a3q (λ _ _=>rfl)) a8q (aAq _)) (a6q (aEq (b7q (a0q (bMq j5q rfl B.str PyProof.Rows.boot_str (a0q (aGq aix (a1q 0) a3q (λ _ _=>rfl)) a2q)) a2q)))) aFq)
      (a5q (aNq (aBq (aKq (aQq hr)) (aGq aix (a1q 0) a3q (λ _ _=>rfl)) a8q (aAq _)) (a6q (aEq (b7q (a0q a8q a2q)))) aFq)
      (a5q (aNq (aBq (aKq (aQq hr)) (aGq aix (a1q 0) a3q (λ _ _=>rfl)) a8q (aAq _)) (a6q (aEq (b7q (a0q a8q (a0q (aGq aix (a1q 0) a3q (λ _ _=>rfl)) (a0q a8q a2q)))))) aFq)
      (a5q (aNq (aBq (aKq (aQq hr)) (aGq aix (a1q 0) a3q (λ _ _=>rfl)) a8q (aAq _)) (a6q (aEq (b7q (a0q a8q (a0q (aGq aix (a1q 0) a3q (λ _ _=>rfl)) (a0q a8q a2q)))))) aFq)
      (a5q (aNq (aBq (aKq (aQq hr)) (aGq aix (a1q 0) a3q (λ _ _=>rfl)) a8q (aAq _)) (a6q (aEq (b7q (a0q a8q (a0q (aGq aix (a1q 0) a3q (λ _ _=>rfl)) (a0q a8q (a0q (aGq aix (a1q 0) a3q (λ _ _=>rfl)) (a0q a8q a2q)))))))) aFq)
      (a5q (aJq (k:=1) sc_spk.nd rfl (Or.inl rfl) (b7q (a0q a8q a2q)))
      (a5q (fSq PassesOwn.never rfl (e1q (aGq aix (a1q 0) a3q (λ _ _=>rfl))) (bLq (k:=2) sc_spk.nd rfl (Or.inl rfl)) (a5q (aNq (aBq d5q (aCq aIq rfl B.len PySem.boot_len (a0q (a1q 1) a2q)) a3q (aAq _)) (a6q (aZq (bKq PySem.F.plainAttrs_list PySem.F.slot_list_append PySem.F.type_list_append aOq (a1q 1) (a0q a8q a2q)))) aFq)
      (a6q (aZq (bKq PySem.F.plainAttrs_list PySem.F.slot_list_append PySem.F.type_list_append aOq (a1q 1) (a0q (a1q 2) a2q))))))
      (a6q (aEq (cCq (aSq aTq (a1q 1) (b7q (a0q a8q (a0q (aGq aix (a1q 0) a3q (λ _ _=>rfl)) (a0q a8q a2q))))))))))))))),?_⟩
  cases hs with
  | is n hn=>exact ⟨λ _=>⟨j4q hn,λ l hl=>Dr.of (q l hl)⟩,λ c=>absurd c (by decide)⟩
  | some=>exact ⟨λ c=>absurd c (by decide),λ _=>⟨λ _ l hl=>Dr.of (q l hl),λ c=>absurd c (by decide)⟩⟩
  | left a=>exact ⟨λ c=>absurd c (by decide),λ _=>⟨λ c=>absurd c (by decide),λ _=>⟨λ _ l hl=>Dr.of (q l hl),λ c=>absurd c (by decide)⟩⟩⟩
  | right a=>exact ⟨λ c=>absurd c (by decide),λ _=>⟨λ c=>absurd c (by decide),λ _=>⟨λ c=>absurd c (by decide),λ _=>⟨λ _ l hl=>Dr.of (q l hl),λ c=>absurd c (by decide)⟩⟩⟩⟩
  | both a b=>exact ⟨λ c=>absurd c (by decide),λ _=>⟨λ c=>absurd c (by decide),λ _=>⟨λ c=>absurd c (by decide),λ _=>⟨λ c=>absurd c (by decide),λ _=>⟨λ _ l hl=>Dr.of (q l hl),λ c=>absurd c (by decide)⟩⟩⟩⟩⟩
  | way es k hl=>
    refine ⟨λ c=>absurd c (by decide),λ _=>⟨λ c=>absurd c (by decide),λ _=>⟨λ c=>absurd c (by decide),λ _=>⟨λ c=>absurd c (by decide),λ _=>⟨λ c=>absurd c (by decide),λ _=>?_⟩⟩⟩⟩⟩
    intro p hp
    refine ⟨λ i ρ G'=>∃ o2:Option D,ρ=[some (.tup [.str "way", .tup es,k]),some (.ref p),o2]/\up G p (.lst (.str "["::eCq (es.take i)))=G',⟨_,rfl,rfl⟩,λ _ _ _ _ _=>trivial,?_,?_⟩
    . rintro i e ρ G' he ⟨o2,rfl,rfl⟩
      have he':es[i]?=some e:=he
      have hlt:=(List.getElem?_eq_some_iff.mp he').1
      have h2:=hOq (es.take i)
      rw [List.length_take] at h2
      have ht:es.take (i+1)=es.take i++[e]:=by rw [List.take_add_one,he',Option.toList_some]
      refine a7q a4q ⟨λ c=>⟨a7q a4q trivial,aMq a4q ⟨aVq (by simp only [List.length_cons];omega),?_⟩⟩,λ c=>⟨a7q a4q trivial,aMq a4q ⟨aVq (by simp only [List.length_cons];omega),Wk.of ⟨_,rfl,?_⟩⟩⟩⟩
      . rw [bPq]
        refine ⟨a7q a4q trivial,aMq a4q ⟨aVq (by simp only [List.length_cons,List.length_append,List.length_nil];omega),Wk.of ⟨_,rfl,?_⟩⟩⟩
        rw [bPq]
        have hne:es.take i≠[]:=by
          intro e0
          rw [e0] at c
          exact absurd c (by decide)
        rw [ht,lQq e hne]
        simp
      . rw [bPq]
        have h0:i=0:=by
          have c':=of_decide_eq_false c
          cases hb:es.take i with
          | nil=>
            have:=congrArg List.length hb
            rw [List.length_take,List.length_nil] at this
            omega
          | cons x r=>
            have:=vTq (ds:=es.take i) (by rw [hb];simp)
            simp only [List.length_cons] at c'
            omega
        subst h0
        rw [ht];rfl
    . rintro ρ G' ⟨o2,rfl,rfl⟩
      intro p2 hp2
      have e2:es.take (⟨es,λ _=>True⟩:DIt).items.length=es:=List.take_length
      rw [e2]
      rw [e2] at hp2
      obtain ⟨-,hp20,hne2⟩:=eNq (o:=.lst []) hp2
      have h2:=hOq es
      refine aMq (by rw [aRq (Ne.symm hne2)];exact a4q) (aMq a4q ⟨dJq (by simp only [List.length_cons,List.length_nil];omega),λ p3 hp3=>?_⟩)
      have hp30:G p3=none:=by
        have h3:p3≠p2:=by rintro rfl;rw [a4q] at hp3;cases hp3
        rw [aRq h3] at hp3
        have h4:p3≠p:=by rintro rfl;rw [a4q] at hp3;cases hp3
        rw [aRq h4] at hp3;exact hp3
      refine ⟨up G p3 (.lst (.str "["::(eCq es++[.str ":", k,.str "]"]))),?_,Dr.of (q p3 hp30)⟩
      exact Sub.put (Sub.new (Sub.new (Sub.refl _) hp) hp20)
abbrev kUq:Stmt:=top 26
theorem u4q:FnScope ["kind"] ["kind"] (aDq kUq):=⟨rfl,rfl,rfl,by decide +kernel,rfl,by decide +kernel,by decide +kernel⟩
theorem w4q {fk:Addr} (m_spelled_kind:mg "spelled_kind" = some (.ref fk)) (g_out:Got P w K mg base 2 "spelled_out" ["thing", "spelled"] (aUq K (uFq fk))) (F:Fun K "show_kind" "show_kind" kUq f fd):FnOk P w K mg base CX0 3 f fd ["kind"] (aUq K kBq):=by
  refine okD (k:=2) F u4q (λ ds G DQ h=>?_) (λ cdv A outer s H E hr ds G DQ h=>?_)
  . obtain ⟨_,_,rfl,_⟩:=h;rfl
  obtain ⟨d,x,rfl,hx,hs,q⟩:=h
  exact ⟨_,(a6q (aEq (a9q g_out hr (by omega) rfl (a0q (a1q 0) (a0q (cTq (d:=.ref _) (v:=.ref _) rfl m_spelled_kind rfl (λ _=>rfl)) a2q))))),d,x,rfl,hx,hs,Dr.of q⟩
abbrev f9q:Stmt:=top 29
theorem o0q:FnScope ["piece"] ["piece"] (aDq f9q):=⟨rfl,rfl,rfl,by decide +kernel,rfl,by decide +kernel,by decide +kernel⟩
theorem pMq (B:Blt mg) {tm:Tok} (m_MOST_FIGURES:mg "MOST_FIGURES" = some (.int 12 tm)) (g_iswt:Got P w K mg base 2 "is_whole_text" ["text", "most"] (aUq K hRq)) (F:Fun K "read_piece" "read_piece" f9q f fd):FnOk P w K mg base CX0 3 f fd ["piece"] (aUq K kHq):=by
  refine okD (k:=2) F o0q (λ ds G DQ h=>?_) (λ cdv A outer s H E hr ds G DQ h=>?_)
  . obtain ⟨_,_,rfl,_⟩:=h;rfl
  obtain ⟨p,q0,rfl,hp,q⟩:=h
  refine ⟨_,(a5q (aNq (aBq f2q (a1q 0) a8q (by with_unfolding_all rfl)) (a6q (aEq (a1q 0))) aFq)
      (a5q (aNq (aBq (aKq (aQq hr)) (a1q 0) a8q (aAq _)) (a6q (aEq (b4q (a0q a8q a2q)))) aFq)
      (a5q (aNq (d7q (b2q (a9q g_iswt hr (by omega) rfl (a0q (a1q 0) (a0q (cTq (d:=.int _) (v:=.int _) rfl m_MOST_FIGURES ⟨_,rfl⟩ (λ _=>rfl)) a2q))))) (a6q bUq) aFq)
      (a6q (aEq (b4q (a0q a8q (a0q (bMq mLq rfl B.int PyProof.Rows.boot_int (a0q (a1q 0) a2q)) a2q)))))))),?_⟩
  cases hp with
  | sgn h=>
    rcases h with rfl | rfl | rfl
    . exact ⟨λ _=>Dr.of q,λ c=>absurd c (by decide +kernel)⟩
    . exact ⟨λ _=>Dr.of q,λ c=>absurd c (by decide +kernel)⟩
    . exact ⟨λ _=>Dr.of q,λ c=>absurd c (by decide +kernel)⟩
  | som=>exact ⟨λ c=>absurd c (by decide +kernel),λ _=>⟨λ _=>Dr.of q,λ c=>absurd c (by decide)⟩⟩
  | num n hn=>
    obtain ⟨h1,h2⟩:=i3q hn
    refine ⟨λ c=>?_,λ _=>⟨λ c=>?_,λ _=>⟨cOq n,rfl,by omega,⟨λ c=>?_,λ _=>⟨n,h1,by omega,Dr.of q⟩⟩⟩⟩⟩
    . rw [Bool.false_xor,w8q] at c;cases c
    . exact absurd (eq_of_beq c) (by rw [tXq];exact sEq (by decide))
    . rw [tSq hn] at c;cases c
abbrev p1q:Stmt:=top 30
theorem yWq:FnScope ["frame", "sign"] ["frame", "sign"] (aDq p1q):=⟨rfl,rfl,rfl,by decide +kernel,rfl,by decide +kernel,by decide +kernel⟩
theorem yVq (g_wayc:Got P w K mg base 1 "way_closed" ["row"] (aUq K nKq)) (g_pairc:Got P w K mg base 1 "pair_closed" ["row"] (aUq K kIq)) (F:Fun K "kind_closed" "kind_closed" p1q f fd):FnOk P w K mg base CX0 2 f fd ["frame", "sign"] (aUq K w5q):=by
  refine okD (k:=1) F yWq (λ ds G DQ h=>?_) (λ cdv A outer s H E hr ds G DQ h=>?_)
  . obtain ⟨_,_,_,_,rfl,_⟩:=h;rfl
  obtain ⟨l,p,c,k,rfl,hl,hc,q⟩:=h
  refine ⟨_,(a5q (aNq (AW.at (d3q (aBq (aKq (aQq hr)) (aGq aix (a1q 0) a3q (λ _ _=>rfl)) a8q (aAq _)) (c8q (aBq (aKq (aQq hr)) (a1q 1) a8q (aAq _))))) (a6q (aEq (a9q g_wayc hr (by omega) rfl (a0q (bQq asl (a1q 0) (b8q a3q) cPq) a2q)))) aFq)
      (a5q (aNq (AW.at (d3q (aBq (aKq (aQq hr)) (aGq aix (a1q 0) a3q (λ _ _=>rfl)) a8q (aAq _)) (c8q (aBq (aKq (aQq hr)) (a1q 1) a8q (aAq _))))) (a6q (aEq (a9q g_pairc hr (by omega) rfl (a0q (bQq asl (a1q 0) (b8q a3q) cPq) a2q)))) aFq)
      (a6q bUq))),?_⟩
  cases hc with
  | way ds k hd=>
    refine aPq hl (d:=.str "[") (bCq (j:=0) rfl) ⟨λ _=>⟨λ _=>a7q hl λ p hp=>⟨p,ds,k,hd,rfl,?_,⟨G,Sub.new (Sub.refl _) hp,q⟩⟩,λ c=>absurd c (by decide)⟩,λ c=>absurd c (by decide)⟩
    rw [a4q,uWq]
  | @pair row k hr=>
    refine aPq hl (d:=.str "(") (bCq (j:=0) rfl) ⟨λ c=>absurd c (by decide),λ _=>⟨λ c=>absurd c (by decide),λ _=>aPq hl (d:=.str "(") (bCq (j:=0) rfl) ⟨λ _=>⟨λ _=>a7q hl λ p hp=>⟨p,row,k,rfl,?_,hr,⟨G,Sub.new (Sub.refl _) hp,q⟩⟩,λ c=>absurd c (by decide)⟩,λ c=>absurd c (by decide)⟩⟩⟩
    rw [a4q,uWq]
abbrev jVq:Stmt:=top 31
theorem sc_wayc:FnScope ["row", "bag", "kinds"] ["row"] (aDq jVq):=⟨rfl,rfl,rfl,by decide +kernel,rfl,by decide +kernel,by decide +kernel⟩
theorem v0q (B:Blt mg) (F:Fun K "way_closed" "way_closed" jVq f fd):FnOk P w K mg base CX0 1 f fd ["row"] (aUq K nKq):=by
  refine okD (k:=0) F sc_wayc (λ ds G DQ h=>?_) (λ cdv A outer s H E hr ds G DQ h=>?_)
  . obtain ⟨_,_,_,_,rfl,_⟩:=h;rfl
  obtain ⟨l,es,k,h40,rfl,hl,q⟩:=h
  refine ⟨_,(a5q (aNq (AW.at (dBq (aBq c7q (aCq aIq rfl B.len PySem.boot_len (a0q (a1q 0) a2q)) a3q (aAq _)) (cMq (aBq (dYq (aQq hr)) (aGq aix (a1q 0) (i2q cWq a3q) (λ _ _=>rfl)) a8q (aAq _))))) (a6q bUq) aFq)
      (a5q (aJq (k:=1) sc_wayc.nd rfl (Or.inl rfl) (bQq asl (a1q 0) cPq (b8q (i2q cWq a3q))))
      (a5q (aJq (k:=2) sc_wayc.nd rfl (Or.inl rfl) (rUq (a1q 1) (b8q a3q) (b8q a3q)))
      (a5q (aNq (aBq (dYq (aQq hr)) (rUq (a1q 1) (b8q a3q) (b8q a3q)) (cCq (aSq lOq (b7q (a0q a8q a2q)) (aSq bDq (aCq aIq rfl B.len PySem.boot_len (a0q (a1q 2) a2q)) a3q))) (aAq _)) (a6q bUq) aFq)
      (a6q (aEq (b4q (a0q a8q (a0q (bMq c4q rfl B.tuple PyProof.Rows.boot_tuple (a0q (a1q 2) a2q)) (a0q (aGq aix (a1q 0) (i2q cWq a3q) (λ _ _=>rfl)) a2q)))))))))),?_⟩
  have hlen:(eCq es++[.str ":", k]).length=(eCq es).length+2:=by simp
  have hb2:=hOq es
  refine a7q hl ⟨λ c=>absurd (of_decide_eq_true c) (by rw [hlen];omega),λ _=>aPq hl (d:=.str ":") (s8q (j:=(eCq es).length) (by decide) (by rw [hlen];omega) (by simp)) ⟨λ c=>absurd c (by decide),λ _=>a7q hl λ p hp=>?_⟩⟩
  have ec:cut (eCq es++[.str ":", k]) none (some (-2))=eCq es:=by
    unfold cut
    rw [show HT.sIx (eCq es++[D.str ":", k]).length 0 none=0 from rfl,show HT.sIx (eCq es++[D.str ":", k]).length (eCq es++[D.str ":", k]).length (some (-2))=(eCq es).length by rw [hlen];unfold HT.sIx;simp only [];rw [if_pos (by omega)];omega,List.drop_zero,Nat.sub_zero]
    exact List.take_left' rfl
  obtain ⟨ev1,ev3⟩:=s7q es
  rw [ec]
  have S1:Sub G (up G p (.lst (eCq es))):=Sub.new (Sub.refl _) hp
  refine ⟨rfl,a7q a4q ⟨0,rfl,λ p2 hp2=>?_⟩⟩
  rw [List.drop_zero,ev1]
  have S2:=Sub.ext' (o:=.lst es) (Sub.refl _) hp2
  refine ⟨rfl,a7q (S2 p _ a4q) ⟨1,rfl,λ p3 hp3 p4 hp4=>?_⟩⟩
  rw [ev3] at hp4 ⊢
  have S3:=Sub.ext' (o:=.lst (List.replicate (es.length - 1) (.str " "))) (Sub.refl _) hp3
  have S4:=Sub.ext' (o:=.lst [.str " "]) (Sub.refl _) hp4
  refine a7q ((S3.trans S4) p2 _ a4q) (a7q a4q ⟨by omega,by omega,by simp,λ p5 hp5=>⟨_,Sub.refl _,?_⟩⟩)
  rw [k9q,show ((es.length:Int) - 1).toNat=es.length - 1 by omega] at *
  have S5:=Sub.ext' (o:=.lst (List.replicate (es.length - 1) (.str " "))) (Sub.refl _) hp5
  obtain ⟨r1,r2⟩:=i1q " " (es.length - 1)
  refine a7q ((S4.trans S5) p3 _ a4q) (a7q a4q ⟨r1,r1,r2,⟨λ c=>?_,λ _=>a7q ((S3.trans (S4.trans S5)) p2 _ a4q) (aPq ((S1.trans (S2.trans (S3.trans (S4.trans S5)))) l _ hl) (d:=k) (s8q (j:=(eCq es).length+1) (by decide) (by rw [hlen];omega) (by simp)) ⟨G,S1.trans (S2.trans (S3.trans (S4.trans S5))),q⟩)⟩⟩)
  rw [iAq] at c;cases c
abbrev hVq:Stmt:=top 32
theorem rEq:FnScope ["row"] ["row"] (aDq hVq):=⟨rfl,rfl,rfl,by decide +kernel,rfl,by decide +kernel,by decide +kernel⟩
theorem qXq (B:Blt mg) (F:Fun K "pair_closed" "pair_closed" hVq f fd):FnOk P w K mg base CX0 1 f fd ["row"] (aUq K kIq):=by
  refine okD (k:=0) F rEq (λ ds G DQ h=>?_) (λ cdv A outer s H E hr ds G DQ h=>?_)
  . obtain ⟨_,_,_,rfl,_⟩:=h;rfl
  obtain ⟨l,row,k,rfl,hl,hc,q⟩:=h
  refine ⟨_,(a5q (aNq (AW.at (d3q (aBq (aKq (aQq hr)) (aCq aIq rfl B.len PySem.boot_len (a0q (a1q 0) a2q)) a3q (aAq _)) (c8q (aBq (dHq (aQq hr)) (aGq aix (a1q 0) a3q (λ _ _=>rfl)) a8q (aAq _))))) (a6q (aEq (b4q (a0q a8q (a0q (aGq aix (a1q 0) a3q (λ _ _=>rfl)) a2q))))) aFq)
      (a5q (aNq (AW.at (d3q (aBq (aKq (aQq hr)) (aCq aIq rfl B.len PySem.boot_len (a0q (a1q 0) a2q)) a3q (aAq _)) (c8q (aBq (dHq (aQq hr)) (aGq aix (a1q 0) a3q (λ _ _=>rfl)) a8q (aAq _))))) (a6q (aEq (b4q (a0q a8q (a0q (aGq aix (a1q 0) a3q (λ _ _=>rfl)) a2q))))) aFq)
      (a5q (aNq (AW.at (d3q (aBq (aKq (aQq hr)) (aCq aIq rfl B.len PySem.boot_len (a0q (a1q 0) a2q)) a3q (aAq _)) (c8q (aBq (dHq (aQq hr)) (aGq aix (a1q 0) a3q (λ _ _=>rfl)) a8q (aAq _))))) (a6q (aEq (b4q (a0q a8q (a0q (aGq aix (a1q 0) a3q (λ _ _=>rfl)) (a0q (aGq aix (a1q 0) a3q (λ _ _=>rfl)) a2q)))))) aFq)
      (a6q bUq)))),?_⟩
  cases hc with
  | left a=>exact a7q hl ⟨λ _=>aPq hl (d:=.str ",") rfl ⟨λ _=>aPq hl (d:=a) rfl (Dr.of q),λ c=>absurd c (by decide)⟩,λ c=>s1q c⟩
  | right xs=>exact a7q hl ⟨λ _=>aPq hl (d:=.tup xs) rfl ⟨λ c=>g8q c,λ _=>a7q hl ⟨λ _=>aPq hl (d:=.str ",") rfl ⟨λ _=>aPq hl (d:=.tup xs) rfl (Dr.of q),λ c=>absurd c (by decide)⟩,λ c=>s1q c⟩⟩,λ c=>s1q c⟩
  | both a b=>exact a7q hl ⟨λ c=>g8q c,λ _=>⟨λ c=>g8q c,λ _=>a7q hl ⟨λ c=>g8q c,λ _=>⟨λ c=>g8q c,λ _=>a7q hl ⟨λ _=>aPq hl (d:=.str ",") rfl ⟨λ _=>aPq hl (d:=a) rfl (aPq hl (d:=b) rfl (Dr.of q)),λ c=>absurd c (by decide)⟩,λ c=>s1q c⟩⟩⟩⟩⟩
abbrev nPq:Stmt:=top 17
theorem sc_brk:FnScope ["word", "things", "row", "one"] ["word", "things"] (aDq nPq):=⟨rfl,rfl,rfl,by decide +kernel,rfl,by decide +kernel,by decide +kernel⟩
theorem wYq (F:Fun K "bracketed" "bracketed" nPq f fd):FnOk P w K mg base CX0 1 f fd ["word", "things"] (aUq K u8q):=by
  refine okD (k:=0) F sc_brk (λ ds G DQ h=>?_) (λ cdv A outer s H E hr ds G DQ h=>?_)
  . obtain ⟨_,_,rfl,_⟩:=h;rfl
  obtain ⟨z,es,rfl,hz,he,q⟩:=h
  refine ⟨_,(a5q (aJq (k:=2) sc_brk.nd rfl (Or.inl rfl) (b7q (a0q (aSq aTq a8q (a1q 0)) a2q)))
      (a5q (fSq PassesOwn.never rfl (e1q (a1q 1)) (bLq (k:=3) sc_brk.nd rfl (Or.inl rfl)) (a5q (aZq (bKq PySem.F.plainAttrs_list PySem.F.slot_list_append PySem.F.type_list_append aOq (a1q 2) (a0q a8q a2q)))
      (a6q (aZq (bKq PySem.F.plainAttrs_list PySem.F.slot_list_append PySem.F.type_list_append aOq (a1q 2) (a0q (a1q 3) a2q))))))
      (a5q (aZq (bKq PySem.F.plainAttrs_list PySem.F.slot_list_append PySem.F.type_list_append aOq (a1q 2) (a0q a8q a2q)))
      (a6q (aEq (a1q 2)))))),?_⟩
  have l1:(("(" : String):Str).length=1:=by decide
  refine ⟨big (by omega),λ p hp=>?_⟩
  refine ⟨λ i ρ G'=>∃ o3:Option D,ρ=[some (.str z),some (.tup es),some (.ref p),o3]/\up G p (.lst (.str (("(" : Str)++z)::c5q (es.take i)))=G',⟨_,rfl,rfl⟩,λ _ _ _ _ _=>trivial,?_,?_⟩
  . rintro i e ρ G' he' ⟨o3,rfl,rfl⟩
    have he2:es[i]?=some e:=he'
    have hlt:=(List.getElem?_eq_some_iff.mp he2).1
    have ht:es.take (i+1)=es.take i++[e]:=by rw [List.take_add_one,he2,Option.toList_some]
    have hl:(c5q (es.take i)).length<=20:=by rw [eAq,List.length_take];omega
    refine ⟨a7q a4q trivial,aMq a4q ⟨aVq (by simp only [List.length_cons];omega),?_⟩⟩
    rw [bPq]
    refine ⟨a7q a4q trivial,aMq a4q ⟨aVq (by simp only [List.length_cons,List.length_append,List.length_nil];omega),Wk.of ⟨_,rfl,?_⟩⟩⟩
    rw [bPq,ht,j7q]
    simp
  . rintro ρ G' ⟨o3,rfl,rfl⟩
    have e2:es.take (⟨es,λ _=>True⟩:DIt).items.length=es:=List.take_length
    rw [e2]
    refine ⟨a7q a4q trivial,aMq a4q ⟨aVq (by simp only [List.length_cons,eAq];omega),?_⟩⟩
    rw [bPq]
    exact Dr.of (q p hp)
abbrev k5q:Stmt:=top 36
theorem vSq:FnScope ["paper"] ["paper"] (aDq k5q):=⟨rfl,rfl,rfl,by decide +kernel,rfl,by decide +kernel,by decide +kernel⟩
theorem vKq {aN:Addr} (m_NO_INNER_PAPERS:mg "NO_INNER_PAPERS" = some (.ref aN)) (t_NO_INNER_PAPERS:∀ H,Abs K H (.tup [.str "name", .str "hole"]) (.ref aN)) (F:Fun K "inner_papers" "inner_papers" k5q f fd):FnOk P w K mg base CX0 1 f fd ["paper"] (aUq K nSq):=by
  refine okD (k:=0) F vSq (λ ds G DQ h=>?_) (λ cdv A outer s H E hr ds G DQ h=>?_)
  . obtain ⟨_,_,_,rfl,_⟩:=h;rfl
  obtain ⟨d,z,es,rfl,hn,q⟩:=h
  refine ⟨_,(a5q (aNq (aBq f2q (aGq aix (a1q 0) a3q (λ _ _=>rfl)) (cTq (v:=.ref _) rfl m_NO_INNER_PAPERS rfl t_NO_INNER_PAPERS) (by with_unfolding_all rfl)) (a6q (aEq (b4q a2q))) aFq)
      (a5q (aNq (aBq (aKq (aQq hr)) (aGq aix (a1q 0) a3q (λ _ _=>rfl)) a8q (aAq _)) (a6q (aEq (aSq aTq (b4q (a0q (aGq aix (a1q 0) a3q (λ _ _=>rfl)) a2q)) (aGq aix (a1q 0) a3q (λ _ _=>rfl))))) aFq)
      (a6q (aEq (bQq asl (a1q 0) (b8q a3q) cPq))))),?_⟩
  cases hn with
  | un p hw=>
    simp only [unW,List.mem_cons,List.not_mem_nil,or_false] at hw
    rcases hw with rfl | rfl | rfl | rfl | rfl<;>exact ⟨rfl,rfl,⟨λ c=>absurd c (by decide),λ _=>⟨λ c=>absurd c (by decide),λ _=>Dr.of q⟩⟩⟩
  | bi p p' hw=>
    simp only [biW,List.mem_cons,List.not_mem_nil,or_false] at hw
    rcases hw with rfl | rfl | rfl<;>exact ⟨rfl,rfl,⟨λ c=>absurd c (by decide),λ _=>⟨λ c=>absurd c (by decide),λ _=>Dr.of q⟩⟩⟩
  | give p ps hl=>exact ⟨rfl,rfl,⟨λ c=>absurd c (by decide),λ _=>⟨λ _=>⟨big (by simp;omega),Dr.of q⟩,λ c=>absurd c (by decide)⟩⟩⟩
abbrev oXq:Stmt:=top 41
theorem zSq:FnScope ["paper"] ["paper"] (aDq oXq):=⟨rfl,rfl,rfl,by decide +kernel,rfl,by decide +kernel,by decide +kernel⟩
theorem yTq (g_show:Got P w K mg base 3 "show_kind" ["kind"] (aUq K kBq)) (g_brk:Got P w K mg base 1 "bracketed" ["word", "things"] (aUq K u8q)) (g_innp:Got P w K mg base 1 "inner_papers" ["paper"] (aUq K nSq)) (F:Fun K "spelled_paper" "spelled_paper" oXq f fd):FnOk P w K mg base CX0 4 f fd ["paper"] (aUq K v9q):=by
  refine okD (k:=3) F zSq (λ ds G DQ h=>?_) (λ cdv A outer s H E hr ds G DQ h=>?_)
  . obtain ⟨_,_,rfl,_⟩:=h;rfl
  obtain ⟨d,qs,rfl,hs,q⟩:=h
  refine ⟨_,(a5q (aNq (aBq (aKq (aQq hr)) (aGq aix (a1q 0) a3q (λ _ _=>rfl)) a8q (aAq _)) (a6q (aEq (b7q (a0q (aSq aTq a8q (a9q g_show hr (by omega) rfl (a0q (aGq aix (a1q 0) a3q (λ _ _=>rfl)) a2q))) a2q)))) aFq)
      (a5q (aNq (aBq (aKq (aQq hr)) (aGq aix (a1q 0) a3q (λ _ _=>rfl)) a8q (aAq _)) (a6q (aEq (b7q (a0q a8q a2q)))) aFq)
      (a5q (aNq (aBq (aKq (aQq hr)) (aGq aix (a1q 0) a3q (λ _ _=>rfl)) a8q (aAq _)) (a6q (aEq (b7q (a0q a8q a2q)))) aFq)
      (a6q (aEq (a9q g_brk hr (by omega) rfl (a0q (aGq aix (a1q 0) a3q (λ _ _=>rfl)) (a0q (a9q g_innp hr (by omega) rfl (a0q (a1q 0) a2q)) a2q)))))))),?_⟩
  cases hs with
  | some=>exact ⟨λ c=>absurd c (by decide),λ _=>⟨λ _ l hl=>Dr.of (q l hl),λ c=>absurd c (by decide)⟩⟩
  | whole=>exact ⟨λ c=>absurd c (by decide),λ _=>⟨λ c=>absurd c (by decide),λ _=>⟨λ _ l hl=>Dr.of (q l hl),λ c=>absurd c (by decide)⟩⟩⟩
  | @name k x h1 h2=>exact ⟨λ _=>⟨k,x,rfl,h1,h2,⟨wDq (by decide) (h1.txt_len h2),λ l hl=>Dr.of (q l hl)⟩⟩,λ c=>absurd c (by decide)⟩
  | @node z es _ hn=>
    have hl:=(mRq hn).2
    have hz:=(cKq z (h6q hn)).2.2
    have hn0:=hn
    cases hn with
    | un p hw=>
      simp only [unW,List.mem_cons,List.not_mem_nil,or_false] at hw
      rcases hw with rfl | rfl | rfl | rfl | rfl<;>exact ⟨λ c=>absurd c (by decide),λ _=>⟨λ c=>absurd c (by decide),λ _=>⟨λ c=>absurd c (by decide),λ _=>⟨_,_,_,rfl,hn0,_,_,rfl,by omega,by omega,λ l hl=>Dr.of (q l hl)⟩⟩⟩⟩
    | bi p p' hw=>
      simp only [biW,List.mem_cons,List.not_mem_nil,or_false] at hw
      rcases hw with rfl | rfl | rfl<;>exact ⟨λ c=>absurd c (by decide),λ _=>⟨λ c=>absurd c (by decide),λ _=>⟨λ c=>absurd c (by decide),λ _=>⟨_,_,_,rfl,hn0,_,_,rfl,by omega,by omega,λ l hl=>Dr.of (q l hl)⟩⟩⟩⟩
    | give p ps hl=>exact ⟨λ c=>absurd c (by decide),λ _=>⟨λ c=>absurd c (by decide),λ _=>⟨λ c=>absurd c (by decide),λ _=>⟨_,_,_,rfl,hn0,_,_,rfl,by omega,by omega,λ l hl=>Dr.of (q l hl)⟩⟩⟩⟩
abbrev hSq:Stmt:=top 40
theorem qKq:FnScope ["paper"] ["paper"] (aDq hSq):=⟨rfl,rfl,rfl,by decide +kernel,rfl,by decide +kernel,by decide +kernel⟩
theorem qUq {fp:Addr} (m_spelled_paper:mg "spelled_paper" = some (.ref fp)) (g_out:Got P w K mg base 5 "spelled_out" ["thing", "spelled"] (aUq K (pGq fp))) (F:Fun K "show_paper" "show_paper" hSq f fd):FnOk P w K mg base CX0 6 f fd ["paper"] (aUq K kJq):=by
  refine okD (k:=5) F qKq (λ ds G DQ h=>?_) (λ cdv A outer s H E hr ds G DQ h=>?_)
  . obtain ⟨_,_,rfl,_⟩:=h;rfl
  obtain ⟨d,x,rfl,hx,hs,q⟩:=h
  exact ⟨_,(a6q (aEq (a9q g_out hr (by omega) rfl (a0q (a1q 0) (a0q (cTq (d:=.ref _) (v:=.ref _) rfl m_spelled_paper rfl (λ _=>rfl)) a2q))))),d,x,rfl,hx,hs,Dr.of q⟩
abbrev jSq:Stmt:=top 43
theorem sc_kend:FnScope ["pieces", "start", "depth", "at"] ["pieces", "start"] (aDq jSq):=⟨rfl,rfl,rfl,by decide +kernel,rfl,by decide +kernel,by decide +kernel⟩
theorem vNq (B:Blt mg) (F:Fun K "kind_end" "kind_end" jSq f fd):FnOk P w K mg base CX0 1 f fd ["pieces", "start"] (aUq K p4q):=by
  refine okD (k:=0) F sc_kend (λ ds G DQ h=>?_) (λ cdv A outer s H E hr ds G DQ h=>?_)
  . obtain ⟨_,_,_,_,_,_,rfl,_⟩:=h;rfl
  obtain ⟨l,xs,i,x,r,k,rfl,hl,hxs,hd,hk,hr',hi,q⟩:=h
  refine ⟨_,(a5q (aJq (k:=2) sc_kend.nd rfl (Or.inl rfl) a3q)
      (a5q (aJq (k:=3) sc_kend.nd rfl (Or.inl rfl) (a1q 1))
      (a5q (cVq PassesOwn.never (AW.at (d3q (aBq c7q (a1q 3) (aCq aIq rfl B.len PySem.boot_len (a0q (a1q 0) a2q)) (aAq _)) (c8q (AW.at (dBq (aBq d5q (a1q 2) a3q (aAq _)) (cMq (aBq o8q (aGq aix (a1q 0) (a1q 3) (λ _ _=>rfl)) (b4q (a0q a8q (a0q a8q a2q))) (by with_unfolding_all rfl)))))))) (a5q (aNq (aBq f2q (aGq aix (a1q 0) (a1q 3) (λ _ _=>rfl)) (b4q (a0q a8q (a0q a8q a2q))) (by with_unfolding_all rfl)) (a6q (m6q (k:=2) sc_kend.nd rfl (Or.inl rfl) a3q kVq)) (a6q (aNq (aBq f2q (aGq aix (a1q 0) (a1q 3) (λ _ _=>rfl)) (b4q (a0q a8q (a0q a8q a2q))) (by with_unfolding_all rfl)) (a6q (m6q (k:=2) sc_kend.nd rfl (Or.inl rfl) a3q tTq)) aFq)))
      (a6q (m6q (k:=3) sc_kend.nd rfl (Or.inl rfl) a3q kVq))))
      (a6q (aEq (a1q 3)))))),?_⟩
  have hcut:=kTq SQ2 (cat x) [] (by simp)
  have hcat:=cXq SQ2 (cat x) []
  rw [List.nil_append] at hcat
  generalize pcs SQ2 [] (cat x)=y at hd q hcut hcat
  have hlen:xs.length=i+(y.length+r.length):=by
    have:=congrArg List.length hd
    rw [List.length_drop,List.length_append] at this;omega
  have hget:∀ j,xs[i+j]?=(y++r)[j]?:=λ j=>by rw [<- hd,List.getElem?_drop]
  refine ⟨λ μ ρ G'=>∃ j e:Nat,ρ=[some (.ref l),some (.int i),some (.int e),some (.int ((i+j:Nat):Int))]/\G=G'/\j<=y.length/\rnc e (cat (y.drop j))=some 0/\y.length - j=μ,⟨_,0,0,rfl,rfl,Nat.zero_le _,by rw [List.drop_zero,hcat];exact aB4q hk 0,rfl⟩,?_⟩
  rintro μ ρ G' ⟨j,e,rfl,rfl,hj,hR,rfl⟩
  have hlm:(xs.map D.str).length=xs.length:=List.length_map ..
  by_cases hjy:j < y.length
  . have hyj:y[j]?=some y[j]:=List.getElem?_eq_getElem hjy
    have hat:atI (xs.map D.str) ((i+j:Nat):Int)=some (.str y[j]):=bCq (by rw [List.getElem?_map,hget,List.getElem?_append_left hjy,hyj];rfl)
    have hdr:cat (y.drop j)=y[j].cps.toList++cat (y.drop (j+1)):=by rw [List.drop_eq_getElem_cons hjy,cat]
    rw [hdr] at hR
    obtain ⟨st1,st2⟩:=mDq (hcut _ (List.getElem_mem hjy)) hR
    refine a7q hl ⟨λ _=>?_,λ c=>absurd (of_decide_eq_false c) (by rw [hlm];omega)⟩
    rcases Nat.eq_zero_or_pos e with e0 | e0
    . refine ⟨λ c=>absurd (of_decide_eq_true c) (by omega),λ _=>aPq hl hat ⟨rfl,rfl,⟨λ _=>?_,λ c=>?_⟩⟩⟩
      . skip
        rcases st2 with ⟨sa,st3⟩ | ⟨sa,sb,se,st3⟩ | ⟨sa,sb,st3⟩
        . refine aPq hl hat ⟨rfl,rfl,⟨λ _=>Wk.of ⟨y.length - (j+1),by omega,j+1,e+1,by rw [show ((e+1:Nat):Int)=(e:Int)+1 by omega,show ((i+(j+1):Nat):Int)=((i+j:Nat):Int)+1 by omega];rfl,rfl,by omega,st3,rfl⟩,λ c=>?_⟩⟩
          rw [Bool.false_xor,pPq,sa] at c;cases c
        . refine aPq hl hat ⟨rfl,rfl,⟨λ c=>?_,λ _=>aPq hl hat ⟨rfl,rfl,⟨λ _=>Wk.of ⟨y.length - (j+1),by omega,j+1,e - 1,by rw [show ((e - 1:Nat):Int)=(e:Int) - 1 by omega,show ((i+(j+1):Nat):Int)=((i+j:Nat):Int)+1 by omega];rfl,rfl,by omega,st3,rfl⟩,λ c=>?_⟩⟩⟩⟩
          . rw [Bool.false_xor,pPq,sa] at c;cases c
          . rw [Bool.false_xor,pPq,sb] at c;cases c
        . refine aPq hl hat ⟨rfl,rfl,⟨λ c=>?_,λ _=>aPq hl hat ⟨rfl,rfl,⟨λ c=>?_,λ _=>Wk.of ⟨y.length - (j+1),by omega,j+1,e,by rw [show ((i+(j+1):Nat):Int)=((i+j:Nat):Int)+1 by omega];rfl,rfl,by omega,st3,rfl⟩⟩⟩⟩⟩
          . rw [Bool.false_xor,pPq,sa] at c;cases c
          . rw [Bool.false_xor,pPq,sb] at c;cases c
      . rw [pPq,st1 e0] at c;cases c
    . refine ⟨λ _=>⟨λ _=>?_,nofun⟩,λ c=>absurd (of_decide_eq_false c) (by omega)⟩
      rcases st2 with ⟨sa,st3⟩ | ⟨sa,sb,se,st3⟩ | ⟨sa,sb,st3⟩
      . refine aPq hl hat ⟨rfl,rfl,⟨λ _=>Wk.of ⟨y.length - (j+1),by omega,j+1,e+1,by rw [show ((e+1:Nat):Int)=(e:Int)+1 by omega,show ((i+(j+1):Nat):Int)=((i+j:Nat):Int)+1 by omega];rfl,rfl,by omega,st3,rfl⟩,λ c=>?_⟩⟩
        rw [Bool.false_xor,pPq,sa] at c;cases c
      . refine aPq hl hat ⟨rfl,rfl,⟨λ c=>?_,λ _=>aPq hl hat ⟨rfl,rfl,⟨λ _=>Wk.of ⟨y.length - (j+1),by omega,j+1,e - 1,by rw [show ((e - 1:Nat):Int)=(e:Int) - 1 by omega,show ((i+(j+1):Nat):Int)=((i+j:Nat):Int)+1 by omega];rfl,rfl,by omega,st3,rfl⟩,λ c=>?_⟩⟩⟩⟩
        . rw [Bool.false_xor,pPq,sa] at c;cases c
        . rw [Bool.false_xor,pPq,sb] at c;cases c
      . refine aPq hl hat ⟨rfl,rfl,⟨λ c=>?_,λ _=>aPq hl hat ⟨rfl,rfl,⟨λ c=>?_,λ _=>Wk.of ⟨y.length - (j+1),by omega,j+1,e,by rw [show ((i+(j+1):Nat):Int)=((i+j:Nat):Int)+1 by omega];rfl,rfl,by omega,st3,rfl⟩⟩⟩⟩⟩
        . rw [Bool.false_xor,pPq,sa] at c;cases c
        . rw [Bool.false_xor,pPq,sb] at c;cases c
  . have ej:j=y.length:=by omega
    subst ej
    rw [List.drop_length,cat,rnc] at hR
    cases hR
    rcases hr' with rfl | ⟨z,r',rfl,hz⟩
    . exact a7q hl ⟨λ c=>absurd (of_decide_eq_true c) (by rw [hlm];simp only [List.length_nil] at hlen;omega),λ _=>⟨nofun,λ _=>Dr.of q⟩⟩
    . have hat:atI (xs.map D.str) ((i+y.length:Nat):Int)=some (.str z):=bCq (by rw [List.getElem?_map,hget,List.getElem?_append_right (Nat.le_refl _),Nat.sub_self];rfl)
      refine a7q hl ⟨λ _=>⟨λ c=>absurd c (by decide),λ _=>aPq hl hat ⟨rfl,rfl,⟨λ c=>?_,λ _=>Dr.of q⟩⟩⟩,λ c=>absurd (of_decide_eq_false c) (by rw [hlm];simp only [List.length_cons] at hlen;omega)⟩
      rcases hz with rfl | rfl<;>exact absurd c (by decide)
abbrev oKq:Stmt:=top 44
theorem sc_pcl:FnScope ["row", "papers"] ["row"] (aDq oKq):=⟨rfl,rfl,rfl,by decide +kernel,rfl,by decide +kernel,by decide +kernel⟩
theorem x0q (B:Blt mg) {aI:Addr} (m_INNER_PAPERS:mg "INNER_PAPERS" = some (.ref aI)) (T_INNER_PAPERS:KTabD K w aI ipT) (F:Fun K "paper_closed" "paper_closed" oKq f fd):FnOk P w K mg base CX0 1 f fd ["row"] (aUq K uDq):=by
  refine okD (k:=0) F sc_pcl (λ ds G DQ h=>?_) (λ cdv A outer s H E hr ds G DQ h=>?_)
  . obtain ⟨_,_,_,rfl,_⟩:=h;rfl
  obtain ⟨l,c,k,rfl,hl,hc,q⟩:=h
  refine ⟨_,(a5q (aJq (k:=1) sc_pcl.nd rfl (Or.inl rfl) (rUq (a1q 0) (b8q a3q) (b8q a3q)))
      (a5q (aNq (AW.at (dBq (aBq (dYq (aQq hr)) (rUq (a1q 0) (b8q a3q) (b8q a3q)) (cCq (aSq lOq (b7q (a0q a8q a2q)) (aCq aIq rfl B.len PySem.boot_len (a0q (a1q 1) a2q)))) (aAq _)) (cMq (d7q (b2q (cCq (aCq (fHq rfl) rfl B.all PyProof.Rows.boot_all (a0q (fUq rfl (CompOk.of (N':=["one"]) (nt:=1) (cap:=[]) rfl (by kernel_rfl)) (bNq (k:=0) (by decide)) (e1q (a1q 1)) (λ _ _ _ _=>(bLq (k:=0) (show List.Nodup (["one"]:List Str) by decide +kernel) rfl (Or.inl rfl))) (λ _ _ _ _=>(aCq b5q rfl B.isinstance PyProof.Rows.boot_isinstance (a0q (a1q 0) (a0q (bJq rfl B.tuple PyProof.Rows.boot_tuple) a2q))))) a2q)))))))) (a6q bUq) aFq)
      (a5q (aNq (AW.at (dBq (aBq (aKq (aQq hr)) (aCq aIq rfl B.len PySem.boot_len (a0q (a1q 1) a2q)) a3q (aAq _)) (cMq (d7q (b2q (aCq b5q rfl B.isinstance PyProof.Rows.boot_isinstance (a0q (aGq aix (a1q 0) a3q (λ _ _=>rfl)) (a0q (bJq rfl B.str PyProof.Rows.boot_str) a2q)))))))) (a6q bUq) aFq)
      (a5q (aNq (aBq (aKq (aQq hr)) (aGq aix (a1q 0) a3q (λ _ _=>rfl)) a8q (aAq _)) (a6q (aEq (b4q (a0q a8q (a0q (aGq aix (a1q 1) a3q (λ _ _=>rfl)) (a0q (bMq c4q rfl B.tuple PyProof.Rows.boot_tuple (a0q (bQq asl (a1q 1) (b8q a3q) cPq) a2q)) a2q)))))) aFq)
      (a5q (aNq (aBq (dYq (aQq hr)) (qBq rfl m_INNER_PAPERS T_INNER_PAPERS (aGq aix (a1q 0) a3q (λ _ _=>rfl))) (aCq aIq rfl B.len PySem.boot_len (a0q (a1q 1) a2q)) (aAq _)) (a6q bUq) aFq)
      (a6q (aEq (aSq aTq (b4q (a0q (aGq aix (a1q 0) a3q (λ _ _=>rfl)) a2q)) (bMq c4q rfl B.tuple PyProof.Rows.boot_tuple (a0q (a1q 1) a2q)))))))))),?_⟩
  cases hc with
  | @mk z es _ hn htup=>
    obtain ⟨h7a,h7⟩:=mRq hn
    obtain ⟨ev1,ev3⟩:=oQq es
    have e2:ev2 ((D.str z::c5q es).drop 2)=es:=by rw [show (D.str z::c5q es).drop 2=(c5q es).drop 1 by simp];exact ev3
    have e1:ev2 ((D.str z::c5q es).drop 1)=List.replicate es.length (.str " "):=by rw [List.drop_succ_cons,List.drop_zero];exact ev1
    refine ⟨rfl,a7q hl ⟨2,rfl,λ p hp=>?_⟩⟩
    rw [e2]
    have S1:=Sub.ext' (o:=.lst es) (Sub.refl _) hp
    refine ⟨rfl,a7q (S1 l _ hl) ⟨1,rfl,λ p2 hp2 p3 hp3=>?_⟩⟩
    rw [e1] at hp3 ⊢
    have S2:=Sub.ext' (o:=.lst (List.replicate es.length (.str " "))) (Sub.refl _) hp2
    have S3:=Sub.ext' (o:=.lst [.str " "]) (Sub.refl _) hp3
    refine a7q ((S2.trans S3) p _ a4q) (a7q a4q ⟨by omega,by omega,by simp,λ p4 hp4=>⟨_,Sub.refl _,?_⟩⟩)
    rw [k9q,show (es.length:Int).toNat=es.length by omega] at *
    have S4:=Sub.ext' (o:=.lst (List.replicate es.length (.str " "))) (Sub.refl _) hp4
    obtain ⟨r1,r2⟩:=i1q " " es.length
    have l4:=(S2.trans (S3.trans S4)) p _ a4q
    have S:=S1.trans (S2.trans (S3.trans S4))
    have hl4:=S l _ hl
    refine a7q ((S3.trans S4) p2 _ a4q) (a7q a4q ⟨r1,r1,r2,⟨λ c=>?_,λ _=>hNq l4 (cQq es id (λ _=>.bl true) (by simp) (aVq (by omega)) l4 (λ x hx R hR=>by obtain ⟨xs,rfl⟩:=htup x hx;exact ⟨true,rfl,hR⟩) (λ p5 hp5=>a7q a4q ⟨es.map λ _=>true,?_,_,Sub.new (Sub.refl _) hp5,?_⟩))⟩⟩)
    . rw [iAq] at c;cases c
    . rw [show (es.map λ _=>D.bl true)=(es.map λ _=>true).map D.bl by simp];exact cSq _
    . rw [show (es.map λ _=>true).all id=true by simp]
      refine ⟨nofun,λ _=>a7q l4 ⟨λ c=>?_,λ _=>aPq hl4 (d:=.str z) (bCq (j:=0) rfl) ⟨true,rfl,⟨nofun,λ _=>aPq hl4 (d:=.str z) (bCq (j:=0) rfl) ?_⟩⟩⟩⟩
      . have c':=eq_of_beq (show (_==_)=true from c)
        have:1<=es.length:=List.length_pos_iff.mpr h7a
        omega
      . cases hn with
        | un a hw=>
          have ew:=aF3q z hw
          have ng:(z==("give" : Str))=false:=by
            simp only [unW,List.mem_cons,List.not_mem_nil,or_false] at hw
            rcases hw with rfl | rfl | rfl | rfl | rfl<;>decide
          refine ⟨λ c=>g8q (ng.symm.trans c),λ _=>aPq hl4 (d:=.str z) (bCq (j:=0) rfl) ?_⟩
          dsimp only
          rw [ew]
          exact a7q l4 ⟨λ c=>g8q c,λ _=>aPq hl4 (d:=.str z) (bCq (j:=0) rfl) (a7q l4 ⟨big (by simp),⟨G,S,q⟩⟩)⟩
        | bi a b hw=>
          have ew:=aF5q z hw
          have ng:(z==("give" : Str))=false:=by
            simp only [biW,List.mem_cons,List.not_mem_nil,or_false] at hw
            rcases hw with rfl | rfl | rfl<;>decide
          refine ⟨λ c=>g8q (ng.symm.trans c),λ _=>aPq hl4 (d:=.str z) (bCq (j:=0) rfl) ?_⟩
          dsimp only
          rw [ew]
          exact a7q l4 ⟨λ c=>g8q c,λ _=>aPq hl4 (d:=.str z) (bCq (j:=0) rfl) (a7q l4 ⟨big (by simp),⟨G,S,q⟩⟩)⟩
        | give a ps h6=>
          refine ⟨λ _=>aPq l4 (d:=a) (bCq (j:=0) rfl) (a7q l4 λ p6 hp6=>a7q a4q ?_),λ c=>absurd c (by decide)⟩
          rw [uWq]
          exact ⟨G,S.trans (Sub.new (Sub.refl _) hp6),q⟩
abbrev i5q:Stmt:=top 42
theorem sc_readp:FnScope ["text", "frames", "pieces", "at", "piece", "closed", "end"] ["text"] (aDq i5q):=⟨rfl,rfl,rfl,by decide +kernel,rfl,by decide +kernel,by decide +kernel⟩
theorem r0q (B:Blt mg) {tp:Tok} {aS:Addr} (m_SIGNS_papertexts:mg "SIGNS_papertexts" = some (.str sgnP tp)) (m_PAPER_OF_SIGN:mg "PAPER_OF_SIGN" = some (.ref aS)) (T_PAPER_OF_SIGN:KTabD K w aS psT) (g_pieces:Got P w K mg base 1 "pieces_of" ["text", "signs"] (aUq K jQq)) (g_kend:Got P w K mg base 1 "kind_end" ["pieces", "start"] (aUq K p4q)) (g_pcl:Got P w K mg base 1 "paper_closed" ["row"] (aUq K uDq)) (g_read:Got P w K mg base 4 "read_kind" ["text"] (aUq K jUq)) (F:Fun K "read_paper" "read_paper" i5q f fd):FnOk P w K mg base CX0 5 f fd ["text"] (aUq K kFq):=by
  refine okD (k:=4) F sc_readp (λ ds G DQ h=>?_) (λ cdv A outer s H E hr ds G DQ h=>?_)
  . obtain ⟨_,_,rfl,_⟩:=h;rfl
  obtain ⟨d,x,rfl,hx,hs,q⟩:=h
  refine ⟨_,(a5q (aJq (k:=1) sc_readp.nd rfl (Or.inl rfl) (b7q (a0q (b7q a2q) a2q)))
      (a5q (aJq (k:=2) sc_readp.nd rfl (Or.inl rfl) (a9q g_pieces hr (by omega) rfl (a0q (a1q 0) (a0q (cTq (d:=.str _) (v:=.str _) rfl m_SIGNS_papertexts ⟨_,rfl⟩ (λ _=>rfl)) a2q))))
      (a5q (aJq (k:=3) sc_readp.nd rfl (Or.inl rfl) a3q)
      (a5q (cVq PassesOwn.never (aBq c7q (a1q 3) (aCq aIq rfl B.len PySem.boot_len (a0q (a1q 2) a2q)) (aAq _)) (a5q (aJq (k:=4) sc_readp.nd rfl (Or.inl rfl) (aGq aix (a1q 2) (a1q 3) (λ _ _=>rfl)))
      (a5q (m6q (k:=3) sc_readp.nd rfl (Or.inl rfl) a3q kVq)
      (a6q (aNq (aBq (aKq (aQq hr)) (a1q 4) a8q (aAq _)) (a6q (aZq (bKq PySem.F.plainAttrs_list PySem.F.slot_list_append PySem.F.type_list_append aOq (a1q 1) (a0q (b7q a2q) a2q)))) (a6q (aNq (aBq (aKq (aQq hr)) (a1q 4) a8q (aAq _)) (a5q (aJq (k:=5) sc_readp.nd rfl (Or.inl rfl) (h3q PySem.F.plainAttrs_list PySem.F.slot_list_pop PySem.F.type_list_pop eHq (a1q 1)))
      (a5q (aNq (aBq (aKq (aQq hr)) (aCq aIq rfl B.len PySem.boot_len (a0q (a1q 1) a2q)) a3q (aAq _)) (a6q bUq) aFq)
      (a6q (aZq (bKq PySem.F.plainAttrs_list PySem.F.slot_list_append PySem.F.type_list_append aOq (aGq aix (a1q 1) (i2q cWq a3q) (λ _ _=>rfl)) (a0q (a9q g_pcl hr (by omega) rfl (a0q (a1q 5) a2q)) a2q)))))) (a6q (aNq (aBq (aKq (aQq hr)) (a1q 4) a8q (aAq _)) (a5q (aJq (k:=6) sc_readp.nd rfl (Or.inl rfl) (a9q g_kend hr (by omega) rfl (a0q (a1q 2) (a0q (a1q 3) a2q))))
      (a5q (aZq (bKq PySem.F.plainAttrs_list PySem.F.slot_list_append PySem.F.type_list_append aOq (aGq aix (a1q 1) (i2q cWq a3q) (λ _ _=>rfl)) (a0q (b4q (a0q a8q (a0q (a9q g_read hr (by omega) rfl (a0q (bKq PySem.F.plainAttrs_str PySem.F.slot_str_join PySem.F.type_str_join e9q a8q (a0q (bQq asl (a1q 2) (b8q (a1q 3)) (b8q (a1q 6))) a2q)) a2q)) a2q))) a2q)))
      (a6q (aJq (k:=3) sc_readp.nd rfl (Or.inl rfl) (a1q 6))))) (a6q (aZq (bKq PySem.F.plainAttrs_list PySem.F.slot_list_append PySem.F.type_list_append aOq (aGq aix (a1q 1) (i2q cWq a3q) (λ _ _=>rfl)) (a0q (qZq rfl m_PAPER_OF_SIGN T_PAPER_OF_SIGN (a1q 4) (a1q 4)) a2q)))))))))))))
      (a5q (aNq (AW.at (dBq (aBq (dYq (aQq hr)) (aCq aIq rfl B.len PySem.boot_len (a0q (a1q 1) a2q)) a3q (aAq _)) (dBq (aBq (dYq (aQq hr)) (aCq aIq rfl B.len PySem.boot_len (a0q (aGq aix (a1q 1) a3q (λ _ _=>rfl)) a2q)) a3q (aAq _)) (cMq (d7q (b2q (aCq b5q rfl B.isinstance PyProof.Rows.boot_isinstance (a0q (aGq aix (aGq aix (a1q 1) a3q (λ _ _=>rfl)) a3q (λ _ _=>rfl)) (a0q (bJq rfl B.tuple PyProof.Rows.boot_tuple) a2q))))))))) (a6q bUq) aFq)
      (a6q (aEq (aGq aix (aGq aix (a1q 1) a3q (λ _ _=>rfl)) a3q (λ _ _=>rfl))))))))),?_⟩
  have hxl:=sWq hx
  intro p0 hp0 p1 hp1
  obtain ⟨-,hp10,hne⟩:=eNq (o:=.lst []) hp1
  refine ⟨txt x,rfl,?_,λ l hl=>?_⟩
  . show (cat x).length<=_
    omega
  rw [show (txt x).cps.toList=cat x from rfl,iWq hx]
  have h2:up G p0 (.lst []) l=none/\l≠p1:=by
    have n:l≠p1:=by rintro rfl;rw [a4q] at hl;cases hl
    rw [aRq n] at hl;exact ⟨hl,n⟩
  have h3:G l=none/\l≠p0:=by
    have n:l≠p0:=by rintro rfl;have:=h2.1;rw [a4q] at this;cases this
    have:=h2.1;rw [aRq n] at this;exact ⟨this,n⟩
  refine ⟨λ μ ρ G'=>∃ (i:Nat) (fs:List (Addr × List D)) (o4 o5 o6:Option D),ρ=[some (.str (txt x)),some (.ref p1),some (.ref l),some (.int (i:Int)),o4,o5,o6]/\Frs G' p1 fs/\Sub (up G l (.lst (x.map D.str))) G'/\(∀ p∈fs,up G l (.lst (x.map D.str)) p.1=none)/\i<=x.length/\Rp (fs.map (·.2)) (x.drop i) [[d]]/\fs.length<=i+1/\(∀ p∈fs,p.2.length<=i+1)/\x.length - i=μ,⟨_,0,[(p0,[])],_,_,_,rfl,?_,?_,?_,Nat.zero_le _,?_,Nat.le_refl _,by simp,rfl⟩,?_⟩
  . refine ⟨by rw [aRq h2.2.symm,a4q];rfl,λ p hp=>?_,by simp,λ p hp=>?_⟩
    . simp at hp;subst hp
      rw [aRq h3.2.symm,aRq hne.symm];exact a4q
    . simp at hp;subst hp;exact hne.symm
  . exact Sub.put (Sub.new (Sub.new (Sub.refl _) hp0) hp10)
  . intro p hp
    simp at hp;subst hp
    rw [aRq h3.2.symm];exact hp0
  . have:=aE2q hx [] [] [] [[d]] (.inl rfl) (.nil _)
    rw [List.append_nil] at this;exact this
  rintro μ ρ G' ⟨i,fs,o4,o5,o6,rfl,hF,hS,hfs,hil,hR,hl1,hl2,rfl⟩
  have hll:=hS l _ a4q
  have hlm:(x.map D.str).length=x.length:=List.length_map ..
  have hp1x:up G l (.lst (x.map D.str)) p1=none:=by rw [aRq h2.2.symm];exact hp10
  refine a7q hll ⟨λ c=>?_,λ c=>?_⟩
  . have hlt:i < x.length:=by have:=of_decide_eq_true c;rw [hlm] at this;omega
    have hat:∀ p,x[i]?=some p->atI (x.map D.str) (i:Int)=some (.str p):=λ p hc=>bCq (by rw [List.getElem?_map,hc];rfl)
    obtain ⟨p,hc⟩:∃ p,x[i]?=some p:=⟨_,List.getElem?_eq_getElem hlt⟩
    have hdr:x.drop i=p::x.drop (i+1):=by rw [List.drop_eq_getElem_cons hlt,(List.getElem?_eq_some_iff.mp hc).2]
    rw [hdr] at hR
    refine aPq hll (hat p hc) ?_
    generalize hs0:fs.map (·.2)=st at hR
    generalize hx0:x.drop (i+1)=xr at hR
    generalize hy0:p::xr=yr at hR
    cases hR with
    | nil=>cases hy0
    | @opn _ _ r hR=>
      obtain ⟨rfl,rfl⟩:p = "("/\xr=r:=by simpa using hy0
      refine ⟨λ _=>⟨a7q hF.top trivial,λ r hr=>?_⟩,λ c=>absurd c (by decide)⟩
      have n1:r≠p1:=by rintro rfl;rw [hF.top] at hr;cases hr
      have hr0:=hS.none hr
      refine aMq (by rw [aRq n1.symm];exact hF.top) ⟨aVq (by simp only [List.length_map,List.length_reverse];omega),Wk.of ⟨x.length - (i+1),by omega,i+1,(r,[])::fs,_,_,_,rfl,hF.push hr,Sub.new (Sub.new hS hr0) hp1x,λ p hp=>?_,by omega,?_,by simp only [List.length_cons];omega,λ p hp=>?_,rfl⟩⟩
      . rcases List.mem_cons.mp hp with rfl | hp
        . exact hr0
        . exact hfs p hp
      . rw [List.map_cons,hs0,hx0];exact hR
      . rcases List.mem_cons.mp hp with rfl | hp
        . simp
        . have:=hl2 p hp;omega
    | @cls c' t' k st _ r hclo hR=>
      obtain ⟨rfl,rfl⟩:p = ")"/\xr=r:=by simpa using hy0
      obtain ⟨⟨a1,c1⟩,⟨a2,t⟩,gs,rfl⟩:∃ u v gs,fs=u::v::gs:=by
        cases fs with
        | nil=>cases hs0
        | cons u r=>
          cases r with
          | nil=>simp at hs0
          | cons v gs=>exact ⟨u,v,gs,rfl⟩
      simp only [List.map_cons,List.cons.injEq] at hs0
      obtain ⟨rfl,rfl,rfl⟩:=hs0
      have F1:=hF.pop
      refine ⟨λ c=>absurd c (by decide),λ _=>⟨λ _=>⟨a7q hF.top trivial,aMq hF.top ⟨(((a2,t)::gs).map (·.1)).reverse.map D.ref,.ref a1,by simp,?_⟩⟩,λ c=>absurd c (by decide)⟩⟩
      refine a7q F1.top ⟨λ c=>?_,λ _=>aPq F1.top (d:=.ref a2) (s8q (j:=gs.length) (by decide) (by simp only [List.length_map,List.length_reverse,List.length_cons];omega) (by simp)) ⟨a7q (F1.at_ _ (List.mem_cons_self ..)) trivial,⟨a1,c1,k,rfl,by rw [aRq (hF.ne _ (List.mem_cons_self ..))];exact hF.at_ _ (List.mem_cons_self ..),hclo,aMq (F1.at_ _ (List.mem_cons_self ..)) ⟨aVq (by have:=hl2 (a2,t) (by simp);show t.length<=_;simp only at this;omega),Wk.of ⟨x.length - (i+1),by omega,i+1,(a2,t++[k])::gs,_,_,_,rfl,F1.set,Sub.new (Sub.new hS hp1x) (hfs (a2,t) (by simp)),λ p hp=>?_,by omega,by rw [hx0];exact hR,by simp only [List.length_cons] at *;omega,λ p hp=>?_,rfl⟩⟩⟩⟩⟩
      . have c':=eq_of_beq (show (_==_)=true from c)
        simp at c'
        omega
      . rcases List.mem_cons.mp hp with rfl | hp
        . exact hfs (a2,t) (by simp)
        . exact hfs p (by simp [hp])
      . rcases List.mem_cons.mp hp with rfl | hp
        . have:=hl2 (a2,t) (by simp);simp only [List.length_append,List.length_cons,List.length_nil] at *;omega
        . have:=hl2 p (by simp [hp]);omega
    | @nam k y t' st _ r h1 h2' h3' hr hR=>
      obtain ⟨rfl,rfl⟩:p = "#"/\xr=pcs SQ2 [] (cat y)++r:=by simpa using hy0
      obtain ⟨⟨a,t⟩,gs,rfl⟩:∃ u gs,fs=u::gs:=by
        cases fs with
        | nil=>cases hs0
        | cons u r=>exact ⟨u,r,rfl⟩
      simp only [List.map_cons,List.cons.injEq] at hs0
      obtain ⟨rfl,rfl⟩:=hs0
      have hyl:(pcs SQ2 [] (cat y)).length+(i+1)<=x.length:=by
        have:=congrArg List.length hx0
        rw [List.length_drop,List.length_append] at this;omega
      have hcy:=cXq SQ2 (cat y) []
      rw [List.nil_append] at hcy
      have hcyl:(cat y).length<=236600:=by
        have h5:=h1.len;have h6:=g3q h1.few;have h7:=h3'.sz;omega
      have hcut:cut (x.map D.str) (some ((i+1:Nat):Int)) (some ((i+1+(pcs SQ2 [] (cat y)).length:Nat):Int))=(pcs SQ2 [] (cat y)).map D.str:=by
        have:=rAq (xs:=x.map D.str) (ys:=(pcs SQ2 [] (cat y)).map D.str) (r:=r.map D.str) (a:=i+1) (by rw [<- List.map_drop,hx0,List.map_append]) (by rw [List.length_map];omega)
        rw [List.length_map] at this;exact this
      have hdr2:x.drop (i+1+(pcs SQ2 [] (cat y)).length)=r:=by rw [<- List.drop_drop,hx0,List.drop_left'];rfl
      have hal:=hF.at_ _ (List.mem_cons_self ..)
      refine ⟨λ c=>absurd c (by decide),λ _=>⟨λ c=>absurd c (by decide),λ _=>⟨λ _=>⟨l,x,i+1,y,r,k,rfl,hll,by omega,hx0,h1,hr,by omega,?_⟩,λ c=>absurd c (by decide)⟩⟩⟩
      refine aPq hF.top (d:=.ref a) (s8q (j:=gs.length) (by decide) (by simp only [List.length_map,List.length_reverse,List.length_cons];omega) (by simp)) ⟨a7q hal trivial,⟨trivial,a7q hll λ p7 hp7=>a7q a4q ⟨pcs SQ2 [] (cat y),hcut,by decide +kernel,by rw [i8q,hcy];omega,⟨k,y,by rw [hXq,hcy],h1,h2',h3',?_⟩⟩⟩⟩
      have n7:a≠p7:=by rintro rfl;rw [hal] at hp7;cases hp7
      refine aMq (by rw [aRq n7];exact hal) ⟨aVq (by have:=hl2 (a,t) (by simp);show t.length<=_;simp only at this;omega),?_⟩
      refine ⟨_,up G' a (.lst (t++[.tup [.str "name", k]])),.refl _,Sub.put (Sub.new (Sub.refl _) hp7),x.length - (i+1+(pcs SQ2 [] (cat y)).length),by omega,i+1+(pcs SQ2 [] (cat y)).length,(a,t++[.tup [.str "name", k]])::gs,_,_,_,rfl,hF.set,Sub.new hS (hfs (a,t) (by simp)),λ p hp=>?_,by omega,by rw [hdr2];exact hR,by simp only [List.length_cons] at *;omega,λ p hp=>?_,rfl⟩
      . rcases List.mem_cons.mp hp with rfl | hp
        . exact hfs (a,t) (by simp)
        . exact hfs p (by simp [hp])
      . rcases List.mem_cons.mp hp with rfl | hp
        . have:=hl2 (a,t) (by simp);simp only [List.length_append,List.length_cons,List.length_nil] at *;omega
        . have:=hl2 p (by simp [hp]);omega
    | @oth p' q0 t' st _ r hrp hR=>
      obtain ⟨rfl,rfl⟩:p=p'/\xr=r:=by simpa using hy0
      obtain ⟨c1,c2,c3,c4⟩:=xAq hrp
      obtain ⟨⟨a,t⟩,gs,rfl⟩:∃ u gs,fs=u::gs:=by
        cases fs with
        | nil=>cases hs0
        | cons u r=>exact ⟨u,r,rfl⟩
      simp only [List.map_cons,List.cons.injEq] at hs0
      obtain ⟨rfl,rfl⟩:=hs0
      refine ⟨λ c=>g8q (c1.symm.trans c),λ _=>⟨λ c=>g8q (c2.symm.trans c),λ _=>⟨λ c=>g8q (c3.symm.trans c),λ _=>?_⟩⟩⟩
      refine aPq hF.top (d:=.ref a) (s8q (j:=gs.length) (by decide) (by simp only [List.length_map,List.length_reverse,List.length_cons];omega) (by simp)) ⟨a7q (hF.at_ _ (List.mem_cons_self ..)) trivial,?_⟩
      show onM _ _ _
      rw [c4]
      refine aMq (hF.at_ _ (List.mem_cons_self ..)) ⟨aVq (by have:=hl2 (a,t) (by simp);show t.length<=_;simp only at this;omega),Wk.of ⟨x.length - (i+1),by omega,i+1,(a,t++[q0])::gs,_,_,_,rfl,hF.set,Sub.new hS (hfs (a,t) (by simp)),λ p hp=>?_,by omega,by rw [hx0];exact hR,by simp only [List.length_cons] at *;omega,λ p hp=>?_,rfl⟩⟩
      . rcases List.mem_cons.mp hp with rfl | hp
        . exact hfs (a,t) (by simp)
        . exact hfs p (by simp [hp])
      . rcases List.mem_cons.mp hp with rfl | hp
        . have:=hl2 (a,t) (by simp);simp only [List.length_append,List.length_cons,List.length_nil] at *;omega
        . have:=hl2 p (by simp [hp]);omega
  . have hge:x.length<=i:=by have:=of_decide_eq_false c;rw [hlm] at this;omega
    rw [List.drop_eq_nil_of_le hge] at hR
    generalize hs0:fs.map (·.2)=st at hR
    cases hR
    obtain ⟨⟨a,t'⟩,rfl⟩:∃ u,fs=[u]:=by
      cases fs with
      | nil=>cases hs0
      | cons u r=>
        cases r with
        | nil=>exact ⟨u,rfl⟩
        | cons v gs=>simp at hs0
    simp only [List.map_cons,List.cons.injEq,List.map_nil,and_true] at hs0
    subst hs0
    have e1:=hF.at_ _ (List.mem_cons_self ..)
    obtain ⟨xs,rfl⟩:=nGq hx
    exact a7q hF.top ⟨λ c=>g8q c,λ _=>aPq hF.top (d:=.ref a) rfl (a7q e1 ⟨λ c=>g8q c,λ _=>aPq hF.top (d:=.ref a) rfl (aPq e1 (d:=.tup xs) rfl ⟨true,rfl,⟨nofun,λ _=>aPq hF.top (d:=.ref a) rfl (aPq e1 (d:=.tup xs) rfl ⟨G,Sub.trans (Sub.new (Sub.refl _) h3.1) hS,q⟩)⟩⟩)⟩)⟩
abbrev fWq:Stmt:=top 48
theorem sc_lakind:FnScope ["_law_feed_here", "_law_deep", "_law_form", "_law_one"] ["_law_feed_here", "_law_deep"] (aDq fWq):=⟨rfl,rfl,rfl,by decide +kernel,rfl,by decide +kernel,by decide +kernel⟩
theorem q6q:FnOk P w K mg base CX0 2 f fd ["_law_feed_here", "_law_deep"] (aUq K (j2q 0)):=wCq λ ds G DQ h=>by obtain ⟨_,_,_,_,_,_,_⟩:=h;omega
theorem nHq {n:Nat} (B:Blt mg) (g_take:Got P w K mg base 1 "_law_take" ["_law_feed_here", "_law_many"] (aUq K ePq)) (g_lakind:Got P w K mg base (n+2) "_law_answer_kind" ["_law_feed_here", "_law_deep"] (aUq K (j2q n))) (F:Fun K "_law_answer_kind" "_law_answer_kind" fWq f fd):FnOk P w K mg base CX0 (n+3) f fd ["_law_feed_here", "_law_deep"] (aUq K (j2q (n+1))):=by
  refine okD (k:=n+2) F sc_lakind (λ ds G DQ h=>?_) (λ cdv A outer s H E hr ds G DQ h=>?_)
  . obtain ⟨_,_,rfl,_⟩:=h;rfl
  obtain ⟨a,k,rfl,hF,k0,k1,k3,q⟩:=h
  refine ⟨_,(a5q (aJq (k:=2) sc_lakind.nd rfl (Or.inl rfl) (a9q g_take hr (by omega) rfl (a0q (a1q 0) (a0q a3q a2q))))
      (a5q (aNq (AW.at (d3q (aBq d5q (a1q 1) a3q (aAq _)) (c8q (aBq d5q (a1q 2) a3q (aAq _))))) (a5q (aJq (k:=3) sc_lakind.nd rfl (Or.inl rfl) (a9q g_lakind hr (by omega) rfl (a0q (a1q 0) (a0q (aSq bDq (a1q 1) a3q) a2q))))
      (a6q (aEq (b4q (a0q a8q (a0q (a1q 3) (a0q (a9q g_lakind hr (by omega) rfl (a0q (a1q 0) (a0q (aSq bDq (a1q 1) a3q) a2q))) a2q))))))) aFq)
      (a5q (aNq (aBq (aKq (aQq hr)) (a1q 2) a3q (aAq _)) (a6q (aEq (b4q (a0q a8q a2q)))) aFq)
      (a6q (aEq (b4q (a0q a8q (a0q (c9q (a0q (aSq bDq (a9q g_take hr (by omega) rfl (a0q (a1q 0) (a0q a3q a2q))) a3q) (a0q (aSq bDq (a9q g_take hr (by omega) rfl (a0q (a1q 0) (a0q a3q a2q))) a3q) a2q)) (bMq p9q rfl B.int PyProof.Rows.boot_int (a0q (cDq (aKq (aQq hr)) (a1q 2) a3q (aAq _)) a2q)) (λ _ _=>rfl)) a2q)))))))),?_⟩
  have pw:k≠0->2 ^ k.toNat=2 * 2 ^ (k - 1).toNat:=λ h=>by rw [show k.toNat=(k - 1).toNat+1 by omega,Nat.pow_succ];omega
  have p1:∀ j,1<=2 ^ j:=λ j=>Nat.one_le_two_pow
  have pk:=p1 k.toNat
  refine ⟨hF,by decide,by decide,λ fm G1 u1 f0 f1=>⟨λ c=>⟨λ c2=>?_,λ c2=>?_⟩,λ c=>⟨λ c=>absurd c (by decide),λ _=>?_⟩⟩⟩
  . have c':=of_decide_eq_true c
    have pw':=pw (by omega)
    have pj:=p1 (k - 1).toNat
    refine ⟨a,k - 1,rfl,u1.fd,by omega,by omega,by omega,λ d1 G2 u2 e1 o1=>⟨a,k - 1,rfl,u2.fd,by omega,by omega,by omega,λ d2 G3 u3 e2 o2=>Dr.of (q _ _ (u1.trans (u2.trans u3)) ((vMq e1 e2 o1 o2).mono (by omega) (by omega)) rfl)⟩⟩
  . exact ⟨λ _=>Dr.of (q _ _ u1 (kc_some.mono (by omega) (by omega)) rfl),λ _=>⟨u1.fd,by decide,by decide,λ m1 G2 u2 a0 a1=>⟨u2.fd,by decide,by decide,λ m2 G3 u3 b0 b1=>at2 (by split<;>omega) (by split<;>omega) (λ _=>Dr.of (q _ _ (u1.trans (u2.trans u3)) ((rRq (by omega)).mono (by omega) (by omega)) rfl)) (λ _=>Dr.of (q _ _ (u1.trans (u2.trans u3)) ((rRq (by omega)).mono (by omega) (by omega)) rfl))⟩⟩⟩
  . exact ⟨λ _=>Dr.of (q _ _ u1 (kc_some.mono (by omega) (by omega)) rfl),λ _=>⟨u1.fd,by decide,by decide,λ m1 G2 u2 a0 a1=>⟨u2.fd,by decide,by decide,λ m2 G3 u3 b0 b1=>at2 (by split<;>omega) (by split<;>omega) (λ _=>Dr.of (q _ _ (u1.trans (u2.trans u3)) ((rRq (by omega)).mono (by omega) (by omega)) rfl)) (λ _=>Dr.of (q _ _ (u1.trans (u2.trans u3)) ((rRq (by omega)).mono (by omega) (by omega)) rfl))⟩⟩⟩
abbrev kCq:Stmt:=top 49
theorem sc_kind:FnScope ["_law_feed_here", "_law_deep", "_law_form", "_law_one", "_law_k", "_law_bag"] ["_law_feed_here", "_law_deep"] (aDq kCq):=⟨rfl,rfl,rfl,by decide +kernel,rfl,by decide +kernel,by decide +kernel⟩
theorem t4q:FnOk P w K mg base CX0 7 f fd ["_law_feed_here", "_law_deep"] (aUq K (spKe 0)):=wCq λ ds G DQ h=>by obtain ⟨_,_,_,_,_,_,_,_⟩:=h;omega
theorem tBq {n:Nat} (B:Blt mg) (g_take:Got P w K mg base 1 "_law_take" ["_law_feed_here", "_law_many"] (aUq K ePq)) (g_lakind:Got P w K mg base 6 "_law_answer_kind" ["_law_feed_here", "_law_deep"] (aUq K (j2q 4))) (g_kind:Got P w K mg base (n+7) "_law_kind" ["_law_feed_here", "_law_deep"] (aUq K (spKe n))) (F:Fun K "_law_kind" "_law_kind" kCq f fd):FnOk P w K mg base CX0 (n+8) f fd ["_law_feed_here", "_law_deep"] (aUq K (spKe (n+1))):=by
  refine okD (k:=n+7) F sc_kind (λ ds G DQ h=>?_) (λ cdv A outer s H E hr ds G DQ h=>?_)
  . obtain ⟨_,_,rfl,_⟩:=h;rfl
  obtain ⟨a,k,rfl,hF,k0,k1,k3,q⟩:=h
  refine ⟨_,(a5q (aJq (k:=2) sc_kind.nd rfl (Or.inl rfl) (a9q g_take hr (by omega) rfl (a0q (a1q 0) (a0q a3q a2q))))
      (a5q (aNq (AW.at (dBq (aBq (aKq (aQq hr)) (a1q 1) a3q (aAq _)) (cMq (aBq c7q (a1q 2) a3q (aAq _))))) (a6q (aEq (a9q g_lakind hr (by omega) rfl (a0q (a1q 0) (a0q (aCq (o7q rfl) rfl B.min PyProof.Rows.boot_min (a0q (a1q 1) (a0q a3q a2q))) a2q))))) aFq)
      (a5q (aNq (aBq c7q (a1q 2) a3q (aAq _)) (a6q (aEq (b4q (a0q (c9q (a0q a8q (a0q a8q a2q)) (aSq bDq (a1q 2) a3q) (λ _ _=>rfl)) (a0q (a9q g_kind hr (by omega) rfl (a0q (a1q 0) (a0q (aSq bDq (a1q 1) a3q) a2q))) a2q))))) aFq)
      (a5q (aNq (aBq (aKq (aQq hr)) (a1q 2) a3q (aAq _)) (a5q (aJq (k:=3) sc_kind.nd rfl (Or.inl rfl) (a9q g_kind hr (by omega) rfl (a0q (a1q 0) (a0q a3q a2q))))
      (a5q (fSq PassesOwn.never rfl (g5q rfl B.range (a0q (a9q g_take hr (by omega) rfl (a0q (a1q 0) (a0q a3q a2q))) a2q)) (bLq (k:=4) sc_kind.nd rfl (Or.inl rfl)) (a6q (aJq (k:=3) sc_kind.nd rfl (Or.inl rfl) (b4q (a0q (c9q (a0q a8q (a0q a8q a2q)) (a9q g_take hr (by omega) rfl (a0q (a1q 0) (a0q a3q a2q))) (λ _ _=>rfl)) (a0q (a1q 3) a2q))))))
      (a6q (aEq (a1q 3))))) aFq)
      (a5q (eDq (k:=5) rfl sc_kind.nd rfl (Or.inl rfl) (CompOk.of (N':=["_law_k", "_law_feed_here", "_law_deep"]) (nt:=1) (cap:=[0,1]) rfl (by kernel_rfl)) (bNq (k:=0) (by decide)) (g5q rfl B.range (a0q (a9q g_take hr (by omega) rfl (a0q (a1q 0) (a0q (c9q (a0q a3q (a0q a3q (a0q a3q (a0q a3q a2q)))) (a1q 1) (λ _ _=>rfl)) a2q))) a2q)) (λ _ _ _ _=>(bLq (k:=0) (show List.Nodup (["_law_k", "_law_feed_here", "_law_deep"]:List Str) by decide +kernel) rfl (Or.inl rfl)))  (λ _ _ _ _=>(a9q g_kind hr (by omega) rfl (a0q (a1q 1) (a0q (aSq bDq (a1q 2) a3q) a2q)))))
      (a5q (aNq (AW.at (d3q (aBq d5q (aCq aIq rfl B.len PySem.boot_len (a0q (a1q 5) a2q)) a3q (aAq _)) (c8q (aBq (aKq (aQq hr)) (a9q g_take hr (by omega) rfl (a0q (a1q 0) (a0q a3q a2q))) a3q (aAq _))))) (a6q (lPq (aGq aix (a1q 5) a3q (λ _ _=>rfl)) (lWq (a1q 5) a3q))) aFq)
      (a6q (aEq (b4q (a0q a8q (a0q (cCq (bMq c4q rfl B.tuple PyProof.Rows.boot_tuple (a0q (aCq (hUq (aQq hr)) rfl B.sorted PyProof.Rows.boot_sorted (a0q (a1q 5) a2q)) a2q))) (a0q (a9q g_kind hr (by omega) rfl (a0q (a1q 0) (a0q (aSq bDq (a1q 1) a3q) a2q))) a2q)))))))))))),?_⟩
  have h30:(if (3:Int) < k then (3:Int) else k)=k:=if_neg (by omega)
  have k4:k=0\/k=1\/k=2\/k=3:=by omega
  have ans:∀ d,KC (16 * 2 ^ k.toNat - 3) (k.toNat+1) d->KC (cK k.toNat) (pK k.toNat) d:=λ d e=>by rcases k4 with rfl | rfl | rfl | rfl<;>exact e.mono (by decide) (by decide)
  have stp:k≠0->cK (k - 1).toNat+3<=cK k.toNat/\1+pK (k - 1).toNat<=pK k.toNat:=λ h=>by rcases k4 with rfl | rfl | rfl | rfl<;>first | exact absurd rfl h | decide
  have big1:k≠0->100<=cK k.toNat/\24<=pK k.toNat:=λ h=>by rcases k4 with rfl | rfl | rfl | rfl<;>first | exact absurd rfl h | decide
  refine ⟨hF,by decide,by decide,λ fm G1 u1 f0 f1=>⟨λ c=>⟨λ _=>?_,λ c=>absurd c (by decide)⟩,λ c=>⟨λ c2=>?_,λ c2=>⟨λ c3=>?_,λ c3=>⟨λ c4=>?_,λ c4=>?_⟩⟩⟩⟩⟩
  . exact ⟨a,if (3:Int) < k then 3 else k,rfl,u1.fd,by rw [h30];omega,by rw [h30];omega,by rw [h30];omega,λ d G2 u2 e o=>Dr.of (q d G2 ⟨G2,u1.trans u2,.refl _⟩ (ans d (by rw [h30] at e;exact e)) (λ _=>o))⟩
  . exact ⟨a,if (3:Int) < k then 3 else k,rfl,u1.fd,by rw [h30];omega,by rw [h30];omega,by rw [h30];omega,λ d G2 u2 e o=>Dr.of (q d G2 ⟨G2,u1.trans u2,.refl _⟩ (ans d (by rw [h30] at e;exact e)) (λ _=>o))⟩
  . have c3':=of_decide_eq_true c3
    have c2':=of_decide_eq_false c2
    have k0':k≠0:=by rintro rfl;cases c
    obtain ⟨s1,s2⟩:=stp k0'
    refine at2 (i:=fm - 4) (by omega) (by omega) (λ _=>⟨a,k - 1,rfl,u1.fd,by omega,by omega,by omega,λ d G2 w2 e _=>Dr.of (q _ G2 (Dw.trans (.of u1) w2) ((nVq e).mono s1 s2) (λ z=>absurd z k0'))⟩) λ _=>⟨a,k - 1,rfl,u1.fd,by omega,by omega,by omega,λ d G2 w2 e _=>Dr.of (q _ G2 (Dw.trans (.of u1) w2) ((l7q e).mono s1 s2) (λ z=>absurd z k0'))⟩
  . have k0':k≠0:=by rintro rfl;cases c
    obtain ⟨s1,s2⟩:=big1 k0'
    refine ⟨a,0,rfl,u1.fd,by omega,by omega,by omega,λ d0 G2 w2 e0 _=>⟨w2.fd,by decide,by decide,λ m G3 u3 m0 m1=>kQq (by omega) ?_⟩⟩
    refine ⟨λ i ρ G'=>∃ (d:D) (o4 o5:Option D),ρ=[some (.ref a),some (.int k),some (.int fm),some d,o4,o5]/\Dw a G G'/\KC (13+3 * i) (1+i) d,⟨d0,_,_,rfl,Dw.trans (.of u1) (w2.trans (.of u3)),e0⟩,λ _ _ _ _ _=>trivial,?_,?_⟩
    . rintro i e ρ G' he ⟨d,o4,o5,rfl,w,hd⟩
      refine ⟨w.fd,by decide,by decide,λ j G4 u4 j0 j1=>at2 j0 (by omega) (λ _=>Wk.of ⟨_,_,_,rfl,w.trans (.of u4),(nVq hd).mono (by omega) (by omega)⟩) (λ _=>Wk.of ⟨_,_,_,rfl,w.trans (.of u4),(l7q hd).mono (by omega) (by omega)⟩)⟩
    . rintro ρ G' ⟨d,o4,o5,rfl,w,hd⟩
      have el:(⟨cAq 0 m.toNat,λ _=>True⟩:DIt).items.length=m.toNat:=c3q
      rw [el] at hd
      exact Dr.of (q d _ w (hd.mono (by omega) (by omega)) (λ z=>absurd z k0'))
  . have k0':k≠0:=by rintro rfl;cases c
    obtain ⟨b,hb,hat⟩:∃ b:Int,((k=1/\b=7)\/(k=2/\b=4)\/(k=3/\b=3))/\atI [D.int 0,.int 7,.int 4,.int 3] k=some (.int b):=by
      rcases k4 with h | rfl | rfl | rfl
      . exact absurd h k0'
      . exact ⟨7,.inl ⟨rfl,rfl⟩,rfl⟩
      . exact ⟨4,.inr (.inl ⟨rfl,rfl⟩),rfl⟩
      . exact ⟨3,.inr (.inr ⟨rfl,rfl⟩),rfl⟩
    refine q9q (iQq hat ?_)
    have kw:∀ (ds:List D) (k':D),(∀ d∈ds,KC (cK (k - 1).toNat) (pK (k - 1).toNat) d)->g7q ds=true->KC (cK (k - 1).toNat) (pK (k - 1).toNat) k'->(ds.length:Int) < b->KC (cK k.toNat) (pK k.toNat) (.tup [.str "way", .tup ds,k']):=λ ds k' h1 hs h2 hl=>by
      rcases hb with ⟨rfl,rfl⟩ | ⟨rfl,rfl⟩ | ⟨rfl,rfl⟩
      . exact (pSq (n:=6) h1 hs h2 (by omega) (by decide)).mono (by decide) (by decide)
      . exact (pSq (n:=3) h1 hs h2 (by omega) (by decide)).mono (by decide) (by decide)
      . exact (pSq (n:=2) h1 hs h2 (by omega) (by decide)).mono (by decide) (by decide)
    have hpk:pK (k - 1).toNat<=28:=by rcases hb with ⟨rfl,_⟩ | ⟨rfl,_⟩ | ⟨rfl,_⟩<;>decide
    refine ⟨u1.fd,by omega,by omega,λ m G2 u2 m0 m1=>kQq (by omega) ?_⟩
    refine gSq a id (λ d=>KC (cK (k - 1).toNat) (pK (k - 1).toNat) d) ?_ (λ _=>trivial) u2.fd (λ d G R hf h=>⟨a,k - 1,rfl,hf,by omega,by omega,by omega,λ d G' x e _=>h d G' x e⟩) λ ds G3 hdl hds u3 p hp=>?_
    . show (cAq 0 (m:Int).toNat).length<=1000
      rw [c3q];omega
    have hl3:(ds.length:Int) < b:=by
      have e:ds.length=(cAq 0 (m:Int).toNat).length:=hdl
      rw [c3q] at e;omega
    rw [List.map_id]
    have kp3:∀ b o,b≠a->G b=some o->up G3 p (.lst ds) b=some o:=λ b o nb e=>by
      have h1:G3 b=some o:=(u1.trans (u2.trans u3)).kp nb e
      rw [aRq (by rintro rfl;rw [hp] at h1;cases h1)];exact h1
    refine a7q a4q ⟨λ c4=>⟨u3.fd.new hp,by decide,by decide,λ j G4 u4 j0 j1=>⟨λ c5=>?_,λ c5=>?_⟩⟩,λ c4=>⟨λ c=>absurd c (by decide),λ _=>?_⟩⟩
    . have hp4:=u4.kp (u3.fd.ne hp) a4q
      obtain ⟨x,y,zs,rfl⟩:∃ x y zs,ds=x::y::zs:=by
        have c4':=of_decide_eq_true c4
        rcases ds with _ | ⟨x,_ | ⟨y,zs⟩⟩
        . simp at c4'
        . simp at c4'
        . exact ⟨x,y,zs,rfl⟩
      refine aPq hp4 (d:=x) (bCq (j:=0) rfl) (aMq hp4 ⟨1,by unfold ixN;rw [if_pos (by decide),if_pos (by simp only [List.length_cons];omega)];rfl,?_⟩)
      have h4:∀ d∈(x::y::zs).set 1 x,KC (cK (k - 1).toNat) (pK (k - 1).toNat) d:=nUq hds (hds x (List.mem_cons_self ..))
      have l4:(((x::y::zs).set 1 x).length:Int) < b:=by rw [List.length_set];exact hl3
      have X:∀ G9 G0,Fx a (up G4 p (.lst ((x::y::zs).set 1 x))) G0->Sub G0 G9->∃ G0,Fx a G G0/\Sub G0 G9:=λ G9 G0 x1 x2=>r7q (λ b o nb e=>by
        have h1:=kp3 b o nb e
        have h2:=u4.kp nb h1
        have nbp:b≠p:=by rintro rfl;rw [(u1.trans (u2.trans u3)).none hp] at e;cases e
        rw [aRq nbp];exact h2) x1 x2
      refine a7q (a4q) ⟨by have:=l4;omega,λ d hd=>⟨(h4 d hd).1.isK,by have:=(h4 d hd).2.1;omega⟩,λ ds' hperm hsrt p' hp'=>a7q a4q ⟨_,Sub.new (Sub.refl _) hp',⟨a,k - 1,rfl,(by obtain ⟨x',y',e'⟩:=u4.fd;exact ⟨x',y',by rw [aRq (Ne.symm (u3.fd.ne hp))];exact e'⟩),by omega,by omega,by omega,λ d G9 ⟨G0,x1,x2⟩ e9 _=>Dr.of (q _ G9 (X G9 G0 x1 x2) (kw _ _ (λ d hd=>h4 d (hperm.mem_iff.mpr hd)) (hMq hsrt) e9 (by rw [<- hperm.length_eq];exact l4)) (λ z=>absurd z k0'))⟩⟩⟩
    . have hp4:=u4.kp (u3.fd.ne hp) a4q
      have X:∀ G9 G0,Fx a G4 G0->Sub G0 G9->∃ G0,Fx a G G0/\Sub G0 G9:=λ G9 G0 x1 x2=>r7q (λ b o nb e=>u4.kp nb (kp3 b o nb e)) x1 x2
      refine a7q (hp4) ⟨by have:=hl3;omega,λ d hd=>⟨(hds d hd).1.isK,by have:=(hds d hd).2.1;omega⟩,λ ds' hperm hsrt p' hp'=>a7q a4q ⟨_,Sub.new (Sub.refl _) hp',⟨a,k - 1,rfl,u4.fd,by omega,by omega,by omega,λ d G9 ⟨G0,x1,x2⟩ e9 _=>Dr.of (q _ G9 (X G9 G0 x1 x2) (kw _ _ (λ d hd=>hds d (hperm.mem_iff.mpr hd)) (hMq hsrt) e9 (by rw [<- hperm.length_eq];exact hl3)) (λ z=>absurd z k0'))⟩⟩⟩
    . have X:∀ G9 G0,Fx a (up G3 p (.lst ds)) G0->Sub G0 G9->∃ G0,Fx a G G0/\Sub G0 G9:=λ G9 G0 x1 x2=>r7q kp3 x1 x2
      refine a7q (a4q) ⟨by have:=hl3;omega,λ d hd=>⟨(hds d hd).1.isK,by have:=(hds d hd).2.1;omega⟩,λ ds' hperm hsrt p' hp'=>a7q a4q ⟨_,Sub.new (Sub.refl _) hp',⟨a,k - 1,rfl,(u3.fd.new hp),by omega,by omega,by omega,λ d G9 ⟨G0,x1,x2⟩ e9 _=>Dr.of (q _ G9 (X G9 G0 x1 x2) (kw _ _ (λ d hd=>hds d (hperm.mem_iff.mpr hd)) (hMq hsrt) e9 (by rw [<- hperm.length_eq];exact hl3)) (λ z=>absurd z k0'))⟩⟩⟩
abbrev iDq:Stmt:=top 50
theorem sc_shape:FnScope ["_law_feed_here", "_law_room", "_law_deep", "_law_form", "_law_leaf", "_law_word", "_law_half", "_law_one", "_law_many", "_law_some"] ["_law_feed_here", "_law_room", "_law_deep"] (aDq iDq):=⟨rfl,rfl,rfl,by decide +kernel,rfl,by decide +kernel,by decide +kernel⟩
theorem qCq:FnOk P w K mg base CX0 12 f fd ["_law_feed_here", "_law_room", "_law_deep"] (aUq K (fFq 0)):=wCq λ ds G DQ h=>by obtain ⟨_,_,_,_,_,_,_,_,_,_⟩:=h;omega
theorem rZq {n:Nat} (B:Blt mg) (g_take:Got P w K mg base 1 "_law_take" ["_law_feed_here", "_law_many"] (aUq K ePq)) (g_kind:Got P w K mg base 11 "_law_kind" ["_law_feed_here", "_law_deep"] (aUq K (spKe 4))) (g_shape:Got P w K mg base (n+12) "_law_shape" ["_law_feed_here", "_law_room", "_law_deep"] (aUq K (fFq n))) (F:Fun K "_law_shape" "_law_shape" iDq f fd):FnOk P w K mg base CX0 (n+13) f fd ["_law_feed_here", "_law_room", "_law_deep"] (aUq K (fFq (n+1))):=by
  refine okD (k:=n+12) F sc_shape (λ ds G DQ h=>?_) (λ cdv A outer s H E hr ds G DQ h=>?_)
  . obtain ⟨_,_,_,rfl,_⟩:=h;rfl
  obtain ⟨a,r,k,rfl,hF,r0,r1,k0,k1,k14,q⟩:=h
  refine ⟨_,(a5q (aJq (k:=3) sc_shape.nd rfl (Or.inl rfl) (a9q g_take hr (by omega) rfl (a0q (a1q 0) (a0q a3q a2q))))
      (a5q (aNq (AW.at (dBq (aBq c7q (a1q 1) a3q (aAq _)) (dBq (aBq c7q (a1q 2) a3q (aAq _)) (cMq (aBq c7q (a1q 3) a3q (aAq _)))))) (a5q (aJq (k:=4) sc_shape.nd rfl (Or.inl rfl) (a9q g_take hr (by omega) rfl (a0q (a1q 0) (a0q a3q a2q))))
      (a5q (aNq (aBq c7q (a1q 4) a3q (aAq _)) (a6q (aEq (c9q (a0q (b4q (a0q a8q a2q)) (a0q (b4q (a0q a8q a2q)) a2q)) (a1q 4) (λ _ _=>rfl)))) aFq)
      (a6q (aEq (b4q (a0q a8q (a0q (a9q g_kind hr (by omega) rfl (a0q (a1q 0) (a0q (aSq bDq (a1q 4) a3q) a2q))) a2q))))))) aFq)
      (a5q (aNq (aBq c7q (a1q 3) a3q (aAq _)) (a5q (aJq (k:=5) sc_shape.nd rfl (Or.inl rfl) (c9q (a0q a8q (a0q a8q (a0q a8q (a0q a8q (a0q a8q a2q))))) (aSq bDq (a1q 3) a3q) (λ _ _=>rfl)))
      (a6q (aEq (b4q (a0q (a1q 5) (a0q (a9q g_shape hr (by omega) rfl (a0q (a1q 0) (a0q (aSq bDq (a1q 1) a3q) (a0q (aSq bDq (a1q 2) a3q) a2q)))) a2q)))))) aFq)
      (a5q (aJq (k:=6) sc_shape.nd rfl (Or.inr rfl) (aSq eZq (aSq bDq (a1q 1) a3q) a3q))
      (a5q (aNq (aBq c7q (a1q 3) a3q (aAq _)) (a5q (aJq (k:=7) sc_shape.nd rfl (Or.inl rfl) (a9q g_shape hr (by omega) rfl (a0q (a1q 0) (a0q (a1q 6) (a0q (aSq bDq (a1q 2) a3q) a2q)))))
      (a6q (aEq (b4q (a0q (c9q (a0q a8q (a0q a8q (a0q a8q a2q))) (aSq bDq (a1q 3) a3q) (λ _ _=>rfl)) (a0q (a1q 7) (a0q (a9q g_shape hr (by omega) rfl (a0q (a1q 0) (a0q (a1q 6) (a0q (aSq bDq (a1q 2) a3q) a2q)))) a2q))))))) aFq)
      (a5q (aJq (k:=7) sc_shape.nd rfl (Or.inl rfl) (a9q g_shape hr (by omega) rfl (a0q (a1q 0) (a0q (a1q 6) (a0q (aSq bDq (a1q 2) a3q) a2q)))))
      (a5q (aJq (k:=8) sc_shape.nd rfl (Or.inr rfl) (a9q g_take hr (by omega) rfl (a0q (a1q 0) (a0q a3q a2q))))
      (a5q (eDq (k:=9) rfl sc_shape.nd rfl (Or.inl rfl) (CompOk.of (N':=["_law_k", "_law_feed_here", "_law_half", "_law_deep", "_law_many"]) (nt:=1) (cap:=[0,6,2,8]) rfl (by kernel_rfl)) (bNq (k:=0) (by decide)) (g5q rfl B.range (a0q (a1q 8) a2q)) (λ _ _ _ _=>(bLq (k:=0) (show List.Nodup (["_law_k", "_law_feed_here", "_law_half", "_law_deep", "_law_many"]:List Str) by decide +kernel) rfl (Or.inl rfl)))  (λ _ _ _ _=>(a9q g_shape hr (by omega) rfl (a0q (a1q 1) (a0q (aSq eZq (a1q 2) (aCq (oBq rfl) rfl B.max PyProof.Rows.boot_max (a0q (a1q 4) (a0q a3q a2q)))) (a0q (aSq bDq (a1q 3) a3q) a2q))))))
      (a5q (aNq (AW.at (d3q (aBq d5q (a1q 8) a3q (aAq _)) (c8q (aBq (aKq (aQq hr)) (a9q g_take hr (by omega) rfl (a0q (a1q 0) (a0q a3q a2q))) a3q (aAq _))))) (a6q (lPq (aGq aix (a1q 9) a3q (λ _ _=>rfl)) (lWq (a1q 9) a3q))) aFq)
      (a6q (aEq (b4q (a0q a8q (a0q (a1q 7) (a0q (bMq c4q rfl B.tuple PyProof.Rows.boot_tuple (a0q (a1q 9) a2q)) a2q))))))))))))))),?_⟩
  have leafK:∀ (j:Nat) (kd:D),j<=3->KC (cK j) (pK j) kd->PC2 (2100 * (8 * r.toNat+1)) (40+2 * k.toNat) (.tup [.str "name", kd]):=λ j kd hj e=>by
    have h1:cK j<=1223/\pK j<=28:=by
      have:∀ j < 4,cK j<=1223/\pK j<=28:=by decide
      exact this j (by omega)
    have e2:=e.2.1
    exact (vFq (e.mono (by omega) (by omega))).mono (by omega) (by omega)
  refine ⟨hF,by decide,by decide,λ fm G1 u1 f0 f1=>⟨λ _=>⟨λ _=>?_,nofun⟩,λ cr=>⟨λ _=>⟨λ _=>?_,nofun⟩,λ ck=>⟨λ _=>?_,λ cf=>?_⟩⟩⟩⟩
  . exact ⟨u1.fd,by decide,by decide,λ lf G2 u2 l0 l1=>⟨λ c=>at2 l0 (by have:=of_decide_eq_true c;omega) (λ _=>Dr.of (q _ _ (.of (u1.trans u2)) (pc_some.mono (by omega) (by omega)))) (λ _=>Dr.of (q _ _ (.of (u1.trans u2)) (pc_whole.mono (by omega) (by omega)))),λ c=>⟨a,lf - 1,rfl,u2.fd,by have:=of_decide_eq_false c;omega,by omega,by omega,λ kd G3 w3 e3 _=>Dr.of (q _ _ (Dw.trans (.of (u1.trans u2)) w3) (leafK _ _ (by omega) e3))⟩⟩⟩
  . exact ⟨u1.fd,by decide,by decide,λ lf G2 u2 l0 l1=>⟨λ c=>at2 l0 (by have:=of_decide_eq_true c;omega) (λ _=>Dr.of (q _ _ (.of (u1.trans u2)) (pc_some.mono (by omega) (by omega)))) (λ _=>Dr.of (q _ _ (.of (u1.trans u2)) (pc_whole.mono (by omega) (by omega)))),λ c=>⟨a,lf - 1,rfl,u2.fd,by have:=of_decide_eq_false c;omega,by omega,by omega,λ kd G3 w3 e3 _=>Dr.of (q _ _ (Dw.trans (.of (u1.trans u2)) w3) (leafK _ _ (by omega) e3))⟩⟩⟩
  . exact ⟨u1.fd,by decide,by decide,λ lf G2 u2 l0 l1=>⟨λ c=>at2 l0 (by have:=of_decide_eq_true c;omega) (λ _=>Dr.of (q _ _ (.of (u1.trans u2)) (pc_some.mono (by omega) (by omega)))) (λ _=>Dr.of (q _ _ (.of (u1.trans u2)) (pc_whole.mono (by omega) (by omega)))),λ c=>⟨a,lf - 1,rfl,u2.fd,by have:=of_decide_eq_false c;omega,by omega,by omega,λ kd G3 w3 e3 _=>Dr.of (q _ _ (Dw.trans (.of (u1.trans u2)) w3) (leafK _ _ (by omega) e3))⟩⟩⟩
  have r2:2<=r:=by have:=of_decide_eq_false cr;omega
  have kk:1<=k:=by have:=of_decide_eq_false ck;omega
  have ff:2<=fm:=by have:=of_decide_eq_false cf;omega
  refine ⟨λ c=>?_,λ c=>⟨⟨by decide,by decide⟩,?_⟩⟩
  . have c':=of_decide_eq_true c
    have un:∀ z:Str,z∈unW->∀ d,PC2 (2100 * (8 * (r - 1).toNat+1)) (40+2 * (k - 1).toNat) d->PC2 (2100 * (8 * r.toNat+1)) (40+2 * k.toNat) (.tup [.str z,d]):=λ z hz d h=>(aE8q hz h).mono (by omega) (by omega)
    exact sCq (by omega) (by show fm - 2 < 5;omega) λ d hd=>by
      simp only [List.mem_cons,List.not_mem_nil,or_false] at hd
      rcases hd with rfl | rfl | rfl | rfl | rfl<;>exact ⟨a,r - 1,k - 1,rfl,u1.fd,by omega,by omega,by omega,by omega,by omega,λ d G2 w2 p2=>Dr.of (q _ _ (Dw.trans (.of u1) w2) (un _ (by decide) d p2))⟩
  have c7:7<=fm:=by have:=of_decide_eq_false c;omega
  obtain ⟨h,hh⟩:∃ h:Int,(r - 1) / 2=h:=⟨_,rfl⟩
  have h0:0<=h:=by omega
  have h1:2 * h<=r - 1:=by omega
  refine ⟨λ c=>⟨a,(r - 1) / 2,k - 1,rfl,u1.fd,by omega,by omega,by omega,by omega,by omega,λ d1 G2 w2 p1=>?_⟩,λ c=>⟨a,(r - 1) / 2,k - 1,rfl,u1.fd,by omega,by omega,by omega,by omega,by omega,λ d1 G2 w2 p1=>⟨w2.fd,by decide,by decide,λ m G3 u3 m0 m1=>kQq (by omega) ?_⟩⟩⟩
  . have c':=of_decide_eq_true c
    have bi:∀ z:Str,z∈biW->∀ d d2,PC2 (2100 * (8 * ((r - 1) / 2).toNat+1)) (40+2 * (k - 1).toNat) d->PC2 (2100 * (8 * ((r - 1) / 2).toNat+1)) (40+2 * (k - 1).toNat) d2->PC2 (2100 * (8 * r.toNat+1)) (40+2 * k.toNat) (.tup [.str z,d,d2]):=λ z hz d d2 h h'=>(aK4q hz h h').mono (by omega) (by omega)
    exact sCq (by omega) (by show fm - 7 < 3;omega) λ d hd=>by
      simp only [List.mem_cons,List.not_mem_nil,or_false] at hd
      rcases hd with rfl | rfl | rfl<;>exact ⟨a,(r - 1) / 2,k - 1,rfl,w2.fd,by omega,by omega,by omega,by omega,by omega,λ d2 G3 w3 p2=>Dr.of (q _ _ ((Dw.trans (.of u1) w2).trans w3) (bi _ (by decide) d1 d2 p1 p2))⟩
  obtain ⟨mx,hmx⟩:∃ mx:Int,(if (1:Int) > m then 1 else m)=mx:=⟨_,rfl⟩
  have mx0:0 < mx:=by rw [<- hmx];split<;>omega
  have mx1:m<=mx/\mx<=7:=by rw [<- hmx];split<;>omega
  have g0:0<=h / mx:=Int.ediv_nonneg h0 (by omega)
  have g1:(h / mx) * mx<=h:=Int.ediv_mul_le h (by omega)
  have g2:m * (h / mx)<=h:=Int.le_trans (by rw [Int.mul_comm];exact Int.mul_le_mul_of_nonneg_left mx1.1 g0) g1
  have g3:h / mx<=h:=Int.ediv_le_self _ h0
  have hmul:m.toNat * (h / mx).toNat<=h.toNat:=by
    have e1:((m.toNat * (h / mx).toNat:Nat):Int)=m * (h / mx):=by rw [Int.natCast_mul,Int.toNat_of_nonneg m0,Int.toNat_of_nonneg g0]
    omega
  have ring:∀ a b:Nat,a * (2100 * (8 * b+1)+1)=16800 * (a * b)+2101 * a:=λ a b=>by
    have:2100 * (8 * b+1)+1=16800 * b+2101:=by omega
    rw [this,Nat.mul_add,Nat.mul_comm a 2101,<- Nat.mul_assoc,Nat.mul_comm a 16800,Nat.mul_assoc]
  have gv:∀ ds:List D,(∀ d∈ds,PC2 (2100 * (8 * (h / mx).toNat+1)) (40+2 * (k - 1).toNat) d)->ds.length=m.toNat->PC2 (2100 * (8 * r.toNat+1)) (40+2 * k.toNat) (.tup [.str "give", d1,.tup ds]):=λ ds hds hl=>by
    have z:=tJq p1 hds (Nat.le_of_eq hl) (by omega)
    rw [ring] at z
    refine z.mono ?_ (by omega)
    omega
  refine gSq a id (λ d=>PC2 (2100 * (8 * (h / mx).toNat+1)) (40+2 * (k - 1).toNat) d) ?_ (λ _=>trivial) u3.fd (λ d G R hf hR=>⟨⟨by show 0 < (if (1:Int) > m then 1 else m);rw [hmx];exact mx0,by show (if (1:Int) > m then 1 else m) < 2 ^ 64;rw [hmx];omega⟩,a,h / mx,k - 1,by rw [<- hmx,<- hh],hf,by omega,by omega,by omega,by omega,by omega,λ d G' x e=>hR d G' x e⟩) λ ds G4 hdl hds u4 p hp=>?_
  . show (cAq 0 (m:Int).toNat).length<=1000
    rw [c3q];omega
  have hl3:ds.length=m.toNat:=by
    have e:ds.length=(cAq 0 (m:Int).toNat).length:=hdl
    rw [c3q] at e;omega
  rw [List.map_id]
  have w3:Dw a G G4:=(Dw.trans (.of u1) w2).trans (.of (u3.trans u4))
  have npa:p≠a:=u4.fd.ne hp
  refine ⟨λ cm=>⟨u4.fd.new hp,by decide,by decide,λ j G5 u5 j0 j1=>⟨λ c5=>?_,λ c5=>?_⟩⟩,λ cm=>⟨λ c=>absurd c (by decide),λ _=>a7q a4q ⟨G4,Sub.new (Sub.refl _) hp,q _ _ w3 (gv ds hds hl3)⟩⟩⟩
  . have hp5:=u5.kp npa a4q
    obtain ⟨G6,s6,f6⟩:=Fx.drop hp u5 u4.fd
    have n6:G6 p=none:=by rw [f6.other npa];exact hp
    obtain ⟨x,y,z,zs,rfl⟩:∃ x y z zs,ds=x::y::z::zs:=by
      have c4':=of_decide_eq_true cm
      rcases ds with _ | ⟨x,_ | ⟨y,_ | ⟨z,zs⟩⟩⟩
      . simp at hl3;omega
      . simp at hl3;omega
      . simp at hl3;omega
      . exact ⟨x,y,z,zs,rfl⟩
    refine aPq hp5 (d:=x) (bCq (j:=0) rfl) (aMq hp5 ⟨2,by unfold ixN;rw [if_pos (by decide),if_pos (by simp only [List.length_cons];omega)];rfl,?_⟩)
    exact a7q a4q ⟨G6,Sub.new s6 n6,q _ _ (w3.trans (.of f6)) (gv _ (nUq hds (hds x (List.mem_cons_self ..))) (by rw [List.length_set];exact hl3))⟩
  . have hp5:=u5.kp npa a4q
    obtain ⟨G6,s6,f6⟩:=Fx.drop hp u5 u4.fd
    exact a7q hp5 ⟨G6,s6,q _ _ (w3.trans (.of f6)) (gv ds hds hl3)⟩
abbrev kYq:Stmt:=top 52
theorem sc_text:FnScope ["_law_paper", "_law_some"] ["_law_paper"] (aDq kYq):=⟨rfl,rfl,rfl,by decide +kernel,rfl,by decide +kernel,by decide +kernel⟩
theorem w6q:FnOk P w K mg base CX0 2 f fd ["_law_paper"] (aUq K (eLq 0)):=wCq λ ds G DQ h=>by obtain ⟨_,_,_,_,h,_⟩:=h;omega
theorem uQq {n:Nat} (B:Blt mg) (g_ktext:Got P w K mg base (n+1) "_law_kind_text" ["_law_kind_here"] (aUq K (f5q n))) (g_text:Got P w K mg base (n+2) "_law_text" ["_law_paper"] (aUq K (eLq n))) (F:Fun K "_law_text" "_law_text" kYq f fd):FnOk P w K mg base CX0 (n+3) f fd ["_law_paper"] (aUq K (eLq (n+1))):=by
  refine okD (k:=n+2) F sc_text (λ ds G DQ h=>?_) (λ cdv A outer s H E hr ds G DQ h=>?_)
  . obtain ⟨_,_,rfl,_⟩:=h;rfl
  obtain ⟨d,x,rfl,hx,hd,hs,q⟩:=h
  refine ⟨_,(a5q (aNq (aBq (aKq (aQq hr)) (aGq aix (a1q 0) a3q (λ _ _=>rfl)) a8q (aAq _)) (a6q (aEq (aSq aTq a8q (a9q g_ktext hr (by omega) rfl (a0q (aGq aix (a1q 0) a3q (λ _ _=>rfl)) a2q))))) aFq)
      (a5q (aNq (aBq (aKq (aQq hr)) (aGq aix (a1q 0) a3q (λ _ _=>rfl)) a8q (aAq _)) (a6q (aEq a8q)) aFq)
      (a5q (aNq (aBq (aKq (aQq hr)) (aGq aix (a1q 0) a3q (λ _ _=>rfl)) a8q (aAq _)) (a6q (aEq a8q)) aFq)
      (a5q (aJq (k:=1) sc_text.nd rfl (Or.inl rfl) (bQq asl (a1q 0) (b8q a3q) cPq))
      (a5q (aNq (aBq (aKq (aQq hr)) (aGq aix (a1q 0) a3q (λ _ _=>rfl)) a8q (aAq _)) (a6q (aJq (k:=1) sc_text.nd rfl (Or.inl rfl) (cCq (aSq aTq (b7q (a0q (aGq aix (a1q 0) a3q (λ _ _=>rfl)) a2q)) (bMq mWq rfl B.list PyProof.Rows.boot_list (a0q (aGq aix (a1q 0) a3q (λ _ _=>rfl)) a2q)))))) aFq)
      (a6q (aEq (aSq aTq (aSq aTq (aSq aTq (aSq aTq a8q (aGq aix (a1q 0) a3q (λ _ _=>rfl))) a8q) (bKq PySem.F.plainAttrs_str PySem.F.slot_str_join PySem.F.type_str_join e9q a8q (a0q (fUq rfl (CompOk.of (N':=["_law_one"]) (nt:=1) (cap:=[]) rfl (by kernel_rfl)) (bNq (k:=0) (by decide)) (e1q (a1q 1)) (λ _ _ _ _=>(bLq (k:=0) (show List.Nodup (["_law_one"]:List Str) by decide +kernel) rfl (Or.inl rfl))) (λ _ _ _ _=>(a9q g_text hr (by omega) rfl (a0q (a1q 0) a2q)))) a2q))) a8q)))))))),?_⟩
  cases hx with
  | some=>rw [hGq] at q;exact ⟨λ c=>absurd c (by decide),λ _=>⟨λ _=>Dr.of q,λ c=>absurd c (by decide)⟩⟩
  | whole=>rw [hGq] at q;exact ⟨λ c=>absurd c (by decide),λ _=>⟨λ c=>absurd c (by decide),λ _=>⟨λ _=>Dr.of q,λ c=>absurd c (by decide)⟩⟩⟩
  | @name k x h1 h2 h3 h4=>rw [<- rJq] at q;exact ⟨λ _=>⟨k,x,rfl,h1,(by simp only [D.dp,bOq] at hd;omega),h3.sz,⟨wDq (by decide) (h1.txt_len h3.sz),Dr.of q⟩⟩,λ c=>absurd c (by decide)⟩
  | @node z ps _ hn hp=>
    have hz:=(cKq z (h6q hn)).2.2
    have hn7:=(mRq hn).2
    rw [List.length_map] at hn7
    have hne:ps.map (·.2)≠[]:=by
      have:=(mRq hn).1
      intro e;apply this
      rw [List.map_eq_nil_iff] at *;exact e
    have D1:∀ p∈ps,p.1.dp < n:=λ p hpm=>by
      have:=aK6q hn (List.mem_map_of_mem (f:=(·.1)) hpm)
      omega
    have hzl:z.cps.toList.length=z.length:=Array.length_toList
    have hs0:=hs
    have hrl:(cat (e0q (ps.map (·.2)))).length+z.length+2<=700000:=by
      rw [gFq,gAq] at hs
      simp only [cat,aHq,aWq,List.length_append,List.length_cons,List.length_nil] at hs
      omega
    have L1:∀ p∈ps,(cat p.2).length<=700000:=λ p hpm=>by
      have:=lUq (List.mem_map_of_mem (f:=(·.2)) hpm)
      omega
    have hil:(cat (b3q (" " : Str) (ps.map (·.2)))).length+1=(cat (e0q (ps.map (·.2)))).length:=by
      rw [eEq hne,cat,f3q];simp only [List.length_append,List.length_cons,List.length_nil];omega
    have hsum:=dKq (ps.map (·.2))
    have SB:((ps.map (·.2)).map ((λ x=>x.length) ∘ txt)).sum+ps.length<=1048576:=by
      show ((ps.map (·.2)).map λ x=>(cat x).length).sum+_<=_
      omega
    have LP:(("(" : String):Str).length=1:=by decide
    have fin:∀ (G9:DV) (l:Addr),G9 l=none->Sub G G9->((("(" : Str)++z++(" " : Str)).length+(Txt.join (" " : Str) ((ps.map (·.2)).map txt)).length<=sizeLine/\(("(" : Str)++z++(" " : Str)++Txt.join (" " : Str) ((ps.map (·.2)).map txt)).length+((")" : String):Str).length<=sizeLine/\Dr DQ (.str (("(" : Str)++z++(" " : Str)++Txt.join (" " : Str) ((ps.map (·.2)).map txt)++(")" : Str))) (up G9 l (.lst (ps.map λ p=>.str (txt p.2))))):=λ G9 l hl hS=>by
      have lt:(txt (b3q (" " : Str) (ps.map (·.2)))).length=(cat (b3q (" " : Str) (ps.map (·.2)))).length:=rfl
      rw [pTq]
      refine ⟨big (by rw [bRq,bRq,LP,x7q];omega),big (by rw [bRq,bRq,bRq,LP,x7q,l_rp];omega),⟨G,Sub.ext' hS hl,?_⟩⟩
      rw [qOq hne];exact q
    generalize he:ps.map (·.1)=es at hn
    clear hs0 hs
    cases hn with
    | un p hw=>
      simp only [unW,List.mem_cons,List.not_mem_nil,or_false] at hw
      rcases hw with rfl | rfl | rfl | rfl | rfl<;>exact ⟨λ c=>absurd c (by decide),λ _=>⟨λ c=>absurd c (by decide),λ _=>⟨λ c=>absurd c (by decide),λ _=>⟨λ c=>absurd c (by decide),λ _=>⟨big (by rw [LP];omega),big (by rw [bRq,LP,x7q];omega),trivial,cQq ps (·.1) (λ p=>.str (txt p.2)) he.symm (aVq (by omega)) trivial (λ p hpm R hR=>⟨p.1,p.2,rfl,hp p hpm,D1 p hpm,L1 p hpm,hR⟩) (λ l hl=>a7q a4q ⟨(ps.map λ p:D × List Str=>p.2).map txt,by simp,by decide,by rw [List.length_map,List.length_map,List.map_map];exact SB,fin _ _ hl (Sub.refl _)⟩)⟩⟩⟩⟩⟩
    | bi p p' hw=>
      simp only [biW,List.mem_cons,List.not_mem_nil,or_false] at hw
      rcases hw with rfl | rfl | rfl<;>exact ⟨λ c=>absurd c (by decide),λ _=>⟨λ c=>absurd c (by decide),λ _=>⟨λ c=>absurd c (by decide),λ _=>⟨λ c=>absurd c (by decide),λ _=>⟨big (by rw [LP];omega),big (by rw [bRq,LP,x7q];omega),trivial,cQq ps (·.1) (λ p=>.str (txt p.2)) he.symm (aVq (by omega)) trivial (λ p hpm R hR=>⟨p.1,p.2,rfl,hp p hpm,D1 p hpm,L1 p hpm,hR⟩) (λ l hl=>a7q a4q ⟨(ps.map λ p:D × List Str=>p.2).map txt,by simp,by decide,by rw [List.length_map,List.length_map,List.map_map];exact SB,fin _ _ hl (Sub.refl _)⟩)⟩⟩⟩⟩⟩
    | give p qs hl6=>
      refine ⟨λ c=>absurd c (by decide),λ _=>⟨λ c=>absurd c (by decide),λ _=>⟨λ c=>absurd c (by decide),λ _=>⟨λ _=>?_,λ c=>absurd c (by decide)⟩⟩⟩⟩
      intro p1 hp1 p2 hp2
      have S1:=Sub.ext' (o:=.lst [p]) (Sub.refl G) hp1
      have S2:=Sub.ext' (o:=.lst qs) (Sub.refl _) hp2
      refine aMq (S2 p1 _ a4q) (aMq a4q ⟨big (by simp;omega),λ p3 hp3=>⟨_,Sub.refl _,?_⟩⟩)
      have S3:=Sub.ext' (o:=.lst ([p]++qs)) (Sub.refl _) hp3
      exact ⟨big (by rw [LP];omega),big (by rw [bRq,LP,x7q];omega),trivial,hNq a4q (cQq ps (·.1) (λ p=>.str (txt p.2)) he.symm (aVq (by omega)) a4q (λ p hpm R hR=>⟨p.1,p.2,rfl,hp p hpm,D1 p hpm,L1 p hpm,hR⟩) (λ l hl=>a7q a4q ⟨(ps.map λ p:D × List Str=>p.2).map txt,by simp,by decide,by rw [List.length_map,List.length_map,List.map_map];exact SB,fin _ _ hl (S1.trans (S2.trans S3))⟩))⟩
abbrev p6q:Stmt:=top 53
theorem sc_fit:FnScope ["_law_paper"] ["_law_paper"] (aDq p6q):=⟨rfl,rfl,rfl,by decide +kernel,rfl,by decide +kernel,by decide +kernel⟩
theorem x2q (B:Blt mg) (g_text:Got P w K mg base 103 "_law_text" ["_law_paper"] (aUq K (eLq 101))) (F:Fun K "_law_fit" "_law_fit" p6q f fd):FnOk P w K mg base CX0 104 f fd ["_law_paper"] (aUq K t2q):=by
  refine okD (k:=103) F sc_fit (λ ds G DQ h=>?_) (λ cdv A outer s H E hr ds G DQ h=>?_)
  . obtain ⟨_,rfl,_⟩:=h;rfl
  obtain ⟨d,rfl,hp,q⟩:=h
  refine ⟨_,(a5q (cVq PassesOwn.never (aBq d5q (aCq aIq rfl B.len PySem.boot_len (a0q (a9q g_text hr (by omega) rfl (a0q (a1q 0) a2q)) a2q)) a3q (aAq _)) (a6q (aJq (k:=0) sc_fit.nd rfl (Or.inl rfl) (aGq aix (a1q 0) a3q (λ _ _=>rfl)))))
      (a6q (aEq (a1q 0)))),?_⟩
  refine ⟨λ μ ρ G'=>∃ d':D,ρ=[some d']/\G=G'/\PC2 700000 100 d'/\tsz d'=μ,⟨_,d,rfl,rfl,hp,rfl⟩,?_⟩
  rintro μ ρ G' ⟨d',rfl,rfl,⟨h1,x,t,l⟩,rfl⟩
  refine ⟨d',x,rfl,t,by omega,l,⟨big l,⟨λ c=>?_,λ c=>Dr.of (q d' ⟨h1,x,t,?_⟩)⟩⟩⟩
  . have c':=of_decide_eq_true c
    obtain ⟨z,p,r,y,rfl,t2,l2,s2,d2⟩:=rMq t (by show 5000 < (txt x).length;omega)
    exact Wk.of ⟨_,s2,p,rfl,rfl,⟨by omega,y,t2,by omega⟩,rfl⟩
  . have c':=of_decide_eq_false c
    show (txt x).length<=5000
    omega
abbrev i6q:Stmt:=top 54
theorem sc_plain:FnScope ["_law_found", "_law_one"] ["_law_found"] (aDq i6q):=⟨rfl,rfl,rfl,by decide +kernel,rfl,by decide +kernel,by decide +kernel⟩
theorem qNq:FnOk P w K mg base CX0 1 f fd ["_law_found"] (aUq K (e3q 0)):=wCq λ ds G DQ h=>by obtain ⟨_,_,_,h,_⟩:=h;omega
theorem qIq {n:Nat} (B:Blt mg) (g_plain:Got P w K mg base (n+1) "_law_plain" ["_law_found"] (aUq K (e3q n))) (F:Fun K "_law_plain" "_law_plain" i6q f fd):FnOk P w K mg base CX0 (n+2) f fd ["_law_found"] (aUq K (e3q (n+1))):=by
  refine okD (k:=n+1) F sc_plain (λ ds G DQ h=>?_) (λ cdv A outer s H E hr ds G DQ h=>?_)
  . obtain ⟨_,rfl,_⟩:=h;rfl
  obtain ⟨d,rfl,ha,hd,q⟩:=h
  refine ⟨_,(a5q (aNq (b2q (aCq b5q rfl B.isinstance PyProof.Rows.boot_isinstance (a0q (a1q 0) (a0q (bJq rfl B.tuple PyProof.Rows.boot_tuple) a2q)))) (a5q (fSq PassesOwn.never rfl (e1q (a1q 0)) (bLq (k:=1) sc_plain.nd rfl (Or.inl rfl)) (a6q (aNq (d7q (b2q (a9q g_plain hr (by omega) rfl (a0q (a1q 1) a2q)))) (a6q (aEq k7q)) aFq)))
      (a6q (aEq k7q))) aFq)
      (a6q (aEq (cIq (aCq mOq rfl B.isinstance PyProof.Rows.boot_isinstance (a0q (a1q 0) (a0q (b4q (a0q (bJq rfl B.str PyProof.Rows.boot_str) (a0q (bJq rfl B.int PyProof.Rows.boot_int) a2q))) a2q))) (dEq (oPq (aCq b5q rfl B.isinstance PyProof.Rows.boot_isinstance (a0q (a1q 0) (a0q (bJq rfl B.bool PyProof.Rows.boot_bool) a2q))))))))),?_⟩
  cases ha with
  | int m=>exact ⟨false,rfl,⟨nofun,λ _=>⟨rfl,⟨λ _=>⟨false,rfl,Dr.of q⟩,nofun⟩⟩⟩⟩
  | str z=>exact ⟨false,rfl,⟨nofun,λ _=>⟨rfl,⟨λ _=>⟨false,rfl,Dr.of q⟩,nofun⟩⟩⟩⟩
  | @tup es hes=>
    refine ⟨true,rfl,⟨λ _=>?_,nofun⟩⟩
    refine ⟨λ i ρ G'=>∃ o1:Option D,ρ=[some (.tup es),o1]/\G=G',⟨_,rfl,rfl⟩,λ _ _ _ _ _=>trivial,?_,?_⟩
    . rintro i e ρ G' he ⟨o1,rfl,rfl⟩
      have he':es[i]?=some e:=he
      have hm:=List.mem_of_getElem? he'
      refine ⟨e,rfl,hes e hm,?_,⟨nofun,λ _=>Wk.of ⟨_,rfl,rfl⟩⟩⟩
      have:=dMq hm
      simp only [D.dp] at hd;omega
    . rintro ρ G' ⟨o1,rfl,rfl⟩
      exact Dr.of q
abbrev jTq:Stmt:=top 55
theorem sc_good:FnScope ["_law_paper", "_law_text_here", "_law_back", "_law_found"] ["_law_paper", "_law_text_here"] (aDq jTq):=⟨rfl,rfl,rfl,by decide +kernel,rfl,by decide +kernel,by decide +kernel⟩
theorem w0q (B:Blt mg) (g_readp:Got P w K mg base 5 "read_paper" ["text"] (aUq K kFq)) (g_plain:Got P w K mg base 102 "_law_plain" ["_law_found"] (aUq K (e3q 101))) (g_showp:Got P w K mg base 6 "show_paper" ["paper"] (aUq K kJq)) (F:Fun K "_law_good" "_law_good" jTq f fd):FnOk P w K mg base CX0 110 f fd ["_law_paper", "_law_text_here"] (aUq K q0q):=by
  refine okD (k:=109) F sc_good (λ ds G DQ h=>?_) (λ cdv A outer s H E hr ds G DQ h=>?_)
  . obtain ⟨_,_,rfl,_⟩:=h;rfl
  obtain ⟨d,x,rfl,hx,hs,hd,q⟩:=h
  refine ⟨_,(a5q (aJq (k:=2) sc_good.nd rfl (Or.inl rfl) (a9q g_readp hr (by omega) rfl (a0q (a1q 1) a2q)))
      (a5q (aNq (AW.at (dBq (d7q (b2q (a9q g_plain hr (by omega) rfl (a0q (a1q 2) a2q)))) (cMq (aBq (dYq (aQq hr)) (a1q 2) (a1q 0) (aAq _))))) (a6q (aEq k7q)) aFq)
      (a5q (aJq (k:=3) sc_good.nd rfl (Or.inl rfl) (a9q g_showp hr (by omega) rfl (a0q (a1q 0) a2q)))
      (a6q (aEq (cIq (aCq b5q rfl B.isinstance PyProof.Rows.boot_isinstance (a0q (a1q 3) (a0q (bJq rfl B.str PyProof.Rows.boot_str) a2q))) (cIq (cDq (aKq (aQq hr)) (a1q 3) (a1q 1) (aAq _)) (dEq (cDq (aKq (aQq hr)) (a9q g_showp hr (by omega) rfl (a0q (a1q 2) a2q)) (a1q 1) (aAq _)))))))))),?_⟩
  obtain ⟨xd,xa⟩:=uZq hx
  refine ⟨d,x,rfl,hx,hs,⟨d,rfl,xa,by omega,⟨nofun,λ _=>aB3q xd xd (by omega) ⟨λ c=>?_,λ _=>⟨d,x,rfl,hx,hs,⟨true,rfl,⟨λ _=>⟨λ _=>⟨d,x,rfl,hx,hs,Dr.of ?_⟩,λ c=>?_⟩,nofun⟩⟩⟩⟩⟩⟩⟩
  . rw [c1q xd] at c;cases c
  . rw [show id (txt x==txt x)=true from beq_self_eq_true _];exact q
  . rw [show id (txt x==txt x)=true from beq_self_eq_true _] at c;cases c
abbrev gEq:Stmt:=top 56
theorem sc_law:FnScope ["_law_script", "_law_feed_here", "_law_paper", "_law_other", "_law_text_here"] ["_law_script"] (aDq gEq):=⟨rfl,rfl,rfl,by decide +kernel,rfl,by decide +kernel,by decide +kernel⟩
theorem xBq (B:Blt mg) (g_feed:Got P w K mg base 1 "_law_feed" ["_law_script", "_law_k"] (aUq K jOq)) (g_take:Got P w K mg base 1 "_law_take" ["_law_feed_here", "_law_many"] (aUq K ePq)) (g_shape:Got P w K mg base 27 "_law_shape" ["_law_feed_here", "_law_room", "_law_deep"] (aUq K (fFq 15))) (g_fit:Got P w K mg base 104 "_law_fit" ["_law_paper"] (aUq K t2q)) (g_text:Got P w K mg base 103 "_law_text" ["_law_paper"] (aUq K (eLq 101))) (g_good:Got P w K mg base 110 "_law_good" ["_law_paper", "_law_text_here"] (aUq K q0q)) (F:Fun K "law" "law" gEq f fd):FnOk P w K mg base CX0 120 f fd ["_law_script"] (aUq K s5q):=by
  refine okD (k:=119) F sc_law (λ ds G DQ h=>?_) (λ cdv A outer s H E hr ds G DQ h=>?_)
  . obtain ⟨_,rfl,_⟩:=h;rfl
  obtain ⟨ns,rfl,hl,q⟩:=h
  refine ⟨_,(a5q (aJq (k:=1) sc_law.nd rfl (Or.inl rfl) (a9q g_feed hr (by omega) rfl (a0q (a1q 0) (a0q a3q a2q))))
      (a5q (aJq (k:=2) sc_law.nd rfl (Or.inl rfl) (a9q g_fit hr (by omega) rfl (a0q (a9q g_shape hr (by omega) rfl (a0q (a1q 1) (a0q (aSq aTq a3q (a9q g_take hr (by omega) rfl (a0q (a1q 1) (a0q a3q a2q)))) (a0q a3q a2q)))) a2q)))
      (a5q (aJq (k:=3) sc_law.nd rfl (Or.inl rfl) (a9q g_fit hr (by omega) rfl (a0q (a9q g_shape hr (by omega) rfl (a0q (a9q g_feed hr (by omega) rfl (a0q (a1q 0) (a0q a3q a2q))) (a0q a3q (a0q a3q a2q)))) a2q)))
      (a5q (aJq (k:=4) sc_law.nd rfl (Or.inl rfl) (a9q g_text hr (by omega) rfl (a0q (a1q 2) a2q)))
      (a6q (aEq (cIq (a9q g_good hr (by omega) rfl (a0q (a1q 2) (a0q (a1q 4) a2q))) (cIq (a9q g_good hr (by omega) rfl (a0q (a1q 3) (a0q (a9q g_text hr (by omega) rfl (a0q (a1q 3) a2q)) a2q))) (dEq (a9q g_good hr (by omega) rfl (a0q (a1q 2) (a0q (a1q 4) a2q)))))))))))),?_⟩
  refine ⟨ns,rfl,hl,by omega,by omega,λ a xa ya ha=>⟨.up,by decide,by decide,λ m G1 u1 m0 m1=>⟨a,1+m,14,rfl,u1.fd,by omega,by omega,by omega,by omega,by omega,λ d1 G2 w2 p1=>⟨d1,rfl,p1.mono (by omega) (by decide),λ d2 ⟨hd2,x2,t2,l2⟩=>⟨ns,rfl,hl,by omega,by omega,λ a' xa' ya' ha'=>⟨a',6,4,rfl,.up,by omega,by omega,by omega,by omega,by omega,λ d3 G4 w4 p3=>⟨d3,rfl,p3.mono (by decide) (by decide),λ d4 ⟨hd4,x4,t4,l4⟩=>⟨d2,x2,rfl,t2,by omega,by omega,⟨d2,x2,rfl,t2,l2,hd2,⟨λ _=>⟨d4,x4,rfl,t4,by omega,by omega,⟨d4,x4,rfl,t4,l4,hd4,⟨λ _=>⟨d2,x2,rfl,t2,l2,hd2,Dr.of (q _)⟩,nofun⟩⟩⟩,nofun⟩⟩⟩⟩⟩⟩⟩⟩⟩⟩
end
end KB
namespace KB
open PySem L2 L3
set_option maxHeartbeats 4000000
theorem wIq {l:PySem.W.OpenLaw} {w:World} {K:PySem.W.Frag} {h:Heap} {mg:Str->Option Value} {fa  : Addr} (X:K.In h) (G:h.Ns mainGlobals mg) (hfa:mg "law" = some (.ref fa))
    (d0:DT K "flat" kGq) (d1:DT K "is_whole_number" nLq) (d2:DT K "is_kind" f4q) (d3:DT K "has_kind_form" oZq) (d4:DT K "has_answer_word" oOq) (d5:DT K "inner_kinds" k2q) (d6:DT K "is_sorted" fQq) (d7:DT K "spelled_out" lYq) (d8:DT K "bracketed" nPq) (d9:DT K "pieces_of" g4q) (d10:DT K "is_whole_text" k0q) (d11:DT K "made_of" g1q) (d12:DT K "show_kind" kUq) (d13:DT K "spelled_kind" pCq) (d14:DT K "read_kind" jXq) (d15:DT K "read_piece" f9q) (d16:DT K "kind_closed" p1q) (d17:DT K "way_closed" jVq) (d18:DT K "pair_closed" hVq) (d19:DT K "inner_papers" k5q) (d20:DT K "show_paper" hSq) (d21:DT K "spelled_paper" oXq) (d22:DT K "read_paper" i5q) (d23:DT K "kind_end" jSq) (d24:DT K "paper_closed" oKq) (d25:DT K "_law_feed" kXq) (d26:DT K "_law_take" kKq) (d27:DT K "_law_answer_kind" fWq) (d28:DT K "_law_kind" kCq) (d29:DT K "_law_shape" iDq) (d30:DT K "_law_kind_text" iFq) (d31:DT K "_law_text" kYq) (d32:DT K "_law_fit" p6q) (d33:DT K "_law_plain" i6q) (d34:DT K "_law_good" jTq) (d35:DT K "law" gEq) (z0:PySem.W.nsIn K mainGlobals "len" = some none) (z1:PySem.W.nsIn K mainGlobals "isinstance" = some none) (z2:PySem.W.nsIn K mainGlobals "range" = some none) (z3:PySem.W.nsIn K mainGlobals "int" = some none) (z4:PySem.W.nsIn K mainGlobals "bool" = some none) (z5:PySem.W.nsIn K mainGlobals "str" = some none) (z6:PySem.W.nsIn K mainGlobals "tuple" = some none) (z7:PySem.W.nsIn K mainGlobals "list" = some none) (z8:PySem.W.nsIn K mainGlobals "sorted" = some none) (z9:PySem.W.nsIn K mainGlobals "all" = some none) (z10:PySem.W.nsIn K mainGlobals "reversed" = some none) (z11:PySem.W.nsIn K mainGlobals "min" = some none) (z12:PySem.W.nsIn K mainGlobals "max" = some none) (z13:PySem.W.nsIn K mainGlobals "enumerate" = some none) (z14:PySem.W.nsIn K mainGlobals "zip" = some none)
    {ti:Tok} (ti0:PySem.W.nsIn K mainGlobals "ITEM" = some (some (.int 1 ti)))
    {te:Tok} (te0:PySem.W.nsIn K mainGlobals "END" = some (some (.int 0 te)))
    {tm:Tok} (tm0:PySem.W.nsIn K mainGlobals "MOST_FIGURES" = some (some (.int 12 tm)))
    {tf:Tok} (tf0:PySem.W.nsIn K mainGlobals "FIGURES" = some (some (.str figs tf)))
    {ts:Tok} (ts0:PySem.W.nsIn K mainGlobals "SIGNS_kindtexts" = some (some (.str sgnS ts)))
    {tp:Tok} (tp0:PySem.W.nsIn K mainGlobals "SIGNS_papertexts" = some (some (.str sgnP tp)))
    {aI:Addr} (aI0:PySem.W.nsIn K mainGlobals "INNER_PAPERS" = some (some (.ref aI)))
    {eaI:Array DictEntry} {jaI:Nat} (aI1:K.lookup aI=some ⟨.type "dict", none,.dict eaI jaI,#[]⟩)
    (aI2:(aI==sysModules)=false)
 (aI3:PySem.W.KeysLit w.params eaI.toList)
    (aI4:Paired (λ(kv:Str × V) (e:DictEntry)=>(∃ t1,e.key=.str kv.1 t1)/\RelV kv.2 e.val) ipLV eaI.toList)
    {aS:Addr} (aS0:PySem.W.nsIn K mainGlobals "PAPER_OF_SIGN" = some (some (.ref aS)))
    {sA sB:Addr}
    {eaS:Array DictEntry} {jaS:Nat} (aS1:K.lookup aS=some ⟨.type "dict", none,.dict eaS jaS,#[]⟩)
    (aS2:(aS==sysModules)=false)
 (aS3:PySem.W.KeysLit w.params eaS.toList)
    (aS4:Paired (λ(kv:Str × V) (e:DictEntry)=>(∃ t1,e.key=.str kv.1 t1)/\RelV kv.2 e.val) [(".", .ref sA),("~", .ref sB)] eaS.toList)
    {isA:Array Value} {jsA:Nat} (sA1:K.lookup sA=some ⟨.type "tuple", none,.seq isA jsA,#[]⟩)
    (sA2:Nat.ble isA.size 1000=true)
    (sA3:Vals [V.str "whole"] isA.toList)
    {isB:Array Value} {jsB:Nat} (sB1:K.lookup sB=some ⟨.type "tuple", none,.seq isB jsB,#[]⟩)
    (sB2:Nat.ble isB.size 1000=true)
    (sB3:Vals [V.str "some"] isB.toList)
    {aN:Addr} (aN0:PySem.W.nsIn K mainGlobals "NO_INNER_PAPERS" = some (some (.ref aN)))
    {iaN:Array Value} {jaN:Nat} (aN1:K.lookup aN=some ⟨.type "tuple", none,.seq iaN jaN,#[]⟩)
    (aN2:Nat.ble iaN.size 1000=true)
    (aN3:Vals [V.str "name", V.str "hole"] iaN.toList)
    : ∃ fd:FuncData,(∀ (s:Shared) (v:Value),BindsTo s fd ⟨[v],[]⟩ [("_law_script", v)])/\∀ base:Heap,K.In base->base.Ns mainGlobals mg->FnOk l.prog w K mg base CX0 120 fa fd ["_law_script"] (m5q K):=by
  obtain ⟨f0,_,a_flat,F_flat⟩:=d0.ok
  have b_flat:=F_flat.binds (ps:=gDq) λ _ _ _ _ _ _ us hl=>match us,hl with | [_],_=>rfl
  have m_flat:=PySem.W.mg_of X G a_flat
  have kp_flat:=F_flat.kp
  obtain ⟨f1,_,a_isw,F_isw⟩:=d1.ok
  have b_isw:=F_isw.binds (ps:=jEq) λ _ _ _ _ _ _ us hl=>match us,hl with | [_],_=>rfl
  have m_isw:=PySem.W.mg_of X G a_isw
  have kp_isw:=F_isw.kp
  obtain ⟨f2,_,a_iskind,F_iskind⟩:=d2.ok
  have b_iskind:=F_iskind.binds (ps:=eSq) λ _ _ _ _ _ _ us hl=>match us,hl with | [_],_=>rfl
  have m_iskind:=PySem.W.mg_of X G a_iskind
  have kp_iskind:=F_iskind.kp
  obtain ⟨f3,_,a_hkf,F_hkf⟩:=d3.ok
  have b_hkf:=F_hkf.binds (ps:=iZq) λ _ _ _ _ _ _ us hl=>match us,hl with | [_],_=>rfl
  have m_hkf:=PySem.W.mg_of X G a_hkf
  have kp_hkf:=F_hkf.kp
  obtain ⟨f4,_,a_haw,F_haw⟩:=d4.ok
  have b_haw:=F_haw.binds (ps:=jIq) λ _ _ _ _ _ _ us hl=>match us,hl with | [_],_=>rfl
  have m_haw:=PySem.W.mg_of X G a_haw
  have kp_haw:=F_haw.kp
  obtain ⟨f5,_,a_innk,F_innk⟩:=d5.ok
  have b_innk:=F_innk.binds (ps:=gYq) λ _ _ _ _ _ _ us hl=>match us,hl with | [_],_=>rfl
  have m_innk:=PySem.W.mg_of X G a_innk
  have kp_innk:=F_innk.kp
  obtain ⟨f6,_,a_sorted,F_sorted⟩:=d6.ok
  have b_sorted:=F_sorted.binds (ps:=eOq) λ _ _ _ _ _ _ us hl=>match us,hl with | [_],_=>rfl
  have m_sorted:=PySem.W.mg_of X G a_sorted
  have kp_sorted:=F_sorted.kp
  obtain ⟨f7,_,a_out,F_out⟩:=d7.ok
  have b_out:=F_out.binds (ps:=fTq) λ _ _ _ _ _ _ us hl=>match us,hl with | [_,_],_=>rfl
  have m_out:=PySem.W.mg_of X G a_out
  have kp_out:=F_out.kp
  obtain ⟨f8,_,a_brk,F_brk⟩:=d8.ok
  have b_brk:=F_brk.binds (ps:=j6q) λ _ _ _ _ _ _ us hl=>match us,hl with | [_,_],_=>rfl
  have m_brk:=PySem.W.mg_of X G a_brk
  have kp_brk:=F_brk.kp
  obtain ⟨f9,_,a_pieces,F_pieces⟩:=d9.ok
  have b_pieces:=F_pieces.binds (ps:=d8q) λ _ _ _ _ _ _ us hl=>match us,hl with | [_,_],_=>rfl
  have m_pieces:=PySem.W.mg_of X G a_pieces
  have kp_pieces:=F_pieces.kp
  obtain ⟨f10,_,a_iswt,F_iswt⟩:=d10.ok
  have b_iswt:=F_iswt.binds (ps:=gIq) λ _ _ _ _ _ _ us hl=>match us,hl with | [_,_],_=>rfl
  have m_iswt:=PySem.W.mg_of X G a_iswt
  have kp_iswt:=F_iswt.kp
  obtain ⟨f11,_,a_madeof,F_madeof⟩:=d11.ok
  have b_madeof:=F_madeof.binds (ps:=eTq) λ _ _ _ _ _ _ us hl=>match us,hl with | [_,_],_=>rfl
  have m_madeof:=PySem.W.mg_of X G a_madeof
  have kp_madeof:=F_madeof.kp
  obtain ⟨f12,_,a_show,F_show⟩:=d12.ok
  have b_show:=F_show.binds (ps:=gWq) λ _ _ _ _ _ _ us hl=>match us,hl with | [_],_=>rfl
  have m_show:=PySem.W.mg_of X G a_show
  have kp_show:=F_show.kp
  obtain ⟨f13,_,a_spk,F_spk⟩:=d13.ok
  have b_spk:=F_spk.binds (ps:=iGq) λ _ _ _ _ _ _ us hl=>match us,hl with | [_],_=>rfl
  have m_spk:=PySem.W.mg_of X G a_spk
  have kp_spk:=F_spk.kp
  obtain ⟨f14,_,a_read,F_read⟩:=d14.ok
  have b_read:=F_read.binds (ps:=gQq) λ _ _ _ _ _ _ us hl=>match us,hl with | [_],_=>rfl
  have m_read:=PySem.W.mg_of X G a_read
  have kp_read:=F_read.kp
  obtain ⟨f15,_,a_rpiece,F_rpiece⟩:=d15.ok
  have b_rpiece:=F_rpiece.binds (ps:=eVq) λ _ _ _ _ _ _ us hl=>match us,hl with | [_],_=>rfl
  have m_rpiece:=PySem.W.mg_of X G a_rpiece
  have kp_rpiece:=F_rpiece.kp
  obtain ⟨f16,_,a_kcl,F_kcl⟩:=d16.ok
  have b_kcl:=F_kcl.binds (ps:=j1q) λ _ _ _ _ _ _ us hl=>match us,hl with | [_,_],_=>rfl
  have m_kcl:=PySem.W.mg_of X G a_kcl
  have kp_kcl:=F_kcl.kp
  obtain ⟨f17,_,a_wayc,F_wayc⟩:=d17.ok
  have b_wayc:=F_wayc.binds (ps:=h5q) λ _ _ _ _ _ _ us hl=>match us,hl with | [_],_=>rfl
  have m_wayc:=PySem.W.mg_of X G a_wayc
  have kp_wayc:=F_wayc.kp
  obtain ⟨f18,_,a_pairc,F_pairc⟩:=d18.ok
  have b_pairc:=F_pairc.binds (ps:=fJq) λ _ _ _ _ _ _ us hl=>match us,hl with | [_],_=>rfl
  have m_pairc:=PySem.W.mg_of X G a_pairc
  have kp_pairc:=F_pairc.kp
  obtain ⟨f19,_,a_innp,F_innp⟩:=d19.ok
  have b_innp:=F_innp.binds (ps:=h0q) λ _ _ _ _ _ _ us hl=>match us,hl with | [_],_=>rfl
  have m_innp:=PySem.W.mg_of X G a_innp
  have kp_innp:=F_innp.kp
  obtain ⟨f20,_,a_showp,F_showp⟩:=d20.ok
  have b_showp:=F_showp.binds (ps:=f6q) λ _ _ _ _ _ _ us hl=>match us,hl with | [_],_=>rfl
  have m_showp:=PySem.W.mg_of X G a_showp
  have kp_showp:=F_showp.kp
  obtain ⟨f21,_,a_spp,F_spp⟩:=d21.ok
  have b_spp:=F_spp.binds (ps:=j9q) λ _ _ _ _ _ _ us hl=>match us,hl with | [_],_=>rfl
  have m_spp:=PySem.W.mg_of X G a_spp
  have kp_spp:=F_spp.kp
  obtain ⟨f22,_,a_readp,F_readp⟩:=d22.ok
  have b_readp:=F_readp.binds (ps:=g0q) λ _ _ _ _ _ _ us hl=>match us,hl with | [_],_=>rfl
  have m_readp:=PySem.W.mg_of X G a_readp
  have kp_readp:=F_readp.kp
  obtain ⟨f23,_,a_kend,F_kend⟩:=d23.ok
  have b_kend:=F_kend.binds (ps:=gMq) λ _ _ _ _ _ _ us hl=>match us,hl with | [_,_],_=>rfl
  have m_kend:=PySem.W.mg_of X G a_kend
  have kp_kend:=F_kend.kp
  obtain ⟨f24,_,a_pcl,F_pcl⟩:=d24.ok
  have b_pcl:=F_pcl.binds (ps:=jAq) λ _ _ _ _ _ _ us hl=>match us,hl with | [_],_=>rfl
  have m_pcl:=PySem.W.mg_of X G a_pcl
  have kp_pcl:=F_pcl.kp
  obtain ⟨f25,_,a_feed,F_feed⟩:=d25.ok
  have b_feed:=F_feed.binds (ps:=gXq) λ _ _ _ _ _ _ us hl=>match us,hl with | [_,_],_=>rfl
  have m_feed:=PySem.W.mg_of X G a_feed
  have kp_feed:=F_feed.kp
  obtain ⟨f26,_,a_take,F_take⟩:=d26.ok
  have b_take:=F_take.binds (ps:=gOq) λ _ _ _ _ _ _ us hl=>match us,hl with | [_,_],_=>rfl
  have m_take:=PySem.W.mg_of X G a_take
  have kp_take:=F_take.kp
  obtain ⟨f27,_,a_lakind,F_lakind⟩:=d27.ok
  have b_lakind:=F_lakind.binds (ps:=eQq) λ _ _ _ _ _ _ us hl=>match us,hl with | [_,_],_=>rfl
  have m_lakind:=PySem.W.mg_of X G a_lakind
  have kp_lakind:=F_lakind.kp
  obtain ⟨f28,_,a_kind,F_kind⟩:=d28.ok
  have b_kind:=F_kind.binds (ps:=gRq) λ _ _ _ _ _ _ us hl=>match us,hl with | [_,_],_=>rfl
  have m_kind:=PySem.W.mg_of X G a_kind
  have kp_kind:=F_kind.kp
  obtain ⟨f29,_,a_shape,F_shape⟩:=d29.ok
  have b_shape:=F_shape.binds (ps:=f7q) λ _ _ _ _ _ _ us hl=>match us,hl with | [_,_,_],_=>rfl
  have m_shape:=PySem.W.mg_of X G a_shape
  have kp_shape:=F_shape.kp
  obtain ⟨f30,_,a_ktext,F_ktext⟩:=d30.ok
  have b_ktext:=F_ktext.binds (ps:=fCq) λ _ _ _ _ _ _ us hl=>match us,hl with | [_],_=>rfl
  have m_ktext:=PySem.W.mg_of X G a_ktext
  have kp_ktext:=F_ktext.kp
  obtain ⟨f31,_,a_text,F_text⟩:=d31.ok
  have b_text:=F_text.binds (ps:=gZq) λ _ _ _ _ _ _ us hl=>match us,hl with | [_],_=>rfl
  have m_text:=PySem.W.mg_of X G a_text
  have kp_text:=F_text.kp
  obtain ⟨f32,_,a_fit,F_fit⟩:=d32.ok
  have b_fit:=F_fit.binds (ps:=iKq) λ _ _ _ _ _ _ us hl=>match us,hl with | [_],_=>rfl
  have m_fit:=PySem.W.mg_of X G a_fit
  have kp_fit:=F_fit.kp
  obtain ⟨f33,_,a_plain,F_plain⟩:=d33.ok
  have b_plain:=F_plain.binds (ps:=fAq) λ _ _ _ _ _ _ us hl=>match us,hl with | [_],_=>rfl
  have m_plain:=PySem.W.mg_of X G a_plain
  have kp_plain:=F_plain.kp
  obtain ⟨f34,_,a_good,F_good⟩:=d34.ok
  have b_good:=F_good.binds (ps:=h1q) λ _ _ _ _ _ _ us hl=>match us,hl with | [_,_],_=>rfl
  have m_good:=PySem.W.mg_of X G a_good
  have kp_good:=F_good.kp
  have B:Blt mg:=⟨PySem.W.mg_none_of X G z0,PySem.W.mg_none_of X G z1,PySem.W.mg_none_of X G z2,PySem.W.mg_none_of X G z3,PySem.W.mg_none_of X G z4,PySem.W.mg_none_of X G z5,PySem.W.mg_none_of X G z6,PySem.W.mg_none_of X G z7,PySem.W.mg_none_of X G z8,PySem.W.mg_none_of X G z9,PySem.W.mg_none_of X G z10,PySem.W.mg_none_of X G z11,PySem.W.mg_none_of X G z12,PySem.W.mg_none_of X G z13,PySem.W.mg_none_of X G z14⟩
  obtain ⟨f35,_,a_law,F_law⟩:=d35.ok
  cases hfa.symm.trans (PySem.W.mg_of X G a_law)
  obtain ⟨_,_,kV,dc,pm,an,cd,ct,_,rfl,l9,c9⟩:=F_law.ex
  refine ⟨PySem.W.fnOf "law" "law" (cRq gEq) (bTq gEq) (aDq gEq) .none kV dc pm an cd ct,λ s v=>.of_eq rfl,λ base _ _ =>?_⟩
  have m_ITEM:=PySem.W.mg_of X G ti0
  have m_END:=PySem.W.mg_of X G te0
  have m_MOST_FIGURES:=PySem.W.mg_of X G tm0
  have m_FIGURES:=PySem.W.mg_of X G tf0
  have m_SIGNS_kindtexts:=PySem.W.mg_of X G ts0
  have m_SIGNS_papertexts:=PySem.W.mg_of X G tp0
  have m_INNER_PAPERS:=PySem.W.mg_of X G aI0
  have m_PAPER_OF_SIGN:=PySem.W.mg_of X G aS0
  have m_NO_INNER_PAPERS:=PySem.W.mg_of X G aN0
  have T_INNER_PAPERS:KTabD K w aI ipT:=oHq aI1 aI2 aI3 aI4 (λ _=>rfl) ipP
  have T_PAPER_OF_SIGN:KTabD K w aS psT:=oHq (L:=psL) aS1 aS2 aS3 aS4 (λ _=>rfl) (.cons ⟨rfl,λ _=>⟨sA,_,rfl,nZq sA1 sA2 sA3,eBq ["whole"]⟩⟩ (.cons ⟨rfl,λ _=>⟨sB,_,rfl,nZq sB1 sB2 sB3,eBq ["some"]⟩⟩ .nil))
  have t_NO_INNER_PAPERS:∀ H,Abs K H (.tup [.str "name", .str "hole"]) (.ref aN):=λ _=>⟨aN,_,rfl,nZq aN1 aN2 aN3,eBq ["name", "hole"]⟩
  have g_isw:Got l.prog w K mg base 1 "is_whole_number" jEq (aUq K kLq):=⟨_,_,zCq B F_isw,m_isw,kp_isw,b_isw⟩
  have g_haw:Got l.prog w K mg base 1 "has_answer_word" jIq (aUq K uPq):=⟨_,_,wRq B F_haw,m_haw,kp_haw,b_haw⟩
  have g_hkf:Got l.prog w K mg base 2 "has_kind_form" iZq (aUq K u6q):=⟨_,_,aC8q B g_isw g_haw F_hkf,m_hkf,kp_hkf,b_hkf⟩
  have g_innk:Got l.prog w K mg base 1 "inner_kinds" gYq (aUq K nNq):=⟨_,_,tAq B F_innk,m_innk,kp_innk,b_innk⟩
  have g_flat:Got l.prog w K mg base 1 "flat" gDq (aUq K o9q):=⟨_,_,tIq B m_ITEM m_END F_flat,m_flat,kp_flat,b_flat⟩
  have g_sorted:Got l.prog w K mg base 2 "is_sorted" eOq (aUq K hYq):=⟨_,_,oIq B g_flat F_sorted,m_sorted,kp_sorted,b_sorted⟩
  have g_iskind:Got l.prog w K mg base 3 "is_kind" eSq (aUq K i4q):=⟨_,_,p3q B g_hkf g_innk g_sorted F_iskind,m_iskind,kp_iskind,b_iskind⟩
  have g_madeof:Got l.prog w K mg base 1 "made_of" eTq (aUq K hZq):=⟨_,_,nFq B F_madeof,m_madeof,kp_madeof,b_madeof⟩
  have g_iswt:Got l.prog w K mg base 2 "is_whole_text" gIq (aUq K hRq):=⟨_,_,v7q B m_FIGURES g_madeof F_iswt,m_iswt,kp_iswt,b_iswt⟩
  have g_pieces:Got l.prog w K mg base 1 "pieces_of" d8q (aUq K lDq):=⟨_,_,jPq xOq B F_pieces,m_pieces,kp_pieces,b_pieces⟩
  have g_piecesP:Got l.prog w K mg base 1 "pieces_of" d8q (aUq K jQq):=⟨_,_,jPq uAq B F_pieces,m_pieces,kp_pieces,b_pieces⟩
  have g_spk:Got l.prog w K mg base 1 "spelled_kind" iGq (aUq K tLq):=⟨_,_,zVq B F_spk,m_spk,kp_spk,b_spk⟩
  obtain ⟨fk,m_spelled_kind,G_spelled⟩:=g_spk.fnV
  have g_out:Got l.prog w K mg base 2 "spelled_out" fTq (aUq K (uFq fk)):=⟨_,_,aC0q B G_spelled F_out,m_out,kp_out,b_out⟩
  have g_show:Got l.prog w K mg base 3 "show_kind" gWq (aUq K kBq):=⟨_,_,w4q m_spelled_kind g_out F_show,m_show,kp_show,b_show⟩
  have g_rpiece:Got l.prog w K mg base 3 "read_piece" eVq (aUq K kHq):=⟨_,_,pMq B m_MOST_FIGURES g_iswt F_rpiece,m_rpiece,kp_rpiece,b_rpiece⟩
  have g_wayc:Got l.prog w K mg base 1 "way_closed" h5q (aUq K nKq):=⟨_,_,v0q B F_wayc,m_wayc,kp_wayc,b_wayc⟩
  have g_pairc:Got l.prog w K mg base 1 "pair_closed" fJq (aUq K kIq):=⟨_,_,qXq B F_pairc,m_pairc,kp_pairc,b_pairc⟩
  have g_kcl:Got l.prog w K mg base 2 "kind_closed" j1q (aUq K w5q):=⟨_,_,yVq g_wayc g_pairc F_kcl,m_kcl,kp_kcl,b_kcl⟩
  have g_read:Got l.prog w K mg base 4 "read_kind" gQq (aUq K jUq):=⟨_,_,vHq B m_SIGNS_kindtexts g_pieces g_kcl g_rpiece g_iskind F_read,m_read,kp_read,b_read⟩
  have g_brk:Got l.prog w K mg base 1 "bracketed" j6q (aUq K u8q):=⟨_,_,wYq F_brk,m_brk,kp_brk,b_brk⟩
  have g_innp:Got l.prog w K mg base 1 "inner_papers" h0q (aUq K nSq):=⟨_,_,vKq m_NO_INNER_PAPERS t_NO_INNER_PAPERS F_innp,m_innp,kp_innp,b_innp⟩
  have g_spp:Got l.prog w K mg base 4 "spelled_paper" j9q (aUq K v9q):=⟨_,_,yTq g_show g_brk g_innp F_spp,m_spp,kp_spp,b_spp⟩
  obtain ⟨fp,m_spelled_paper,G_spelledP⟩:=g_spp.fnV
  have g_outP:Got l.prog w K mg base 5 "spelled_out" fTq (aUq K (pGq fp)):=⟨_,_,tVq B G_spelledP F_out,m_out,kp_out,b_out⟩
  have g_showp:Got l.prog w K mg base 6 "show_paper" f6q (aUq K kJq):=⟨_,_,qUq m_spelled_paper g_outP F_showp,m_showp,kp_showp,b_showp⟩
  have g_kend:Got l.prog w K mg base 1 "kind_end" gMq (aUq K p4q):=⟨_,_,vNq B F_kend,m_kend,kp_kend,b_kend⟩
  have g_pcl:Got l.prog w K mg base 1 "paper_closed" jAq (aUq K uDq):=⟨_,_,x0q B m_INNER_PAPERS T_INNER_PAPERS F_pcl,m_pcl,kp_pcl,b_pcl⟩
  have g_readp:Got l.prog w K mg base 5 "read_paper" g0q (aUq K kFq):=⟨_,_,r0q B m_SIGNS_papertexts m_PAPER_OF_SIGN T_PAPER_OF_SIGN g_piecesP g_kend g_pcl g_read F_readp,m_readp,kp_readp,b_readp⟩
  have g_feed:Got l.prog w K mg base 1 "_law_feed" gXq (aUq K jOq):=⟨_,_,uEq B F_feed,m_feed,kp_feed,b_feed⟩
  have g_take:Got l.prog w K mg base 1 "_law_take" gOq (aUq K ePq):=⟨_,_,uUq F_take,m_take,kp_take,b_take⟩
  have g_lakind:∀ n:Nat,Got l.prog w K mg base (n+2) "_law_answer_kind" eQq (aUq K (j2q n)):=λ n=>by
    induction n with
    | zero=>exact ⟨f27,_,q6q,m_lakind,kp_lakind,b_lakind⟩
    | succ n ih=>exact ⟨f27,_,nHq B g_take ih F_lakind,m_lakind,kp_lakind,b_lakind⟩
  have g_kind:∀ n:Nat,Got l.prog w K mg base (n+7) "_law_kind" gRq (aUq K (spKe n)):=λ n=>by
    induction n with
    | zero=>exact ⟨f28,_,t4q,m_kind,kp_kind,b_kind⟩
    | succ n ih=>exact ⟨f28,_,tBq B g_take (g_lakind 4) ih F_kind,m_kind,kp_kind,b_kind⟩
  have g_shape:∀ n:Nat,Got l.prog w K mg base (n+12) "_law_shape" f7q (aUq K (fFq n)):=λ n=>by
    induction n with
    | zero=>exact ⟨f29,_,qCq,m_shape,kp_shape,b_shape⟩
    | succ n ih=>exact ⟨f29,_,rZq B g_take (g_kind 4) ih F_shape,m_shape,kp_shape,b_shape⟩
  have g_ktext:∀ n:Nat,Got l.prog w K mg base (n+1) "_law_kind_text" fCq (aUq K (f5q n)):=λ n=>by
    induction n with
    | zero=>exact ⟨f30,_,rHq,m_ktext,kp_ktext,b_ktext⟩
    | succ n ih=>exact ⟨f30,_,qLq B ih F_ktext,m_ktext,kp_ktext,b_ktext⟩
  have g_text:∀ n:Nat,Got l.prog w K mg base (n+2) "_law_text" gZq (aUq K (eLq n)):=λ n=>by
    induction n with
    | zero=>exact ⟨f31,_,w6q,m_text,kp_text,b_text⟩
    | succ n ih=>exact ⟨f31,_,uQq B (g_ktext n) ih F_text,m_text,kp_text,b_text⟩
  have g_fit:Got l.prog w K mg base 104 "_law_fit" iKq (aUq K t2q):=⟨_,_,x2q B (g_text 101) F_fit,m_fit,kp_fit,b_fit⟩
  have g_plain:∀ n:Nat,Got l.prog w K mg base (n+1) "_law_plain" fAq (aUq K (e3q n)):=λ n=>by
    induction n with
    | zero=>exact ⟨f33,_,qNq,m_plain,kp_plain,b_plain⟩
    | succ n ih=>exact ⟨f33,_,qIq B ih F_plain,m_plain,kp_plain,b_plain⟩
  have g_good:Got l.prog w K mg base 110 "_law_good" h1q (aUq K q0q):=⟨_,_,w0q B g_readp (g_plain 101) g_showp F_good,m_good,kp_good,b_good⟩
  exact xBq B g_feed g_take (g_shape 15) g_fit (g_text 101) g_good F_law
theorem walk {l:PySem.W.OpenLaw} {q:Program} {loose:List Str} {XP:(Str->Option Value)->Heap->Prop} {YP:World->Heap->Prop} {d:DefRec} {K:Params->PySem.W.Frag} (hn:l.most=some 63) (hdf:d.params.defaults=[])
    (hY:∀ (w:World) (h:Heap),YP w h->(K w.params).In h)
    (F:∀ (w:World) (mg:Str->Option Value) (fa:Addr) (h:Heap),(K w.params).In h->h.Ns mainGlobals mg->mg d.name=some (.ref fa) →
      ∃ fd:FuncData,(∀ (s:Shared) (u:Value),BindsTo s fd ⟨[u],[]⟩ [("_law_script", u)])/\∀ base:Heap,(K w.params).In base->base.Ns mainGlobals mg->FnOk l.prog w (K w.params) mg base CX0 120 fa fd ["_law_script"] (m5q (K w.params))) :
    PySem.W.WalkO q loose XP YP l.row.toRowW d [] (λ f vs=>PySem.call f vs):=
  L2.uSq (n:=63) (k:=120) (x:="_law_script") (CX:=λ _=>CX0) (sp:=λ w=>m5q (K w.params)) hn (by decide) hdf ⟨rfl,by decide,by decide⟩ hY F (λ _ _ a ns hl o hS=>zXq hl o hS) λ _ _ _ _ _ z=>z
end KB
def PySem.W.Fast.tw3675172464350294093:=0
def PySem.W.Fast.tw7289501521354883620:=0
def PySem.W.Fast.tw4923134634973151496:=0
def PySem.W.Fast.tw14155991330552293413:=0
def PySem.W.Fast.tw1764179442056890180:=0
def PySem.W.Fast.tw10902859994117982976:=0
def PySem.W.Fast.tw5860209776423798680:=0
def PySem.W.Fast.tw10330927965929528012:=0
def PySem.W.Fast.tw5562133399759814468:=0
def PySem.W.Fast.tw2091713168435631280:=0
def PySem.W.Fast.tw13439130501341533116:=0
def PySem.W.Fast.tw15742856312957774147:=0
def PySem.W.Fast.tw16309843431849514410:=0
def PySem.W.Fast.tw820743354494993767:=0
def PySem.W.Fast.tw7790146367536319838:=0
def PySem.W.Fast.tw10180025271484459229:=0
def PySem.W.Fast.tw978509405504815640:=0
def PySem.W.Fast.tw3622800278974013023:=0
def PySem.W.Fast.tw7651719812013424651:=0
def PySem.W.Fast.tw18176918085081853129:=0
def PySem.W.Fast.tw6274764851645649748:=0
def PySem.W.Fast.tw3633613166348355373:=0
def PySem.W.Fast.tw715630130392778086:=0
def PySem.W.Fast.tw1086391379060699634:=0
def PySem.W.Fast.tw10161429416162996081:=0
def PySem.W.Fast.tw14695999548008578732:=0
def PySem.W.Fast.tw7737654557382003353:=0
def PySem.W.Fast.tw17613204709093859199:=0
def PySem.W.Fast.tw7999309432880530488:=0
def PySem.W.Fast.tw15550500734347002141:=0
def PySem.W.Fast.tw5992129132358524599:=0
def PySem.W.Fast.tw15956809374344441495:=0
def PySem.W.Fast.tw12780497147574883512:=0
def PySem.W.Fast.tw10945745500158468523:=0
def PySem.W.Fast.tw8874657111959155152:=0
def PySem.W.Fast.tw15837628747896079521:=0
def PySem.W.Fast.tw5069194668368344441:=0
def PySem.W.Fast.tw3464047050553983979:=0
def PySem.W.Fast.tw13301145269723959583:=0
def PySem.W.Fast.tw8365349241997277197:=0
def PySem.W.Fast.tw6677719912834920985:=0
def PySem.W.Fast.tw12605247841081410607:=0
def PySem.W.Fast.tw5622018198347590714:=0
def PySem.W.Fast.tw5590887444197570699:=0
def PySem.W.Fast.tw4983313790860047184:=0
def PySem.W.Fast.tw4716286722920137242:=0
def PySem.W.Fast.tw10108895445177130635:=0
def PySem.W.Fast.tw1029873893591324433:=0
def PySem.W.Fast.tw4913239316168631560:=0
def PySem.W.Fast.tw2206369369531821265:=0
def PySem.W.Fast.tw17281882833130739916:=0
def PySem.W.Fast.tw12535726811476936888:=0
def PySem.W.Fast.tw14649927701351059767:=0
def PySem.W.Fast.tw3071069655309283781:=0
def PySem.W.Fast.tw81666946715814873:=0
def PySem.W.Fast.tw2620090018600389158:=0
def PySem.W.Fast.tw13244418394670170551:=0
def PySem.W.Fast.tw15271739613737909483:=0
def PySem.W.Fast.tw13262746357938674771:=0
def PySem.W.Fast.tw190134026185651692:=0
def PySem.W.Fast.tw12276728203632009409:=0
def PySem.W.Fast.tw10635859245748512358:=0
def PySem.W.Fast.tw4503835053264008114:=0
def PySem.W.Fast.tw6521371589026896635:=0
def PySem.W.Fast.tw11562499683587602113:=0
def PySem.W.Fast.tw9069037138033144726:=0
def PySem.W.Fast.tw2460613508235119942:=0
def PySem.W.Fast.tw6720646784224830188:=0
def PySem.W.Fast.tw10919727208823718990:=0
def PySem.W.Fast.tw8430521064483787773:=0
def PySem.W.Fast.tw5449263750554891174:=0
def PySem.W.Fast.tw6539496648731376197:=0
def PySem.W.Fast.tw12574746376387765817:=0
def PySem.W.Fast.tw2203002580232187288:=0
def PySem.W.Fast.tw10076438526601733720:=0
def PySem.W.Fast.tw12149337455329874762:=0
def PySem.W.Fast.tw6397198295584736101:=0
def PySem.W.Fast.tw1298674644679596743:=0
def PySem.W.Fast.tw12831249282276415953:=0
def PySem.W.Fast.tw765097373037261776:=0
def PySem.W.Fast.tw3823183675089718715:=0
def PySem.W.Fast.tw3933735679533821847:=0
def PySem.W.Fast.tw11554143004018214749:=0
def PySem.W.Fast.tw8902452279457923213:=0
def PySem.W.Fast.tw1142543781206809973:=0
def PySem.W.Fast.tw3116576350696924558:=0
def PySem.W.Fast.tw9303541526211096377:=0
def PySem.W.Fast.tw4353916653697724455:=0
def PySem.W.Fast.tw8019453481288652160:=0
def PySem.W.Fast.tw6051524516654606882:=0
def PySem.W.Fast.tw16427557951349988376:=0
def PySem.W.Fast.tw1087381054197407693:=0
def PySem.W.Fast.tw8684350143757921315:=0
def PySem.W.Fast.tw761164140816821012:=0
def PySem.W.Fast.tw9258678669191243155:=0
def PySem.W.Fast.tw7068452356869981008:=0
def PySem.W.Fast.tw9646233371190613281:=0
def PySem.W.Fast.tw9115196497640296406:=0
def PySem.W.Fast.tw2543283573773082143:=0
def PySem.W.Fast.tw8769254362437163452:=0
open PySem PySem.W PyProof.Rows
set_option maxRecDepth 100000 in
set_option maxHeartbeats 0 in
theorem PySem.Challenge.cw_kindbags_k37_whole_papers_written_and_re_holds : PySem.Challenge.rw_kindbags_k37_whole_papers_written_and_re.Holds := by
  w_on; o_law; k_head; (case hw => w_witness2)
  k_fill
  refine KB.walk (l := PySem.Challenge.rw_kindbags_k37_whole_papers_written_and_re) rfl rfl (fun w h Y => PySem.W.kIn_of Y) ?F
  case F =>
    intro w mg fa h KX G hmg
    refine' KB.wIq KX G hmg ?_ ?_ ?_ ?_ ?_ ?_ ?_ ?_ ?_ ?_ ?_ ?_ ?_ ?_ ?_ ?_ ?_ ?_ ?_ ?_ ?_ ?_ ?_ ?_ ?_ ?_ ?_ ?_ ?_ ?_ ?_ ?_ ?_ ?_ ?_ ?_ ?_ ?_ ?_ ?_ ?_ ?_ ?_ ?_ ?_ ?_ ?_ ?_ ?_ ?_ ?_ ?ti0 ?te0 ?tm0 ?tf0 ?ts0 ?tp0 ?aI0 ?aI1 ?aI2 ?aI3 ?aI4 ?aS0 ?aS1 ?aS2 ?aS3 ?aS4 ?sA1 ?sA2 ?sA3 ?sB1 ?sB2 ?sB3 ?aN0 ?aN1 ?aN2 ?aN3
    (case ti0 => k_is)
    (case te0 => k_is)
    (case tm0 => k_is)
    (case tf0 => k_is)
    (case ts0 => k_is)
    (case tp0 => k_is)
    (case aI0 => k_is)
    (case aI1 => k_is)
    (case aI2 => rfl)
    (case aI3 => exact ⟨⟨_, _, rfl, rfl⟩, ⟨_, _, rfl, rfl⟩, ⟨_, _, rfl, rfl⟩, ⟨_, _, rfl, rfl⟩, ⟨_, _, rfl, rfl⟩, ⟨_, _, rfl, rfl⟩, ⟨_, _, rfl, rfl⟩, ⟨_, _, rfl, rfl⟩, ⟨_, _, rfl, rfl⟩, ⟨_, _, rfl, rfl⟩, trivial⟩)
    (case aI4 => exact .cons ⟨⟨_, rfl⟩, ⟨_, rfl⟩⟩ (.cons ⟨⟨_, rfl⟩, ⟨_, rfl⟩⟩ (.cons ⟨⟨_, rfl⟩, ⟨_, rfl⟩⟩ (.cons ⟨⟨_, rfl⟩, ⟨_, rfl⟩⟩ (.cons ⟨⟨_, rfl⟩, ⟨_, rfl⟩⟩ (.cons ⟨⟨_, rfl⟩, ⟨_, rfl⟩⟩ (.cons ⟨⟨_, rfl⟩, ⟨_, rfl⟩⟩ (.cons ⟨⟨_, rfl⟩, ⟨_, rfl⟩⟩ (.cons ⟨⟨_, rfl⟩, ⟨_, rfl⟩⟩ (.cons ⟨⟨_, rfl⟩, ⟨_, rfl⟩⟩ (.nil)))))))))))
    (case aS0 => k_is)
    (case aS1 => k_is)
    (case aS2 => rfl)
    (case aS3 => exact ⟨⟨_, _, rfl, rfl⟩, ⟨_, _, rfl, rfl⟩, trivial⟩)
    (case aS4 => exact .cons ⟨⟨_, rfl⟩, rfl⟩ (.cons ⟨⟨_, rfl⟩, rfl⟩ (.nil)))
    (case sA1 => k_is)
    (case sA2 => rfl)
    (case sA3 => exact .cons ⟨_, rfl⟩ (.nil))
    (case sB1 => k_is)
    (case sB2 => rfl)
    (case sB3 => exact .cons ⟨_, rfl⟩ (.nil))
    (case aN0 => k_is)
    (case aN1 => k_is)
    (case aN2 => rfl)
    (case aN3 => exact .cons ⟨_, rfl⟩ (.cons ⟨_, rfl⟩ (.nil)))
    all_goals first | k_is | (refine' L3.DT.mk ?_ ?_ ?_ ?_ <;> try k_is) | (refine' L3.DM.mk ?_ ?_ ?_ ?_ ?_ <;> try k_is) | (refine' L3.DTc.mk ?_ ?_ ?_ ?_ <;> try k_is) | (refine' L3.DMc.mk ?_ ?_ ?_ ?_ ?_ <;> try k_is) | skip
