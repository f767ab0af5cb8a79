import PyProof.Rows.All
import Wide.All
import OpenK.AllK
import Wide.FinOn
import Lean
import PyProof.EqAt
import PyProof.EqKinds
import PyProof.TupleCall
import PySem.Challenge.RW_kindbags_k29_kinds_of_answers
set_option Elab.async false
set_option linter.all false
set_option maxRecDepth 100000
namespace L2
open PySem PySem.Spec PyProof.Rows
abbrev Key:=Sum Int Str
def oQq:Key->Value->Bool
  | .inl k,v=>Value.isInt k v
  | .inr x,v=>Value.isStrOf x v
def uMq (w:World):Key->Int
  | .inl k=>hashInt k
  | .inr x=>hashStr w x
theorem aQq:∀ {k:Key} {v:Value},oQq k v=true->(∃ i t,k=Sum.inl i/\v=Value.int i t)\/(∃ x t,k=Sum.inr x/\v=Value.str x t)
  | .inl i,v,h=>by
    obtain ⟨t,e⟩:=Value.isInt_shape (k:=i) (v:=v) h
    exact .inl ⟨i,t,rfl,e⟩
  | .inr x,v,h=>by
    obtain ⟨t,e⟩:=Value.isStrOf_shape (x:=x) (v:=v) h
    exact .inr ⟨x,t,rfl,e⟩
theorem r7q (a b:Int):decide ((Sum.inl a:Key)=Sum.inl b)=(a==b):=by
  by_cases e:a=b
  . subst e;simp
  . have h:¬ (Sum.inl a:Key)=Sum.inl b:=λ q=>e (Sum.inl.inj q)
    rw [decide_eq_false h]
    exact (beq_eq_false_iff_ne.mpr e).symm
theorem pGq (a b:Str):decide ((Sum.inr a:Key)=Sum.inr b)=decide (a=b):=by
  by_cases e:a=b
  . subst e;simp
  . have h:¬ (Sum.inr a:Key)=Sum.inr b:=λ q=>e (Sum.inr.inj q)
    rw [decide_eq_false h,decide_eq_false e]
theorem qGq (a:Int) (b:Str):decide ((Sum.inl a:Key)=Sum.inr b)=false:=decide_eq_false (λ q=>nomatch q)
theorem p9q (a:Str) (b:Int):decide ((Sum.inr a:Key)=Sum.inl b)=false:=decide_eq_false (λ q=>nomatch q)
def gLq (prog:Program) (w:World):PySem.KeyKind prog w Key where
  is:=oQq
  hash:=uMq w
  inj:=λ v a b ha hb=>by
    rcases aQq ha with ⟨i,t,rfl,rfl⟩ | ⟨x,t,rfl,rfl⟩
    . rcases aQq hb with ⟨j,u,rfl,e⟩ | ⟨y,u,rfl,e⟩
      . injection e with e1 _;rw [e1]
      . exact nomatch e
    . rcases aQq hb with ⟨j,u,rfl,e⟩ | ⟨y,u,rfl,e⟩
      . exact nomatch e
      . injection e with e1 _;rw [e1]
  byValue:=λ k v h=>by
    rcases aQq h with ⟨i,t,rfl,rfl⟩ | ⟨x,t,rfl,rfl⟩<;>rfl
  pyHash:=λ hv h=>by
    rcases aQq hv with ⟨i,t,rfl,rfl⟩ | ⟨x,t,rfl,rfl⟩
    . exact wpAny_pyHash_int h
    . exact wpAny_pyHash_str h
  eqBool:=λ hu hv h=>by
    rcases aQq hu with ⟨i,t,rfl,rfl⟩ | ⟨x,t,rfl,rfl⟩
    . rcases aQq hv with ⟨j,u,rfl,rfl⟩ | ⟨y,u,rfl,rfl⟩
      . rw [r7q] at h;exact wpAny_eqBool_int h
      . rw [qGq] at h;exact SeqAt.EqAt.int_str i t y u _ _ _ _ h
    . rcases aQq hv with ⟨j,u,rfl,rfl⟩ | ⟨y,u,rfl,rfl⟩
      . rw [p9q] at h;exact SeqAt.EqAt.str_int x t j u _ _ _ _ h
      . rw [pGq] at h;exact wpAny_eqBool_str h
  «strs»:=λ k x t v h=>by
    rcases aQq h with ⟨i,u,rfl,e⟩ | ⟨y,u,rfl,e⟩
    . exact nomatch e
    . injection e with e1 _
      subst e1
      cases v<;>rfl
inductive V where
  | non | bl (b:Bool) | int (i:Int) | str (x:Str) | byt (b:Array UInt8) | flt (b:UInt64) | ref (a:Addr) | ty (n:String)
  deriving DecidableEq
def RelV:V->Value->Prop
  | .non,u=>u=Value.none
  | .bl b,u=>u=Value.bool b
  | .int i,u=>∃ t,u=Value.int i t
  | .str x,u=>∃ t,u=Value.str x t
  | .byt b,u=>∃ t,u=Value.bytes b t
  | .flt b,u=>∃ t,u=Value.float b t
  | .ref a,u=>u=Value.ref a
  | .ty n,u=>u=Value.type n
abbrev Vals:List V->List Value->Prop:=Paired RelV
theorem Vals.length {xs:List V} {us:List Value} (r:Vals xs us):xs.length=us.length:=Paired.length r
theorem Vals.get:∀ {xs:List V} {us:List Value} {i:Nat} {x:V},Vals xs us->xs[i]?=some x->∃ u,us[i]?=some u/\RelV x u
  | _,_,_,_,.nil,e=>by simp at e
  | _,_,0,_,.cons r _,e=>by simp at e;subst e;exact ⟨_,rfl,r⟩
  | _,_,i+1,x,.cons _ t,e=>by
    obtain ⟨u,h1,h2⟩:=Vals.get (i:=i) (x:=x) t (by simpa using e)
    exact ⟨u,by simpa using h1,h2⟩
theorem Vals.set {x:V} {u:Value} (r:RelV x u):∀ {xs:List V} {us:List Value} (i:Nat),Vals xs us->Vals (xs.set i x) (us.set i u)
  | _,_,_,.nil=>.nil
  | _,_,0,.cons _ t=>.cons r t
  | _,_,i+1,.cons q t=>.cons q (Vals.set r i t)
theorem Vals.append:∀ {xs ys:List V} {us ws:List Value},Vals xs us->Vals ys ws->Vals (xs++ys) (us++ws)
  | _,_,_,_,.nil,s=>s
  | _,_,_,_,.cons r t,s=>.cons r (Vals.append t s)
theorem Vals.take:∀ {xs:List V} {us:List Value} (n:Nat),Vals xs us->Vals (xs.take n) (us.take n)
  | _,_,0,_=>.nil
  | _,_,_+1,.nil=>.nil
  | _,_,n+1,.cons r t=>.cons r (Vals.take n t)
theorem Vals.drop:∀ {xs:List V} {us:List Value} (n:Nat),Vals xs us->Vals (xs.drop n) (us.drop n)
  | _,_,0,r=>r
  | _,_,_+1,.nil=>.nil
  | _,_,n+1,.cons _ t=>Vals.drop n t
def s0q:Option V->Option Value->Prop
  | some v,some u=>RelV v u
  | none,none=>True
  | _,_=>False
def KV {κ:Type}:List (κ × V)->List (κ × Value)->Prop:=Paired λ(p:κ × V) (q:κ × Value)=>p.1=q.1/\RelV p.2 q.2
def kV:Key->V
  | .inl i=>.int i
  | .inr x=>.str x
inductive HO where
  | lst (xs:List V)
  | tup (xs:List V)
  | dK (kvs:List (Key × V)) | dT (kvs:List (List Key × V))
  | set (S:Int->Bool) (n:Nat)
  | ins (C dx:Addr) (fs:List (Str × V))
  | own (x:Addr)
  | xd (fs:List (Str × V))
  | met (f x:Addr)
  | rng (lo hi:Int)
  | frz (o:Obj) (u:HO)
  | tbl (ps:Array Value)
  | ext (φ:Heap->Prop)
abbrev Hp:=Addr->Option HO
def upd (H:Hp) (a:Addr) (o:HO):Hp:=λ b=>if b=a then some o else H b
theorem aRq {H:Hp} {a:Addr} {o:HO}:upd H a o a=some o:=by unfold upd;rw [if_pos rfl]
theorem aGq {H:Hp} {a b:Addr} {o:HO} (h:b≠a):upd H a o b=H b:=by unfold upd;rw [if_neg h]
theorem aIq {H:Hp} {a b:Addr} {o:HO} (h:H a=some o) (h':H b=none):a≠b:=by
  intro e;subst e;rw [h] at h';cases h'
section
variable (P:Program) (w:World)
def ObjOk (H:Hp) (h:Heap) (a:Addr):HO->Prop
  | .lst xs=>xs.length<=sizeLine/\∃ (its:List Value) (n:Nat),Vals xs its/\h.get? a=some { cls:=.type "list", data:=.seq its.toArray n }
  | .tup xs=>xs.length<=sizeLine/\∃ its:List Value,Vals xs its/\IsTup h a its.toArray
  | .dK kvs=>kvs.length<=sizeLine/\(a==sysModules)=false/\∃ vs,KV kvs vs/\h.DictOf (gLq P w) a vs
  | .dT kvs=>kvs.length<=sizeLine/\(a==sysModules)=false/\∃ xs:List (List Key × Addr × Value),
      Paired (λ(p:List Key × V) (q:List Key × Addr × Value)=>p.1=q.1/\H q.2.1=some (.tup (p.1.map kV))/\RelV p.2 q.2.2) kvs xs ∧
      ∃ o es ep,h.get? a=some o/\o.ExactDict/\o.data=.dict es ep/\es.toList=xs.map (entryOfKey (tupleKind (gLq P w)))/\(xs.map (·.1)).Nodup
  | .set S n=>h.SetOf (intKind P w) a S n
  | .ins C dx fs=>H dx=some (.own a)/\fs.length<=1000/\dx≠a/\h.get? a=some (PySem.W.instObj C dx) ∧
      ∃ mA,h.Ns1 dx mA/\(∀ f,s0q (fs.lookup f) (mA f))/\PySem.Within mA (fs.map (·.1))
  | .own _=>∃ o,h.get? a=some o
  | .xd fs=>∃ mA,h.Ns1 a mA/\∀ f,s0q (fs.lookup f) (mA f)
  | .rng lo hi=>∃ t u v,h.get? a=some { cls:=.type "range", data:=.fields #[.int lo t,.int hi u,.int 1 v] }
  | .frz o u=>h.get? a=some o/\ObjOk H h a u
  | .tbl ps=>h.get? a=some { cls:=.none,data:=.fields ps }
  | .met f x=>h.get? a=some (PySem.W.methodObj (.ref f) (.ref x))
  | .ext φ=>φ h/\(∃ o,h.get? a=some o)/\∀ h1 h2:Heap,φ h1->(∀ o,h1.get? a=some o->h2.get? a=some o)->φ h2
def HOk (H:Hp) (h:Heap):Prop:=∀ a o,H a=some o->ObjOk P w H h a o
end
section
variable {P:Program} {w:World} {H H':Hp} {h h':Heap} {a:Addr} {o:HO}
theorem ObjOk.lt (x:ObjOk P w H h a o):a < h.objs.size:=by
  cases o with
  | lst xs=>obtain ⟨_,_,_,_,e⟩:=x;exact Heap.lt_size e
  | tup xs=>obtain ⟨_,_,_,p⟩:=x;exact p.lt
  | dK kvs=>obtain ⟨_,_,_,_,o,_,_,e,_⟩:=x;exact Heap.lt_size e
  | dT kvs=>obtain ⟨_,_,_,_,o,_,_,e,_⟩:=x;exact Heap.lt_size e
  | set S n=>obtain ⟨o,_,_,_,e,_⟩:=x;exact Heap.lt_size e
  | ins C dx fs=>obtain ⟨_,_,_,e,_⟩:=x;exact Heap.lt_size e
  | own y=>obtain ⟨_,e⟩:=x;exact Heap.lt_size e
  | xd fs=>obtain ⟨_,⟨_,_,_,e,_⟩,_⟩:=x;exact Heap.lt_size e
  | rng lo hi=>obtain ⟨_,_,_,e⟩:=x;exact Heap.lt_size e
  | frz ob u=>obtain ⟨e,_⟩:=x;exact Heap.lt_size e
  | tbl ps=>exact Heap.lt_size (show h.get? a=some _ from x)
  | met f y=>exact Heap.lt_size (show h.get? a=some _ from x)
  | ext φ=>obtain ⟨_,⟨_,e⟩,_⟩:=x;exact Heap.lt_size e
theorem Paired.mapP {α β:Type} {F G:α->β->Prop}:∀ {l₁:List α} {l₂:List β},Paired F l₁ l₂->(∀ a b,F a b->G a b)->Paired G l₁ l₂
  | _,_,.nil,_=>.nil
  | _,_,.cons r t,f=>.cons (f _ _ r) (Paired.mapP t f)
theorem ObjOk.stay (x:ObjOk P w H h a o) (k:∀ b u,(b=a\/H b=some (.own a))->h.get? b=some u->h'.get? b=some u)
    (ho:∀ b,H b=some (.own a)->H' b=some (.own a)) (ht:∀ b xs,H b=some (.tup xs)->H' b=some (.tup xs)):ObjOk P w H' h' a o:=by
  induction o with
  | lst xs=>obtain ⟨z,its,n,r,e⟩:=x;exact ⟨z,its,n,r,k _ _ (.inl rfl) e⟩
  | tup xs=>obtain ⟨z,its,r,ob,e,c⟩:=x;exact ⟨z,its,r,ob,k _ _ (.inl rfl) e,c⟩
  | dK kvs=>obtain ⟨z,y,vs,r,ob,es,ep,e,c⟩:=x;exact ⟨z,y,vs,r,ob,es,ep,k _ _ (.inl rfl) e,c⟩
  | dT kvs=>
    obtain ⟨z,y,xs,r,ob,es,ep,e,c⟩:=x
    exact ⟨z,y,xs,Paired.mapP r λ p q z=>⟨z.1,ht _ _ z.2.1,z.2.2⟩,ob,es,ep,k _ _ (.inl rfl) e,c⟩
  | set S n=>obtain ⟨ob,es,ep,t,e,c⟩:=x;exact ⟨ob,es,ep,t,k _ _ (.inl rfl) e,c⟩
  | ins C dx fs=>
    obtain ⟨d,z,ne,e,mA,⟨od,es,ep,e2,c⟩,r⟩:=x
    exact ⟨ho _ d,z,ne,k _ _ (.inl rfl) e,mA,⟨od,es,ep,k _ _ (.inr d) e2,c⟩,r⟩
  | own y=>obtain ⟨ob,e⟩:=x;exact ⟨ob,k _ _ (.inl rfl) e⟩
  | xd fs=>obtain ⟨mA,⟨od,es,ep,e,c⟩,r⟩:=x;exact ⟨mA,⟨od,es,ep,k _ _ (.inl rfl) e,c⟩,r⟩
  | rng lo hi=>obtain ⟨t,u,v,e⟩:=x;exact ⟨t,u,v,k _ _ (.inl rfl) e⟩
  | frz ob u ih=>obtain ⟨e,q⟩:=x;exact ⟨k _ _ (.inl rfl) e,ih q⟩
  | tbl ps=>
    have e:h.get? a=some { cls:=.none,data:=.fields ps }:=x
    show h'.get? a=some { cls:=.none,data:=.fields ps }
    exact k a _ (.inl rfl) e
  | met f y=>
    have e:h.get? a=some (PySem.W.methodObj (.ref f) (.ref y)):=x
    show h'.get? a=some (PySem.W.methodObj (.ref f) (.ref y))
    exact k a _ (.inl rfl) e
  | ext φ=>obtain ⟨p,⟨o,e⟩,st⟩:=x;exact ⟨st _ _ p λ o q=>k _ _ (.inl rfl) q,⟨o,k _ _ (.inl rfl) e⟩,st⟩
theorem HOk.lt (x:HOk P w H h) (e:H a=some o):a < h.objs.size:=(x a o e).lt
theorem HOk.fresh (x:HOk P w H h) (e:h.objs.size<=a):H a=none:=by
  cases q:H a with
  | none=>rfl
  | some u=>exact absurd (Nat.lt_of_lt_of_le (x.lt q) e) (Nat.lt_irrefl _)
theorem HOk.kept (x:HOk P w H h) (k:∀ b u,h.get? b=some u->h'.get? b=some u):HOk P w H h':=λ a o e=>
  (x a o e).stay (λ b u _ q=>k b u q) (λ _ q=>q) λ _ _ q=>q
theorem HOk.laid (x:HOk P w H h) (k:∀ b u,h.get? b=some u->h'.get? b=some u) (hp:h.objs.size<=a) (new:ObjOk P w (upd H a o) h' a o):HOk P w (upd H a o) h':=λ b u e=>by
  have hn:=x.fresh hp
  by_cases hb:b=a
  . subst hb;rw [aRq] at e;cases e;exact new
  . rw [aGq hb] at e
    exact (x b u e).stay (λ c v _ q=>k c v q) (λ c q=>by rw [aGq (aIq q hn)];exact q) λ c xs q=>by rw [aGq (aIq q hn)];exact q
end
def Rd (H:Hp) (a:Addr) (u:HO):Prop:=H a=some u\/∃ o,H a=some (.frz o u)
theorem Rd.ok {P:Program} {w:World} {H:Hp} {h:Heap} {a:Addr} {u:HO} (r:Rd H a u) (x:HOk P w H h):ObjOk P w H h a u:=by
  rcases r with r | ⟨o,r⟩
  . exact x a u r
  . obtain ⟨_,q⟩:=x a _ r
    exact q
def Mut:Option HO->Prop
  | some (.lst _)=>True
  | some (.dK _)=>True
  | some (.dT _)=>True
  | some (.set _ _)=>True
  | some (.ins _ _ _)=>True
  | some (.ext _)=>True
  | _=>False
section
variable {P:Program} {w:World} {H:Hp} {h h':Heap} {x e:Addr} {o':HO}
theorem HOk.write (ok:HOk P w H h) (mu:Mut (H x)) (he:e=x\/H e=some (.own x)) (k:∀ b u,b≠e->h.get? b=some u->h'.get? b=some u) (heo:∃ u,h'.get? e=some u)
    (new:ObjOk P w (upd H x o') h' x o'):HOk P w (upd H x o') h':=λ b u q=>by
  have nown:∀ c y,H c=some (.own y)->c≠x:=λ c y r z=>by subst z;rw [r] at mu;exact mu
  have ntup:∀ c xs,H c=some (.tup xs)->c≠x:=λ c xs r z=>by subst z;rw [r] at mu;exact mu
  by_cases hb:b=x
  . subst hb;rw [aRq] at q;cases q;exact new
  . rw [aGq hb] at q
    by_cases hbe:b=e
    . have q':H b=some (.own x):=by
        rcases he with z | z
        . exact absurd (hbe.trans z) hb
        . rw [hbe];exact z
      rw [q] at q';cases q'
      obtain ⟨v,hv⟩:=heo
      exact ⟨v,by rw [hbe];exact hv⟩
    . refine (ok b u q).stay (λ c v hc r=>k c v ?_ r) (λ c r=>by rw [aGq (nown c b r)];exact r) λ c xs r=>by rw [aGq (ntup c xs r)];exact r
      rcases hc with rfl | hc
      . exact hbe
      . rintro rfl
        rcases he with z | z
        . exact nown c b hc z
        . rw [hc] at z;cases z;exact hb rfl
end
structure Un (fs ex:List Addr) (H H':Hp) (h h':Heap):Prop where
  keep:∀ b o,h.get? b=some o->H b=none->b ∉ fs->b ∉ ex->h'.get? b=some o
  slot:∀ b o,h.get? b=some o->H b=none->b∈fs->b ∉ ex->∃ sl,h'.get? b=some { o with slots:=sl }
  free:∀ b o,h.get? b=some o->H b=none->b ∉ ex->H' b=none
  there:∀ b o,h.get? b=some o->b ∉ ex->∃ o',h'.get? b=some o'
  tups:∀ b xs,H b=some (.tup xs)->H' b=some (.tup xs)
  frzs:∀ b o u,H b=some (.frz o u)->H' b=some (.frz o u)
  tbls:∀ b ps,H b=some (.tbl ps)->∃ more,H' b=some (.tbl (ps++more))
section
variable {fs fs' ex ex':List Addr} {H H1 H2:Hp} {h h1 h2 h':Heap} {a x e:Addr} {o:HO}
theorem Un.any (u:Un fs ex H H1 h h1) {b:Addr} {ob:Obj} (q:h.get? b=some ob) (n:H b=none) (hx:b ∉ ex):∃ sl,h1.get? b=some { ob with slots:=sl }:=by
  by_cases hb:b∈fs
  . exact u.slot b ob q n hb hx
  . exact ⟨ob.slots,u.keep b ob q n hb hx⟩
theorem Un.kept (k:∀ b u,h.get? b=some u->h'.get? b=some u):Un fs ex H H h h':=
  ⟨λ b ob q _ _ _=>k b ob q,λ b ob q _ _ _=>⟨ob.slots,k b ob q⟩,λ _ _ _ n _=>n,λ b ob q _=>⟨ob,k b ob q⟩,λ _ _ q=>q,λ _ _ _ q=>q,λ _ ps q=>⟨#[],by rw [q];simp⟩⟩
theorem Un.refl:Un fs ex H H h h:=Un.kept λ _ _ q=>q
theorem Un.laid (k:∀ b u,h.get? b=some u->h'.get? b=some u) (hp:h.objs.size<=a) (hn:H a=none):Un fs ex H (upd H a o) h h' where
  keep:=λ b u q _ _ _=>k b u q
  slot:=λ b u q _ _ _=>⟨u.slots,k b u q⟩
  free:=λ b u q n _=>by rw [aGq (Nat.ne_of_lt (Nat.lt_of_lt_of_le (Heap.lt_size q) hp))];exact n
  there:=λ b u q _=>⟨u,k b u q⟩
  tups:=λ b xs q=>by rw [aGq (aIq q hn)];exact q
  frzs:=λ b u xs q=>by rw [aGq (aIq q hn)];exact q
  tbls:=λ b ps q=>⟨#[],by rw [aGq (aIq q hn),q];simp⟩
theorem Un.write (mu:Mut (H x)) (he:e=x\/H e=some (.own x)) (k:∀ b u,b≠e->h.get? b=some u->h'.get? b=some u) (heo:∃ u,h'.get? e=some u):Un fs ex H (upd H x o) h h':=by
  have hx:∀ b,H b=none->b≠x:=λ b n z=>by subst z;rw [n] at mu;exact mu
  have hb:∀ b,H b=none->b≠e:=λ b n z=>by
    subst z
    rcases he with r | r
    . exact hx b n r
    . rw [n] at r;cases r
  have hm:∀ b u,H b=some u->¬ Mut (some u)->b≠x:=λ b u q nm z=>by subst z;rw [q] at mu;exact nm mu
  refine ⟨λ b u q n _ _=>k b u (hb b n) q,λ b u q n _ _=>⟨u.slots,k b u (hb b n) q⟩,λ b u q n _=>by rw [aGq (hx b n)];exact n,λ b u q _=>?_,
    λ b xs q=>by rw [aGq (hm b _ q λ z=>z)];exact q,λ b u xs q=>by rw [aGq (hm b _ q λ z=>z)];exact q,λ b ps q=>⟨#[],by rw [aGq (hm b _ q λ z=>z),q];simp⟩⟩
  by_cases hbe:b=e
  . subst hbe;exact heo
  . exact ⟨u,k b u hbe q⟩
end
def trk (h:Heap) (H:Hp):List Addr:=(List.range h.objs.size).filter λ a=>(H a).isSome
def jPq (h:Heap) (H:Hp):Heap:=PySem.W.hideAll h (trk h H)
theorem iCq (h:Heap) (H:Hp):(jPq h H).objs.size=h.objs.size:=PySem.W.hideAll_size _ _
theorem kAq {h:Heap} {H:Hp} {b:Addr} {o:Obj} (e:h.get? b=some o) (n:H b=none):(jPq h H).get? b=some o:=
  PySem.W.hideAll_get _ e λ hm=>by
    have q:(H b).isSome=true:=(List.mem_filter.mp hm).2
    rw [n] at q;simp at q
theorem lVq {h:Heap} {H:Hp} {b:Addr} {o:Obj} (e:(jPq h H).get? b=some o):h.get? b=some o/\H b=none:=by
  have e':h.get? b=some o:=PySem.W.of_hideAll (trk h H) e
  refine ⟨e',?_⟩
  cases q:H b with
  | none=>rfl
  | some x=>
    have hm:b∈trk h H:=List.mem_filter.mpr ⟨List.mem_range.mpr (Heap.lt_size e'),by simp [q]⟩
    have z:(jPq h H).get? b=none:=PySem.W.hideAll_none (trk h H) hm
    rw [z] at e;cases e
structure Mod (K:PySem.W.Frag) (mg:Str->Option Value) (base:Heap):Prop where
  kin:K.In base
  glob:base.Ns mainGlobals mg
  blt:∃ mb,base.Ns builtinsNs mb/\∀ x:Str,x≠"__name__"->mb x=bootBuiltins x
  nolimit:base.NoLimit
structure Cx where
  prog:Program
  w:World
  K:PySem.W.Frag
  mg:Str->Option Value
  base:Heap
  A:Around
  N:List Str
  s₀:Shared
  H₀:Hp
  env:Env
  outer:List Env
  stack:List Env
  ex:List Addr
  fn:Str->Bool
  calm:Bool
  pn:List (Addr × Obj)
  xe:Value->Shared->Prop
def frs (l:List Env):List Addr:=l.filterMap (·.frame)
abbrev Cx.fs (X:Cx):List Addr:=frs X.outer
def Vis (sc:Scope) (x:Str):Prop:=sc.names.lookup x=some .local\/sc.names.lookup x=some .cell\/sc.names.lookup x=some .free
def Loc (sc:Scope) (x:Str):Prop:=sc.names.lookup x=some .local\/sc.names.lookup x=some .cell
def uPq (env:Env) (h:Heap) (m:Str->Option Value) (x:Str) (u:Value):Prop:=
  (env.kindOf x=some .local/\m x=some u)\/((env.kindOf x=some .cell\/env.kindOf x=some .free)/\∃ c,env.cells.lookup x=some c/\h.IsCell c (some u))
structure Cx.Ok (X:Cx):Prop where
  mod:Mod X.K X.mg X.base
  kind:X.env.scope.kind=.function
  glob:X.env.globals=mainGlobals
  blt:X.env.builtins=builtinsNs
  above:X.s₀.heap.objs.size<=X.env.locals
  inj:∀ x y c,X.env.cells.lookup x=some c->X.env.cells.lookup y=some c->x=y
  has:∀ x,(X.env.kindOf x=some .cell\/X.env.kindOf x=some .free)->∃ c,X.env.cells.lookup x=some c
  cab:∀ x c,X.fn x=true->X.env.cells.lookup x=some c->X.s₀.heap.objs.size<=c
  hd:X.calm=true->X.A.handled=none
  frames:X.A.frames=some X.stack
  stk:X.stack=X.outer\/(X.stack=X.env::X.outer/\X.env.frame=some X.env.locals)
  exf:∀ b∈X.ex,b≠X.env.locals/\∀ x c,X.env.cells.lookup x=some c->c≠b
  bs:∀ b o,X.base.get? b=some o->X.s₀.heap.get? b=some o/\X.H₀ b=none
  bsz:X.base.objs.size<=X.s₀.heap.objs.size
  noex:∀ b o,X.base.get? b=some o->b ∉ X.ex
  exfs:∀ b∈X.ex,b ∉ X.fs
  funs:X.s₀.heap.FunFrames X.base X.outer
  frf:∀ b∈X.fs,X.H₀ b=none
structure Inv (X:Cx) (pins:List (Addr × Obj)) (σ:List (Option V)) (H:Hp) (s:Shared):Prop where
  ok:X.Ok
  os:s.os=X.s₀.os
  bare:AllBare s.gens
  base:Un X.fs X.ex X.H₀ H X.s₀.heap s.heap
  loc:∃ m,s.heap.Ns X.env.locals m/\∀ (i:Nat) (x:Str) (v:V),X.N[i]?=some x->σ[i]?=some (some v)->Vis X.env.scope x->∃ u,RelV v u/\uPq X.env s.heap m x u
  cell:∀ x c,X.env.cells.lookup x=some c->∃ v,s.heap.IsCell c v
  free:H X.env.locals=none
  freeC:∀ x c,X.env.cells.lookup x=some c->H c=none
  pin:∀ p∈X.pn++pins,s.heap.get? p.1=some p.2/\H p.1=none/\p.1≠X.env.locals/\p.1 ∉ X.fs/\∀ v,p.2.data≠.cell v
  hok:HOk X.prog X.w H s.heap
  len:σ.length=X.N.length
section
variable {X:Cx} {pins:List (Addr × Obj)} {σ:List (Option V)} {H H':Hp} {s:Shared} {h':Heap}
theorem Cx.Ok.nofr (ok:X.Ok) {b:Addr} {o:Obj} (e:X.base.get? b=some o):b ∉ X.fs:=λ hb=>by
  have:=(ok.funs.mem hb).1
  rw [e] at this;cases this
theorem Inv.bs (I:Inv X pins σ H s):∀ b o,X.base.get? b=some o->s.heap.get? b=some o/\H b=none:=λ b o e=>
  ⟨I.base.keep b o (I.ok.bs b o e).1 (I.ok.bs b o e).2 (I.ok.nofr e) (I.ok.noex b o e),I.base.free b o (I.ok.bs b o e).1 (I.ok.bs b o e).2 (I.ok.noex b o e)⟩
theorem Inv.bk (I:Inv X pins σ H s):∀ b o,X.base.get? b=some o->s.heap.get? b=some o:=λ b o e=>(I.bs b o e).1
theorem Inv.mod (I:Inv X pins σ H s):Mod X.K X.mg X.base:=I.ok.mod
theorem Inv.kIn (I:Inv X pins σ H s):X.K.In s.heap:=I.ok.mod.kin.keeps I.bk
theorem Inv.lt (I:Inv X pins σ H s):X.env.locals < s.heap.objs.size:=let ⟨_,hn,_⟩:=I.loc;hn.lt
theorem Inv.sz (I:Inv X pins σ H s):X.s₀.heap.objs.size<=s.heap.objs.size:=Nat.le_trans I.ok.above (Nat.le_of_lt I.lt)
theorem Inv.nofs (I:Inv X pins σ H s) {a:Addr} (h:s.heap.objs.size<=a):a ∉ X.fs:=λ hb=>by
  obtain ⟨_,o,ho,_⟩:=I.ok.funs.mem hb
  exact absurd (Nat.lt_of_lt_of_le (Heap.lt_size ho) (Nat.le_trans I.sz h)) (Nat.lt_irrefl _)
theorem Inv.cne (I:Inv X pins σ H s):∀ x c,X.env.cells.lookup x=some c->c≠X.env.locals:=λ x c e z=>by
  obtain ⟨v,o,ho,hd⟩:=I.cell x c e
  obtain ⟨m,⟨o',es,ep,ho',hd',_⟩,_⟩:=I.loc
  rw [z,ho'] at ho;cases ho;rw [hd'] at hd;cases hd
theorem Inv.funs (I:Inv X pins σ H s):s.heap.FunFrames X.base X.outer:=by
  have all:∀ (l:List Env),(∀ b∈frs l,b∈X.fs)->X.s₀.heap.FunFrames X.base l->s.heap.FunFrames X.base l:=by
    intro l
    induction l with
    | nil=>intro _ _;trivial
    | cons env r ih=>
      intro hs hl
      obtain ⟨hk,⟨L,o,hf,hn,ho,hd⟩,hr⟩:=hl
      have hL:L∈X.fs:=hs L (by unfold frs;rw [List.filterMap_cons,hf];exact List.mem_cons_self)
      obtain ⟨sl,e⟩:=I.base.slot L o ho (I.ok.frf L hL) hL λ z=>I.ok.exfs L z hL
      exact ⟨hk,⟨L,_,hf,hn,e,hd⟩,ih (λ b hb=>hs b (by unfold frs;rw [List.filterMap_cons,hf];exact List.mem_cons_of_mem _ hb)) hr⟩
  exact all X.outer (λ _ hb=>hb) I.ok.funs
theorem Inv.stack (I:Inv X pins σ H s):s.heap.FunFrames X.base X.stack:=by
  rcases I.ok.stk with e | ⟨e,hf⟩
  . rw [e];exact I.funs
  . rw [e]
    obtain ⟨m,hn,_⟩:=I.loc
    refine .cons (by rw [I.ok.kind];decide) hf hn ?_ I.funs
    exact Heap.get?_none_of_le (Nat.le_trans I.ok.bsz I.ok.above)
theorem Inv.stkSub (I:Inv X pins σ H s):∀ b∈frs X.stack,b∈X.env.locals::X.fs:=λ b hb=>by
  rcases I.ok.stk with e | ⟨e,hf⟩
  . rw [e] at hb;exact List.mem_cons_of_mem _ hb
  . rw [e] at hb
    unfold frs at hb
    rw [List.filterMap_cons,hf] at hb
    exact hb
theorem Inv.stkFree (I:Inv X pins σ H s):∀ b∈frs X.stack,H b=none:=λ b hb=>by
  rcases List.mem_cons.mp (I.stkSub b hb) with e | hb
  . rw [e];exact I.free
  . obtain ⟨_,o,ho,_⟩:=I.ok.funs.mem hb
    exact I.base.free b o ho (I.ok.frf b hb) λ z=>I.ok.exfs b z hb
theorem Inv.step {g':Array GenState} {t':Nat} {d':Drawn} {ch:List Addr} (I:Inv X pins σ H s)
    (hch:∀ b∈ch,(b∈X.ex\/X.s₀.heap.objs.size<=b)/\b≠X.env.locals/\(∀ x c,X.env.cells.lookup x=some c->c≠b)/\∀ p∈X.pn++pins,p.1≠b)
    (keep:∀ b o,b≠X.env.locals->b ∉ X.fs->b ∉ ch->s.heap.get? b=some o->H b=none->h'.get? b=some o)
    (slot:∀ b o,b≠X.env.locals->b∈X.fs->b ∉ ch->s.heap.get? b=some o->H b=none->∃ sl,h'.get? b=some { o with slots:=sl }) (free:∀ b o,b ∉ ch->s.heap.get? b=some o->H b=none->H' b=none)
    (there:∀ b o,b ∉ ch->s.heap.get? b=some o->∃ o',h'.get? b=some o')
    (tups:∀ b xs,H b=some (.tup xs)->H' b=some (.tup xs)) (frzs:∀ b o u,H b=some (.frz o u)->H' b=some (.frz o u)) (tbls:∀ b ps,H b=some (.tbl ps)->∃ more,H' b=some (.tbl (ps++more)))
    (ns:∀ m,s.heap.Ns X.env.locals m->h'.Ns X.env.locals m) (hok:HOk X.prog X.w H' h') (hg:AllBare g') :
    Inv X pins σ H' { s with heap:=h',gens:=g',drawn:=d',toks:=t' }:=by
  have neL:∀ b o,X.s₀.heap.get? b=some o->b≠X.env.locals:=λ b o e=>Nat.ne_of_lt (Nat.lt_of_lt_of_le (Heap.lt_size e) I.ok.above)
  have neC:∀ b o,X.s₀.heap.get? b=some o->b ∉ X.ex->b ∉ ch:=λ b o e hx hb=>by
    rcases (hch b hb).1 with z | z
    . exact hx z
    . exact absurd (Nat.lt_of_lt_of_le (Heap.lt_size e) z) (Nat.lt_irrefl _)
  have cellK:∀ x c,X.env.cells.lookup x=some c->∀ v,s.heap.IsCell c v->h'.IsCell c v:=λ x c e v ⟨o,ho,hd⟩=>by
    have nch:c ∉ ch:=λ z=>(hch c z).2.2.1 x c e rfl
    by_cases hc:c∈X.fs
    . obtain ⟨sl,q⟩:=slot c o (I.cne x c e) hc nch ho (I.freeC x c e)
      exact ⟨_,q,hd⟩
    . exact ⟨o,keep c o (I.cne x c e) hc nch ho (I.freeC x c e),hd⟩
  refine ⟨I.ok,I.os,hg,⟨λ b o e n hb hx=>?_,λ b o e n hb hx=>?_,λ b o e n hx=>?_,λ b o e hx=>?_,λ b xs e=>tups b xs (I.base.tups b xs e),λ b o xs e=>frzs b o xs (I.base.frzs b o xs e),λ b ps e=>?_⟩,?_,λ x c e=>?_,?_,λ x c e=>?_,λ p hp=>?_,hok,I.len⟩
  . exact keep b o (neL b o e) hb (neC b o e hx) (I.base.keep b o e n hb hx) (I.base.free b o e n hx)
  . obtain ⟨sl,e1⟩:=I.base.slot b o e n hb hx
    obtain ⟨sl',e2⟩:=slot b _ (neL b o e) hb (neC b o e hx) e1 (I.base.free b o e n hx)
    exact ⟨sl',e2⟩
  . obtain ⟨o',e1⟩:=I.base.there b o e hx
    exact free b o' (neC b o e hx) e1 (I.base.free b o e n hx)
  . obtain ⟨o',e1⟩:=I.base.there b o e hx
    exact there b o' (neC b o e hx) e1
  . obtain ⟨m1,e1⟩:=I.base.tbls b ps e
    obtain ⟨m2,e2⟩:=tbls b _ e1
    exact ⟨m1++m2,by rw [e2,Array.append_assoc]⟩
  . obtain ⟨m,hn,hl⟩:=I.loc
    refine ⟨m,ns m hn,λ i x v e1 e2 e3=>?_⟩
    obtain ⟨u,r,l⟩:=hl i x v e1 e2 e3
    refine ⟨u,r,?_⟩
    rcases l with l | ⟨k,c,e,z⟩
    . exact .inl l
    . exact .inr ⟨k,c,e,cellK x c e _ z⟩
  . obtain ⟨v,z⟩:=I.cell x c e
    exact ⟨v,cellK x c e v z⟩
  . obtain ⟨m,⟨o,_,_,ho,_⟩,_⟩:=I.loc
    exact free _ o (λ z=>(hch _ z).2.1 rfl) ho I.free
  . obtain ⟨v,o,ho,hd⟩:=I.cell x c e
    exact free c o (λ z=>(hch c z).2.2.1 x c e rfl) ho (I.freeC x c e)
  . obtain ⟨e,n,ne,nf,d⟩:=I.pin p hp
    have nch:p.1 ∉ ch:=λ z=>(hch p.1 z).2.2.2 p hp rfl
    exact ⟨keep p.1 p.2 ne nf nch e n,free p.1 p.2 nch e n,ne,nf,d⟩
theorem Inv.un {t':Nat} (I:Inv X pins σ H s) (u:Un X.fs [] H H' s.heap h') (hok:HOk X.prog X.w H' h'):Inv X pins σ H' { s with heap:=h',toks:=t' }:=by
  obtain ⟨m,⟨o,es,ep,ho,r⟩,_⟩:=id I.loc
  obtain ⟨sl,hL⟩:=u.any ho I.free (by simp)
  exact I.step (g':=s.gens) (d':=s.drawn) (ch:=[]) (λ _ z=>nomatch z) (λ b o _ hb _ e n=>u.keep b o e n hb (by simp)) (λ b o _ hb _ e n=>u.slot b o e n hb (by simp)) (λ b o _ e n=>u.free b o e n (by simp)) (λ b o _ e=>u.there b o e (by simp)) u.tups u.frzs u.tbls (λ m' hm=>by
    obtain ⟨o',es',ep',ho',r'⟩:=hm
    rw [ho] at ho';cases ho'
    exact ⟨_,es',ep',hL,r'⟩) hok I.bare
theorem Inv.call {g':Array GenState} {t':Nat} {d':Drawn} {ch:List Addr} (I:Inv X pins σ H s) (u:Un (frs X.stack) ch H H' s.heap h') (hok:HOk X.prog X.w H' h') (hg:AllBare g')
    (hch:∀ b∈ch,(b∈X.ex\/X.s₀.heap.objs.size<=b)/\b≠X.env.locals/\(∀ x c,X.env.cells.lookup x=some c->c≠b)/\∀ p∈X.pn++pins,p.1≠b) :
    Inv X pins σ H' { s with heap:=h',gens:=g',drawn:=d',toks:=t' }:=by
  obtain ⟨m,⟨o,es,ep,ho,r⟩,_⟩:=id I.loc
  obtain ⟨sl,hL⟩:=u.any ho I.free λ z=>(hch _ z).2.1 rfl
  exact I.step (ch:=ch) hch (λ b o hL hb hc e n=>u.keep b o e n (λ z=>(List.mem_cons.mp (I.stkSub b z)).elim hL hb) hc) (λ b o _ _ hc e n=>u.any e n hc) (λ b o hc e n=>u.free b o e n hc) (λ b o hc e=>u.there b o e hc) u.tups u.frzs u.tbls (λ m' hm=>by
    obtain ⟨o',es',ep',ho',r'⟩:=hm
    rw [ho] at ho';cases ho'
    exact ⟨_,es',ep',hL,r'⟩) hok hg
theorem Inv.turned {t':Nat} {it:Addr} (I:Inv X pins σ H s) (k:∀ b o,b≠it->s.heap.get? b=some o->h'.get? b=some o) (hn:H it=none) (hL:it≠X.env.locals)
    (h1:it∈X.ex\/X.s₀.heap.objs.size<=it) (h2:∀ x c,X.env.cells.lookup x=some c->c≠it) (h3:∀ p∈X.pn++pins,p.1≠it):Inv X pins σ H { s with heap:=h',toks:=t' }:=by
  have nit:∀ b u,H b=some u->b≠it:=λ b u e z=>by rw [z,hn] at e;cases e
  refine I.step (g':=s.gens) (d':=s.drawn) (ch:=[it]) (λ b hb=>?_) (λ b o _ _ hc e _=>k b o (λ z=>hc (by simp [z])) e) (λ b o _ _ hc e _=>⟨o.slots,k b o (λ z=>hc (by simp [z])) e⟩) (λ _ _ _ _ n=>n)
    (λ b o hc e=>⟨o,k b o (λ z=>hc (by simp [z])) e⟩) (λ _ _ e=>e) (λ _ _ _ e=>e) (λ b ps e=>⟨#[],by rw [e];simp⟩) (λ m hm=>?_) (λ b u e=>?_) I.bare
  . have e:b=it:=by simpa using hb
    subst e
    exact ⟨h1,hL,h2,h3⟩
  . obtain ⟨o,es,ep,ho,r⟩:=hm
    exact ⟨o,es,ep,k _ o (Ne.symm hL) ho,r⟩
  . refine (I.hok b u e).stay (λ c v hc q=>k c v ?_ q) (λ _ q=>q) λ _ _ q=>q
    rcases hc with z | z
    . rw [z];exact nit b u e
    . exact nit c _ z
theorem Inv.tok (I:Inv X pins σ H s) (t:Nat):Inv X pins σ H { s with toks:=t }:=I.un (h':=s.heap) (t':=t) Un.refl I.hok
theorem Inv.kept {t':Nat} (I:Inv X pins σ H s) (k:∀ b u,s.heap.get? b=some u->h'.get? b=some u):Inv X pins σ H { s with heap:=h',toks:=t' }:=I.un (Un.kept k) (I.hok.kept k)
theorem Inv.laid {a:Addr} {o:HO} {t':Nat} (I:Inv X pins σ H s) (k:∀ b u,s.heap.get? b=some u->h'.get? b=some u) (hp:s.heap.objs.size<=a) (new:ObjOk X.prog X.w (upd H a o) h' a o) :
    Inv X pins σ (upd H a o) { s with heap:=h',toks:=t' }:=I.un (Un.laid k hp (I.hok.fresh hp)) (I.hok.laid k hp new)
theorem Inv.write {x e:Addr} {o:HO} {t':Nat} (I:Inv X pins σ H s) (mu:Mut (H x)) (he:e=x\/H e=some (.own x)) (k:∀ b u,b≠e->s.heap.get? b=some u->h'.get? b=some u) (heo:∃ u,h'.get? e=some u)
    (new:ObjOk X.prog X.w (upd H x o) h' x o):Inv X pins σ (upd H x o) { s with heap:=h',toks:=t' }:=I.un (Un.write mu he k heo) (I.hok.write mu he k heo new)
theorem Inv.pins_of {pins':List (Addr × Obj)} (I:Inv X pins σ H s) (h:∀ p∈pins',s.heap.get? p.1=some p.2/\H p.1=none/\p.1≠X.env.locals/\p.1 ∉ X.fs/\∀ v,p.2.data≠.cell v):Inv X pins' σ H s:=
  ⟨I.ok,I.os,I.bare,I.base,I.loc,I.cell,I.free,I.freeC,λ p hp=>(List.mem_append.mp hp).elim (λ z=>I.pin p (List.mem_append_left _ z)) (h p),I.hok,I.len⟩
theorem h7q {N:List Str} (hN:N.Nodup) {i j:Nat} {x:Str} (a:N[i]?=some x) (b:N[j]?=some x):i=j:=by
  obtain ⟨h1,e1⟩:=List.getElem?_eq_some_iff.mp a
  obtain ⟨h2,e2⟩:=List.getElem?_eq_some_iff.mp b
  exact (List.getElem_inj hN).mp (e1.trans e2.symm)
theorem fVq {M:Model} {A:Around} {E:Value->Shared->Prop} {i:Nat} {x:Str} {v:V} {u:Value} {Q:Unit->Shared->Prop} (I:Inv X pins σ H s) (hN:X.N.Nodup) (hi:X.N[i]?=some x) (hx:Loc X.env.scope x) (r:RelV v u)
    (h:∀ s',Inv X pins (σ.set i (some v)) H s'->(∃ a,Heap.SameBut a s.heap s'.heap/\(a=X.env.locals\/X.env.cells.lookup x=some a))->Q () s') (hf:X.fn x=true\/X.env.scope.names.lookup x=some .local:=by first | exact .inl rfl | exact .inr rfl | assumption):wpAny M A (storeName X.env x u) Q E s:=by
  obtain ⟨m,hn,hl⟩:=id I.loc
  have hcls:(X.env.scope.kind==.class||(X.env.scope.kind==.module&&X.env.locals !=X.env.globals))=false:=by rw [I.ok.kind];rfl
  have hiσ:i < σ.length:=by rw [I.len];exact (List.getElem?_eq_some_iff.mp hi).1
  have cne:=I.cne
  have tracked:∀ {a:Addr} {h':Heap},(∃ o,s.heap.get? a=some o/\H a=none)->Heap.SameBut a s.heap h'->HOk X.prog X.w H h':=λ{a h'} ha hs b ob e=>by
    obtain ⟨_,_,hfree⟩:=ha
    refine (I.hok b ob e).stay (λ c w' hc q=>(hs.2 c ?_).trans q) (λ _ q=>q) λ _ _ q=>q
    rintro rfl
    rcases hc with rfl | hc
    . rw [hfree] at e;cases e
    . rw [hfree] at hc;cases hc
  rcases hx with hk | hk
  . refine wpAny_storeName_local hk hn (λ h' hn' hs=>?_) hcls
    obtain ⟨oL,_,_,hoL,_⟩:=id hn
    refine h _ ⟨I.ok,I.os,I.bare,⟨λ b o e n hb hx=>?_,λ b o e n hb hx=>?_,I.base.free,λ b o e hx=>?_,I.base.tups,I.base.frzs,I.base.tbls⟩,⟨_,hn',λ j y v' e1 e2 e3=>?_⟩,λ y c e=>?_,I.free,I.freeC,λ p hp=>?_,tracked ⟨oL,hoL,I.free⟩ hs,by simpa using I.len⟩ ⟨_,hs,.inl rfl⟩
    . exact (hs.2 b (Nat.ne_of_lt (Nat.lt_of_lt_of_le (Heap.lt_size e) I.ok.above))).trans (I.base.keep b o e n hb hx)
    . obtain ⟨sl,e1⟩:=I.base.slot b o e n hb hx
      exact ⟨sl,(hs.2 b (Nat.ne_of_lt (Nat.lt_of_lt_of_le (Heap.lt_size e) I.ok.above))).trans e1⟩
    . obtain ⟨o',e1⟩:=I.base.there b o e hx
      exact ⟨o',(hs.2 b (Nat.ne_of_lt (Nat.lt_of_lt_of_le (Heap.lt_size e) I.ok.above))).trans e1⟩
    . by_cases hj:j=i
      . subst hj
        rw [hi] at e1;cases e1
        rw [List.getElem?_set_self hiσ] at e2
        cases e2
        exact ⟨u,r,.inl ⟨hk,by simp⟩⟩
      . rw [List.getElem?_set_ne (Ne.symm hj)] at e2
        obtain ⟨u',r',q⟩:=hl j y v' e1 e2 e3
        refine ⟨u',r',?_⟩
        rcases q with ⟨k,e⟩ | ⟨k,c,e,z⟩
        . refine .inl ⟨k,?_⟩
          have:y≠x:=λ e=>hj (h7q hN e1 (e ▸ hi))
          simp [this,e]
        . exact .inr ⟨k,c,e,z.sameBut hs (cne y c e)⟩
    . obtain ⟨w',z⟩:=I.cell y c e
      exact ⟨w',z.sameBut hs (cne y c e)⟩
    . obtain ⟨e,n,ne,nf,d⟩:=I.pin p hp
      exact ⟨(hs.2 p.1 ne).trans e,n,ne,nf,d⟩
  . have hfn:X.fn x=true:=by
      rcases hf with z | z
      . exact z
      . rw [z] at hk;cases hk
    obtain ⟨c,hc⟩:=I.ok.has x (.inl hk)
    obtain ⟨w',z⟩:=I.cell x c hc
    refine wpAny_storeName_cell I.ok.kind hk hc z (λ h' hc' hs=>?_)
    obtain ⟨oc,hoc,hocd⟩:=id z
    refine h { s with heap:=h' } ⟨I.ok,I.os,I.bare,⟨λ b o e n hb hx=>?_,λ b o e n hb hx=>?_,I.base.free,λ b o e hx=>?_,I.base.tups,I.base.frzs,I.base.tbls⟩,⟨m,hn.sameBut hs (Ne.symm (cne x c hc)),λ j y v' e1 e2 e3=>?_⟩,λ y c' e=>?_,I.free,I.freeC,λ p hp=>?_,tracked ⟨oc,hoc,I.freeC x c hc⟩ hs,by simpa using I.len⟩ ⟨c,hs,.inr hc⟩
    . exact (hs.2 b (Nat.ne_of_lt (Nat.lt_of_lt_of_le (Heap.lt_size e) (I.ok.cab x c hfn hc)))).trans (I.base.keep b o e n hb hx)
    . obtain ⟨sl,e1⟩:=I.base.slot b o e n hb hx
      exact ⟨sl,(hs.2 b (Nat.ne_of_lt (Nat.lt_of_lt_of_le (Heap.lt_size e) (I.ok.cab x c hfn hc)))).trans e1⟩
    . obtain ⟨o',e1⟩:=I.base.there b o e hx
      exact ⟨o',(hs.2 b (Nat.ne_of_lt (Nat.lt_of_lt_of_le (Heap.lt_size e) (I.ok.cab x c hfn hc)))).trans e1⟩
    . by_cases hj:j=i
      . subst hj
        rw [hi] at e1;cases e1
        rw [List.getElem?_set_self hiσ] at e2
        cases e2
        exact ⟨u,r,.inr ⟨.inl hk,c,hc,hc'⟩⟩
      . rw [List.getElem?_set_ne (Ne.symm hj)] at e2
        obtain ⟨u',r',q⟩:=hl j y v' e1 e2 e3
        refine ⟨u',r',?_⟩
        rcases q with q | ⟨k,c',e,z'⟩
        . exact .inl q
        . refine .inr ⟨k,c',e,z'.sameBut hs ?_⟩
          rintro rfl
          exact hj (h7q hN e1 (I.ok.inj _ _ _ e hc ▸ hi))
    . by_cases hcc:c'=c
      . subst hcc;exact ⟨_,hc'⟩
      . obtain ⟨w2,z2⟩:=I.cell y c' e
        exact ⟨w2,z2.sameBut hs hcc⟩
    . obtain ⟨e,n,ne,nf,d⟩:=I.pin p hp
      refine ⟨(hs.2 p.1 ?_).trans e,n,ne,nf,d⟩
      intro q
      rw [q,hoc] at e
      have q':oc=p.2:=Option.some.inj e
      exact d w' (by rw [<- q'];exact hocd)
theorem gOq {M:Model} {A:Around} {E:Value->Shared->Prop} {i:Nat} {x:Str} {v:V} {u:Value} {Q:Unit->Shared->Prop} (I:Inv X pins σ H s) (hN:X.N.Nodup) (hi:X.N[i]?=some x) (hx:Loc X.env.scope x) (r:RelV v u)
    (h:∀ s',Inv X pins (σ.set i (some v)) H s'->Q () s') (hf:X.fn x=true\/X.env.scope.names.lookup x=some .local:=by first | exact .inl rfl | exact .inr rfl | assumption):wpAny M A (storeName X.env x u) Q E s:=
  fVq I hN hi hx r (λ s' I' _=>h s' I') hf
theorem Inv.call' {s':Shared} {ch:List Addr} (I:Inv X pins σ H s) (ho:s'.os=s.os) (u:Un (frs X.stack) ch H H' s.heap s'.heap) (hok:HOk X.prog X.w H' s'.heap) (hg:AllBare s'.gens)
    (hch:∀ b∈ch,(b∈X.ex\/X.s₀.heap.objs.size<=b)/\b≠X.env.locals/\(∀ x c,X.env.cells.lookup x=some c->c≠b)/\∀ p∈X.pn++pins,p.1≠b):Inv X pins σ H' s':=by
  obtain ⟨h',g',d',t',o'⟩:=s'
  have e:o'=s.os:=ho
  subst e
  exact I.call (g':=g') (t':=t') (d':=d') u hok hg hch
end
abbrev XK:=Value->Option Addr->Hp->Prop
abbrev St:=List (Option V)
abbrev VK:=V->Hp->Prop
abbrev TE:=St->Hp->VK->Prop
abbrev TT:=St->Hp->(Bool->Hp->Prop)->Prop
abbrev TA:=St->Hp->(List V->Hp->Prop)->Prop
structure Ends where
  nx:St->Hp->Prop
  rt:VK
  bk:St->Hp->Prop:=λ _ _=>False
  ct:St->Hp->Prop:=λ _ _=>False
abbrev TS:=Ends->St->Hp->Prop
def EP (X:Cx) (pins:List (Addr × Obj)) (σ:St) (Q:VK) (u:Value) (s':Shared):Prop:=∃ v H',Inv X pins σ H' s'/\RelV v u/\Q v H'
def TP (X:Cx) (pins:List (Addr × Obj)) (σ:St) (Q:Bool->Hp->Prop) (b:Bool) (s':Shared):Prop:=∃ H',Inv X pins σ H' s'/\Q b H'
def AP (X:Cx) (pins:List (Addr × Obj)) (σ:St) (Q:List V->Hp->Prop) (us:List Value) (s':Shared):Prop:=∃ vs H',Inv X pins σ H' s'/\Vals vs us/\Q vs H'
def SP (X:Cx) (pins:List (Addr × Obj)) (D:Ends) (f:Flow) (s':Shared):Prop:=
  match f with
  | .next=>∃ σ' H',Inv X pins σ' H' s'/\D.nx σ' H'
  | .brk=>∃ σ' H',Inv X pins σ' H' s'/\D.bk σ' H'
  | .cont=>∃ σ' H',Inv X pins σ' H' s'/\D.ct σ' H'
  | .ret u=>∃ v σ' H',Inv X pins σ' H' s'/\RelV v u/\D.rt v H'
def PE (X:Cx) (e:Expr) (t:TE):Prop:=
  ∀ (pins:List (Addr × Obj)) (s:Shared) (σ:St) (H:Hp) (Q:VK),Inv X pins σ H s->t σ H Q->wpAny (model X.prog X.w) X.A (eval e X.env) (EP X pins σ Q) X.xe s
def PT (X:Cx) (e:Expr) (t:TT):Prop:=
  ∀ (pins:List (Addr × Obj)) (s:Shared) (σ:St) (H:Hp) (Q:Bool->Hp->Prop),Inv X pins σ H s->t σ H Q->wpAny (model X.prog X.w) X.A (isTrue e X.env (eval e X.env)) (TP X pins σ Q) X.xe s
def PW (X:Cx) (e:Expr) (t:TT):Prop:=
  ∀ (whole:Sem Value) (pins:List (Addr × Obj)) (s:Shared) (σ:St) (H:Hp) (Q:Bool->Hp->Prop),Inv X pins σ H s->t σ H Q->wpAny (model X.prog X.w) X.A (isTrue e X.env whole) (TP X pins σ Q) X.xe s
theorem PW.pt {X:Cx} {e:Expr} {t:TT} (h:PW X e t):PT X e t:=h _
def PA (X:Cx) (es:List Expr) (t:TA):Prop:=
  ∀ (pos:Pos) (pins:List (Addr × Obj)) (s:Shared) (σ:St) (H:Hp) (Q:List V->Hp->Prop),Inv X pins σ H s->t σ H Q->wpAny (model X.prog X.w) X.A (spliced (backTo pos (starEach es X.env))) (AP X pins σ Q) X.xe s
def PS (X:Cx) (st:Stmt) (t:TS):Prop:=
  ∀ (pins:List (Addr × Obj)) (s:Shared) (σ:St) (H:Hp) (D:Ends),Inv X pins σ H s->t D σ H->wpAny (model X.prog X.w) X.A (exec st X.env) (SP X pins D) X.xe s
def PSs (X:Cx) (st:List Stmt) (t:TS):Prop:=
  ∀ (pins:List (Addr × Obj)) (s:Shared) (σ:St) (H:Hp) (D:Ends),Inv X pins σ H s->t D σ H->wpAny (model X.prog X.w) X.A (execs st X.env) (SP X pins D) X.xe s
theorem thn {α:Type} {t:Sem α} {Q Q':α->Shared->Prop} {M:Model} {A:Around} {E:Value->Shared->Prop} {s:Shared} (h:wpAny M A t Q E s) (hQ:∀ a s,Q a s->Q' a s):wpAny M A t Q' E s:=wpAny_mono h hQ λ _ _ x=>x
section
variable {X:Cx}
theorem bin {a b:Expr} {ta tb:TE} (ha:PE X a ta) (hb:PE X b tb) {pins:List (Addr × Obj)} {s:Shared} {σ:St} {H:Hp} {R:V->V->Hp->Prop} (I:Inv X pins σ H s) (h:ta σ H λ x H1=>tb σ H1 λ y H2=>R x y H2)
    {α:Type} {Q:α->Shared->Prop} {f:Value->Value->Sem α}
    (hf:∀ v u s2 x y H2,Inv X pins σ H2 s2->RelV x v->RelV y u->R x y H2->wpAny (model X.prog X.w) X.A (f v u) Q X.xe s2) :
    wpAny (model X.prog X.w) X.A (eval a X.env) (λ v s₁=>wpAny (model X.prog X.w) X.A (eval b X.env) (λ u s₂=>wpAny (model X.prog X.w) X.A (f v u) Q X.xe s₂) X.xe s₁) X.xe s:=by
  refine thn (ha pins s σ H _ I h) λ v s1 ⟨x,H1,I1,r1,q1⟩=>?_
  refine thn (hb pins s1 σ H1 _ I1 q1) λ u s2 ⟨y,H2,I2,r2,q2⟩=>?_
  exact hf v u s2 x y H2 I2 r1 r2 q2
def u5q (i:Nat):TE:=λ σ H Q=>∃ v,σ[i]?=some (some v)/\Q v H
def tC (v:V):TE:=λ _ H Q=>Q v H
theorem lLq {i:Nat} {x:Str} {pos:Pos} (hN:X.N[i]?=some x) (hv:Vis X.env.scope x) (hd:(x==("__debug__" : Str))=false:=by decide) (hcd:(x==("__classdict__" : Str))=false:=by decide):PE X (.Name x pos) (u5q i):=by
  intro pins s σ H Q I h
  obtain ⟨v,e,h⟩:=h
  obtain ⟨m,hn,hl⟩:=I.loc
  obtain ⟨u,r,l⟩:=hl i x v hN e hv
  have fin:EP X pins σ Q u s:=⟨v,H,I,r,h⟩
  rcases l with ⟨hk,hm⟩ | ⟨hk,c,hc,hcell⟩
  . exact wpAny_Name (wpAny_loadName_local I.ok.kind hk hn hm fin) hd
  . rcases hk with hk | hk
    . exact wpAny_Name (wpAny_loadName_cell I.ok.kind hk hc hcell fin) hd
    . exact wpAny_Name (wpAny_loadName_free I.ok.kind hk hc hcell fin hcd) hd
theorem pEq {i j pos}:PE X (.Constant (.int i) j pos) (tC (.int i)):=λ _ _ _ H _ I h=>wpAny_Constant_int ⟨.int i,H,I.tok _,⟨_,rfl⟩,h⟩
theorem sHq {b j pos}:PE X (.Constant (.bool b) j pos) (tC (.bl b)):=λ _ _ _ H _ I h=>Constant_bool ⟨.bl b,H,I,rfl,h⟩
theorem oUq {x j pos}:PE X (.Constant (.str x) j pos) (tC (.str x)):=λ _ _ _ H _ I h=>Calls.Constant_str ⟨.str x,H,I.tok _,⟨_,rfl⟩,h⟩
def Gl (X:Cx) (x:Str):Prop:=X.env.kindOf x=some .globalImplicit
theorem iVq {E:Value->Shared->Prop} {pins:List (Addr × Obj)} {s:Shared} {σ:St} {H:Hp} {x:Str} {u:Value} {pos:Pos} {Q:Value->Shared->Prop} (I:Inv X pins σ H s) (hg:Gl X x) (hm:X.mg x=some u) (h:Q u s)
    (hd:(x==("__debug__" : Str))=false:=by decide):wpAny (model X.prog X.w) X.A (eval (.Name x pos) X.env) Q E s:=
  Calls.Name_function_global I.ok.kind hg (Calls.loadGlobal_global (by rw [I.ok.glob];exact I.mod.glob.keeps I.bk) hm h) hd
theorem c3q {E:Value->Shared->Prop} {pins:List (Addr × Obj)} {s:Shared} {σ:St} {H:Hp} {x:Str} {u:Value} {pos:Pos} {Q:Value->Shared->Prop} (I:Inv X pins σ H s) (hg:Gl X x) (hm:X.mg x=none) (hv:bootBuiltins x=some u) (h:Q u s)
    (hn:x≠"__name__":=by decide) (hd:(x==("__debug__" : Str))=false:=by decide):wpAny (model X.prog X.w) X.A (eval (.Name x pos) X.env) Q E s:=by
  obtain ⟨mb,h1,h2⟩:=I.mod.blt
  exact Calls.Name_function_global I.ok.kind hg (Calls.loadGlobal_builtin (by rw [I.ok.glob];exact I.mod.glob.keeps I.bk) hm (by rw [I.ok.blt];exact h1.keeps I.bk) ((h2 x hn).trans hv) h) hd
theorem m0q {x:Str} {v:V} {u:Value} {pos:Pos} (hg:Gl X x) (hm:X.mg x=some u) (r:RelV v u) (hd:(x==("__debug__" : Str))=false:=by decide):PE X (.Name x pos) (tC v):=
  λ _ _ _ H _ I h=>iVq I hg hm ⟨v,H,I,r,h⟩ hd
theorem nKq {x:Str} {v:V} {u:Value} {pos:Pos} (hg:Gl X x) (hm:X.mg x=none) (hv:bootBuiltins x=some u) (r:RelV v u) (hn:x≠"__name__":=by decide) (hd:(x==("__debug__" : Str))=false:=by decide):PE X (.Name x pos) (tC v):=
  λ _ _ _ H _ I h=>c3q I hg hm hv ⟨v,H,I,r,h⟩ hn hd
variable {a b:Expr} {ta tb:TE} {pos:Pos}
variable {tA tB':TT} {rest:List Expr}
def u3q (t u:TT):TT:=λ σ H Q=>t σ H λ c H1=>if c=true then u σ H1 Q else Q false H1
def tOr (t u:TT):TT:=λ σ H Q=>t σ H λ c H1=>if c=true then Q true H1 else u σ H1 Q
def tTq (t:TT):TT:=λ σ H Q=>t σ H λ c H1=>Q (!c) H1
theorem lRq (ha:PT X a tA):PW X (.BoolOp .And [a] pos) tA:=by
  intro wh pins s σ H Q I h
  refine isTrue_and (thn (ha pins s σ H Q I h) λ c s1 e=>?_)
  cases c with
  | true=>exact isTrue_and_nil e
  | false=>exact e
theorem rEq (ha:PT X a tA):PW X (.BoolOp .Or [a] pos) tA:=by
  intro wh pins s σ H Q I h
  refine isTrue_or (thn (ha pins s σ H Q I h) λ c s1 e=>?_)
  cases c with
  | false=>exact isTrue_or_nil e
  | true=>exact e
theorem pJq (ha:PT X a tA) (hb:PW X (.BoolOp .And (b::rest) pos) tB'):PW X (.BoolOp .And (a::b::rest) pos) (u3q tA tB'):=by
  intro wh pins s σ H Q I h
  refine isTrue_and (thn (ha pins s σ H _ I h) λ c s1 ⟨H1,I1,q1⟩=>?_)
  cases c with
  | true=>exact hb wh pins s1 σ H1 Q I1 q1
  | false=>exact ⟨H1,I1,q1⟩
theorem sPq (ha:PT X a tA) (hb:PW X (.BoolOp .Or (b::rest) pos) tB'):PW X (.BoolOp .Or (a::b::rest) pos) (tOr tA tB'):=by
  intro wh pins s σ H Q I h
  refine isTrue_or (thn (ha pins s σ H _ I h) λ c s1 ⟨H1,I1,q1⟩=>?_)
  cases c with
  | true=>exact ⟨H1,I1,q1⟩
  | false=>exact hb wh pins s1 σ H1 Q I1 q1
theorem q1q (ha:PT X a tA):PT X (.UnaryOp .Not a pos) (tTq tA):=by
  intro pins s σ H Q I h
  exact isTrue_not (ha pins s σ H (λ c H1=>Q (!c) H1) I h)
def pRq (ta tb:TE):TE:=λ σ H Q=>ta σ H λ x H1=>∃ c,x=.bl c/\if c=true then tb σ H1 Q else Q (.bl false) H1
def qCq (ta:TE):TE:=λ σ H Q=>ta σ H λ x H1=>∃ c,x=.bl c/\Q (.bl (!c)) H1
theorem qAq {op} {t:TE} (h:PE X a t):PE X (.BoolOp op [a] pos) t:=λ pins s σ H Q I hw=>BoolOp_one (h pins s σ H Q I hw)
theorem pUq (ha:PE X a ta) (hb:PE X (.BoolOp .And (b::rest) pos) tb):PE X (.BoolOp .And (a::b::rest) pos) (pRq ta tb):=by
  intro pins s σ H Q I h
  refine BoolOp_and (thn (ha pins s σ H _ I h) λ v s1 ⟨x,H1,I1,r1,q1⟩=>?_)
  obtain ⟨c,rfl,q1⟩:=q1
  cases r1
  refine wpAny_truthy_bool ?_
  cases c with
  | true=>exact hb pins s1 σ H1 Q I1 q1
  | false=>exact ⟨.bl false,H1,I1,rfl,q1⟩
theorem pOq (ha:PE X a ta):PE X (.UnaryOp .Not a pos) (qCq ta):=by
  intro pins s σ H Q I h
  refine UnaryOp_ (thn (ha pins s σ H _ I h) λ v s1 ⟨x,H1,I1,r1,q1⟩=>?_)
  obtain ⟨c,rfl,q1⟩:=q1
  cases r1
  exact not_of (wpAny_truthy_bool ⟨.bl (!c),H1,I1,rfl,q1⟩)
def tIf (t:TT) (ta tb:TE):TE:=λ σ H Q=>t σ H λ c H1=>if c=true then ta σ H1 Q else tb σ H1 Q
theorem jZq {c:Expr} (hc:PT X c tA) (ha:PE X a ta) (hb:PE X b tb):PE X (.IfExp c a b pos) (tIf tA ta tb):=by
  intro pins s σ H Q I h
  refine wpAny_IfExp (thn (hc pins s σ H _ I h) λ d s1 ⟨H1,I1,q1⟩=>?_)
  cases d with
  | true=>exact ha pins s1 σ H1 Q I1 q1
  | false=>exact hb pins s1 σ H1 Q I1 q1
end
def SqL (K:PySem.W.Frag) (H:Hp) (a:Addr) (xs:List V):Prop:=
  Rd H a (.lst xs) ∨
    ∃ (o:Obj) (its:Array Value) (n:Nat),K.lookup a=some o/\o.cls=.type "list"/\o.dict=none/\o.data=.seq its n/\its.size<=sizeLine/\Vals xs its.toList
def SqT (K:PySem.W.Frag) (H:Hp) (a:Addr) (xs:List V):Prop:=
  Rd H a (.tup xs) ∨
    ∃ (o:Obj) (its:Array Value) (n:Nat),K.lookup a=some o/\o.cls=.type "tuple"/\o.data=.seq its n/\its.size<=sizeLine/\Vals xs its.toList
def uOq:Value->Option V
  | .none=>some .non
  | .bool b=>some (.bl b)
  | .int i _=>some (.int i)
  | .str x _=>some (.str x)
  | .bytes b _=>some (.byt b)
  | .float b _=>some (.flt b)
  | .ref a=>some (.ref a)
  | .type n=>some (.ty n)
  | _=>none
theorem RelV.abs {x:V} {u:Value} (r:RelV x u):uOq u=some x:=by
  cases x with
  | non=>cases r;rfl
  | bl _=>cases r;rfl
  | int _=>obtain ⟨t,rfl⟩:=r;rfl
  | str _=>obtain ⟨t,rfl⟩:=r;rfl
  | byt _=>obtain ⟨t,rfl⟩:=r;rfl
  | flt _=>obtain ⟨t,rfl⟩:=r;rfl
  | ref _=>cases r;rfl
  | ty _=>cases r;rfl
theorem RelV.inj {x y:V} {u:Value} (r:RelV x u) (q:RelV y u):x=y:=Option.some.inj (r.abs.symm.trans q.abs)
theorem Vals.inj:∀ {xs ys:List V} {us:List Value},Vals xs us->Vals ys us->xs=ys
  | _,_,_,.nil,.nil=>rfl
  | _,_,_,.cons r t,.cons r' t'=>by rw [r.inj r',Vals.inj t t']
section
variable {X:Cx} {pins:List (Addr × Obj)} {σ:St} {H:Hp} {s:Shared} {a:Addr} {xs ys:List V}
theorem SqL.of {K:PySem.W.Frag} (h:H a=some (.lst xs)):SqL K H a xs:=.inl (.inl h)
theorem SqT.of {K:PySem.W.Frag} (h:H a=some (.tup xs)):SqT K H a xs:=.inl (.inl h)
theorem Inv.list (I:Inv X pins σ H s) (h:SqL X.K H a xs):∃ its:List Value,Vals xs its/\PlainL s.heap a its.toArray/\xs.length<=sizeLine:=by
  rcases h with h | ⟨o,its,n,hk,hc,hd,hs,hz,r⟩
  . obtain ⟨z,its,n,r,e⟩:=h.ok I.hok
    exact ⟨its,r,⟨_,n,e,rfl,rfl,rfl⟩,z⟩
  . refine ⟨its.toList,r,⟨o,n,I.kIn a o hk,hc,hd,by simpa using hs⟩,?_⟩
    have e:=r.length
    simp only [Array.length_toList] at e
    omega
theorem Inv.tuple (I:Inv X pins σ H s) (h:SqT X.K H a xs):∃ its:List Value,Vals xs its/\IsTup s.heap a its.toArray/\xs.length<=sizeLine:=by
  rcases h with h | ⟨o,its,n,hk,hc,hs,hz,r⟩
  . obtain ⟨z,its,r,p⟩:=h.ok I.hok
    exact ⟨its,r,p,z⟩
  . refine ⟨its.toList,r,⟨o,I.kIn a o hk,hc,n,by simpa using hs⟩,?_⟩
    have e:=r.length
    simp only [Array.length_toList] at e
    omega
theorem Inv.list_inj (I:Inv X pins σ H s) (h:SqL X.K H a xs) (h':SqL X.K H a ys):xs=ys:=by
  obtain ⟨its,r,⟨o,n,e,_,_,d⟩,_⟩:=I.list h
  obtain ⟨its',r',⟨o',n',e',_,_,d'⟩,_⟩:=I.list h'
  rw [e] at e';cases e'
  rw [d] at d'
  injection d' with d1 _
  have:its=its':=by simpa using congrArg Array.toList d1
  subst this
  exact r.inj r'
theorem Inv.tuple_inj (I:Inv X pins σ H s) (h:SqT X.K H a xs) (h':SqT X.K H a ys):xs=ys:=by
  obtain ⟨its,r,⟨o,e,_,n,d⟩,_⟩:=I.tuple h
  obtain ⟨its',r',⟨o',e',_,n',d'⟩,_⟩:=I.tuple h'
  rw [e] at e';cases e'
  rw [d] at d'
  injection d' with d1 _
  have:its=its':=by simpa using congrArg Array.toList d1
  subst this
  exact r.inj r'
end
abbrev Cx.wish (X:Cx) (E:Value->Shared->Prop):Cx:={ X with xe:=E }
abbrev Cx.nox (X:Cx):Cx:=X.wish λ _ _=>False
theorem Cx.Ok.wish {X:Cx} (ok:X.Ok) (E:Value->Shared->Prop):(X.wish E).Ok:=
  ⟨ok.mod,ok.kind,ok.glob,ok.blt,ok.above,ok.inj,ok.has,ok.cab,ok.hd,ok.frames,ok.stk,ok.exf,ok.bs,ok.bsz,ok.noex,ok.exfs,ok.funs,ok.frf⟩
theorem Cx.Ok.unwish {X:Cx} {E:Value->Shared->Prop} (ok:(X.wish E).Ok):X.Ok:=
  ⟨ok.mod,ok.kind,ok.glob,ok.blt,ok.above,ok.inj,ok.has,ok.cab,ok.hd,ok.frames,ok.stk,ok.exf,ok.bs,ok.bsz,ok.noex,ok.exfs,ok.funs,ok.frf⟩
section
variable {X:Cx} {pins:List (Addr × Obj)} {σ:St} {H:Hp} {s:Shared} {E:Value->Shared->Prop}
theorem Inv.wish (I:Inv X pins σ H s) (E:Value->Shared->Prop):Inv (X.wish E) pins σ H s:=⟨I.ok.wish E,I.os,I.bare,I.base,I.loc,I.cell,I.free,I.freeC,I.pin,I.hok,I.len⟩
theorem Inv.unwish (I:Inv (X.wish E) pins σ H s):Inv X pins σ H s:=⟨I.ok.unwish,I.os,I.bare,I.base,I.loc,I.cell,I.free,I.freeC,I.pin,I.hok,I.len⟩
theorem SP.unwish {D:Ends} {f:Flow} {s':Shared} (h:SP (X.wish E) pins D f s'):SP X pins D f s':=by
  cases f with
  | next=>obtain ⟨σ',H',I,q⟩:=h;exact ⟨σ',H',I.unwish,q⟩
  | brk=>obtain ⟨σ',H',I,q⟩:=h;exact ⟨σ',H',I.unwish,q⟩
  | cont=>obtain ⟨σ',H',I,q⟩:=h;exact ⟨σ',H',I.unwish,q⟩
  | ret u=>obtain ⟨v,σ',H',I,r,q⟩:=h;exact ⟨v,σ',H',I.unwish,r,q⟩
theorem PSs.nox {st:List Stmt} {t:TS} (h:PSs X.nox st t):PSs X st t:=λ pins s σ H D I hw=>
  wpAny_mono (h pins s σ H D (I.wish _) hw) (λ _ _ q=>q.unwish) λ _ _ z=>False.elim z
end
section
variable {X:Cx} {st:Stmt} {rest:List Stmt} {t u:TS} {e:Expr} {te:TE} {pos:Pos}
def o7q:TS:=λ D σ H=>D.nx σ H
def u8q (t u:TS):TS:=λ D σ H=>t { D with nx:=u D } σ H
theorem n9q:PSs X [] o7q:=λ _ _ σ H _ I h=>wpAny_execs_nil ⟨σ,H,I,h⟩
theorem kYq (h1:PS X st t) (h2:PSs X rest u):PSs X (st::rest) (u8q t u):=by
  intro pins s σ H D I h
  refine wpAny_execs_cons (thn (h1 pins s σ H { D with nx:=u D } I h) λ f s1 q=>?_)
  cases f with
  | next=>
    obtain ⟨σ',H',I',q⟩:=q
    exact h2 pins s1 σ' H' D I' q
  | ret v=>exact q
  | brk=>exact q
  | cont=>exact q
theorem m3q (h1:PS X st t):PSs X [st] t:=by
  intro pins s σ H D I h
  refine wpAny_execs_cons (thn (h1 pins s σ H D I h) λ f s1 q=>?_)
  cases f with
  | next=>exact wpAny_execs_nil q
  | ret v=>exact q
  | brk=>exact q
  | cont=>exact q
theorem Inv.quiet {pins:List (Addr × Obj)} {σ:St} {H:Hp} {s:Shared} (I:Inv X pins σ H s):interactive X.env=false:=by simp [interactive,I.ok.kind]
def oDq (te:TE):TS:=λ D σ H=>te σ H λ _ H1=>D.nx σ H1
theorem n6q (he:PE X e te) (hs:swapsWith e none pos.line X.env=pure false:=by rfl):PS X (.Expr e pos) (oDq te):=by
  intro pins s σ H D I h
  exact wpAny_Expr_any (thn (he pins s σ H _ I h) λ v s1 ⟨x,H1,I1,r1,q1⟩=>⟨σ,H1,I1,q1⟩) I.quiet hs
def tNq (te:TE):TS:=λ D σ H=>te σ H D.rt
theorem r5q (he:PE X e te):PS X (.Return (some e) pos) (tNq te):=by
  intro pins s σ H D I h
  exact wpAny_Return_some (thn (he pins s σ H _ I h) λ v s1 ⟨x,H1,I1,r1,q1⟩=>⟨x,σ,H1,I1,r1,q1⟩)
def uEq (c:TT) (t u:TS):TS:=λ D σ H=>c σ H λ b H1=>if b=true then t D σ H1 else u D σ H1
theorem rUq {c:Expr} {a b:List Stmt} {tc:TT} (hc:PT X c tc) (ha:PSs X a t) (hb:PSs X b u):PS X (.If c a b pos) (uEq tc t u):=by
  intro pins s σ H D I h
  refine wpAny_If (thn (hc pins s σ H _ I h) λ d s1 ⟨H1,I1,q1⟩=>?_)
  cases d with
  | true=>exact ha pins s1 σ H1 D I1 q1
  | false=>exact hb pins s1 σ H1 D I1 q1
end
abbrev TG:=V->St->Hp->(St->Hp->Prop)->Prop
abbrev TGs:=List V->St->Hp->(St->Hp->Prop)->Prop
def PG (X:Cx) (target:Expr) (t:TG):Prop:=
  ∀ (pins:List (Addr × Obj)) (s:Shared) (σ:St) (H:Hp) (v:V) (u:Value) (Q:St->Hp->Prop),Inv X pins σ H s->RelV v u->t v σ H Q →
    wpAny (model X.prog X.w) X.A (assign target X.env u) (λ _ s'=>∃ σ' H',Inv X pins σ' H' s'/\Q σ' H') X.xe s
def PGs (X:Cx) (ts:List Expr) (t:TGs):Prop:=
  ∀ (pins:List (Addr × Obj)) (s:Shared) (σ:St) (H:Hp) (vs:List V) (us:List Value) (Q:St->Hp->Prop),Inv X pins σ H s->Vals vs us->t vs σ H Q →
    wpAny (model X.prog X.w) X.A (assignInOrder ((assignEach ts X.env).map (·.2)) us) (λ _ s'=>∃ σ' H',Inv X pins σ' H' s'/\Q σ' H') X.xe s
abbrev qFq:=V->V->V->Hp->(Hp->Prop)->Prop
def rNq (X:Cx) (t:qFq):Prop:=
  ∀ (pins:List (Addr × Obj)) (s:Shared) (σ:St) (H:Hp) (o i v:V) (ov iv u:Value) (Q:Hp->Prop),Inv X pins σ H s->RelV o ov->RelV i iv->RelV v u->t o i v H Q →
    wpAny (model X.prog X.w) X.A (setItem ov iv u) (λ _ s'=>∃ H',Inv X pins σ H' s'/\Q H') X.xe s
section
variable {X:Cx} {pos:Pos}
def hJq (i:Nat):TG:=λ v σ H Q=>Q (σ.set i (some v)) H
theorem m2q {i:Nat} {x:Str} (hN:X.N.Nodup) (hi:X.N[i]?=some x) (hx:Loc X.env.scope x) (hf:X.fn x=true\/X.env.scope.names.lookup x=some .local:=by first | exact .inl rfl | exact .inr rfl | assumption):PG X (.Name x pos) (hJq i):=by
  intro pins s σ H v u Q I r h
  exact wpAny_assign_Name (gOq I hN hi hx r (λ s' I'=>⟨_,H,I',h⟩) hf)
def tOq:TGs:=λ vs σ H Q=>vs=[]/\Q σ H
def r6q (t:TG) (u:TGs):TGs:=λ vs σ H Q=>∃ v r,vs=v::r/\t v σ H λ σ' H'=>u r σ' H' Q
theorem nQq:PGs X [] tOq:=by
  intro pins s σ H vs us Q I r h
  obtain ⟨e,h⟩:=h
  subst e
  cases r
  exact assignInOrder_nil ⟨σ,H,I,h⟩
theorem kLq {e:Expr} {es:List Expr} {t:TG} {u:TGs} (h1:PG X e t) (h2:PGs X es u)
    (hs:(assignEach (e::es) X.env).map (·.2)=assign e X.env::(assignEach es X.env).map (·.2):=by rfl):PGs X (e::es) (r6q t u):=by
  intro pins s σ H vs us Q I r h
  obtain ⟨v,vr,e1,h⟩:=h
  subst e1
  cases r with
  | cons r rr=>
    rw [hs]
    refine assignInOrder_cons (thn (h1 pins s σ H _ _ _ I r h) λ _ s1 ⟨σ1,H1,I1,q1⟩=>?_)
    exact h2 pins s1 σ1 H1 _ _ Q I1 rr q1
def tRq (K:PySem.W.Frag) (n:Nat) (t:TGs):TG:=λ v σ H Q=>∃ a xs,v=.ref a/\SqT K H a xs/\xs.length=n/\t xs σ H Q
theorem oVq {es:List Expr} {k:Nat} {t:TGs} {n:Nat} (hc:X.calm=true) (h:PGs X es t)
    (hn:(assignEach es X.env).length=n:=by rfl) (hst:(assignEach es X.env).findIdx? (·.1)=none:=by rfl):PG X (.Tuple es k pos) (tRq X.K n t):=by
  intro pins s σ H v u Q I r hw
  obtain ⟨a,xs,e1,hq,hl,hw⟩:=hw
  subst e1
  cases r
  obtain ⟨its,rv,ht,hz⟩:=I.tuple hq
  refine assign_Tuple_tuple (I.ok.hd hc) ht (by simp [hn,<- hl,rv.length]) hst λ h' hx=>?_
  have I1:Inv X pins σ H { s with heap:=h' }:=I.kept (t':=s.toks) λ b o e=>hx b o (Nat.ne_of_lt (Heap.lt_size e)) e
  exact h pins _ σ H xs _ Q I1 (by simpa using rv) hw
def tUq (to ti:TE) (t:qFq):TG:=λ v σ H Q=>to σ H λ o H1=>ti σ H1 λ i H2=>t o i v H2 λ H3=>Q σ H3
theorem qSq {o i:Expr} {to ti:TE} {t:qFq} (ho:PE X o to) (hi:PE X i ti) (hs:rNq X t)
    (ha:∀ v,assign (.Subscript o i pos) X.env v=(do
      let ov ← holding [v] (eval o X.env)
      let iv ← holding [v,ov] (eval i X.env)
      standAt pos
      holding [v,ov,iv] (setItem ov iv v)
      release [v,ov,iv] []):=by intro _;rfl):PG X (.Subscript o i pos) (tUq to ti t):=by
  intro pins s σ H v u Q I r h
  rw [ha]
  refine wpAny_bind (wpAny_holding (thn (ho pins s σ H _ I h) λ ov s1 ⟨x,H1,I1,r1,q1⟩=>?_))
  refine wpAny_bind (wpAny_holding (thn (hi pins s1 σ H1 _ I1 q1) λ iv s2 ⟨y,H2,I2,r2,q2⟩=>?_))
  refine wpAny_bind (wpAny_standAt (wpAny_bind (wpAny_holding (thn (hs pins s2 σ H2 x y v ov iv u _ I2 r1 r2 r q2) λ _ s3 ⟨H3,I3,q3⟩=>?_))))
  exact wpAny_release ⟨σ,H3,I3,q3⟩
def nVq (te:TE) (g:TG):TS:=λ D σ H=>te σ H λ x H1=>g x σ H1 D.nx
theorem pQq {tg e:Expr} {te:TE} {g:TG} (he:PE X e te) (hg:PG X tg g) (hs:swapsWithSole [tg] e pos.line X.env=pure false:=by rfl) (hw:swappedStores [tg] e X.env=pure none:=by rfl)
    (h1:(assignEach [tg] X.env).map (·.2)=[assign tg X.env]:=by rfl):PS X (.Assign [tg] e pos) (nVq te g):=by
  intro pins s σ H D I h
  refine wpAny_Assign_stores (thn (he pins s σ H _ I h) λ v s1 ⟨x,H1,I1,r1,q1⟩=>?_) hs hw
  rw [h1]
  exact thn (hg pins s1 σ H1 x v _ I1 r1 q1) λ _ s2 q=>q
theorem oEq {i:Nat} {x:Str} {e:Expr} {te:TE} {pos':Pos} (hN:X.N.Nodup) (hi:X.N[i]?=some x) (hx:Loc X.env.scope x) (he:PE X e te) (hs:swapsWith e (some (.Name x pos')) pos.line X.env=pure false:=by rfl) (hf:X.fn x=true\/X.env.scope.names.lookup x=some .local:=by first | exact .inl rfl | exact .inr rfl | assumption) :
    PS X (.Assign [.Name x pos'] e pos) (nVq te (hJq i)):=by
  intro pins s σ H D I h
  refine wpAny_Assign_Name (thn (he pins s σ H _ I h) λ v s1 ⟨y,H1,I1,r1,q1⟩=>?_) hs
  exact gOq I1 hN hi hx r1 (λ s2 I2=>⟨_,H1,I2,q1⟩) hf
end
section
variable {X:Cx} {pos:Pos}
def lCq (c:TT) (tb:TS):TS:=λ D σ H=>∃ W:Nat->St->Hp->Prop,(∃ m,W m σ H)/\∀ m σ H,W m σ H →
  c σ H λ b H1=>if b=true then ∃ N:St->Hp->Prop,(∀ σ' H',N σ' H'->∃ m',m' < m/\W m' σ' H')/\tb { D with nx:=N,ct:=N,bk:=D.nx } σ H1 else D.nx σ H1
theorem kEq {c:Expr} {body:List Stmt} {tc:TT} {tb:TS} (hp:PassesOwn (model X.prog X.w) X.A X.env X.xe) (hc:PT X c tc) (hb:PSs X body tb):PS X (.While c body [] pos) (lCq tc tb):=by
  intro pins s σ H D I h
  obtain ⟨W,⟨m0,w0⟩,turn⟩:=h
  refine wpAny_While (codeAny_whileLoop (λ n s'=>∃ σ' H',Inv X pins σ' H' s'/\W n σ' H') ?_ m0 ⟨σ,H,I,w0⟩)
  rintro n s1 ⟨σ1,H1,I1,w1⟩
  refine wpAny_passesOwn hp (thn (hc pins s1 σ1 H1 _ I1 (turn n σ1 H1 w1)) λ b s2 ⟨H2,I2,q2⟩=>?_)
  cases b with
  | true=>
    obtain ⟨N,hN,q2⟩:=q2
    rw [if_pos rfl]
    refine wpAny_passesOwn hp (thn (hb pins s2 σ1 H2 _ I2 q2) λ f s3 q3=>?_)
    cases f with
    | next=>
      obtain ⟨σ3,H3,I3,n3⟩:=q3
      obtain ⟨m',hm,w3⟩:=hN σ3 H3 n3
      exact ⟨m',hm,σ3,H3,I3,w3⟩
    | cont=>
      obtain ⟨σ3,H3,I3,n3⟩:=q3
      obtain ⟨m',hm,w3⟩:=hN σ3 H3 n3
      exact ⟨m',hm,σ3,H3,I3,w3⟩
    | brk=>exact q3
    | ret v=>exact q3
  | false=>
    rw [if_neg Bool.false_ne_true]
    exact wpAny_execs_nil ⟨σ1,H2,I2,q2⟩
end
structure It where
  go:Nat->Hp->Prop
  yld:Nat->Hp->V->Hp->Prop
  stop:Nat->Hp->Prop
def fYq (X:Cx) (pins:List (Addr × Obj)) (H:Hp) (b:Addr):Prop:=
  H b=none/\b≠X.env.locals/\b ∉ X.fs/\(b∈X.ex\/X.s₀.heap.objs.size<=b)/\(∀ x c,X.env.cells.lookup x=some c->c≠b)/\∀ p∈X.pn++pins,p.1≠b
theorem Inv.fpOk {X:Cx} {pins:List (Addr × Obj)} {σ:St} {H H':Hp} {s:Shared} {b:Addr} (I:Inv X pins σ H s) (hb:s.heap.objs.size<=b) (hn:H' b=none):fYq X pins H' b:=by
  refine ⟨hn,Nat.ne_of_gt (Nat.lt_of_lt_of_le I.lt hb),I.nofs hb,.inr (Nat.le_trans I.sz hb),λ x c e z=>?_,λ p hp z=>?_⟩
  . obtain ⟨v,q⟩:=I.cell x c e
    exact absurd (Nat.lt_of_lt_of_le q.lt (by rw [z];exact hb)) (Nat.lt_irrefl _)
  . exact absurd (Nat.lt_of_lt_of_le (Heap.lt_size (I.pin p hp).1) (by rw [z];exact hb)) (Nat.lt_irrefl _)
structure Turn (P:Program) (w:World) (K:PySem.W.Frag) (tg:Expr) (J:It) (fp:List Addr) (it:Addr) (tn:Nat->Heap->Prop):Prop where
  mem:it∈fp
  obj:∀ i h,tn i h->∀ b∈fp,∃ o,h.get? b=some o/\∀ v,o.data≠.cell v
  keep:∀ i h h',tn i h->(∀ b∈fp,∀ o,h.get? b=some o->h'.get? b=some o)->tn i h'
  item:∀ (X:Cx),X.prog=P->X.w=w->X.K=K->X.calm=true->∀ (i:Nat) (pins:List (Addr × Obj)) (s:Shared) (σ:St) (H:Hp) (E:Value->Shared->Prop),Inv X pins σ H s->(∀ b∈fp,fYq X pins H b)->tn i s.heap->J.go i H →
    wpAny (model P w) X.A (pyNext (.ref it)) (λ r s1=>∃ u,r=some u ∧
      wpAny (model P w) X.A (letOwnedTupleGo tg (.ref it) u) (λ _ s2=>∃ x H',Inv X pins σ H' s2/\RelV x u/\J.yld i H x H'/\tn (i+1) s2.heap/\∀ b∈fp,H' b=none) E s1) E s
  done:∀ (X:Cx),X.prog=P->X.w=w->X.K=K->X.calm=true->∀ (i:Nat) (pins:List (Addr × Obj)) (s:Shared) (σ:St) (H:Hp) (E:Value->Shared->Prop),Inv X pins σ H s->(∀ b∈fp,fYq X pins H b)->tn i s.heap->J.stop i H →
    wpAny (model P w) X.A (pyNext (.ref it)) (λ r s1=>r=none/\Inv X pins σ H s1) E s
  self:∀ (A:Around) (i:Nat) (s:Shared) (Q:Value->Shared->Prop) (E:Value->Shared->Prop),tn i s.heap->Q (.ref it) s->wpAny (model P w) A (pyIter (.ref it)) Q E s
abbrev TI:=St->Hp->(It->Hp->Prop)->Prop
def PIE (X:Cx) (pins:List (Addr × Obj)) (σ:St) (tg:Expr) (R:It->Hp->Prop) (itv:Value) (s2:Shared):Prop:=
  ∃ (it:Addr) (fp:List Addr) (tn:Nat->Heap->Prop) (J:It) (H':Hp),itv=.ref it/\Inv X pins σ H' s2/\Turn X.prog X.w X.K tg J fp it tn/\tn 0 s2.heap/\(∀ b∈fp,fYq X pins H' b)/\R J H'
def PI (X:Cx) (tg iter:Expr) (wi:TI):Prop:=
  ∀ (pins:List (Addr × Obj)) (s:Shared) (σ:St) (H:Hp) (R:It->Hp->Prop),Inv X pins σ H s->wi σ H R →
    wpAny (model X.prog X.w) X.A (eval iter X.env) (λ v s1=>wpAny (model X.prog X.w) X.A (pyIter v) (PIE X pins σ tg R) X.xe s1) X.xe s
theorem jOq {M:Model} {A:Around} {E:Value->Shared->Prop} {s:Shared} {tg:Expr} {it:Addr} {u:Value} {o:Obj} {n:String} {vs:Array Value} {Q:Unit->Shared->Prop} (ho:s.heap.get? it=some o) (hc:o.cls=.type n) (hd:o.data=.fields vs)
    (hn:["enumerate", "zip", "dict_itemiterator", "dict_reverseitemiterator", "odict_iterator", "itertools.zip_longest", "itertools.pairwise"].contains n=false) (hQ:Q () s):wpAny M A (letOwnedTupleGo tg (.ref it) u) Q E s:=by
  unfold letOwnedTupleGo
  cases tg<;>first
    | exact wpAny_pure hQ
    | (cases u<;>first
        | exact wpAny_pure hQ
        | (refine wpAny_bind (wpAny_load ho ?_)
           rw [hc,hd]
           show wpAny M A (if (["enumerate", "zip", "dict_itemiterator", "dict_reverseitemiterator", "odict_iterator", "itertools.zip_longest", "itertools.pairwise"].contains n&&vs[0]?==some (rawInt _))=true then _ else _) Q E s
           rw [if_neg (by intro h;rw [hn,Bool.false_and] at h;cases h)]
           exact wpAny_pure hQ))
def Itl (K:PySem.W.Frag) (a:Addr):It:=
  ⟨λ i H=>∃ xs x,SqL K H a xs/\xs[i]?=some x,λ i H x H'=>H'=H/\∀ xs,SqL K H a xs->xs[i]?=some x,λ i H=>∃ xs,SqL K H a xs/\xs.length<=i⟩
def Itt (K:PySem.W.Frag) (a:Addr):It:=
  ⟨λ i H=>∃ xs x,SqT K H a xs/\xs[i]?=some x,λ i H x H'=>H'=H/\∀ xs,SqT K H a xs->xs[i]?=some x,λ i H=>∃ xs,SqT K H a xs/\xs.length<=i⟩
def Itr (lo:Int) (n:Nat):It:=⟨λ i _=>i < n,λ i H x H'=>H'=H/\x=.int (lo+i),λ i _=>n<=i⟩
theorem iLq {P:Program} {w:World} {K:PySem.W.Frag} {tg:Expr} (a it:Addr):Turn P w K tg (Itl K a) [it] it (λ i h=>h.IsListIter it a i) where
  mem:=by simp
  obj:=λ i h st b hb=>by
    have e:b=it:=by simpa using hb
    subst e
    obtain ⟨o,e,c,d⟩:=st
    exact ⟨o,e,λ v z=>by rw [d] at z;cases z⟩
  keep:=λ i h h' st k=>st.at λ o e=>k it (by simp) o e
  item:=by
    intro X hP hw hK hc i pins s σ H E I hf st hg
    subst hP hw hK
    obtain ⟨xs,x,hq,hx⟩:=hg
    obtain ⟨its,rv,p,hz⟩:=I.list hq
    obtain ⟨u,hu,ru⟩:=rv.get hx
    obtain ⟨f0,f1,f2,f3,f4,f5⟩:=hf it (by simp)
    refine wpAny_pyNext_list_item st p.isList (x:=u) (by simpa using hu) λ h' st' sb=>?_
    have I1:Inv X pins σ H { s with heap:=h' }:=I.turned (t':=s.toks) (λ b o hb e=>(sb.2 b hb).trans e) f0 f1 f3 f4 f5
    obtain ⟨o,e,c,d⟩:=id st'
    exact ⟨u,rfl,jOq (s:={ s with heap:=h' }) e c d (by decide) ⟨x,H,I1,ru,⟨rfl,λ ys hy=>by rw [I.list_inj hy hq];exact hx⟩,st',λ b hb=>(hf b hb).1⟩⟩
  done:=by
    intro X hP hw hK hc i pins s σ H E I hf st hg
    subst hP hw hK
    obtain ⟨xs,hq,hx⟩:=hg
    obtain ⟨its,rv,p,hz⟩:=I.list hq
    obtain ⟨f0,f1,f2,f3,f4,f5⟩:=hf it (by simp)
    have hl:=rv.length
    exact wpAny_pyNext_list_end (I.ok.hd hc) st p.isList (by simp;omega) λ h' eb=>⟨rfl,I.turned (t':=s.toks) (λ b o hb e=>eb b o hb e) f0 f1 f3 f4 f5⟩
  self:=λ _ _ _ _ _ st h=>wpAny_pyIter_listiter st h
theorem hPq {P:Program} {w:World} {K:PySem.W.Frag} {tg:Expr} (a it:Addr):Turn P w K tg (Itt K a) [it] it (λ i h=>h.IsTupleIter it a i) where
  mem:=by simp
  obj:=λ i h st b hb=>by
    have e:b=it:=by simpa using hb
    subst e
    obtain ⟨o,e,c,d⟩:=st
    exact ⟨o,e,λ v z=>by rw [d] at z;cases z⟩
  keep:=λ i h h' st k=>st.at λ o e=>k it (by simp) o e
  item:=by
    intro X hP hw hK hc i pins s σ H E I hf st hg
    subst hP hw hK
    obtain ⟨xs,x,hq,hx⟩:=hg
    obtain ⟨its,rv,p,hz⟩:=I.tuple hq
    obtain ⟨u,hu,ru⟩:=rv.get hx
    obtain ⟨f0,f1,f2,f3,f4,f5⟩:=hf it (by simp)
    refine wpAny_pyNext_tuple_item st (show s.heap.IsTuple a its.toArray from p) (x:=u) (by simpa using hu) λ h' st' sb=>?_
    have I1:Inv X pins σ H { s with heap:=h' }:=I.turned (t':=s.toks) (λ b o hb e=>(sb.2 b hb).trans e) f0 f1 f3 f4 f5
    obtain ⟨o,e,c,d⟩:=id st'
    exact ⟨u,rfl,jOq (s:={ s with heap:=h' }) e c d (by decide) ⟨x,H,I1,ru,⟨rfl,λ ys hy=>by rw [I.tuple_inj hy hq];exact hx⟩,st',λ b hb=>(hf b hb).1⟩⟩
  done:=by
    intro X hP hw hK hc i pins s σ H E I hf st hg
    subst hP hw hK
    obtain ⟨xs,hq,hx⟩:=hg
    obtain ⟨its,rv,p,hz⟩:=I.tuple hq
    obtain ⟨f0,f1,f2,f3,f4,f5⟩:=hf it (by simp)
    have hl:=rv.length
    exact wpAny_pyNext_tuple_end (I.ok.hd hc) st (show s.heap.IsTuple a its.toArray from p) (by simp;omega) λ h' eb=>⟨rfl,I.turned (t':=s.toks) (λ b o hb e=>eb b o hb e) f0 f1 f3 f4 f5⟩
  self:=λ _ _ _ _ _ st h=>wpAny_pyIter_tupleiter st h
theorem hSq {P:Program} {w:World} {K:PySem.W.Frag} {tg:Expr} (it:Addr) (lo:Int) (n:Nat):Turn P w K tg (Itr lo n) [it] it (λ i h=>IsRangeIter h it (lo+(i:Nat) * 1) ((n:Int) - (i:Nat)) 1) where
  mem:=by simp
  obj:=λ i h st b hb=>by
    have e:b=it:=by simpa using hb
    subst e
    exact ⟨_,st,λ v z=>by
      have z':Data.fields _=Data.cell v:=z
      cases z'⟩
  keep:=λ i h h' st k=>k it (by simp) _ st
  item:=by
    intro X hP hw hK hc i pins s σ H E I hf st hg
    subst hP hw hK
    obtain ⟨f0,f1,f2,f3,f4,f5⟩:=hf it (by simp)
    have W:=Walks.range (prog:=X.prog) (w:=X.w) (I.ok.hd hc) it lo 1 n
    refine W.item i s _ _ hg st λ v h' tk hv st' kk=>?_
    obtain ⟨t,rfl⟩:=hv
    have I1:Inv X pins σ H { s with heap:=h',toks:=tk }:=I.turned (λ b o hb e=>kk b o (by simpa using hb) e) f0 f1 f3 f4 f5
    refine ⟨_,rfl,jOq (s:={ s with heap:=h',toks:=tk }) (n:="range_iterator") st' rfl rfl (by decide) ⟨.int (lo+i),H,I1,⟨t,?_⟩,⟨rfl,rfl⟩,st',λ b hb=>(hf b hb).1⟩⟩
    rw [Int.mul_one]
  done:=by
    intro X hP hw hK hc i pins s σ H E I hf st hg
    subst hP hw hK
    obtain ⟨f0,f1,f2,f3,f4,f5⟩:=hf it (by simp)
    exact wpAny_pyNext_range_end (I.ok.hd hc) st (by have:n<=i:=hg;omega) λ h' eb=>⟨rfl,I.turned (t':=s.toks) (λ b o hb e=>eb b o hb e) f0 f1 f3 f4 f5⟩
  self:=λ _ _ _ _ _ st h=>wpAny_pyIter_rangeiter st h
section
variable {X:Cx} {tg:Expr}
theorem h1q {pins:List (Addr × Obj)} {σ:St} {H:Hp} {s:Shared} {R:It->Hp->Prop} {E:Value->Shared->Prop} {lo hi:Int} {t u v:Tok} {tk:Nat} (I:Inv X pins σ H s) (h1:-(2 ^ 62)<=lo) (h2:lo < 2 ^ 62) (h3:-(2 ^ 62)<=hi) (h4:hi < 2 ^ 62)
    (q:R (Itr lo (hi - lo).toNat) H):wpAny (model X.prog X.w) X.A (pyIter (.ref s.heap.objs.size)) (PIE X pins σ tg R) E { s with heap:=s.heap.push { cls:=.type "range", data:=.fields #[.int lo t,.int hi u,.int 1 v] },toks:=tk }:=by
  refine wpAny_pyIter_range (IsRange.new ..) (small_one h1 h2 h3 h4) ?_
  have I1:Inv X pins σ H { s with heap:=s.heap.push { cls:=.type "range", data:=.fields #[.int lo t,.int hi u,.int 1 v] },toks:=tk }:=I.kept λ b o e=>Heap.get?_push_of_some _ e
  refine ⟨(s.heap.push { cls:=.type "range", data:=.fields #[.int lo t,.int hi u,.int 1 v] }).objs.size,[(s.heap.push { cls:=.type "range", data:=.fields #[.int lo t,.int hi u,.int 1 v] }).objs.size],_,_,H,rfl,
    I1.kept (t':=tk) λ b o e=>Heap.get?_push_of_some _ e,hSq _ lo (hi - lo).toNat,?_,λ b hb=>?_,q⟩
  . have e1:lo+((0:Nat):Int) * 1=lo:=by simp
    have e2:(((hi - lo).toNat:Nat):Int) - ((0:Nat):Int)=Builtin.Range.rangeSize lo hi 1:=by rw [rangeSize_one];split<;>omega
    show IsRangeIter _ _ (lo+((0:Nat):Int) * 1) ((((hi - lo).toNat:Nat):Int) - ((0:Nat):Int)) 1
    rw [e1,e2]
    exact Heap.get?_push_size _ rfl
  . have e:b=(s.heap.push { cls:=.type "range", data:=.fields #[.int lo t,.int hi u,.int 1 v] }).objs.size:=by simpa using hb
    subst e
    exact I1.fpOk (Nat.le_refl _) (I1.hok.fresh (Nat.le_refl _))
def qKq (ta:TA):TI:=λ σ H R=>ta σ H λ vs H1=>∃ j:Int,vs=[.int j]/\-(2 ^ 62)<=j/\j < 2 ^ 62/\R (Itr 0 j.toNat) H1
def pDq (ta:TA):TI:=λ σ H R=>ta σ H λ vs H1=>∃ i j:Int,vs=[.int i,.int j]/\(-(2 ^ 62)<=i/\i < 2 ^ 62/\-(2 ^ 62)<=j/\j < 2 ^ 62)/\R (Itr i (j - i).toNat) H1
theorem jCq {a:Expr} {ta:TA} {p pos:Pos} (hg:Gl X "range") (hm:X.mg "range" = none) (ha:PA X [a] ta) (hs:starEach [a] X.env=[(false,eval a X.env)]:=by rfl):PI X tg (.Call (.Name "range" p) [a] [] pos) (qKq ta):=by
  intro pins s σ H R I h
  refine Call_ (c3q I hg hm boot_range (PyProof.Rows.callWith_type1 (thn (ha pos pins s σ H _ I h) λ us s1 ⟨vs,H1,I1,r1,q1⟩=>?_) hs rfl))
  obtain ⟨j,e,q1,q2,q⟩:=q1
  subst e
  cases r1 with
  | cons r rr=>
    cases rr
    obtain ⟨t,rfl⟩:=r
    exact call_range_1 (h1q I1 (by omega) (by omega) q1 q2 (by simpa using q))
theorem i3q {a b:Expr} {ta:TA} {p pos:Pos} (hg:Gl X "range") (hm:X.mg "range" = none) (ha:PA X [a,b] ta) (hs:starEach [a,b] X.env=[(false,eval a X.env),(false,eval b X.env)]:=by rfl) (hs2:starEach [b] X.env=[(false,eval b X.env)]:=by rfl) :
    PI X tg (.Call (.Name "range" p) [a,b] [] pos) (pDq ta):=by
  intro pins s σ H R I h
  refine Call_ (c3q I hg hm boot_range (PyProof.Rows.callWith_type1 (thn (ha pos pins s σ H _ I h) λ us s1 ⟨vs,H1,I1,r1,q1⟩=>?_) (by rw [hs,hs2]) (by rw [hs2];rfl)))
  obtain ⟨i,j,e,⟨q1,q2,q3,q4⟩,q⟩:=q1
  subst e
  cases r1 with
  | cons r rr=>
    cases rr with
    | cons r' rr=>
      cases rr
      obtain ⟨t,rfl⟩:=r
      obtain ⟨t',rfl⟩:=r'
      exact call_range_2 (h1q I1 q1 q2 q3 q4 q)
def u9q (wi:TI) (g:TG) (tb:TS):TS:=λ D σ H=>wi σ H λ J H1=>∃ W:Nat->Nat->St->Hp->Prop,(∃ m,W 0 m σ H1)/\∀ i m σ H,W i m σ H →
  (J.stop i H/\D.nx σ H)\/(J.go i H/\∃ N:St->Hp->Prop,(∀ σ' H',N σ' H'->∃ m',m' < m/\W (i+1) m' σ' H')/\∀ x H',J.yld i H x H'->g x σ H' λ σ2 H2=>tb { D with nx:=N,ct:=N,bk:=D.nx } σ2 H2)
def gYq (fp:List Addr) (h:Heap):List (Addr × Obj):=fp.filterMap λ b=>(h.get? b).map λ o=>(b,o)
theorem b6q {fp:List Addr} {h:Heap} {b:Addr} {o:Obj} (hb:b∈fp) (e:h.get? b=some o):(b,o)∈gYq fp h:=List.mem_filterMap.mpr ⟨b,hb,by rw [e];rfl⟩
theorem iEq {fp:List Addr} {h:Heap} {p:Addr × Obj} (hp:p∈gYq fp h):p.1∈fp/\h.get? p.1=some p.2:=by
  obtain ⟨b,hb,e⟩:=List.mem_filterMap.mp hp
  cases q:h.get? b with
  | none=>rw [q] at e;cases e
  | some o=>
    rw [q] at e
    have e':(b,o)=p:=Option.some.inj e
    subst e'
    exact ⟨hb,q⟩
theorem Inv.pinned {pins:List (Addr × Obj)} {σ:St} {H:Hp} {s:Shared} {fp:List Addr} (I:Inv X pins σ H s) (hf:∀ b∈fp,fYq X pins H b) (ho:∀ b∈fp,∃ o,s.heap.get? b=some o/\∀ v,o.data≠.cell v):Inv X (pins++gYq fp s.heap) σ H s:=
  I.pins_of λ p hp=>(List.mem_append.mp hp).elim (λ z=>I.pin p (List.mem_append_right _ z)) λ z=>by
    obtain ⟨hb,e⟩:=iEq z
    obtain ⟨f0,f1,f2,_⟩:=hf p.1 hb
    obtain ⟨o,e',d⟩:=ho p.1 hb
    rw [e] at e';cases e'
    exact ⟨e,f0,f1,f2,d⟩
theorem Inv.unpinned {pins pl:List (Addr × Obj)} {σ:St} {H:Hp} {s:Shared} (I:Inv X (pins++pl) σ H s):Inv X pins σ H s:=I.pins_of λ p hp=>I.pin p (List.mem_append_right _ (List.mem_append_left _ hp))
theorem qMq {iter:Expr} {body:List Stmt} {wi:TI} {g:TG} {tb:TS} {pos:Pos} (hp:PassesOwn (model X.prog X.w) X.A X.env X.xe) (hc:X.calm=true) (hi:PI X tg iter wi) (hg:PG X tg g) (hb:PSs X body tb)
    (hs:∀ x,foldedSetIterable iter X.env x=pure x:=by intro _;rfl):PS X (.For tg iter body [] pos) (u9q wi g tb):=by
  intro pins s σ H D I h
  refine wpAny_For (thn (hi pins s σ H _ I h) λ v s1 h1=>thn h1 λ itv s2 h2=>?_) hs
  obtain ⟨it,fp,tn,J,H2,e,I2,T,st2,f2,W,⟨m0,w0⟩,turn⟩:=h2
  subst e
  have stat:∀ {H':Hp},(∀ b∈fp,H' b=none)->∀ b∈fp,fYq X pins H' b:=λ hn b hb=>⟨hn b hb,(f2 b hb).2⟩
  refine codeAny_forLoop_any (λ n s'=>∃ i σ' H',Inv X pins σ' H' s'/\tn i s'.heap/\(∀ b∈fp,H' b=none)/\W i n σ' H') ?_ m0 ⟨0,σ,H2,I2,st2,λ b hb=>(f2 b hb).1,w0⟩
  rintro n s3 ⟨i,σ3,H3,I3,st3,fr3,w3⟩
  rcases turn i n σ3 H3 w3 with ⟨stop,qn⟩ | ⟨go,N,hN,step⟩
  . refine wpAny_passesOwn hp (thn (T.done X rfl rfl rfl hc i pins s3 σ3 H3 X.xe I3 (stat fr3) st3 stop) λ r s4 ⟨hr,I4⟩=>?_)
    subst hr
    exact wpAny_execs_nil ⟨σ3,H3,I4,qn⟩
  . refine wpAny_passesOwn hp (thn (T.item X rfl rfl rfl hc i pins s3 σ3 H3 X.xe I3 (stat fr3) st3 go) λ r s4 ⟨u,hr,h4⟩=>?_)
    subst hr
    refine wpAny_passesOwn hp (thn h4 λ _ s5 ⟨x,H5,I5,r5,y5,st5,fr5⟩=>?_)
    have I5':=I5.pinned (stat fr5) (T.obj _ _ st5)
    refine wpAny_passesOwn hp (thn (hg _ s5 σ3 H5 x u _ I5' r5 (step x H5 y5)) λ _ s6 ⟨σ6,H6,I6,q6⟩=>?_)
    refine wpAny_passesOwn hp (thn (hb _ s6 σ6 H6 _ I6 q6) λ f s7 q7=>?_)
    have again:∀ {σ7:St} {H7:Hp},Inv X (pins++gYq fp s5.heap) σ7 H7 s7->N σ7 H7->∃ m,m < n/\∃ i σ' H',Inv X pins σ' H' s7/\tn i s7.heap/\(∀ b∈fp,H' b=none)/\W i m σ' H':=λ{σ7 H7} I7 n7=>by
      obtain ⟨m',hm,w7⟩:=hN σ7 H7 n7
      refine ⟨m',hm,i+1,σ7,H7,I7.unpinned,T.keep _ _ _ st5 λ b hb o e=>(I7.pin (b,o) (List.mem_append_right _ (List.mem_append_right _ (b6q hb e)))).1,λ b hb=>?_,w7⟩
      obtain ⟨o,e,d⟩:=T.obj _ _ st5 b hb
      exact (I7.pin (b,o) (List.mem_append_right _ (List.mem_append_right _ (b6q hb e)))).2.1
    cases f with
    | next=>obtain ⟨σ7,H7,I7,n7⟩:=q7;exact again I7 n7
    | cont=>obtain ⟨σ7,H7,I7,n7⟩:=q7;exact again I7 n7
    | brk=>obtain ⟨σ7,H7,I7,q7⟩:=q7;exact ⟨σ7,H7,I7.unpinned,q7⟩
    | ret v=>obtain ⟨x7,σ7,H7,I7,r7,q7⟩:=q7;exact ⟨x7,σ7,H7,I7.unpinned,r7,q7⟩
end
abbrev R2:=V->V->Hp->VK->Prop
def OpR (X:Cx) (f:Value->Value->Sem Value) (r:R2):Prop:=
  ∀ (pins:List (Addr × Obj)) (s:Shared) (σ:St) (H:Hp) (x y:V) (v u:Value) (Q:VK),Inv X pins σ H s->RelV x v->RelV y u->r x y H Q →
    wpAny (model X.prog X.w) X.A (f v u) (EP X pins σ Q) X.xe s
def UnR (X:Cx) (f:Value->Sem Value) (r:V->Hp->VK->Prop):Prop:=
  ∀ (pins:List (Addr × Obj)) (s:Shared) (σ:St) (H:Hp) (x:V) (v:Value) (Q:VK),Inv X pins σ H s->RelV x v->r x H Q →
    wpAny (model X.prog X.w) X.A (f v) (EP X pins σ Q) X.xe s
def CallR (X:Cx) (f:Value) (r:List V->Hp->VK->Prop):Prop:=
  ∀ (pins:List (Addr × Obj)) (s:Shared) (σ:St) (H:Hp) (xs:List V) (us:List Value) (Q:VK),Inv X pins σ H s->Vals xs us->r xs H Q →
    wpAny (model X.prog X.w) X.A (call f us) (EP X pins σ Q) X.xe s
def uIq (X:Cx) (r:V->Hp->(Bool->Hp->Prop)->Prop):Prop:=
  ∀ (pins:List (Addr × Obj)) (s:Shared) (σ:St) (H:Hp) (x:V) (v:Value) (Q:Bool->Hp->Prop),Inv X pins σ H s->RelV x v->r x H Q →
    wpAny (model X.prog X.w) X.A (truthy v) (TP X pins σ Q) X.xe s
def tOp (r:R2) (ta tb:TE):TE:=λ σ H Q=>ta σ H λ x H1=>tb σ H1 λ y H2=>r x y H2 Q
def tUn (r:V->Hp->VK->Prop) (ta:TE):TE:=λ σ H Q=>ta σ H λ x H1=>r x H1 Q
def rI (C:Int->Int->Prop) (g:Int->Int->V):R2:=λ x y H Q=>∃ i j,x=.int i/\y=.int j/\C i j/\Q (g i j) H
def rI0 (g:Int->Int->V):R2:=λ x y H Q=>∃ i j,x=.int i/\y=.int j/\Q (g i j) H
def rU (g:Int->V):V->Hp->VK->Prop:=λ x H Q=>∃ i,x=.int i/\Q (g i) H
section
variable {X:Cx} {a b c:Expr} {ta tb tc:TE} {pos:Pos}
theorem rRq (ha:PE X a ta) (hb:PE X b tb) {pins:List (Addr × Obj)} {s:Shared} {σ:St} {H:Hp} {R:V->V->Hp->Prop} (I:Inv X pins σ H s)
    (h:ta σ H λ x H1=>tb σ H1 λ y H2=>R x y H2) {Q:Value->Shared->Prop} {f:Value->Value->Sem Value}
    (hf:∀ v u s2 x y H2,Inv X pins σ H2 s2->RelV x v->RelV y u->R x y H2->wpAny (model X.prog X.w) X.A (f v u) Q X.xe s2) :
    wpAny (model X.prog X.w) X.A (eval a X.env) (λ v s₁=>wpAny (model X.prog X.w) X.A (eval b X.env) (λ u s₂=>wpAny (model X.prog X.w) X.A (f v u) Q X.xe s₂) X.xe s₁) X.xe s:=by
  refine thn (ha pins s σ H _ I h) λ v s1 ⟨x,H1,I1,r1,q1⟩=>?_
  refine thn (hb pins s1 σ H1 _ I1 q1) λ u s2 ⟨y,H2,I2,r2,q2⟩=>?_
  exact hf v u s2 x y H2 I2 r1 r2 q2
theorem tGq {op:Operator} {r:R2} (ho:OpR X (binaryOp op) r) (ha:PE X a ta) (hb:PE X b tb):PE X (.BinOp a op b pos) (tOp r ta tb):=by
  intro pins s σ H Q I h
  exact wpAny_BinOp (rRq ha hb I h λ v u s2 x y H2 I2 rx ry q=>ho pins s2 σ H2 x y v u Q I2 rx ry q)
theorem sDq {op:UnaryOp} {r:V->Hp->VK->Prop} (ho:UnR X (unaryOp op) r) (ha:PE X a ta):PE X (.UnaryOp op a pos) (tUn r ta):=by
  intro pins s σ H Q I h
  exact UnaryOp_ (thn (ha pins s σ H _ I h) λ v s1 ⟨x,H1,I1,r1,q1⟩=>ho pins s1 σ H1 x v Q I1 r1 q1)
theorem opI {f:Value->Value->Sem Value} {C:Int->Int->Prop} {g:Int->Int->Int}
    (rule:∀ (i j:Int) (t u:Tok) (s:Shared) (Q:Value->Shared->Prop) (E:Value->Shared->Prop),C i j->Q (.int (g i j) s.toks) { s with toks:=s.toks+1 }->wpAny (model X.prog X.w) X.A (f (.int i t) (.int j u)) Q E s) :
    OpR X f (rI C λ i j=>.int (g i j)):=by
  intro pins s σ H x y v u Q I rx ry h
  obtain ⟨i,j,rfl,rfl,hc,q⟩:=h
  obtain ⟨t,rfl⟩:=rx
  obtain ⟨t',rfl⟩:=ry
  exact rule i j t t' s _ _ hc ⟨.int (g i j),H,I.tok _,⟨_,rfl⟩,q⟩
theorem uCq {f:Value->Value->Sem Value} {g:Int->Int->Int}
    (rule:∀ (i j:Int) (t u:Tok) (s:Shared) (Q:Value->Shared->Prop) (E:Value->Shared->Prop),Q (.int (g i j) s.toks) { s with toks:=s.toks+1 }->wpAny (model X.prog X.w) X.A (f (.int i t) (.int j u)) Q E s) :
    OpR X f (rI0 λ i j=>.int (g i j)):=by
  intro pins s σ H x y v u Q I rx ry h
  obtain ⟨i,j,rfl,rfl,q⟩:=h
  obtain ⟨t,rfl⟩:=rx
  obtain ⟨t',rfl⟩:=ry
  exact rule i j t t' s _ _ ⟨.int (g i j),H,I.tok _,⟨_,rfl⟩,q⟩
theorem sKq {f:Value->Value->Sem Value} {g:Int->Int->Bool}
    (rule:∀ (i j:Int) (t u:Tok) (s:Shared) (Q:Value->Shared->Prop) (E:Value->Shared->Prop),Q (.bool (g i j)) s->wpAny (model X.prog X.w) X.A (f (.int i t) (.int j u)) Q E s) :
    OpR X f (rI0 λ i j=>.bl (g i j)):=by
  intro pins s σ H x y v u Q I rx ry h
  obtain ⟨i,j,rfl,rfl,q⟩:=h
  obtain ⟨t,rfl⟩:=rx
  obtain ⟨t',rfl⟩:=ry
  exact rule i j t t' s _ _ ⟨.bl (g i j),H,I,rfl,q⟩
def u6q (i j:Int):Prop:=0<=j/\j<=1000000/\i.natAbs < 2 ^ 64
def CMul (i j:Int):Prop:=(-(2 ^ 64) < i/\i < 2 ^ 64)\/(-(2 ^ 64) < j/\j < 2 ^ 64)
theorem CMul.ok {i j:Int} (h:CMul i j):IntMulOk i j:=by
  rcases h with ⟨h1,h2⟩ | ⟨h1,h2⟩
  . exact .of_left (intBits_le_64 h1 h2)
  . exact .of_right (intBits_le_64 h1 h2)
theorem op_add:OpR X (binaryOp .Add) (rI0 λ i j=>.int (i+j)):=uCq λ _ _ _ _ _ _ _ q=>add_int q
theorem oTq:OpR X (binaryOp .Sub) (rI0 λ i j=>.int (i - j)):=uCq λ _ _ _ _ _ _ _ q=>sub_int q
theorem rDq:OpR X (binaryOp .Mult) (rI CMul λ i j=>.int (i * j)):=opI λ _ _ _ _ _ _ _ hc q=>mul_int q hc.ok
theorem o0q:OpR X (binaryOp .Mod) (rI (λ _ j=>0 < j) λ i j=>.int (i % j)):=opI λ i j _ _ _ _ _ hc q=>by
  have h1:(0:Int) < j:=hc
  exact mod_int' (by omega) (by rw [Int.fmod_eq_emod_of_nonneg i (by omega)];exact q)
theorem pPq:OpR X (binaryOp .Pow) (rI u6q λ i j=>.int (i ^ j.toNat)):=opI λ _ _ _ _ _ _ _ hc q=>pow_int_small hc.1 hc.2.1 hc.2.2 q
theorem unI {f:Value->Sem Value} {g:Int->Int}
    (rule:∀ (i:Int) (t:Tok) (s:Shared) (Q:Value->Shared->Prop) (E:Value->Shared->Prop),Q (.int (g i) s.toks) { s with toks:=s.toks+1 }->wpAny (model X.prog X.w) X.A (f (.int i t)) Q E s) :
    UnR X f (rU λ i=>.int (g i)):=by
  intro pins s σ H x v Q I rx h
  obtain ⟨i,rfl,q⟩:=h
  obtain ⟨t,rfl⟩:=rx
  exact rule i t s _ _ ⟨.int (g i),H,I.tok _,⟨_,rfl⟩,q⟩
theorem pTq:UnR X (unaryOp .USub) (rU λ i=>.int (-i)):=unI λ _ _ _ _ _ q=>neg_int q
end
section
variable {X:Cx} {a b c:Expr} {ta tb tc:TE} {pos:Pos}
theorem p5q {pins:List (Addr × Obj)} {σ:St} {H:Hp} {s:Shared} {Q:VK} {k k':Bool} (I:Inv X pins σ H s) (q:Q (.bl k) H) (e:k=k'):EP X pins σ Q (.bool k') s:=by
  subst e
  exact ⟨.bl k,H,I,rfl,q⟩
theorem s5q:OpR X (compareOp .Lt) (rI0 λ i j=>.bl (decide (i < j))):=sKq λ _ _ _ _ _ _ _ q=>lt_int q
theorem sLq:OpR X (compareOp .Gt) (rI0 λ i j=>.bl (decide (j < i))):=sKq λ _ _ _ _ _ _ _ q=>gt_int q
theorem sYq:OpR X (compareOp .GtE) (rI0 λ i j=>.bl (decide (j<=i))):=sKq λ _ _ _ _ _ _ _ q=>ge_int q
theorem iSq:OpR X (compareOp .In) (λ x y H Q=>∃ i j,x=.str i/\y=.str j/\Q (.bl (!(Builtin.Str.occurrences j i 0 j.length 1).isEmpty)) H):=by
  intro pins s σ H x y v u Q I rx ry h
  obtain ⟨i,j,rfl,rfl,q⟩:=h
  obtain ⟨t,rfl⟩:=rx
  obtain ⟨t',rfl⟩:=ry
  exact in_str (p5q I q rfl)
theorem OpR.or {f:Value->Value->Sem Value} {r r':R2} (h:OpR X f r) (h':OpR X f r'):OpR X f (λ x y H Q=>r x y H Q\/r' x y H Q):=by
  intro pins s σ H x y v u Q I rx ry q
  rcases q with q | q
  . exact h pins s σ H x y v u Q I rx ry q
  . exact h' pins s σ H x y v u Q I rx ry q
theorem aCq (b:Expr) {op:CmpOp} (h:op≠.In:=by decide) (h2:op≠.NotIn:=by decide):behindInMarks op b=false:=by
  have e1:(op==CmpOp.In)=false:=by cases op<;>first | rfl | exact absurd rfl h
  have e2:(op==CmpOp.NotIn)=false:=by cases op<;>first | rfl | exact absurd rfl h2
  cases b<;>simp [behindInMarks,e1,e2]
theorem m5q {op:CmpOp} {r:R2} (ho:OpR X (compareOp op) r) (ha:PE X a ta) (hb:PE X b tb) (hm:behindInMarks op b=false):PE X (.Compare a [op] [b] pos) (tOp r ta tb):=by
  intro pins s σ H Q I h
  exact wpAny_Compare1 (rRq ha hb I h λ v u s2 x y H2 I2 rx ry q=>ho pins s2 σ H2 x y v u Q I2 rx ry q) hm
def qQq (t:TE):TT:=λ σ H Q=>t σ H λ x H'=>∃ k,x=.bl k/\Q k H'
theorem mMq {op:CmpOp} {r:R2} (ho:OpR X (compareOp op) r) (ha:PE X a ta) (hb:PE X b tb) (hm:behindInMarks op b=false):PT X (.Compare a [op] [b] pos) (qQq (tOp r ta tb)):=by
  intro pins s σ H Q I h
  refine wpAny_isTrue_Compare1 (thn (ha pins s σ H _ I h) λ v s1 ⟨x,H1,I1,r1,q1⟩=>thn (hb pins s1 σ H1 _ I1 q1) λ u s2 ⟨y,H2,I2,r2,q2⟩=>
    thn (ho pins s2 σ H2 x y v u _ I2 r1 r2 q2) λ c s3 ⟨z,H3,I3,r3,k,e,q3⟩=>?_) hm
  subst e
  cases r3
  exact wpAny_truthy_bool ⟨H3,I3,q3⟩
def sMq (K:PySem.W.Frag) (x:V) (H:Hp) (k:Bool):Prop:=
  match x with
  | .non=>k=false
  | .bl b=>k=b
  | .int i=>k=(i !=0)
  | .str y=>y.length<=sizeLine/\k=((y.length:Int) !=0)
  | .byt y=>y.size<=sizeLine/\k=((y.size:Int) !=0)
  | .ref p=>(∃ xs,SqL K H p xs/\k=!xs.isEmpty)\/(∃ xs,SqT K H p xs/\k=!xs.isEmpty)\/∃ kvs,H p=some (.dK kvs)/\k=!kvs.isEmpty
  | _=>False
theorem hTq {κ:Type} {kvs:List (κ × V)} {vs:List (κ × Value)} (r:KV kvs vs):(!vs.isEmpty)=!kvs.isEmpty:=by
  cases r<;>rfl
theorem dJq {xs:List V} {its:List Value} (r:Vals xs its):(!its.toArray.isEmpty)=!xs.isEmpty:=by
  cases r<;>simp
theorem cEq:(sizeLine:Nat) < 2 ^ 63:=by rw [sizeLine_eq];decide
theorem qVq:uIq X (λ x H Q=>∃ k,sMq X.K x H k/\Q k H):=by
  intro pins s σ H x v Q I rx h
  obtain ⟨k,e,q⟩:=h
  have hl:=cEq
  have hs:sizeLine=16777216:=sizeLine_eq
  cases x with
  | non=>
    cases rx
    have e':k=false:=e
    subst e'
    exact truthy_none ⟨H,I,q⟩
  | bl b=>
    cases rx
    have e':k=b:=e
    subst e'
    exact wpAny_truthy_bool ⟨H,I,q⟩
  | int i=>
    obtain ⟨t,rfl⟩:=rx
    have e':k=(i !=0):=e
    subst e'
    exact PySem.P.truthy_int ⟨H,I,q⟩
  | str y=>
    obtain ⟨t,rfl⟩:=rx
    obtain ⟨hy,e'⟩:y.length<=sizeLine/\k=((y.length:Int) !=0):=e
    subst e'
    exact PySem.P.truthy_str (by omega) ⟨H,I.tok _,q⟩
  | byt y=>
    obtain ⟨t,rfl⟩:=rx
    obtain ⟨hy,e'⟩:y.size<=sizeLine/\k=((y.size:Int) !=0):=e
    subst e'
    exact PySem.W.truthy_bytes (by omega) ⟨H,I.tok _,q⟩
  | ref p=>
    cases rx
    have e':(∃ xs,SqL X.K H p xs/\k=!xs.isEmpty)\/(∃ xs,SqT X.K H p xs/\k=!xs.isEmpty)\/∃ kvs,H p=some (.dK kvs)/\k=!kvs.isEmpty:=e
    rcases e' with ⟨xs,hx,e'⟩ | ⟨xs,hx,e'⟩ | ⟨kvs,hx,e'⟩
    . subst e'
      obtain ⟨its,r,pl,hz⟩:=I.list hx
      have hlen:=r.length
      exact wpAny_truthy_list pl.isList (by simp only [List.size_toArray];omega) ⟨H,I.tok _,by rw [dJq r];exact q⟩
    . subst e'
      obtain ⟨its,r,pl,hz⟩:=I.tuple hx
      have hlen:=r.length
      exact truthy_tuple pl (by simp only [List.size_toArray];omega) ⟨H,I.tok _,by rw [dJq r];exact q⟩
    . subst e'
      obtain ⟨hz,hS,vs,r,m⟩:kvs.length<=sizeLine/\(p==sysModules)=false/\∃ vs,KV kvs vs/\s.heap.DictOf (gLq X.prog X.w) p vs:=I.hok p _ hx
      have hlen:kvs.length=vs.length:=Paired.length r
      exact wpAny_truthy_dict hS m (by omega) ⟨H,I.tok _,by rw [hTq r];exact q⟩
  | _=>exact (show False from e).elim
theorem jYq (ha:PE X a ta) (he:∀ whole,isTrue a X.env whole=(do let v ← whole;standAt a.pos;holding [v] (truthy v))) :
    PT X a (λ σ H Q=>ta σ H λ x H'=>∃ k,sMq X.K x H' k/\Q k H'):=by
  intro pins s σ H Q I h
  exact isTrue_plain (thn (ha pins s σ H _ I h) λ v s1 ⟨x,H1,I1,r1,q1⟩=>qVq pins s1 σ H1 x v Q I1 r1 q1) (he _)
theorem op_add_str:OpR X (binaryOp .Add) (λ x y H Q=>∃ i j,x=.str i/\y=.str j/\i.length+j.length<=sizeLine/\Q (.str (i++j)) H):=by
  intro pins s σ H x y v u Q I rx ry h
  obtain ⟨i,j,rfl,rfl,hz,q⟩:=h
  obtain ⟨t,rfl⟩:=rx
  obtain ⟨t',rfl⟩:=ry
  exact add_str (λ t' tk=>⟨.str (i++j),H,I.tok _,⟨_,rfl⟩,q⟩) hz
theorem kKq {x:V} {us:List Value} (r:Vals [x] us):∃ u,us=[u]/\RelV x u:=by
  cases r with
  | cons r1 r2=>cases r2;exact ⟨_,rfl,r1⟩
theorem pAq {x y:V} {us:List Value} (r:Vals [x,y] us):∃ u w',us=[u,w']/\RelV x u/\RelV y w':=by
  cases r with
  | cons r1 r2=>
    cases r2 with
    | cons r3 r4=>cases r4;exact ⟨_,_,rfl,r1,r3⟩
theorem jAq (hc:X.calm=true):CallR X (.builtin "max") (λ xs H Q=>∃ i j,xs=[.int i,.int j]/\Q (.int (if j > i then j else i)) H):=by
  intro pins s σ H xs us Q I r h
  obtain ⟨i,j,rfl,q⟩:=h
  obtain ⟨u,w',rfl,⟨t,rfl⟩,⟨t',rfl⟩⟩:=pAq r
  refine max_two_ints (I.ok.hd hc) λ h' tk k=>⟨_,H,I.kept k,?_,q⟩
  by_cases hj:j > i
  . rw [if_pos hj,if_pos hj];exact ⟨_,rfl⟩
  . rw [if_neg hj,if_neg hj];exact ⟨_,rfl⟩
theorem j6q (hc:X.calm=true):CallR X (.builtin "min") (λ xs H Q=>∃ i j,xs=[.int i,.int j]/\Q (.int (if j < i then j else i)) H):=by
  intro pins s σ H xs us Q I r h
  obtain ⟨i,j,rfl,q⟩:=h
  obtain ⟨u,w',rfl,⟨t,rfl⟩,⟨t',rfl⟩⟩:=pAq r
  refine min_two_ints (I.ok.hd hc) λ h' tk k=>⟨_,H,I.kept k,?_,q⟩
  by_cases hj:j < i
  . rw [if_pos hj,if_pos hj];exact ⟨_,rfl⟩
  . rw [if_neg hj,if_neg hj];exact ⟨_,rfl⟩
end
structure ObjM (h:Heap) (x dx C:Addr) (mA:Str->Option Value):Prop where
  obj:h.get? x=some (PySem.W.instObj C dx)
  ns:h.Ns1 dx mA
  ne:dx≠x
theorem j8q {h:Heap} {dx:Addr} {mA:Str->Option Value} (n:h.Ns1 dx mA):∃ od,h.get? dx=some od/\∀ name,PySem.W.lookIn name od=some (mA name):=by
  obtain ⟨o,es,ep,ho,hd,hk,_,hm⟩:=n
  refine ⟨o,ho,λ name=>?_⟩
  have e:=hm name
  unfold nsFind findBy at e
  rw [<- Array.find?_toList] at e
  unfold PySem.W.lookIn
  rw [hd]
  dsimp only
  split
  . rename_i y q
    rw [q] at e
    exact congrArg some e
  . rename_i q
    rw [q] at e
    have a:es.toList.any (·.refKey)=false:=by
      rw [List.any_eq_false]
      intro y hy
      obtain ⟨z,t,hkey⟩:=hk y (Array.mem_toList_iff.mp hy)
      simp [DictEntry.refKey,hkey]
    have a':¬ es.toList.any (·.refKey)=true:=by rw [a];exact Bool.false_ne_true
    rw [if_neg a']
    exact congrArg some e
theorem ObjM.look {h:Heap} {x dx C:Addr} {mA:Str->Option Value} (I:ObjM h x dx C mA):∃ od,PySem.W.InstAt h x (PySem.W.instObj C dx) C (some od)/\∀ name,PySem.W.lookIn name od=some (mA name):=
  let ⟨od,ho,hl⟩:=j8q I.ns
  ⟨od,⟨I.obj,rfl,rfl,ho⟩,hl⟩
section
variable {prog:Program} {w:World} {A:Around} {E:Value->Shared->Prop} {s:Shared} {K:PySem.W.Frag} {x dx C f:Addr} {mA:Str->Option Value} {name:Str} {v:Value}
end
section
variable {P:Program} {w:World} {H H':Hp} {h h':Heap} {a C dx:Addr} {fs fs':List (Str × V)}
theorem n8q (hok:HOk P w H h) (e:H a=some (.ins C dx fs)):∃ mA,ObjM h a dx C mA/\(∀ f,s0q (fs.lookup f) (mA f))/\PySem.Within mA (fs.map (·.1))/\fs.length<=1000/\H dx=some (.own a):=by
  obtain ⟨d,z,ne,ob,mA,n,r,q⟩:=(show ObjOk P w H h a (.ins C dx fs) from hok a _ e)
  exact ⟨mA,⟨ob,n,ne⟩,r,q,z,d⟩
end
structure Cls (K:PySem.W.Frag) (C:Addr):Prop where
  pg:PySem.W.plainGet K C Str.empty=true
  hd:PySem.W.hasDictIn K C=true
  po:PySem.W.plainOver K C=true
  sa:PySem.W.findIn K (.ref C) "__setattr__" = some (some (.builtin "object.__setattr__"))
theorem Cls.get {K:PySem.W.Frag} {C:Addr} (c:Cls K C) (f:Str):PySem.W.plainGet K C f=true:=c.pg
section
variable {X:Cx} {pins:List (Addr × Obj)} {σ:St} {H:Hp} {s:Shared} {a C dx:Addr} {fs:List (Str × V)} {f:Str} {v:V} {A:Around} {E:Value->Shared->Prop}
end
section
variable {X:Cx} {o e value:Expr} {f:Str} {pos pos' tpos:Pos} {ta tv:TE}
end
section
variable {X:Cx} {pins:List (Addr × Obj)} {σ:St} {H:Hp} {s:Shared} {A:Around} {E:Value->Shared->Prop} {Q:Value->Shared->Prop} {c:Value} {b:Bool}
inductive TyOf (K:PySem.W.Frag) (H:Hp):V->Value->Prop where
  | non:TyOf K H .non (.type "NoneType")
  | bl (x:Bool):TyOf K H (.bl x) (.type "bool")
  | int (i:Int):TyOf K H (.int i) (.type "int")
  | str (x:Str):TyOf K H (.str x) (.type "str")
  | flt (x:UInt64):TyOf K H (.flt x) (.type "float")
  | lst {a:Addr} {xs:List V} (e:H a=some (.lst xs)):TyOf K H (.ref a) (.type "list")
  | frz {a:Addr} {o:Obj} {xs:List V} (e:H a=some (.frz o (.lst xs))):TyOf K H (.ref a) (.type "list")
  | tup {a:Addr} {xs:List V} (e:H a=some (.tup xs)):TyOf K H (.ref a) (.type "tuple")
  | dK {a:Addr} {kvs:List (Key × V)} (e:H a=some (.dK kvs)):TyOf K H (.ref a) (.type "dict")
  | dT {a:Addr} {kvs:List (List Key × V)} (e:H a=some (.dT kvs)):TyOf K H (.ref a) (.type "dict")
  | ins {a C dx:Addr} {fs:List (Str × V)} (e:H a=some (.ins C dx fs)) (cl:Cls K C) (ha:PySem.W.findIn K (.ref C) "__class__" = some (some (.builtin "object.__class__")))
      (hn:PySem.W.specialIn K (.builtin "object.__class__") "__get__" = some (some (.builtin "getset_descriptor.__get__"))) (htk:PySem.W.takesIn K (.builtin "object.__class__")=some true)
      (hm:PySem.W.mroIn K C (.type "object")=some true):TyOf K H (.ref a) (.ref C)
theorem jJq {x:V} {u t:Value} (I:Inv X pins σ H s) (rx:RelV x u) (ty:TyOf X.K H x t) (e:PySem.W.kitOne X.K t c=some b) (h:∀ tk,Q (.bool b) { s with toks:=tk }) :
    wpAny (model X.prog X.w) A (call (.builtin "isinstance") [u,c]) Q E s:=by
  cases ty with
  | non=>cases (show u=Value.none from rx);exact PySem.W.kia_one PySem.W.kitx_none I.kIn True.intro e (λ z=>nomatch z) h
  | bl y=>cases (show u=Value.bool y from rx);exact PySem.W.kia_one PySem.W.kitx_bool I.kIn True.intro e (λ z=>nomatch z) h
  | int i=>obtain ⟨t,q⟩:=(show ∃ t,u=Value.int i t from rx);cases q;exact PySem.W.kia_one PySem.W.kitx_int I.kIn True.intro e (λ z=>nomatch z) h
  | str y=>obtain ⟨t,q⟩:=(show ∃ t,u=Value.str y t from rx);cases q;exact PySem.W.kia_one PySem.W.kitx_str I.kIn True.intro e (λ z=>nomatch z) h
  | flt y=>obtain ⟨t,q⟩:=(show ∃ t,u=Value.float y t from rx);cases q;exact PySem.W.kia_one PySem.W.kitx_float I.kIn True.intro e (λ z=>nomatch z) h
  | @lst a xs ea=>
    cases (show u=Value.ref a from rx)
    obtain ⟨_,_,n,_,h1⟩:=(show ObjOk X.prog X.w H s.heap a (.lst xs) from I.hok a _ ea)
    exact PySem.W.kia_one PySem.W.kitx_list I.kIn ⟨_,h1,rfl⟩ e (λ z=>nomatch z) h
  | @frz a ob xs ea=>
    cases (show u=Value.ref a from rx)
    obtain ⟨_,_,_,n,_,h1⟩:=(show ObjOk X.prog X.w H s.heap a (.frz ob (.lst xs)) from I.hok a _ ea)
    exact PySem.W.kia_one PySem.W.kitx_list I.kIn ⟨_,h1,rfl⟩ e (λ z=>nomatch z) h
  | @tup a xs ea=>
    cases (show u=Value.ref a from rx)
    obtain ⟨_,_,_,p⟩:=(show ObjOk X.prog X.w H s.heap a (.tup xs) from I.hok a _ ea)
    obtain ⟨o,h1,h2,_⟩:=p
    exact PySem.W.kia_one PySem.W.kitx_tuple I.kIn ⟨o,h1,h2⟩ e (λ z=>nomatch z) h
  | @dK a kvs ea=>
    cases (show u=Value.ref a from rx)
    obtain ⟨_,_,vs,_,p⟩:=(show ObjOk X.prog X.w H s.heap a (.dK kvs) from I.hok a _ ea)
    obtain ⟨o,es,ep,h1,h2,_⟩:=p
    exact PySem.W.kia_one PySem.W.kitx_dict I.kIn ⟨o,h1,h2.1⟩ e (λ z=>nomatch z) h
  | @dT a kvs ea=>
    cases (show u=Value.ref a from rx)
    obtain ⟨_,_,xs,_,o,es,ep,h1,h2,_⟩:=(show ObjOk X.prog X.w H s.heap a (.dT kvs) from I.hok a _ ea)
    exact PySem.W.kia_one PySem.W.kitx_dict I.kIn ⟨o,h1,h2.1⟩ e (λ z=>nomatch z) h
  | @ins a C dx fs ea cl ha hn htk hm=>
    cases (show u=Value.ref a from rx)
    obtain ⟨mA,O,_⟩:=n8q I.hok ea
    obtain ⟨od,J,_⟩:=O.look
    exact PySem.W.kia_one (PySem.W.kitx_own (cl.get _) cl.hd ha hn htk hm) I.kIn J e (λ z=>nomatch z) h
end
structure Room (k:Nat) (A:Around):Prop where
  hd:A.handled=none
  dp:A.depth+3 * k+5 < recursionLimit
  un:A.units+16 * k+200 < cLine
theorem Room.mono {j k:Nat} {A:Around} (r:Room k A) (h:j<=k):Room j A:=⟨r.hd,by have:=r.dp;omega,by have:=r.un;omega⟩
theorem Room.deeper {k:Nat} {A:Around} (r:Room (k+1) A) (env:Env):Room k (A.deeper env):=
  ⟨r.hd,by have:=r.dp;show A.depth+1+3 * k+5 < _;omega,by have:=r.un;show A.units+3+16 * k+200 < _;omega⟩
theorem Room.depth {k:Nat} {A:Around} (r:Room k A):A.depth < recursionLimit:=by have:=r.dp;omega
def uGq:TA:=λ _ H Q=>Q [] H
def pBq (ta:TE) (tr:TA):TA:=λ σ H Q=>ta σ H λ x H1=>tr σ H1 λ xs H2=>Q (x::xs) H2
section
variable {X:Cx} {e:Expr} {es:List Expr} {te:TE} {t:TA} {pos:Pos}
theorem oYq:PA X [] uGq:=λ _ _ _ _ H Q I h=>Calls.spliced_nil ⟨[],H,I,.nil,h⟩
theorem mPq (ha:PE X e te) (hr:PA X es t) (hs:starEach (e::es) X.env=(false,eval e X.env)::starEach es X.env:=by rfl):PA X (e::es) (pBq te t):=by
  intro pos pins s σ H Q I h
  rw [hs]
  show wpAny _ _ (spliced ((false,eval e X.env)::backTo pos (starEach es X.env))) _ _ s
  refine Calls.spliced_cons (thn (ha pins s σ H _ I h) λ u s1 ⟨x,H1,I1,r1,q1⟩=>?_)
  exact thn (hr pos pins s1 σ H1 _ I1 q1) λ us s2 ⟨xs,H2,I2,r2,q2⟩=>⟨x::xs,H2,I2,.cons r1 r2,q2⟩
def u7q (t:TA):TE:=λ σ H Q=>t σ H λ xs H1=>xs.length<=sizeLine/\∀ p,H1 p=none->Q (.ref p) (upd H1 p (.tup xs))
def tXq (t:TA):TE:=λ σ H Q=>t σ H λ xs H1=>xs.length<=sizeLine/\∀ p,H1 p=none->Q (.ref p) (upd H1 p (.lst xs))
theorem qIq {x1} (h:PA X es t):PE X (.Tuple es x1 pos) (u7q t):=by
  intro pins s σ H Q I hq
  refine wpAny_Tuple_spliced (thn (h pos pins s σ H _ I hq) λ us s1 ⟨xs,H1,I1,r,z,q⟩=>⟨by rw [<- r.length];exact z,?_⟩)
  have hf:H1 s1.heap.objs.size=none:=I1.hok.fresh (Nat.le_refl _)
  refine ⟨.ref s1.heap.objs.size,upd H1 s1.heap.objs.size (.tup xs),I1.laid (t':=s1.toks) (λ b u e=>Heap.get?_push_of_some _ e) (Nat.le_refl _) ?_,rfl,q _ hf⟩
  exact ⟨z,us,r,⟨_,Heap.get?_push_size _ rfl,rfl,_,rfl⟩⟩
theorem q9q (h:PA X es t):PE X (.List es pos) (tXq t):=by
  intro pins s σ H Q I hq
  refine wpAny_List_spliced (thn (h pos pins s σ H _ I hq) λ us s1 ⟨xs,H1,I1,r,z,q⟩=>⟨by rw [<- r.length];exact z,?_⟩)
  have hf:H1 s1.heap.objs.size=none:=I1.hok.fresh (Nat.le_refl _)
  refine ⟨.ref s1.heap.objs.size,upd H1 s1.heap.objs.size (.lst xs),I1.laid (t':=s1.toks) (λ b u e=>Heap.get?_push_of_some _ e) (Nat.le_refl _) ?_,rfl,q _ hf⟩
  exact ⟨z,us,0,r,Heap.get?_push_size _ rfl⟩
end
abbrev Sp:=List V->Hp->VK->XK->Prop
abbrev CXT:=List Env->Hp->Shared->XK->Value->Shared->Prop
structure Env0 (P:Program) (w:World) (K:PySem.W.Frag) (mg:Str->Option Value) (base:Heap) (A:Around) (outer:List Env) (s:Shared) (H:Hp):Prop where
  frames:A.frames=some outer
  mod:Mod K mg base
  bs:∀ b o,base.get? b=some o->s.heap.get? b=some o/\H b=none
  bsz:base.objs.size<=s.heap.objs.size
  funs:s.heap.FunFrames base outer
  frf:∀ b∈frs outer,H b=none
  hok:HOk P w H s.heap
  bare:AllBare s.gens
def CE (outer:List Env) (P:Program) (w:World) (H:Hp) (s:Shared) (Q:VK) (u:Value) (s':Shared):Prop:=
  ∃ v H',s'.os=s.os/\AllBare s'.gens/\Un (frs outer) [] H H' s.heap s'.heap/\HOk P w H' s'.heap/\RelV v u/\Q v H'
def CR (CX:CXT) (outer:List Env) (P:Program) (w:World) (H:Hp) (s:Shared) (Q:VK) (E:XK) (r:Result) (s':Shared):Prop:=
  match r with
  | .ok (.ret u)=>CE outer P w H s Q u s'
  | .ok _=>False
  | .error e=>CX outer H s E e s'
structure FnOk (P:Program) (w:World) (K:PySem.W.Frag) (mg:Str->Option Value) (base:Heap) (CX:CXT) (k:Nat) (f:Addr) (fd:FuncData) (ps:List Str) (sp:Sp):Prop where
  len:∀ vs H Q E,sp vs H Q E->vs.length=ps.length
  run:∀ (A:Around) (outer:List Env) (s:Shared) (H:Hp) (args:Args) (us:List Value) (vs:List V) (Q:VK) (E:XK),Room k A->Env0 P w K mg base A outer s H->BindsTo s fd args (ps.zip us)->Vals vs us->sp vs H Q E →
    codeAny (model P w) A (.call (.ref f) args) (CR CX outer P w H s Q E) s
section
variable {X:Cx} {pins:List (Addr × Obj)} {σ:St} {H:Hp} {s s':Shared}
theorem Inv.env0 (I:Inv X pins σ H s):Env0 X.prog X.w X.K X.mg X.base X.A X.stack s H:=
  ⟨I.ok.frames,I.ok.mod,I.bs,Nat.le_trans I.ok.bsz I.sz,I.stack,I.stkFree,I.hok,I.bare⟩
theorem Inv.after {Q:VK} {u:Value} (I:Inv X pins σ H s) (h:CE X.stack X.prog X.w H s Q u s'):EP X pins σ Q u s':=by
  obtain ⟨v,H',os,bare,un,hok,r,q⟩:=h
  obtain ⟨hh,g,d,t,os'⟩:=s'
  obtain rfl:os'=s.os:=os
  exact ⟨v,H',I.call (h':=hh) (g':=g) (d':=d) (t':=t) (ch:=[]) un hok bare (λ b z=>absurd z (by simp)),r,q⟩
end
def kTq (sp:Sp) (dvs:List V) (E:XK) (t:TA):TE:=λ σ H Q=>t σ H λ vs H1=>sp (vs++dvs) H1 Q E
def Binds (K:PySem.W.Frag) (fd:FuncData) (ps:List Str) (ds:List Value):Prop:=
  ∀ (s:Shared) (us:List Value),K.In s.heap->(us++ds).length=ps.length->BindsTo s fd ⟨us,[]⟩ (ps.zip (us++ds))
theorem Binds.all {K:PySem.W.Frag} {fd:FuncData} {ps:List Str} (h:∀ us:List Value,us.length=ps.length->bindArgs fd ⟨us,[]⟩=pure (ps.zip us)):Binds K fd ps []:=λ s us _ hl=>by
  rw [List.append_nil] at hl ⊢
  exact .of_eq (h us hl)
def hZq (CX:CXT) (X:Cx) (E:XK):Prop:=∀ (pins:List (Addr × Obj)) (σ:St) (H:Hp) (s:Shared) (e:Value) (s':Shared),Inv X pins σ H s->CX X.stack H s E e s'->X.xe e s'
section
variable {X:Cx} {CX:CXT} {k:Nat} {f C:Addr} {fd:FuncData} {ps:List Str} {sp:Sp} {dvs:List V} {ds:List Value} {E:XK} {x m:Str} {p pos apos:Pos} {e o:Expr} {es:List Expr} {ta:TE} {t:TA}
theorem lKq {pins:List (Addr × Obj)} {σ:St} {H:Hp} {s:Shared} {Q:VK} {us:List Value} {vs:List V} (F:FnOk X.prog X.w X.K X.mg X.base CX k f fd ps sp) (hr:Room k X.A) (hb:Binds X.K fd ps ds) (hd:Vals dvs ds) (hx:hZq CX X E)
    (I:Inv X pins σ H s) (r:Vals vs us) (h:sp (vs++dvs) H Q E):wpAny (model X.prog X.w) X.A (call (.ref f) us) (EP X pins σ Q) X.xe s:=by
  have r2:Vals (vs++dvs) (us++ds):=r.append hd
  have hl:(us++ds).length=ps.length:=by rw [<- r2.length];exact F.len _ _ _ _ h
  refine wpAny_call (codeAny_mono (F.run X.A X.stack s H ⟨us,[]⟩ (us++ds) (vs++dvs) Q E hr I.env0 (hb s us I.kIn hl) r2 h) λ r s' hq=>?_)
  cases r with
  | error e=>exact hx pins σ H s e s' I hq
  | ok fl=>
    cases fl with
    | ret u=>exact I.after hq
    | next=>exact False.elim hq
    | brk=>exact False.elim hq
    | cont=>exact False.elim hq
theorem nEq (F:FnOk X.prog X.w X.K X.mg X.base CX k f fd ps sp) (hr:Room k X.A) (hg:Gl X x) (hm:X.mg x=some (.ref f)) (hk:PySem.W.keepIn X.K (.ref f)=true) (hb:Binds X.K fd ps ds) (hd:Vals dvs ds) (hx:hZq CX X E)
    (ha:PA X (e::es) t) (hdb:(x==("__debug__" : Str))=false:=by decide) (he:starEach (e::es) X.env=(false,eval e X.env)::starEach es X.env:=by rfl) (hpl:(backTo pos (starEach es X.env)).any (·.1)=false:=by rfl) :
    PE X (.Call (.Name x p) (e::es) [] pos) (kTq sp dvs E t):=by
  intro pins s σ H Q I h
  refine wpAny_Call_Name_kw (iVq I hg hm ?_ hdb)
  refine PySem.W.callWith_K (h₀:=X.base) I.ok.mod.kin hk (thn (ha pos pins s σ H _ I h) λ us s1 ⟨vs,H1,I1,r,q⟩=>⟨I1.kIn,?_⟩) he hpl
  exact lKq F hr hb hd hx I1 r q
end
section
variable {X:Cx} {CX:CXT} {k:Nat} {f C:Addr} {fd:FuncData} {ps ks:List Str} {sp:Sp} {E:XK} {x m:Str} {p pos apos kpos:Pos} {e o:Expr} {es:List Expr} {kws:List Keyword} {te ta:TE} {t tk:TA} {nm:Option Str}
variable {g:List Value->List Value->List Value} {gV:List V->List V->List V}
end
structure FnScope (N P:List Str) (sc:Scope):Prop where
  kind:sc.kind=.function
  co:sc.isCoroutine=false
  gen:sc.isGenerator=false
  nd:N.Nodup
  pre:N.take P.length=P
  par:∀ x∈P,sc.names.lookup x=some .local\/sc.names.lookup x=some .cell
  nofree:∀ y∈sc.names,y.2≠.free
theorem f3q {kindOf:Str->Option NameKind} {x:Str}:∀ {binds:List (Str × Value)} {m:Str->Option Value},(∀ v,(x,v) ∉ binds)->bindL kindOf binds m x=m x
  | [],_,_=>rfl
  | (n,v)::r,m,h=>by
    unfold bindL
    rw [f3q λ w hw=>h w (List.mem_cons_of_mem _ hw)]
    split
    . have:x≠n:=by rintro rfl;exact h v List.mem_cons_self
      simp [this]
    . rfl
theorem fQq {kindOf:Str->Option NameKind} {x:Str}:∀ {binds:List (Str × Value)} {m:Str->Option Value},(∀ v,(x,v) ∉ binds)->bindC kindOf binds m x=m x
  | [],_,_=>rfl
  | (n,v)::r,m,h=>by
    unfold bindC
    rw [fQq λ w hw=>h w (List.mem_cons_of_mem _ hw)]
    split
    . rfl
    . have:x≠n:=by rintro rfl;exact h v List.mem_cons_self
      simp [this]
theorem fFq {kindOf:Str->Option NameKind} {x:Str} {v:Value}:∀ {P:List Str} {vs:List Value} {i:Nat} {m:Str->Option Value},P.Nodup->P[i]?=some x->vs[i]?=some v->kindOf x=some .local →
    bindL kindOf (P.zip vs) m x=some v
  | [],_,_,_,_,h,_,_=>by simp at h
  | _::_,[],_,_,_,_,h,_=>by simp at h
  | p::P,w::vs,0,m,nd,h1,h2,hk=>by
    simp at h1 h2;subst h1;subst h2
    show bindL kindOf ((p,w)::P.zip vs) m p=_
    unfold bindL
    rw [f3q λ v hv=>(List.nodup_cons.mp nd).1 (List.of_mem_zip hv).1,if_pos hk]
    simp
  | p::P,w::vs,i+1,m,nd,h1,h2,hk=>by
    show bindL kindOf ((p,w)::P.zip vs) m x=_
    unfold bindL
    exact fFq (i:=i) (List.nodup_cons.mp nd).2 (by simpa using h1) (by simpa using h2) hk
theorem fRq {kindOf:Str->Option NameKind} {x:Str} {v:Value}:∀ {P:List Str} {vs:List Value} {i:Nat} {m:Str->Option Value},P.Nodup->P[i]?=some x->vs[i]?=some v->kindOf x≠some .local →
    bindC kindOf (P.zip vs) m x=some v
  | [],_,_,_,_,h,_,_=>by simp at h
  | _::_,[],_,_,_,_,h,_=>by simp at h
  | p::P,w::vs,0,m,nd,h1,h2,hk=>by
    simp at h1 h2;subst h1;subst h2
    show bindC kindOf ((p,w)::P.zip vs) m p=_
    unfold bindC
    rw [fQq λ v hv=>(List.nodup_cons.mp nd).1 (List.of_mem_zip hv).1,if_neg hk]
    simp
  | p::P,w::vs,i+1,m,nd,h1,h2,hk=>by
    show bindC kindOf ((p,w)::P.zip vs) m x=_
    unfold bindC
    exact fRq (i:=i) (List.nodup_cons.mp nd).2 (by simpa using h1) (by simpa using h2) hk
def c8q (N:List Str) (vs:List V):St:=vs.map some++List.replicate (N.length - vs.length) none
def l0q (CX:CXT) (P:Program) (w:World) (K:PySem.W.Frag) (mg:Str->Option Value) (base:Heap) (N:List Str) (qual:Str) (scope:Scope) (f:Addr) (cd:Value) (A:Around) (outer:List Env) (s:Shared) (H:Hp) (E:XK):Cx where
  prog:=P
  w:=w
  K:=K
  mg:=mg
  base:=base
  A:=A.deeper (envOfC qual scope s.heap.objs.size f cd)
  N:=N
  s₀:=s
  H₀:=H
  env:=envOfC qual scope s.heap.objs.size f cd
  outer:=outer
  stack:=envOfC qual scope s.heap.objs.size f cd::outer
  ex:=[]
  calm:=true
  fn:=λ _=>true
  pn:=[]
  xe:=λ e s'=>wpAny (model P w) (A.deeper (envOfC qual scope s.heap.objs.size f cd)) (leaving (envOfC qual scope s.heap.objs.size f cd) e) (λ _ s''=>CX outer H s E e s'') (λ e' s''=>CX outer H s E e' s'') s'
theorem gNq {sc:Scope} {n:Nat} {x:Str} (h:sc.names.lookup x=some .cell):∃ c,(cellsFrom n sc.names []).lookup x=some c:=by
  have q:=PySem.W.cellsFrom_some sc.names n [] (.inl h)
  exact Option.isSome_iff_exists.mp q
theorem j5q {CX:CXT} {P:Program} {w:World} {K:PySem.W.Frag} {mg:Str->Option Value} {base:Heap} {N ps:List Str} {qual:Str} {scope:Scope} {f:Addr} {cd:Value} {A:Around} {outer:List Env} {s s1:Shared} {H:Hp} {E:XK} {us:List Value} {vs:List V}
    (S:FnScope N ps scope) (hd:A.handled=none) (e0:Env0 P w K mg base A outer s H) (hl:vs.length=ps.length) (r:Vals vs us)
    (x:InCallC s s.heap.objs.size (bindL (envOfC qual scope s.heap.objs.size f cd).kindOf (ps.zip us) λ _=>none) (cellsFrom (s.heap.objs.size+1) scope.names []) (bindC (envOfC qual scope s.heap.objs.size f cd).kindOf (ps.zip us) λ _=>none) s1) :
    Inv (l0q CX P w K mg base N qual scope f cd A outer s H E) [] (c8q N vs) H s1:=by
  have hpl:ps.length<=N.length:=by have:=congrArg List.length S.pre;rw [List.length_take] at this;omega
  obtain ⟨h1,tk,rfl,hk⟩:=x.done
  have noA:∀ b:Addr,b ∉ (l0q CX P w K mg base N qual scope f cd A outer s H E).ex:=λ b z=>absurd (show b∈([]:List Addr) from z) (by simp)
  refine ⟨⟨e0.mod,S.kind,rfl,rfl,Nat.le_refl _,λ y z c h1 h2=>?_,λ y hy=>?_,λ y c _ h=>?_,λ _=>hd,Around.frames_deeper e0.frames,.inr ⟨rfl,rfl⟩,λ b z=>absurd z (noA b),e0.bs,e0.bsz,λ b _ _=>noA b,λ b z=>absurd z (noA b),e0.funs,e0.frf⟩,
    rfl,e0.bare,Un.kept hk,⟨_,x.toInCall.ns,λ i y v h1 h2 h3=>?_⟩,λ y c h=>⟨_,x.cell y c h⟩,e0.hok.fresh (Nat.le_refl _),λ y c h=>?_,λ p hp=>absurd (show p∈([]:List (Addr × Obj)) from hp) (by simp),e0.hok.kept hk,?_⟩
  . exact name_of_addr x.apart (PySem.mem_of_lookup h1) (PySem.mem_of_lookup h2)
  . have hy:scope.names.lookup y=some .cell\/scope.names.lookup y=some .free:=hy
    rcases hy with hy | hy
    . exact gNq hy
    . exact absurd rfl (S.nofree _ (PySem.mem_of_lookup hy))
  . exact Nat.le_of_lt (x.above y c (PySem.mem_of_lookup h))
  . have hi:i < vs.length:=by
      unfold c8q at h2
      by_cases hi:i < vs.length
      . exact hi
      . rw [List.getElem?_append_right (by simpa using hi)] at h2
        rw [List.getElem?_replicate] at h2
        split at h2<;>cases h2
    have ha:vs[i]?=some v:=by
      unfold c8q at h2
      rw [List.getElem?_append_left (by simpa using hi),List.getElem?_map] at h2
      cases e:vs[i]? with
      | none=>rw [e] at h2;cases h2
      | some a=>rw [e] at h2;cases h2;rfl
    obtain ⟨u,hu,rv⟩:=r.get ha
    have hp:ps[i]?=some y:=by
      rw [<- S.pre,List.getElem?_take_of_lt (by omega)];exact h1
    have ndP:ps.Nodup:=by rw [<- S.pre];exact S.nd.sublist (List.take_sublist _ _)
    refine ⟨u,rv,?_⟩
    rcases S.par y (List.mem_of_getElem? hp) with k | k
    . exact .inl ⟨k,fFq ndP hp hu k⟩
    . obtain ⟨c,e⟩:=gNq (n:=s.heap.objs.size+1) k
      refine .inr ⟨.inl k,c,e,?_⟩
      have q:=x.cell y c e
      rw [fRq ndP hp hu (by show scope.names.lookup y≠_;rw [k];decide)] at q
      exact q
  . exact e0.hok.fresh (Nat.le_of_lt (x.above y c (PySem.mem_of_lookup h)))
  . unfold c8q
    show _=N.length
    rw [List.length_append,List.length_map,List.length_replicate]
    omega
theorem sFq {CX:CXT} {P:Program} {w:World} {K:PySem.W.Frag} {mg:Str->Option Value} {base:Heap} {k:Nat} {f:Addr} {name qual:Str} {params:Arguments} {body:List Stmt} {scope:Scope} {dV kV doc pm cdv ct oc:Value} {an od:Option Addr}
    {osl:Array (Option Value)} {N ps:List Str} {sp:Sp} (lk:K.lookup f=some ⟨oc,od,.func (PySem.W.fnOf name qual params body scope dV kV doc pm an cdv ct),osl⟩) (hcd:PySem.W.codeIn K cdv qual=true) (S:FnScope N ps scope)
    (len:∀ vs H Q E,sp vs H Q E->vs.length=ps.length)
    (hbody:∀ (A:Around) (outer:List Env) (s:Shared) (H:Hp) (vs:List V) (Q:VK) (E:XK),Room k (A.deeper (envOfC qual scope s.heap.objs.size f cdv))->sp vs H Q E →
      ∃ t,PSs (l0q CX P w K mg base N qual scope f cdv A outer s H E) body t/\t { nx:=λ _ H'=>Q .non H',rt:=Q } (c8q N vs) H) :
    FnOk P w K mg base CX (k+1) f (PySem.W.fnOf name qual params body scope dV kV doc pm an cdv ct) ps sp:=by
  refine ⟨len,λ A outer s H args us vs Q E hr e0 hb r hsp=>?_⟩
  have hl:=len _ _ _ _ hsp
  have KX:K.In s.heap:=e0.mod.kin.keeps λ b o e=>(e0.bs b o e).1
  have lim:s.heap.NoLimit:=e0.mod.nolimit.keeps λ b o e=>(e0.bs b o e).1
  have hkind:∀ y∈ps.zip us,scope.names.lookup y.1=some .local\/(scope.names.lookup y.1=some .cell/\((cellsFrom (s.heap.objs.size+1) scope.names []).lookup y.1).isSome=true):=λ⟨n,v⟩ hy=>by
    rcases S.par n (List.of_mem_zip hy).1 with q | q
    . exact .inl q
    . exact .inr ⟨q,PySem.W.cellsFrom_some _ _ _ (.inl q)⟩
  refine codeAny_call_function hr.depth (KX _ _ lk) rfl S.co S.gen rfl (PySem.W.codeRec_of KX hcd) (hb _ _ _ _ ?_)
  refine wpAny_newFunctionEnv_cells S.kind hkind λ env he s1 x=>?_
  subst he
  refine ⟨lim.keeps x.toInCall.keep,codeAny_func ?_⟩
  obtain ⟨t,ht,hq⟩:=hbody A outer s H vs Q E (hr.deeper _) hsp
  have I:Inv (l0q CX P w K mg base N qual scope f cdv A outer s H E) [] (c8q N vs) H s1:=j5q S hr.hd e0 hl r x
  refine wpAny_mono (ht [] s1 (c8q N vs) H _ I hq) (λ fl s' hs=>?_) λ e s' hs=>hs
  have fin:∀ {σ':St} {H':Hp} {v:V} {u:Value},Inv (l0q CX P w K mg base N qual scope f cdv A outer s H E) [] σ' H' s'->RelV v u->Q v H'->CE outer P w H s Q u s':=
    λ{σ' H' v u} J rv q=>⟨v,H',J.os,J.bare,J.base,J.hok,rv,q⟩
  cases fl with
  | ret u=>
    obtain ⟨v,σ',H',J,rv,q⟩:=hs
    exact fin J rv q
  | next=>
    obtain ⟨σ',H',J,q⟩:=hs
    exact fin (v:=V.non) (u:=Value.none) J rfl q
  | brk=>
    obtain ⟨_,_,_,q⟩:=hs
    exact False.elim q
  | cont=>
    obtain ⟨_,_,_,q⟩:=hs
    exact False.elim q
section
variable {X:Cx} {x:Str} {p pos:Pos} {e:Expr} {es:List Expr} {t:TA} {id T:String} {r:List V->Hp->VK->Prop}
def tCB (r:List V->Hp->VK->Prop) (t:TA):TE:=λ σ H Q=>t σ H λ vs H1=>r vs H1 Q
theorem kBq (hc:CallR X (.builtin id) r) (hg:Gl X x) (hm:X.mg x=none) (hv:bootBuiltins x=some (.builtin id)) (ha:PA X (e::es) t) (hn:x≠"__name__":=by decide) (hdb:(x==("__debug__" : Str))=false:=by decide)
    (he:starEach (e::es) X.env=(false,eval e X.env)::starEach es X.env:=by rfl) (hpl:(backTo pos (starEach es X.env)).any (·.1)=false:=by rfl):PE X (.Call (.Name x p) (e::es) [] pos) (tCB r t):=by
  intro pins s σ H Q I h
  refine wpAny_Call_Name_kw (c3q I hg hm hv ?_ hn hdb)
  exact PyProof.Rows.callWith_builtin1 (thn (ha pos pins s σ H _ I h) λ us s1 ⟨vs,H1,I1,r1,q1⟩=>hc pins s1 σ H1 vs us Q I1 r1 q1) he hpl
theorem i2q (hc:CallR X (.type T) r) (hg:Gl X x) (hm:X.mg x=none) (hv:bootBuiltins x=some (.type T)) (ha:PA X (e::es) t) (hn:x≠"__name__":=by decide) (hdb:(x==("__debug__" : Str))=false:=by decide)
    (he:starEach (e::es) X.env=(false,eval e X.env)::starEach es X.env:=by rfl) (hpl:(backTo pos (starEach es X.env)).any (·.1)=false:=by rfl):PE X (.Call (.Name x p) (e::es) [] pos) (tCB r t):=by
  intro pins s σ H Q I h
  refine wpAny_Call_Name_kw (c3q I hg hm hv ?_ hn hdb)
  exact PyProof.Rows.callWith_type1 (thn (ha pos pins s σ H _ I h) λ us s1 ⟨vs,H1,I1,r1,q1⟩=>hc pins s1 σ H1 vs us Q I1 r1 q1) he hpl
end
end L2
namespace HT
open PySem PyProof.Rows
section
open PySem.SeqAt
open PySem.AutoSeq1 (wpAny_loadPart')
open PySem.MeetsSeq PySem.MeetsSeq2 PySem.MeetsSeq3
end
section
variable {prog:Program} {w:World} {A:Around} {E:Value->Shared->Prop} {s:Shared}
theorem cat_tup {t b:Addr} {vs ws:List Value} {Q:Value->Shared->Prop} (ht:IsTup s.heap t vs.toArray) (hb:IsTup s.heap b ws.toArray) (hv:vs≠[])
    (h1:ws=[]->Q (.ref t) s) (h2:ws≠[]->Q (.ref s.heap.objs.size) { s with heap:=s.heap.push { cls:=.type "tuple", data:=.seq (vs++ws).toArray } })
    (hsz:vs.length+ws.length<=sizeLine):wpAny (model prog w) A (binaryOp .Add (.ref t) (.ref b)) Q E s:=by
  obtain ⟨⟨cls,dd,data,sl⟩,ho,hc,n,hd⟩:=id ht
  obtain ⟨⟨cls2,dd2,data2,sl2⟩,ho2,hc2,n2,hd2⟩:=id hb
  simp only at hc hd hc2 hd2
  subst hc hd hc2 hd2
  have e:vs.toArray++ws.toArray=(vs++ws).toArray:=by simp
  by_cases hw:ws=[]
  . exact concat_meets ⟨_,ho,rfl⟩ ⟨_,ho2,rfl⟩ noFill_tuple_add seq_tuple_add PySem.F.slot_tuple_add PySem.F.entry_tuple_add (PySem.F.args_tuple_add_2 _ _)
      (tuple_addW1 t b vs.toArray ws.toArray n n2 dd dd2 sl sl2 (by simpa using hv) (by simp [hw])) ⟨ho,ho2,h1 hw⟩
  . refine concat_meets ⟨_,ho,rfl⟩ ⟨_,ho2,rfl⟩ noFill_tuple_add seq_tuple_add PySem.F.slot_tuple_add PySem.F.entry_tuple_add (PySem.F.args_tuple_add_2 _ _)
      (tuple_addW2 t b vs.toArray ws.toArray n n2 dd dd2 sl sl2 (by simpa using hv) (by simpa using hw) (by rw [List.size_toArray,List.size_toArray];exact hsz)) ⟨ho,ho2,?_⟩
    rw [e]
    exact h2 hw
def sIx (n d:Nat):Option Int->Nat
  | none=>d
  | some v=>if v < 0 then (v+(n:Int)).toNat else min v.toNat n
theorem oAq (n d:Nat) (hd:d<=n) (o:Option Int):sIx n d o<=n:=by
  cases o with
  | none=>exact hd
  | some v=>
    show (if v < 0 then (v+(n:Int)).toNat else min v.toNat n)<=n
    by_cases hv:v < 0
    . rw [if_pos hv];omega
    . rw [if_neg hv];exact Nat.min_le_right _ _
theorem i5q (v:Int) (n d:Nat):(if v < 0 then max (v+(n:Int)) 0 else min v (n:Int))=((sIx n d (some v):Nat):Int):=by
  show (if v < 0 then max (v+(n:Int)) 0 else min v (n:Int))=(((if v < 0 then (v+(n:Int)).toNat else min v.toNat n):Nat):Int)
  by_cases hv:v < 0
  . simp only [if_pos hv];omega
  . simp only [if_neg hv];omega
theorem hHq (lo hi:Option Int) (n:Nat):Builtin.Slice.sliceAdjust lo hi 1 (n:Int)=(((sIx n 0 lo:Nat):Int),((sIx n n hi:Nat):Int)):=by
  have h1:¬ ((1:Int) < 0):=by omega
  unfold Builtin.Slice.sliceAdjust
  simp only [h1,if_false]
  refine Prod.ext ?_ ?_
  . cases lo with
    | none=>rfl
    | some v=>exact i5q v n 0
  . cases hi with
    | none=>rfl
    | some v=>exact i5q v n n
theorem hUq (i j:Nat):Builtin.Slice.slicePlaces (i:Int) (j:Int) 1=j - i:=by
  unfold Builtin.Slice.slicePlaces
  have h1:(1:Int) > 0:=by omega
  simp only [h1,if_true,Int.ediv_one]
  split<;>omega
theorem e2q {v:Value} {o:Option Int} {Q:Option Int->Shared->Prop} (p:IsPart v o) (h:Q o s):wpAny (model prog w) A (Builtin.Slice.slicePartIndex v) Q E s:=by
  cases p with
  | none=>exact slicePart_none h
  | int i t=>exact slicePart_int h
theorem sliceApplied_gen {sl:Addr} {vl vu:Value} {lo hi:Option Int} {n:Nat} {Q:Int × Int × Nat->Shared->Prop} (hs:s.heap.IsSliceOf sl vl vu .none) (pl:IsPart vl lo) (pu:IsPart vu hi)
    (h:Q (((sIx n 0 lo:Nat):Int),1,sIx n n hi - sIx n 0 lo) s):wpAny (model prog w) A (Builtin.Slice.sliceApplied (.ref sl) (pure (n:Int))) Q E s:=by
  obtain ⟨os,hos,hcs,hds⟩:=id hs
  unfold Builtin.Slice.sliceApplied Builtin.Slice.sliceFields
  refine wpAny_bind (wpAny_bind (wpAny_field hos hds (x:=vl) rfl (wpAny_bind (wpAny_field hos hds (x:=vu) rfl (wpAny_bind (wpAny_field hos hds (x:=.none) rfl (wpAny_pure ?_)))))))
  refine wpAny_bind (slicePart_none ?_)
  show wpAny _ _ (if ((1:Int)==0)=true then _ else _) _ _ s
  rw [if_neg (by decide)]
  refine wpAny_bind (e2q pl (wpAny_bind (e2q pu (wpAny_bind (wpAny_pure ?_)))))
  show wpAny _ _ (match Builtin.Slice.sliceAdjust lo hi 1 (n:Int) with | (lo,hi)=>pure (lo,(1:Int),Builtin.Slice.slicePlaces lo hi 1)) _ _ s
  rw [hHq lo hi n]
  show wpAny _ _ (pure (((sIx n 0 lo:Nat):Int),(1:Int),Builtin.Slice.slicePlaces ((sIx n 0 lo:Nat):Int) ((sIx n n hi:Nat):Int) 1)) _ _ s
  rw [hUq]
  exact wpAny_pure h
theorem kSq (xs:Array Value) (i k:Nat):((List.range k).filterMap λ(m:Nat)=>xs[((i:Int)+(m:Int) * 1).toNat]?).toArray=((xs.toList.drop i).take k).toArray:=by
  have e:(λ(m:Nat)=>xs[((i:Int)+(m:Int) * 1).toNat]?)=λ m=>xs[i+m]?:=by
    funext m
    have:((i:Int)+(m:Int) * 1).toNat=i+m:=by omega
    rw [this]
  rw [e]
  have:=pick_run xs i k
  rw [List.filterMap_map] at this
  have e2:((λ x=>xs[x]?) ∘ λ x=>i+x)=λ m=>xs[i+m]?:=rfl
  rw [e2] at this
  rw [this]
theorem getItem_tuple_cut {t sl:Addr} {items:Array Value} {vl vu:Value} {lo hi:Option Int} {Q:Value->Shared->Prop} (ht:IsTup s.heap t items) (hs:s.heap.IsSliceOf sl vl vu .none) (pl:IsPart vl lo) (pu:IsPart vu hi)
    (hw:¬ (sIx items.size 0 lo=0/\sIx items.size items.size hi=items.size))
    (h:Q (.ref s.heap.objs.size) { s with heap:=s.heap.push { cls:=.type "tuple", data:=.seq ((items.toList.drop (sIx items.size 0 lo)).take (sIx items.size items.size hi - sIx items.size 0 lo)).toArray } })
    (hsz:items.size<=sizeLine):wpAny (model prog w) A (getItem (.ref t) (.ref sl)) Q E s:=by
  have htake:sizeOk (.seq ((items.toList.drop (sIx items.size 0 lo)).take (sIx items.size items.size hi - sIx items.size 0 lo)).toArray):=by
    show ((items.toList.drop (sIx items.size 0 lo)).take (sIx items.size items.size hi - sIx items.size 0 lo)).toArray.size<=sizeLine
    rw [List.size_toArray,List.length_take,List.length_drop,Array.length_toList]
    omega
  have hj:sIx items.size items.size hi<=items.size:=oAq _ _ (Nat.le_refl _) hi
  obtain ⟨os,hos,hcs,hds⟩:=id hs
  have hTs:s.TypeIs (.ref sl) "slice":=⟨os,hos,hcs⟩
  unfold getItem
  try with_reducible refine wpAny_holding ?_
  first | refine wpAny_bind (wpAny_pure ?_) | skip
  refine wpAny_bind (wpAny_sequenceKey ht.typeIs (by decide) ?_)
  refine wpAny_bind (wpAny_callSpecial?_slot (name:=Str.ofString "__getitem__") ht.typeIs PyProof.Rows.slot_tuple_getitem
    (wpAny_call_entry PyProof.Rows.slot_tuple_getitem ht.typeIs entry_tuple_getitem ?_ (args_tuple_getitem _ _)))
  show wpAny _ _ (Builtin.Tuple.tupleItemsOf (.ref t) >>= _) _ _ s
  refine wpAny_bind (tupleItemsOf_ ht ?_)
  refine wpAny_bind (wpAny_typeOf hTs ?_)
  rw [if_pos (by decide)]
  refine wpAny_bind (sliceApplied_gen hs pl pu ?_)
  have hno:¬ ((((sIx items.size 0 lo:Nat):Int)==0&&(1:Int)==1&&(sIx items.size items.size hi - sIx items.size 0 lo)==items.size)=true):=by
    intro q
    rw [Bool.and_eq_true,Bool.and_eq_true] at q
    have q1:((sIx items.size 0 lo:Nat):Int)=0:=eq_of_beq q.1.1
    have q2:sIx items.size items.size hi - sIx items.size 0 lo=items.size:=eq_of_beq q.2
    exact hw ⟨by omega,by omega⟩
  show wpAny _ _ (if (((sIx items.size 0 lo:Nat):Int)==0&&(1:Int)==1&&(sIx items.size items.size hi - sIx items.size 0 lo)==items.size)=true then _ else _) _ _ s
  rw [if_neg hno,kSq]
  first
    | exact wpAny_bind (m:=Builtin.Tuple.tupleExact _) (wpAny_newObj_type (wpAny_pure ⟨_,rfl,wpAny_pure h⟩) htake)
    | exact wpAny_bind (m:=Builtin.Tuple.tupleExact _) (wpAny_newObj_type (wpAny_bind (wpAny_pure (wpAny_pure ⟨_,rfl,wpAny_pure h⟩))) htake)
    | exact wpAny_bind (wpAny_bind (m:=Builtin.Tuple.tupleExact _) (wpAny_newObj_type (wpAny_pure (wpAny_pure ⟨_,rfl,wpAny_pure h⟩)) htake))
    | exact wpAny_bind (wpAny_bind (m:=Builtin.Tuple.tupleExact _) (wpAny_newObj_type (wpAny_pure ⟨_,rfl,wpAny_pure h⟩) htake))
end
end HT
namespace L2
open PySem PySem.Spec PyProof.Rows
abbrev TO:=St->Hp->(Option Int->Hp->Prop)->Prop
def PO (X:Cx) (e:Option Expr) (t:TO):Prop:=
  ∀ (pins:List (Addr × Obj)) (s:Shared) (σ:St) (H:Hp) (Q:Option Int->Hp->Prop),Inv X pins σ H s->t σ H Q →
    wpAny (model X.prog X.w) X.A (evalPart e X.env) (λ u s'=>∃ o H',Inv X pins σ H' s'/\IsPart u o/\Q o H') X.xe s
def iJq:TO:=λ _ H Q=>Q none H
def q8q (t:TE):TO:=λ σ H Q=>t σ H λ x H1=>∃ i,x=.int i/\Q (some i) H1
section
variable {X:Cx} {e:Expr} {te:TE} {lo hi:Option Expr} {tl th:TO} {pos p2:Pos}
theorem n7q:PO X none iJq:=by
  intro pins s σ H Q I h
  rw [evalPart_none]
  exact wpAny_pure ⟨none,H,I,.none,h⟩
theorem nHq (h:PE X e te):PO X (some e) (q8q te):=by
  intro pins s σ H Q I hw
  rw [evalPart_some]
  refine thn (h pins s σ H _ I hw) λ u s1 ⟨x,H1,I1,r1,q1⟩=>?_
  obtain ⟨i,rfl,q⟩:=q1
  obtain ⟨t,rfl⟩:=r1
  exact ⟨some i,H1,I1,.int i t,q⟩
def SlR (X:Cx) (r:V->Option Int->Option Int->Hp->VK->Prop):Prop:=
  ∀ (pins:List (Addr × Obj)) (s:Shared) (σ:St) (H:Hp) (x:V) (v vl vu:Value) (lo hi:Option Int) (sl:Addr) (Q:VK),Inv X pins σ H s->RelV x v->s.heap.IsSliceOf sl vl vu .none->IsPart vl lo->IsPart vu hi->r x lo hi H Q →
    ∃ T id,typeLookup (.type T) "__getitem__" = pure (some (.builtin id))/\s.TypeIs v T/\wpAny (model X.prog X.w) X.A (getItem v (.ref sl)) (EP X pins σ Q) X.xe s
theorem SlR.or {r r':V->Option Int->Option Int->Hp->VK->Prop} (h:SlR X r) (h':SlR X r'):SlR X (λ x lo hi H Q=>r x lo hi H Q\/r' x lo hi H Q):=by
  intro pins s σ H x v vl vu lo hi sl Q I rx hs pl pu q
  rcases q with q | q
  . exact h pins s σ H x v vl vu lo hi sl Q I rx hs pl pu q
  . exact h' pins s σ H x v vl vu lo hi sl Q I rx hs pl pu q
def tSl (r:V->Option Int->Option Int->Hp->VK->Prop) (te:TE) (tl th:TO):TE:=λ σ H Q=>te σ H λ x H1=>tl σ H1 λ l H2=>th σ H2 λ u H3=>r x l u H3 Q
theorem kGq {r:V->Option Int->Option Int->Hp->VK->Prop} (hr:SlR X r) (he:PE X e te) (hl:PO X lo tl) (hu:PO X hi th):PE X (.Subscript e (.Slice lo hi none p2) pos) (tSl r te tl th):=by
  intro pins s σ H Q I h
  refine Subscript_ (thn (he pins s σ H _ I h) λ v s1 ⟨x,H1,I1,r1,q1⟩=>?_)
  refine wpAny_Slice (thn (hl pins s1 σ H1 _ I1 q1) λ vl s2 ⟨l,H2,I2,pl,q2⟩=>thn (hu pins s2 σ H2 _ I2 q2) λ vu s3 ⟨u,H3,I3,pu,q3⟩=>?_)
  rw [evalPart_none]
  refine wpAny_pure ?_
  have I4:Inv X pins σ H3 { s3 with heap:=s3.heap.push { cls:=.type "slice", data:=.fields #[vl,vu,.none] } }:=I3.kept (t':=s3.toks) λ b ob q=>Heap.get?_push_of_some _ q
  obtain ⟨T,id,hT,ht,hg⟩:=hr pins { s3 with heap:=s3.heap.push { cls:=.type "slice", data:=.fields #[vl,vu,.none] } } σ H3 x v vl vu l u s3.heap.objs.size Q I4 r1 (Heap.IsSliceOf.new ..) pl pu q3
  show wpAny (model X.prog X.w) X.A (subscriptTail e (.Slice lo hi none p2) v (.ref s3.heap.objs.size)) (EP X pins σ Q) X.xe { s3 with heap:=s3.heap.push { cls:=.type "slice", data:=.fields #[vl,vu,.none] } }
  exact tail_any (ops:=[.ref s3.heap.objs.size,v]) ht hT hg (by with_unfolding_all rfl)
def hXq (xs:List V) (lo hi:Option Int):List V:=(xs.drop (HT.sIx xs.length 0 lo)).take (HT.sIx xs.length xs.length hi - HT.sIx xs.length 0 lo)
theorem cNq (xs:List V) (lo hi:Option Int):(hXq xs lo hi).length<=xs.length:=by
  unfold hXq
  rw [List.length_take,List.length_drop]
  omega
def uHq (K:PySem.W.Frag):V->Option Int->Option Int->Hp->VK->Prop:=λ x lo hi H Q=>∃ a xs,x=.ref a/\SqT K H a xs ∧
  ¬ (HT.sIx xs.length 0 lo=0/\HT.sIx xs.length xs.length hi=xs.length)/\∀ p,H p=none->Q (.ref p) (upd H p (.tup (hXq xs lo hi)))
theorem pWq:SlR X (uHq X.K):=by
  intro pins s σ H x v vl vu lo hi sl Q I rx hs pl pu h
  obtain ⟨a,xs,rfl,hx,hw,q⟩:=h
  cases rx
  obtain ⟨its,r,ht,hz⟩:=I.tuple hx
  have hlen:its.toArray.size=xs.length:=by rw [List.size_toArray];exact r.length.symm
  refine ⟨"tuple", _,PyProof.Rows.slot_tuple_getitem.lookup,ht.typeIs,?_⟩
  refine HT.getItem_tuple_cut ht hs pl pu (by rw [hlen];exact hw) ?_ (by rw [hlen];exact hz)
  rw [hlen]
  refine ⟨.ref s.heap.objs.size,_,I.laid (t':=s.toks) (o:=.tup (hXq xs lo hi)) (λ b ob q=>Heap.get?_push_of_some _ q) (Nat.le_refl _) ?_,rfl,q _ (I.hok.fresh (Nat.le_refl _))⟩
  exact ⟨Nat.le_trans (cNq xs lo hi) hz,_,(r.drop (HT.sIx xs.length 0 lo)).take (HT.sIx xs.length xs.length hi - HT.sIx xs.length 0 lo),IsTup.new _ _⟩
def s1q (K:PySem.W.Frag):R2:=λ x y H Q=>∃ a b xs ys,x=.ref a/\y=.ref b/\SqT K H a xs/\SqT K H b ys/\xs≠[]/\xs.length+ys.length<=sizeLine ∧
  (ys=[]->Q (.ref a) H)/\(ys≠[]->∀ p,H p=none->Q (.ref p) (upd H p (.tup (xs++ys))))
theorem Vals.nil_iff {xs:List V} {us:List Value} (r:Vals xs us):us=[] ↔ xs=[]:=by
  cases r with
  | nil=>simp
  | cons _ _=>simp
theorem mIq:OpR X (binaryOp .Add) (s1q X.K):=by
  intro pins s σ H x y v u Q I rx ry h
  obtain ⟨a,b,xs,ys,rfl,rfl,ha,hb,hx,hz,q1,q2⟩:=h
  cases rx
  cases ry
  obtain ⟨its,r1,p1,_⟩:=I.tuple ha
  obtain ⟨its2,r2,p2,_⟩:=I.tuple hb
  refine HT.cat_tup p1 p2 (λ z=>hx (r1.nil_iff.mp z)) (λ z=>⟨.ref a,H,I,rfl,q1 (r2.nil_iff.mp z)⟩) (λ z=>?_) (by rw [<- r1.length,<- r2.length];exact hz)
  refine ⟨.ref s.heap.objs.size,_,I.laid (t':=s.toks) (o:=.tup (xs++ys)) (λ b ob q=>Heap.get?_push_of_some _ q) (Nat.le_refl _) ?_,rfl,q2 (λ w=>z (r2.nil_iff.mpr w)) _ (I.hok.fresh (Nat.le_refl _))⟩
  exact ⟨by rw [List.length_append];exact hz,_,r1.append r2,IsTup.new _ _⟩
end
def ixN (n:Nat) (i:Int):Option Nat:=if 0<=i then (if i < n then some i.toNat else none) else if -(n:Int)<=i then some (i+n).toNat else none
def atI {α:Type} (xs:List α) (i:Int):Option α:=(ixN xs.length i).bind λ j=>xs[j]?
theorem j3q {n:Nat} {i:Int} {j:Nat} (h:ixN n i=some j):seqIndex? i n=some j/\j < n/\-(n:Int)<=i/\i < n:=by
  unfold ixN at h
  by_cases h0:0<=i
  . rw [if_pos h0] at h
    by_cases h1:i < n
    . rw [if_pos h1] at h
      have e:i.toNat=j:=Option.some.inj h
      exact ⟨by rw [seqIndex_of h0 h1,e],by omega,by omega,h1⟩
    . rw [if_neg h1] at h;cases h
  . rw [if_neg h0] at h
    by_cases h1:-(n:Int)<=i
    . rw [if_pos h1] at h
      have e:(i+n).toNat=j:=Option.some.inj h
      exact ⟨by rw [seqIndex_neg (by omega) h1,e],by omega,h1,by omega⟩
    . rw [if_neg h1] at h;cases h
theorem gHq {α:Type} {xs:List α} {i:Int} {v:α} (h:atI xs i=some v):∃ j,seqIndex? i xs.length=some j/\xs[j]?=some v/\j < xs.length/\-(xs.length:Int)<=i/\i < xs.length:=by
  unfold atI at h
  cases e:ixN xs.length i with
  | none=>rw [e] at h;cases h
  | some j=>
    rw [e] at h
    obtain ⟨h1,h2,h3,h4⟩:=j3q e
    exact ⟨j,h1,h,h2,h3,h4⟩
theorem eNq {α:Type} {xs:List α} {j:Nat} {v:α} (h:xs[j]?=some v):atI xs (j:Int)=some v:=by
  have hj:j < xs.length:=(List.getElem?_eq_some_iff.mp h).1
  have e:ixN xs.length (j:Int)=some j:=by
    unfold ixN
    rw [if_pos (by omega),if_pos (by omega)];simp
  unfold atI;rw [e];exact h
def eVq (b:Expr):Prop:=∀ o i,subscripted b false o i=operate [o,i] (getItem o i)
def IxR (X:Cx) (r:R2):Prop:=
  ∀ (value slice:Expr) (pins:List (Addr × Obj)) (s:Shared) (σ:St) (H:Hp) (x y:V) (v u:Value) (Q:VK),Inv X pins σ H s->RelV x v->RelV y u->r x y H Q →
    subscripted slice false v u=operate [v,u] (getItem v u)->wpAny (model X.prog X.w) X.A (subscriptTail value slice v u) (EP X pins σ Q) X.xe s
def MtR (X:Cx) (id:String) (r:V->List V->Hp->VK->Prop):Prop:=
  ∀ (pins:List (Addr × Obj)) (s:Shared) (σ:St) (H:Hp) (x:V) (xs:List V) (v:Value) (us:List Value) (Q:VK),Inv X pins σ H s->RelV x v->Vals xs us->r x xs H Q →
    wpAny (model X.prog X.w) X.A (call (.builtin id) (v::us)) (EP X pins σ Q) X.xe s
section
variable {X:Cx} {a b:Expr} {ta tb:TE} {pos:Pos}
theorem IxR.or {r r':R2} (h:IxR X r) (h':IxR X r'):IxR X (λ x y H Q=>r x y H Q\/r' x y H Q):=by
  intro value slice pins s σ H x y v u Q I rx ry q hs
  rcases q with q | q
  . exact h value slice pins s σ H x y v u Q I rx ry q hs
  . exact h' value slice pins s σ H x y v u Q I rx ry q hs
theorem MtR.or {id:String} {r r':V->List V->Hp->VK->Prop} (h:MtR X id r) (h':MtR X id r'):MtR X id (λ x xs H Q=>r x xs H Q\/r' x xs H Q):=by
  intro pins s σ H x xs v us Q I rx rs q
  rcases q with q | q
  . exact h pins s σ H x xs v us Q I rx rs q
  . exact h' pins s σ H x xs v us Q I rx rs q
theorem tMq {r:R2} (hr:IxR X r) (ha:PE X a ta) (hb:PE X b tb) (hs:eVq b):PE X (.Subscript a b pos) (tOp r ta tb):=by
  intro pins s σ H Q I h
  exact Subscript_ (rRq ha hb I h λ v u s2 x y H2 I2 rx ry q=>hr a b pins s2 σ H2 x y v u Q I2 rx ry q (hs _ _))
def tPq (K:PySem.W.Frag):R2:=λ x y H Q=>∃ p xs i v,x=.ref p/\y=.int i/\SqL K H p xs/\atI xs i=some v/\Q v H
def u0q (K:PySem.W.Frag):R2:=λ x y H Q=>∃ p xs i v,x=.ref p/\y=.int i/\SqT K H p xs/\atI xs i=some v/\Q v H
def tYq:R2:=λ x y H Q=>∃ z i c,x=.str z/\y=.int i/\z.length<=sizeLine/\atI z.cps.toList i=some c/\Q (.str ⟨#[c]⟩) H
theorem ix_list:IxR X (tPq X.K):=by
  intro value slice pins s σ H x y v u Q I rx ry h hs
  obtain ⟨p,xs,i,z,rfl,rfl,hq,he,q⟩:=h
  cases rx
  obtain ⟨t,rfl⟩:=ry
  obtain ⟨its,r,pl,hz⟩:=I.list hq
  obtain ⟨j,h1,h2,h3,h4,h5⟩:=gHq he
  obtain ⟨w,ew,rw'⟩:=r.get h2
  have hl:=r.length
  have hn:=cEq
  have fin:EP X pins σ Q w s:=⟨z,H,I,rw',q⟩
  by_cases h0:0<=i
  . have hj:i.toNat=j:=by
      rw [seqIndex_of h0 h5] at h1
      exact Option.some.inj h1
    exact item_listR pl.isList h0 (by omega) (by rw [hj];simpa using ew) fin hs
  . have hj:(i+(its.toArray.size:Int)).toNat=j:=by
      rw [seqIndex_neg (by omega) h4] at h1
      rw [List.size_toArray,<- hl]
      exact Option.some.inj h1
    exact subscriptTail_builtinR (x:=w) pl.isList.typeIs slot_list_getitem.lookup
      (wpAny_getItem_list_neg (Q:=λ r s'=>r=w/\EP X pins σ Q r s') pl.isList (by omega) (by rw [List.size_toArray]<;>omega) (by omega) (by rw [hj];simpa using ew) ⟨rfl,fin⟩) hs
theorem ix_tup:IxR X (u0q X.K):=by
  intro value slice pins s σ H x y v u Q I rx ry h hs
  obtain ⟨p,xs,i,z,rfl,rfl,hq,he,q⟩:=h
  cases rx
  obtain ⟨t,rfl⟩:=ry
  obtain ⟨its,r,pl,hz⟩:=I.tuple hq
  obtain ⟨j,h1,h2,h3,h4,h5⟩:=gHq he
  obtain ⟨w,ew,rw'⟩:=r.get h2
  have hl:=r.length
  have hn:=cEq
  have fin:EP X pins σ Q w s:=⟨z,H,I,rw',q⟩
  exact subscriptTail_builtinR (x:=w) pl.typeIs slot_tuple_getitem.lookup
    (getItem_tuple (j:=j) (Q:=λ r s'=>r=w/\EP X pins σ Q r s') pl (by omega) (by omega) (by rw [List.size_toArray,<- hl];exact h1) (by simpa using ew) ⟨rfl,fin⟩) hs
theorem qZq:IxR X tYq:=by
  intro value slice pins s σ H x y v u Q I rx ry h hs
  obtain ⟨z,i,c,rfl,rfl,hz,he,q⟩:=h
  obtain ⟨t,rfl⟩:=rx
  obtain ⟨t',rfl⟩:=ry
  obtain ⟨j,h1,h2,h3,h4,h5⟩:=gHq he
  have hl:z.cps.toList.length=z.length:=by simp [Str.length]
  rw [hl] at h1 h4 h5
  have hn:=cEq
  exact tail_any (typeIs_str s z t) slot_str_getitem.lookup (getItem_str (c:=c) (by
    have e1:decide (i < -(2 ^ 63:Int))=false:=decide_eq_false (by omega)
    have e2:decide (i ≥ 2 ^ 63)=false:=decide_eq_false (by omega)
    rw [e1,e2,Bool.or_false]) (by rw [h1];simpa using h2) ⟨.str ⟨#[c]⟩,H,I.tok _,⟨_,rfl⟩,q⟩) hs
def rIx (K:PySem.W.Frag):R2:=λ x y H Q=>tPq K x y H Q\/u0q K x y H Q\/tYq x y H Q
theorem l9q:IxR X (rIx X.K):=ix_list.or (ix_tup.or qZq)
theorem hBq (its:List Value) (n j:Nat) (u:Value):Obj.mapSeq (·.setIfInBounds j u) { cls:=.type "list", data:=.seq its.toArray n }={ cls:=.type "list", data:=.seq (its.set j u).toArray n }:=by
  simp [Obj.mapSeq]
theorem Inv.lst {pins:List (Addr × Obj)} {σ:St} {H:Hp} {s:Shared} {p:Addr} {xs:List V} (I:Inv X pins σ H s) (h:H p=some (.lst xs)) :
    ∃ (its:List Value) (n:Nat),Vals xs its/\s.heap.get? p=some { cls:=.type "list", data:=.seq its.toArray n }/\xs.length<=sizeLine:=by
  obtain ⟨z,its,n,r,e⟩:=I.hok p _ h
  exact ⟨its,n,r,e,z⟩
theorem Inv.lstUpd {pins:List (Addr × Obj)} {σ:St} {H:Hp} {s:Shared} {p:Addr} {xs ys:List V} {its its':List Value} {n n':Nat} {f:Obj->Obj} (I:Inv X pins σ H s) (h:H p=some (.lst xs))
    (ho:s.heap.get? p=some { cls:=.type "list", data:=.seq its.toArray n }) (hf:f { cls:=.type "list", data:=.seq its.toArray n }={ cls:=.type "list", data:=.seq its'.toArray n' }) (r:Vals ys its') (hz:ys.length<=sizeLine) (t:Nat) :
    Inv X pins σ (upd H p (.lst ys)) { s with heap:=s.heap.update p f,toks:=t }:=by
  have e:(s.heap.update p f).get? p=some { cls:=.type "list", data:=.seq its'.toArray n' }:=by
    rw [Heap.get?_update_self f ho (by rw [hf]<;>rfl),hf]
  refine I.write (x:=p) (e:=p) (by rw [h];trivial) (.inl rfl) (λ b u hb q=>(Heap.get?_update_other _ _ (Ne.symm hb)).trans q) ⟨_,e⟩ ?_
  exact ⟨hz,its',n',r,e⟩
def t5q:V->V->V->Hp->(Hp->Prop)->Prop:=λ o i v H Q=>∃ p xs k j,o=.ref p/\i=.int k/\H p=some (.lst xs)/\ixN xs.length k=some j/\Q (upd H p (.lst (xs.set j v)))
theorem jVq:rNq X t5q:=by
  intro pins s σ H o i v ov iv u Q I ro ri rv h
  obtain ⟨p,xs,k,j,rfl,rfl,hp,hj,q⟩:=h
  cases ro
  obtain ⟨t,rfl⟩:=ri
  obtain ⟨its,n,r,ho,hz⟩:=I.lst hp
  obtain ⟨h1,h2,h3,h4⟩:=j3q hj
  have hl:=r.length
  have hn:=cEq
  have I':Inv X pins σ (upd H p (.lst (xs.set j v))) { s with heap:=s.heap.update p (Obj.mapSeq (·.setIfInBounds j u)) }:=
    I.lstUpd hp ho (hBq its n j u) (r.set rv j) (by rw [List.length_set];exact hz) s.toks
  by_cases h0:0<=k
  . have hk:k.toNat=j:=by
      rw [seqIndex_of h0 h4] at h1
      exact Option.some.inj h1
    exact PySem.W.ki_setAt ho h0 (by omega) (by rw [List.size_toArray,<- hl];exact h4) (by rw [hk];exact ⟨_,I',q⟩)
  . have hk:(k+(its.toArray.size:Int)).toNat=j:=by
      rw [seqIndex_neg (by omega) h3] at h1
      rw [List.size_toArray,<- hl]
      exact Option.some.inj h1
    exact PySem.W.ki_setBack ho (by omega) (by rw [List.size_toArray,<- hl];exact h3) (by omega) (by rw [hk];exact ⟨_,I',q⟩)
theorem f6q (lo hi:Option Int) (n:Nat):(sliceBounds lo hi none n).1=((HT.sIx n 0 lo:Nat):Int)/\(sliceBounds lo hi none n).2.1=((HT.sIx n n hi:Nat):Int)/\(sliceBounds lo hi none n).2.2=1:=by
  refine ⟨?_,?_,rfl⟩
  . cases lo with
    | none=>simp [sliceBounds,HT.sIx]
    | some i=>
      simp only [sliceBounds,HT.sIx,Option.getD_none,show (1:Int) > 0 by decide,if_true]
      by_cases h:i < 0
      . simp only [h,if_true]<;>omega
      . simp only [h,if_false]<;>omega
  . cases hi with
    | none=>simp [sliceBounds,HT.sIx]
    | some i=>
      simp only [sliceBounds,HT.sIx,Option.getD_none,show (1:Int) > 0 by decide,if_true]
      by_cases h:i < 0
      . simp only [h,if_true]<;>omega
      . simp only [h,if_false]<;>omega
theorem eTq (its:List Value) (lo hi:Option Int):slicePick its.toArray lo hi none=((its.drop (HT.sIx its.length 0 lo)).take (HT.sIx its.length its.length hi - HT.sIx its.length 0 lo)).toArray:=by
  obtain ⟨h1,h2,h3⟩:=f6q lo hi its.toArray.size
  unfold slicePick
  rw [h1,h2,h3]
  simp only [sliceRange_one,pick_run,List.size_toArray]<;>rfl
def v3q (K:PySem.W.Frag):V->Option Int->Option Int->Hp->VK->Prop:=λ x lo hi H Q=>∃ a xs,x=.ref a/\SqL K H a xs/\∀ p,H p=none->Q (.ref p) (upd H p (.lst (hXq xs lo hi)))
theorem lPq:SlR X (v3q X.K):=by
  intro pins s σ H x v vl vu lo hi sl Q I rx hs pl pu h
  obtain ⟨a,xs,rfl,hx,q⟩:=h
  cases rx
  obtain ⟨its,r,ht,hz⟩:=I.list hx
  have hlen:=r.length
  refine ⟨"list", _,slot_list_getitem.lookup,ht.isList.typeIs,?_⟩
  refine wpAny_getItem_list_slice ht.isList hs pl pu .none (by simp) ?_ (by rw [List.size_toArray]<;>omega)
  rw [eTq,<- hlen]
  refine ⟨.ref s.heap.objs.size,_,I.laid (t':=s.toks) (o:=.lst (hXq xs lo hi)) (λ b ob q=>Heap.get?_push_of_some _ q) (Nat.le_refl _) ?_,rfl,q _ (I.hok.fresh (Nat.le_refl _))⟩
  exact ⟨Nat.le_trans (cNq xs lo hi) hz,_,0,(r.drop (HT.sIx xs.length 0 lo)).take (HT.sIx xs.length xs.length hi - HT.sIx xs.length 0 lo),Heap.get?_push_size _ rfl⟩
def dEq:V->Bool
  | .non=>true
  | .bl _=>true
  | .int _=>true
  | .str _=>true
  | _=>false
def eqV:V->V->Bool
  | .non,.non=>true
  | .bl a,.bl b=>a==b
  | .bl a,.int b=>(if a then 1 else 0)==b
  | .int a,.bl b=>a==(if b then 1 else 0)
  | .int a,.int b=>a==b
  | .str a,.str b=>a==b
  | _,_=>false
theorem qXq {A:Around} {s:Shared} {y x:V} {u v:Value} (ry:RelV y u) (rx:RelV x v) (fy:dEq y=true) (fx:dEq x=true):SeqAt.EqAt A s u v (eqV y x):=by
  cases y with
  | non=>
    cases ry
    cases x with
    | non=>cases rx;exact SeqAt.EqAt.same _
    | bl b=>cases rx;exact SeqAt.EqAt.none_bool b
    | int b=>obtain ⟨t,rfl⟩:=rx;exact SeqAt.EqAt.none_int b t
    | str b=>obtain ⟨t,rfl⟩:=rx;exact SeqAt.EqAt.none_str b t
    | _=>exact absurd (show false=true from fx) Bool.false_ne_true
  | bl a=>
    cases ry
    cases x with
    | non=>cases rx;exact SeqAt.EqAt.bool_none a
    | bl b=>cases rx;exact SeqAt.EqAt.bool_bool a b
    | int b=>obtain ⟨t,rfl⟩:=rx;exact SeqAt.EqAt.bool_int a b t
    | str b=>obtain ⟨t,rfl⟩:=rx;exact SeqAt.EqAt.bool_str a b t
    | _=>exact absurd (show false=true from fx) Bool.false_ne_true
  | int a=>
    obtain ⟨t',rfl⟩:=ry
    cases x with
    | non=>cases rx;exact SeqAt.EqAt.int_none a t'
    | bl b=>cases rx;exact SeqAt.EqAt.int_bool a t' b
    | int b=>obtain ⟨t,rfl⟩:=rx;exact SeqAt.EqAt.int_int a t' b t
    | str b=>obtain ⟨t,rfl⟩:=rx;exact SeqAt.EqAt.int_str a t' b t
    | _=>exact absurd (show false=true from fx) Bool.false_ne_true
  | str a=>
    obtain ⟨t',rfl⟩:=ry
    cases x with
    | non=>cases rx;exact SeqAt.EqAt.str_none a t'
    | bl b=>cases rx;exact SeqAt.EqAt.str_bool a t' b
    | int b=>obtain ⟨t,rfl⟩:=rx;exact SeqAt.EqAt.str_int a t' b t
    | str b=>obtain ⟨t,rfl⟩:=rx;exact SeqAt.EqAt.str_str a t' b t
    | _=>exact absurd (show false=true from fx) Bool.false_ne_true
  | _=>exact absurd (show false=true from fy) Bool.false_ne_true
def eqU (x:V) (u:Value):Bool:=match u with
  | .none=>eqV .non x
  | .bool b=>eqV (.bl b) x
  | .int i _=>eqV (.int i) x
  | .str z _=>eqV (.str z) x
  | _=>false
theorem lHq {x y:V} {u:Value} (r:RelV y u) (f:dEq y=true):eqU x u=eqV y x:=by
  cases y with
  | non=>cases r;rfl
  | bl b=>cases r;rfl
  | int i=>obtain ⟨t,rfl⟩:=r;rfl
  | str z=>obtain ⟨t,rfl⟩:=r;rfl
  | _=>exact absurd (show false=true from f) Bool.false_ne_true
theorem gDq {x:V}:∀ {xs:List V} {us:List Value},Vals xs us->xs.all dEq=true->us.any (eqU x)=xs.any λ y=>eqV y x
  | _,_,.nil,_=>rfl
  | y::xs,u::us,.cons r t,f=>by
    rw [List.all_cons,Bool.and_eq_true] at f
    rw [List.any_cons,List.any_cons,lHq r f.1,gDq t f.2]
theorem eUq {A:Around} {s:Shared} {x:V} {v:Value} (rx:RelV x v) (fx:dEq x=true):∀ {xs:List V} {us:List Value},Vals xs us->xs.all dEq=true->∀ u∈us,SeqAt.EqAt A s u v (eqU x u)
  | _,_,.nil,_=>λ u hu=>by cases hu
  | y::xs,u::us,.cons r t,f=>λ u' hu=>by
    rw [List.all_cons,Bool.and_eq_true] at f
    rcases List.mem_cons.mp hu with rfl | hu
    . rw [lHq r f.1];exact qXq r rx f.1 fx
    . exact eUq rx fx t f.2 u' hu
def inV (x:V) (xs:List V):Bool:=xs.any λ y=>eqV y x
def rIn (K:PySem.W.Frag) (neg:Bool):R2:=λ x y H Q=>∃ p xs,y=.ref p/\(SqL K H p xs\/SqT K H p xs)/\dEq x=true/\xs.all dEq=true/\Q (.bl (if neg then !inV x xs else inV x xs)) H
theorem op_in_seq:OpR X (compareOp .In) (rIn X.K false):=by
  intro pins s σ H x y v u Q I rx ry h
  obtain ⟨p,xs,rfl,hq,fx,fs,q⟩:=h
  cases ry
  rcases hq with hq | hq
  . obtain ⟨its,r,pl,hz⟩:=I.list hq
    refine SeqAt.in_listAt (eqU x) pl.isList (λ w hw=>eUq rx fx r fs w (by simpa using hw)) ⟨.bl _,H,I,rfl,?_⟩
    rw [show its.toArray.any (eqU x)=its.any (eqU x) by simp,gDq r fs]
    exact q
  . obtain ⟨its,r,pl,hz⟩:=I.tuple hq
    refine SeqAt.in_tupleAt (eqU x) pl (λ w hw=>eUq rx fx r fs w (by simpa using hw)) ⟨.bl _,H,I,rfl,?_⟩
    rw [show its.toArray.any (eqU x)=its.any (eqU x) by simp,gDq r fs]
    exact q
theorem call_len_seq:CallR X (.builtin "len") (λ xs H Q=>∃ p ys,xs=[.ref p]/\(SqL X.K H p ys\/SqT X.K H p ys)/\Q (.int ys.length) H):=by
  intro pins s σ H xs us Q I r h
  obtain ⟨p,ys,rfl,hq,q⟩:=h
  obtain ⟨u,rfl,rx⟩:=kKq r
  cases rx
  have hn:=cEq
  rcases hq with hq | hq
  . obtain ⟨its,r',pl,hz⟩:=I.list hq
    have hlen:=r'.length
    exact Calls.call_len_list pl.isList (by simp only [List.size_toArray]<;>omega) ⟨.int ys.length,H,I.tok _,⟨s.toks+1,by rw [List.size_toArray,hlen]⟩,q⟩
  . obtain ⟨its,r',pl,hz⟩:=I.tuple hq
    have hlen:=r'.length
    exact len_tuple pl (by simp only [List.size_toArray]<;>omega) ⟨.int ys.length,H,I.tok _,⟨s.toks+1,by rw [List.size_toArray,hlen]⟩,q⟩
theorem fGq:CallR X (.builtin "len") (λ xs H Q=>∃ z,xs=[.str z]/\z.length<=sizeLine/\Q (.int z.length) H):=by
  intro pins s σ H xs us Q I r h
  obtain ⟨z,rfl,hz,q⟩:=h
  obtain ⟨u,rfl,t,rfl⟩:=kKq r
  have hn:=cEq
  exact len_str (by omega) ⟨.int z.length,H,I.tok _,⟨_,rfl⟩,q⟩
theorem CallR.or {f:Value} {r r':List V->Hp->VK->Prop} (h:CallR X f r) (h':CallR X f r'):CallR X f (λ xs H Q=>r xs H Q\/r' xs H Q):=by
  intro pins s σ H xs us Q I rs q
  rcases q with q | q
  . exact h pins s σ H xs us Q I rs q
  . exact h' pins s σ H xs us Q I rs q
theorem eXq:CallR X (.type "tuple") (λ xs H Q=>∃ p ys,xs=[.ref p]/\((SqL X.K H p ys/\∀ l,H l=none->Q (.ref l) (upd H l (.tup ys)))\/(SqT X.K H p ys/\Q (.ref p) H))):=by
  intro pins s σ H xs us Q I r h
  obtain ⟨p,ys,rfl,h⟩:=h
  obtain ⟨u,rfl,rx⟩:=kKq r
  cases rx
  rcases h with ⟨hq,q⟩ | ⟨hq,q⟩
  . obtain ⟨its,r',pl,hz⟩:=I.list hq
    have hlen:=r'.length
    refine call_tuple_list pl.isList (λ h' kp=>?_) (by simp only [List.size_toArray]<;>omega)
    have I1:Inv X pins σ H { s with heap:=h' }:=I.kept (t':=s.toks) kp
    have I2:Inv X pins σ (upd H h'.objs.size (.tup ys)) { s with heap:=h'.push { cls:=.type "tuple", data:=.seq its.toArray } }:=
      I1.laid (t':=s.toks) (λ b o e=>Heap.get?_push_of_some _ e) (Nat.le_refl _) (show ObjOk X.prog X.w _ _ _ (.tup ys) from ⟨hz,its,r',IsTup.new _ _⟩)
    exact ⟨.ref h'.objs.size,_,I2,rfl,q _ (I1.hok.fresh (Nat.le_refl _))⟩
  . obtain ⟨its,r',pl,hz⟩:=I.tuple hq
    exact call_tuple_same pl ⟨.ref p,H,I,rfl,q⟩
def tyV (K:PySem.W.Frag) (T:String) (x:V) (H:Hp):Prop:=match x with
  | .str _=>T = "str"
  | .int _=>T = "int"
  | .ref p=>(T = "list"/\∃ xs,SqL K H p xs)\/(T = "tuple"/\∃ o,K.lookup p=some o/\o.cls=.type "tuple"/\o.dict=none) ∨
      (T = "dict"/\((∃ kvs,H p=some (.dK kvs))\/∃ kvs,H p=some (.dT kvs)))\/(T = "set"/\∃ S n,H p=some (.set S n))
  | _=>False
theorem lEq {pins:List (Addr × Obj)} {σ:St} {H:Hp} {s:Shared} {T:String} {x:V} {v:Value} (I:Inv X pins σ H s) (r:RelV x v) (ty:tyV X.K T x H) :
    s.TypeIs v T/\∀ a,v=.ref a->∃ ob,s.heap.get? a=some ob/\ob.dict=none:=by
  cases x with
  | str z=>
    obtain ⟨t,rfl⟩:=r
    cases (show T = "str" from ty)
    exact ⟨typeIs_str s z t,λ _ e=>nomatch e⟩
  | int i=>
    obtain ⟨t,rfl⟩:=r
    cases (show T = "int" from ty)
    exact ⟨typeIs_int s i t,λ _ e=>nomatch e⟩
  | ref p=>
    cases r
    rcases ty with ⟨rfl,xs,hq⟩ | ⟨rfl,o,hk,hc,hd⟩ | ⟨rfl,hk⟩ | ⟨rfl,S,n,hk⟩
    . obtain ⟨its,_,pl,_⟩:=I.list hq
      refine ⟨pl.isList.typeIs,λ a e=>?_⟩
      cases e
      obtain ⟨o,n,e,c,hd,_⟩:=pl
      exact ⟨o,e,hd⟩
    . refine ⟨⟨o,I.kIn p o hk,hc⟩,λ a e=>?_⟩
      cases e
      exact ⟨o,I.kIn _ o hk,hd⟩
    . have z:∃ o,s.heap.get? p=some o/\o.ExactDict:=by
        rcases hk with ⟨kvs,hk⟩ | ⟨kvs,hk⟩
        . obtain ⟨_,_,_,_,o,_,_,e,ex,_⟩:=I.hok p _ hk
          exact ⟨o,e,ex⟩
        . obtain ⟨_,_,_,_,o,_,_,e,ex,_⟩:=I.hok p _ hk
          exact ⟨o,e,ex⟩
      obtain ⟨o,e,ex⟩:=z
      refine ⟨⟨o,e,ex.1⟩,λ a e2=>?_⟩
      cases e2
      exact ⟨o,e,ex.2.1⟩
    . obtain ⟨o,_,_,_,e,ex,_⟩:=I.hok p _ hk
      refine ⟨⟨o,e,ex.1⟩,λ a e2=>?_⟩
      cases e2
      exact ⟨o,e,ex.2.1⟩
  | _=>exact False.elim ty
def tWq (K:PySem.W.Frag) (T:String) (r:V->List V->Hp->VK->Prop) (to:TE):TE:=λ σ H Q=>to σ H λ x H1=>tyV K T x H1/\r x [] H1 Q
def tBM (K:PySem.W.Frag) (T:String) (r:V->List V->Hp->VK->Prop) (to:TE) (t:TA):TE:=λ σ H Q=>to σ H λ x H1=>tyV K T x H1/\t σ H1 λ xs H2=>r x xs H2 Q
variable {o e:Expr} {es:List Expr} {to:TE} {t:TA} {name:Str} {apos cpos:Pos} {T id:String} {r:V->List V->Hp->VK->Prop}
theorem pZq (pa:PlainAttrs T) (slot:Slot T name id) (hty:typeOf (.builtin id)=pure (.type "method_descriptor")) (hm:MtR X id r) (ho:PE X o to)
    (hbase:attributeBase o name X.env (eval o X.env)=eval o X.env:=by rfl) (hline:(apos.endLine==cpos.line)=true:=by rfl):PE X (.Call (.Attribute o name apos) [] [] cpos) (tWq X.K T r to):=by
  intro pins s σ H Q I h
  refine wpAny_Call_method0_late hbase hline (thn (ho pins s σ H _ I h) λ v s1 ⟨x,H1,I1,r1,ty,q1⟩=>?_)
  obtain ⟨h1,h2⟩:=lEq I1 r1 ty
  exact ⟨T,id,pa,slot,hty,h1,h2,Calls.callWith_builtin rfl (PySem.evalArgs_none (hm pins s1 σ H1 x [] v [] Q I1 r1 .nil q1))⟩
theorem rOq (pa:PlainAttrs T) (slot:Slot T name id) (hty:typeOf (.builtin id)=pure (.type "method_descriptor")) (hm:MtR X id r) (ho:PE X o to) (ha:PA X (e::es) t)
    (hbase:attributeBase o name X.env (eval o X.env)=eval o X.env:=by rfl)
    (hfew:((backTo cpos (starEach (e::es) X.env)).all (λ x=>!x.1)&&(backToKw cpos (keywordEach [] X.env)).all (λ x=>x.1.isSome)
     &&decide ((e::es).length+([]:List Keyword).length+(if ([]:List Keyword).isEmpty then 0 else 1) < 30))=true:=by rfl)
    (hline:(apos.endLine==cpos.line)=true:=by rfl) (hs:starEach (e::es) X.env=(false,eval e X.env)::starEach es X.env:=by rfl) (hplain:(backTo cpos (starEach es X.env)).any (·.1)=false:=by rfl) :
    PE X (.Call (.Attribute o name apos) (e::es) [] cpos) (tBM X.K T r to t):=by
  intro pins s σ H Q I h
  refine wpAny_Call_method_late hbase hfew hline rfl (thn (ho pins s σ H _ I h) λ v s1 ⟨x,H1,I1,r1,ty,q1⟩=>?_)
  obtain ⟨h1,h2⟩:=lEq I1 r1 ty
  refine ⟨T,id,pa,slot,hty,h1,h2,?_⟩
  have hA:=ha cpos pins s1 σ H1 _ I1 q1
  rw [hs] at hA ⊢
  refine Calls.callWith_builtin (by show (false||(backTo cpos (starEach es X.env)).any (·.1))=false;rw [hplain]<;>rfl) (Calls.evalArgs_plain ?_)
  exact thn hA λ us s2 ⟨vs,H2,I2,r2,q2⟩=>hm pins s2 σ H2 x vs v us Q I2 r1 r2 q2
end
def MtM (X:Cx) (id:String) (r:V->List V->Hp->VK->Prop):Prop:=
  ∀ (pins:List (Addr × Obj)) (s:Shared) (σ:St) (H:Hp) (x:V) (xs:List V) (v:Value) (us:List Value) (Q:VK),Inv X pins σ H s->RelV x v->Vals xs us->r x xs H Q →
    wpAny (model X.prog X.w) X.A (call (.builtin id) (v::us)) (EP X pins σ Q) X.xe s
theorem Vals.one:∀ {x:V} {us:List Value},Vals [x] us->∃ u,us=[u]/\RelV x u
  | _,_,.cons r .nil=>⟨_,rfl,r⟩
theorem Vals.two:∀ {x y:V} {us:List Value},Vals [x,y] us->∃ u v,us=[u,v]/\RelV x u/\RelV y v
  | _,_,_,.cons r (.cons q .nil)=>⟨_,_,rfl,r,q⟩
theorem Vals.zero:∀ {us:List Value},Vals [] us->us=[]
  | _,.nil=>rfl
theorem Vals.dropLast {xs:List V} {us:List Value} (h:Vals xs us):Vals xs.dropLast us.dropLast:=by
  induction h with
  | nil=>exact .nil
  | cons r t ih=>
    cases t with
    | nil=>exact .nil
    | cons q t'=>exact .cons r ih
theorem Vals.reverse {xs:List V} {us:List Value} (h:Vals xs us):Vals xs.reverse us.reverse:=by
  induction h with
  | nil=>exact .nil
  | cons r t ih=>rw [List.reverse_cons,List.reverse_cons];exact Vals.append ih (.cons r .nil)
theorem hDq {α:Type} (l:List α):l.eraseIdx (l.length - 1)=l.dropLast:=by
  induction l with
  | nil=>rfl
  | cons a r ih=>
    cases r with
    | nil=>rfl
    | cons b r=>
      have e:(a::b::r).length - 1=((b::r).length - 1)+1:=by
        have h1:(a::b::r).length=r.length+2:=rfl
        have h2:(b::r).length=r.length+1:=rfl
        omega
      rw [e,List.eraseIdx_cons_succ,ih]
      all_goals rfl
section
variable {X:Cx} {pins:List (Addr × Obj)} {σ:St} {H:Hp} {s:Shared} {l b:Addr} {xs ys zs:List V}
theorem Inv.lset {its its':List Value} {n:Nat} {f:Array Value->Array Value} {t':Nat} (I:Inv X pins σ H s) (hH:H l=some (.lst xs))
    (e:s.heap.get? l=some { cls:=.type "list", data:=.seq its.toArray n }) (hf:f its.toArray=its'.toArray) (hv:Vals ys its') (hz:ys.length<=sizeLine) :
    Inv X pins σ (upd H l (.lst ys)) { s with heap:=s.heap.update l (Obj.mapSeq f),toks:=t' }:=by
  have q:=PySem.IsL.update e f
  rw [hf] at q
  refine I.write (x:=l) (e:=l) (by rw [hH];exact trivial) (.inl rfl) (λ b' u hb hu=>(Heap.get?_update_other s.heap (Obj.mapSeq f) (Ne.symm hb)).trans hu) ⟨_,q⟩ ?_
  exact ⟨hz,its',_,hv,q⟩
theorem Inv.lnew {its:List Value} {t':Nat} (I:Inv X pins σ H s) (hv:Vals ys its) (hz:ys.length<=sizeLine) :
    Inv X pins σ (upd H s.heap.objs.size (.lst ys)) { s with heap:=s.heap.push { cls:=.type "list", data:=.seq its.toArray },toks:=t' }:=
  I.laid (λ _ _ q=>Heap.get?_push_of_some _ q) (Nat.le_refl _) ⟨hz,its,0,hv,Heap.get?_push_size _ rfl⟩
theorem Inv.fresh (I:Inv X pins σ H s):H s.heap.objs.size=none:=I.hok.fresh (Nat.le_refl _)
theorem Inv.lstM (I:Inv X pins σ H s) (hH:H l=some (.lst xs)):xs.length<=sizeLine/\∃ (its:List Value) (n:Nat),Vals xs its/\xs.length=its.length/\s.heap.get? l=some { cls:=.type "list", data:=.seq its.toArray n }:=by
  obtain ⟨z,its,n,r,e⟩:=I.hok l _ hH
  exact ⟨z,its,n,r,r.length,e⟩
theorem gRq {n:Nat} (h:n<=sizeLine):Builtin.List.listTooLong n=false:=by
  unfold Builtin.List.listTooLong
  exact decide_eq_false (by omega)
end
section
variable {X:Cx}
def m9q:V->List V->Hp->VK->Prop:=λ x vs H Q=>∃ l xs y,x=.ref l/\vs=[y]/\H l=some (.lst xs)/\xs.length < sizeLine/\Q .non (upd H l (.lst (xs++[y])))
theorem cQq:MtM X "list.append" m9q:=by
  intro pins s σ H x vs v us Q I rx rv h
  obtain ⟨l,xs,y,rfl,rfl,hH,hz,q⟩:=h
  cases rx
  obtain ⟨u,rfl,ru⟩:=rv.one
  obtain ⟨z,its,n,r,hl,e⟩:=I.lstM hH
  refine call_meets F.slot_list_append ⟨_,e,rfl⟩ F.entry_list_append (F.args_list_append_2 _ _) (PySem.list_append l its.toArray n u (by rw [List.size_toArray];omega)) ⟨e,?_⟩
  refine ⟨.non,_,I.lset (its':=its++[u]) hH e (by simp) (r.append (.cons ru .nil)) ?_,rfl,q⟩
  rw [List.length_append,List.length_singleton]
  omega
def lSq:V->List V->Hp->VK->Prop:=λ x vs H Q=>∃ l b xs zs,x=.ref l/\vs=[.ref b]/\H l=some (.lst xs)/\H b=some (.lst zs)/\xs.length+zs.length<=sizeLine/\Q .non (upd H l (.lst (xs++zs)))
theorem iOq:MtM X "list.extend" lSq:=by
  intro pins s σ H x vs v us Q I rx rv h
  obtain ⟨l,b,xs,zs,rfl,rfl,hH,hB,hz,q⟩:=h
  cases rx
  obtain ⟨u,rfl,ru⟩:=rv.one
  cases ru
  obtain ⟨z,its,n,r,hl,e⟩:=I.lstM hH
  obtain ⟨z2,its2,n2,r2,hl2,e2⟩:=I.lstM hB
  have hsz:its.toArray.size+its2.toArray.size<=sizeLine:=by rw [List.size_toArray,List.size_toArray];omega
  have hlong:¬ (!its.toArray.isEmpty&&Builtin.List.listTooLong (its.toArray.size+its2.toArray.size))=true:=by
    rw [gRq hsz,Bool.and_false]
    exact Bool.false_ne_true
  refine call_meets F.slot_list_extend ⟨_,e,rfl⟩ F.entry_list_extend (F.args_list_extend_2 _ _)
    (AutoSeq1.list_extend_list_list_0 l its.toArray n b its2.toArray n2 hlong (by rw [List.size_toArray];omega) (by omega)) ⟨e,e2,?_⟩
  refine ⟨.non,_,I.lset (its':=its++its2) hH e (by simp) (r.append r2) ?_,rfl,q⟩
  rw [List.length_append]
  omega
def uXq:V->List V->Hp->VK->Prop:=λ x vs H Q=>∃ l xs y,x=.ref l/\vs=[]/\H l=some (.lst xs)/\xs[xs.length - 1]?=some y/\Q y (upd H l (.lst xs.dropLast))
theorem q2q:MtM X "list.pop" uXq:=by
  intro pins s σ H x vs v us Q I rx rv h
  obtain ⟨l,xs,y,rfl,rfl,hH,hy,q⟩:=h
  cases rx
  have hus:=rv.zero
  subst hus
  obtain ⟨z,its,n,r,hl,e⟩:=I.lstM hH
  obtain ⟨u,hu,ru⟩:=r.get hy
  have hy':its.toArray[its.toArray.size - 1]?=some u:=by
    show its.toArray[its.length - 1]?=some u
    rw [<- Array.getElem?_toList,<- hl]
    exact hu
  refine call_meets F.slot_list_pop ⟨_,e,rfl⟩ F.entry_list_pop (F.args_list_pop_1 _) (MeetsSeq.list_pop_last l its.toArray n u hy' (by rw [List.size_toArray];omega)) ⟨e,?_⟩
  refine ⟨y,_,I.lset (its':=its.dropLast) hH e ?_ r.dropLast ?_,ru,q⟩
  . show its.toArray.eraseIdxIfInBounds (its.toArray.size - 1)=its.dropLast.toArray
    rw [List.size_toArray,List.eraseIdxIfInBounds_toArray,hDq]
  . rw [List.length_dropLast]
    omega
def vDq:R2:=λ x y H Q=>∃ l b xs zs,x=.ref l/\y=.ref b/\H l=some (.lst xs)/\H b=some (.lst zs)/\xs.length+zs.length<=sizeLine/\∀ p,H p=none->Q (.ref p) (upd H p (.lst (xs++zs)))
theorem rCq:OpR X (binaryOp .Add) vDq:=by
  intro pins s σ H x y v u Q I rx ry h
  obtain ⟨l,b,xs,zs,rfl,rfl,hH,hB,hz,q⟩:=h
  cases rx
  cases ry
  obtain ⟨z,its,n,r,hl,e⟩:=I.lstM hH
  obtain ⟨z2,its2,n2,r2,hl2,e2⟩:=I.lstM hB
  refine PySem.P.add_list e e2 ?_ (by rw [List.size_toArray,List.size_toArray];omega)
  have ea:its.toArray++its2.toArray=(its++its2).toArray:=by simp
  rw [ea]
  exact ⟨.ref _,_,I.lnew (t':=s.toks) (r.append r2) (by rw [List.length_append];omega),rfl,q _ I.fresh⟩
end
section
variable {prog:Program} {w:World} {A:Around} {E:Value->Shared->Prop} {s:Shared}
end
section
variable {X:Cx}
end
end L2
namespace Att
open PySem PySem.W PySem.Calls PyProof.Rows
theorem d4q {P:Params} {h:Heap}:∀ (ns:List Int) (vs:List Value),WellAll P h vs (ns.map WData.int)->IntsAre vs ns:=by
  intro ns
  induction ns with
  | nil=>
    intro vs w
    rw [List.map_nil] at w
    cases w
    exact .nil
  | cons n ns ih=>
    intro vs w
    rw [List.map_cons] at w
    cases w with
    | cons a b=>
      cases a
      exact .cons _ _ (ih _ b)
theorem iHq {l:OpenLaw} {n:Nat} (hn:l.most=some n) {P:Params} {h:Heap} {args:List WData} {vals:List Value}
    (hpre:l.row.toRowW.claim.pre args=true) (hwl:WellAll P h vals args) :
    ∃ a vs ns,vals=[Value.ref a]/\args=[WData.list (ns.map WData.int)]/\h.get? a=some { cls:=.type "list", data:=.seq vs.toArray }/\IntsAre vs ns/\ns.length<=n:=by
  have hsh:WShape.hasAll [] args [.list .int]=true:=(pre_splitW hpre).1
  have hc:l.pre.holds [] { args:=args }=true:=(pre_splitW hpre).2
  obtain ⟨d,r,rfl,h1,h2⟩:=hasAllW_cons hsh
  obtain rfl:=hasAllW_nil h2
  obtain ⟨xs,rfl,h3⟩:=hasW_list h1
  obtain ⟨ns,rfl⟩:=items_int h3
  have hlen:ns.length<=n:=by
    unfold OpenLaw.pre at hc
    have h4:(WTm.not (.lt (.lit (.int (n:Int))) (.len (.arg 0)))).holds [] { args:=[.list (ns.map .int)] }=true:=by
      have h4:=(holds_andW hc).1
      rw [hn] at h4
      exact h4
    have h5:=condW_of h4 (w_not (w_lt w_lit (w_len_list (w_arg rfl))))
    rw [List.length_map] at h5
    refine Nat.le_of_not_lt λ q=>?_
    have q':(n:Int) < ((ns.length:Nat):Int):=by omega
    first
      | (rw [decide_eq_true q'] at h5;exact absurd h5 (by decide))
      | (simp at h5;omega)
  cases hwl with
  | cons w1 w2=>
    cases w2
    cases w1 with
    | list ho hall=>exact ⟨_,_,ns,rfl,rfl,ho,d4q ns _ hall,hlen⟩
theorem iIq (l:OpenLaw) (args:List WData):l.row.toRowW.claim.post args (.bool true) args=true:=
  postW_of (r:=l.row.toRowW) (X:=(true==true))
    (show WShape.has [] (.bool true) .bool=true by first | rfl | decide | simp [WShape.has,WShape.arms,WShape.armsAll])
    (show (WTm.eq .res (.lit (.bool true))).value [] { args:=args,res:=some (.bool true),after:=args }=some (.bool (true==true)) from w_eq_bool (w_res rfl) w_lit) rfl
theorem attach_call {l:OpenLaw} {n:Nat} {q:Program} {loose:List Str} {XP:(Str->Option Value)->Heap->Prop} {YP:World->Heap->Prop} {d:DefRec}
    (hn:l.most=some n) (hdf:d.params.defaults=[])
    (call:∀ (w:World) (s₀ s₁:Shared) (mg mb:Str->Option Value) (fa:Addr) (o:Obj) (pm cd doc:Value) (a:Addr) (vs:List Value) (ns:List Int),
      Ground q loose [] XP w s₀ mg mb s₁.heap->YP w s₁.heap →
      s₁.heap.get? fa=some o->o.data=.func (docDef d.name d.params d.body d.scope pm cd doc)->s₁.heap.CodeRec cd d.name->mg d.name=some (.ref fa) →
      s₁.heap.get? a=some { cls:=.type "list", data:=.seq vs.toArray }->IntsAre vs ns->ns.length<=n->s₁.gens=#[] →
      codeAny (model l.prog w) callerA (.call (.ref fa) ⟨[.ref a],[]⟩) (λ r s'=>r=.ok (.ret (.bool true))/\OldK s₁.heap s'.heap/\s'.os=s₁.os/\AllBare s'.gens) s₁) :
    WalkO q loose XP YP l.row.toRowW d [] (λ f vs=>PySem.call f vs):=by
  intro w s₀ s₁ mg mb G Y fa o pm cd doc dV kV ho hd hcd hD hmg hg args vals as hpre hlay hrd hwl hlo
  obtain rfl:dV=.none:=Dflts.none hD hdf
  obtain rfl:kV=.none:=Dflts.noKw hD
  obtain ⟨a,vs,ns,rfl,rfl,hobj,hints,hlen⟩:=iHq hn hpre hwl
  refine enter_call (codeAny_mono (call w s₀ s₁ mg mb fa o pm cd doc a vs ns G Y ho (fd_plain hd) hcd hmg hobj hints hlen hg) λ r s' hq=>?_)
  obtain ⟨rfl,h2,h3,h4⟩:=hq
  exact ⟨.inl ⟨.bool true,.bool true,[],rfl,λ _=>rfl,.bool true,iIq l _,λ _=>⟨List.Pairwise.nil,λ _ hm=>(nomatch hm)⟩⟩,h2,h3,h4⟩
section
variable {prog:Program} {w:World} {A:Around} {E:Value->Shared->Prop} {s:Shared} {K:Frag}
end
end Att
namespace L2
open PySem PySem.Spec PyProof.Rows
theorem f8q:∀ {vs:List Value} {ns:List Int},IntsAre vs ns->Vals (ns.map V.int) vs
  | _,_,.nil=>.nil
  | _,_,.cons n t h=>.cons ⟨t,rfl⟩ (f8q h)
def rIq (H:Hp):Prop:=∀ b,H b=none\/∃ o xs,H b=some (.frz o (.lst xs))
theorem k9q {P:Program} {w:World} {K:PySem.W.Frag} {mg mb:Str->Option Value} {CX:CXT} {k:Nat} {fa a:Addr} {fd:FuncData} {x:Str} {sp:Sp} {s₁:Shared} {vs:List Value} {ns:List Int}
    (KX:K.In s₁.heap) (hns:s₁.heap.Ns mainGlobals mg) (hb:s₁.heap.Ns builtinsNs mb) (hbb:∀ x:Str,x≠"__name__"->mb x=bootBuiltins x) (hlim:s₁.heap.NoLimit) (hg:s₁.gens=#[])
    (ha:s₁.heap.get? a=some { cls:=.type "list", data:=.seq vs.toArray }) (hi:IntsAre vs ns) (hl:ns.length<=sizeLine) (hr:Room k callerA)
    (F:∀ base:Heap,K.In base->base.Ns mainGlobals mg->FnOk P w K mg base CX k fa fd [x] sp) (hbind:∀ (s:Shared) (u:Value),BindsTo s fd ⟨[u],[]⟩ [(x,u)])
    (hsp:∀ H:Hp,rIq H->SqL K H a (ns.map V.int)->sp [.ref a] H (λ v _=>v=.bl true) λ _ _ _=>False)
    (hCX:∀ H e s',CX [] H s₁ (λ _ _ _=>False) e s'->False) :
    codeAny (model P w) callerA (.call (.ref fa) ⟨[.ref a],[]⟩) (λ r s'=>r=.ok (.ret (.bool true))/\OldK s₁.heap s'.heap/\s'.os=s₁.os/\AllBare s'.gens) s₁:=by
  have rv:=f8q hi
  have lenV:=hi.length
  have core:∀ H:Hp,rIq H->SqL K H a (ns.map V.int)->HOk P w H s₁.heap->(∀ b,H b≠none->b=a)->(H a≠none->K.lookup a=none) →
      codeAny (model P w) callerA (.call (.ref fa) ⟨[.ref a],[]⟩) (λ r s'=>r=.ok (.ret (.bool true))/\OldK s₁.heap s'.heap/\s'.os=s₁.os/\AllBare s'.gens) s₁:=by
    intro H hO hS hok hA hK
    have base_of:∀ {b:Addr} {o:Obj},s₁.heap.get? b=some o->H b=none->(jPq s₁.heap H).get? b=some o:=λ e n=>kAq e n
    have noA:∀ {b:Addr} {o:Obj} {es:Array DictEntry} {ep:Nat},s₁.heap.get? b=some o->o.data=.dict es ep->H b=none:=λ{b o es ep} e d=>by
      cases q:H b with
      | none=>rfl
      | some u=>
        have e':b=a:=hA b (by rw [q];simp)
        subst e'
        rw [ha] at e;cases e
        have d':Data.seq vs.toArray _=Data.dict es ep:=d
        cases d'
    have nsK:∀ {b:Addr} {m:Str->Option Value},s₁.heap.Ns b m->(jPq s₁.heap H).Ns b m:=λ{b m} ⟨o,es,ep,e,d,r⟩=>⟨o,es,ep,base_of e (noA e d),d,r⟩
    have hKb:K.In (jPq s₁.heap H):=λ b o e=>base_of (KX b o e) (by
      cases q:H b with
      | none=>rfl
      | some u=>
        have e':b=a:=hA b (by rw [q];simp)
        subst e'
        rw [hK (by rw [q];simp)] at e;cases e)
    have hM:Mod K mg (jPq s₁.heap H):=⟨hKb,nsK hns,⟨mb,nsK hb,hbb⟩,let ⟨mc,h1,h2⟩:=hlim;⟨mc,nsK h1,h2⟩⟩
    have e0:Env0 P w K mg (jPq s₁.heap H) callerA [] s₁ H:=⟨rfl,hM,λ b o e=>lVq e,Nat.le_of_eq (iCq _ _),trivial,λ b hb=>absurd (show b∈([]:List Addr) from hb) (by simp),hok,.of_eq hg⟩
    refine codeAny_mono ((F _ hKb (nsK hns)).run callerA [] s₁ H ⟨[.ref a],[]⟩ [.ref a] [.ref a] _ _ hr e0 (hbind s₁ (.ref a)) (.cons rfl .nil) (hsp H hO hS)) λ r s' h=>?_
    cases r with
    | error e=>exact (hCX H e s' h).elim
    | ok fl=>
      cases fl with
      | next=>exact False.elim h
      | brk=>exact False.elim h
      | cont=>exact False.elim h
      | ret u=>
        obtain ⟨v,H',os,bare,un,hok',r',q⟩:=h
        have q':v=.bl true:=q
        subst q'
        obtain rfl:u=Value.bool true:=r'
        refine ⟨rfl,OldK.of_keep λ b o e=>?_,os,bare⟩
        cases q:H b with
        | none=>exact un.keep b o e q (by intro z;exact absurd (show b∈([]:List Addr) from z) (by simp)) (by simp)
        | some u=>
          rcases hO b with z | ⟨ob,xs,z⟩
          . rw [q] at z;cases z
          . have z2:=un.frzs b ob _ z
            obtain ⟨e1,_⟩:=hok b _ z
            obtain ⟨e2,_⟩:=hok' b _ z2
            rw [e] at e1;cases e1
            exact e2
  cases hk:K.lookup a with
  | some o=>
    have e:=KX a o hk
    rw [ha] at e
    cases e
    refine core (λ _=>none) (λ _=>.inl rfl) (.inr ⟨_,vs.toArray,_,hk,rfl,rfl,rfl,by rw [List.size_toArray,lenV];exact hl,by simpa using rv⟩) (λ b u z=>by have z':(none:Option HO)=some u:=z;cases z') (λ b z=>absurd rfl z) λ z=>absurd rfl z
  | none=>
    refine core (λ b=>if b=a then some (.frz { cls:=.type "list", data:=.seq vs.toArray } (.lst (ns.map V.int))) else none) (λ b=>?_) (.inl (.inr ⟨{ cls:=.type "list", data:=.seq vs.toArray },if_pos rfl⟩)) (λ b u z=>?_) (λ b z=>?_) λ _=>hk
    . by_cases hb:b=a
      . exact .inr ⟨_,_,if_pos hb⟩
      . exact .inl (if_neg hb)
    . by_cases hb:b=a
      . have z':=(if_pos hb).symm.trans z
        cases z'
        subst hb
        exact ⟨ha,by rw [List.length_map];exact hl,vs,_,rv,ha⟩
      . have z':=(if_neg hb).symm.trans z
        cases z'
    . by_cases hb:b=a
      . exact hb
      . exact absurd (if_neg hb) z
theorem lYq {l:PySem.W.OpenLaw} {n k:Nat} {q:Program} {loose:List Str} {XP:(Str->Option Value)->Heap->Prop} {YP:World->Heap->Prop} {d:DefRec} {K:Params->PySem.W.Frag} {CX:World->CXT} {sp:World->Sp} {x:Str}
    (hn:l.most=some n) (hn2:n<=sizeLine) (hdf:d.params.defaults=[]) (hr:Room k callerA)
    (hY:∀ (w:World) (h:Heap),YP w h->(K w.params).In h)
    (F:∀ (w:World) (mg:Str->Option Value) (fa:Addr) (h:Heap),(K w.params).In h->h.Ns mainGlobals mg->mg d.name=some (.ref fa) →
      ∃ fd:FuncData,(∀ (s:Shared) (u:Value),BindsTo s fd ⟨[u],[]⟩ [(x,u)]) ∧
        ∀ base:Heap,(K w.params).In base->base.Ns mainGlobals mg->FnOk l.prog w (K w.params) mg base (CX w) k fa fd [x] (sp w))
    (hsp:∀ (w:World) (H:Hp) (a:Addr) (ns:List Int),ns.length<=n->rIq H->SqL (K w.params) H a (ns.map V.int)->sp w [.ref a] H (λ v _=>v=.bl true) λ _ _ _=>False)
    (hCX:∀ (w:World) (H:Hp) (s:Shared) (e:Value) (s':Shared),CX w [] H s (λ _ _ _=>False) e s'->False) :
    PySem.W.WalkO q loose XP YP l.row.toRowW d [] (λ f vs=>PySem.call f vs):=by
  refine Att.attach_call hn hdf λ w s₀ s₁ mg mb fa o pm cd doc a vs ns G Y ho hd hcd hmg hobj hints hlen hg=>?_
  have KX:=hY w _ Y
  obtain ⟨fd,hb,hF⟩:=F w mg fa _ KX G.T.g hmg
  exact k9q KX G.T.g G.T.b G.T.builtins G.T.nolimit hg hobj hints (Nat.le_trans hlen hn2) hr hF hb (λ H hO hS=>hsp w H a ns hlen hO hS) λ H e s'=>hCX w H s₁ e s'
def bDq (s:Stmt):Arguments:=match s with
  | .FunctionDef _ a _ _ _ _ _ _ _ _=>a
  | _=>{ posonlyargs:=[],args:=[],vararg:=none,kwonlyargs:=[],kw_defaults:=[],kwarg:=none,defaults:=[] }
def b1q (s:Stmt):List Stmt:=match s with
  | .FunctionDef _ _ b _ _ _ _ _ _ _=>b
  | _=>[]
def a6q (s:Stmt):Scope:=match s with
  | .FunctionDef _ _ _ _ _ _ sc _ _ _=>sc
  | _=>{ kind:=.function,names:=[],isGenerator:=false,isCoroutine:=false }
abbrev CX0:CXT:=λ _ _ _ _ _ _=>False
abbrev E0:XK:=λ _ _ _=>False
theorem r0q {X:Cx}:hZq CX0 X E0:=λ _ _ _ _ _ _ _ h=>h.elim
structure Fun (K:PySem.W.Frag) (x qual:Str) (st:Stmt) (f:Addr) (fd:FuncData):Prop where
  ex:∃ (oc:Value) (od:Option Addr) (kV doc pm:Value) (an:Option Addr) (cdv ct:Value) (osl:Array (Option Value)),
    fd=PySem.W.fnOf x qual (bDq st) (b1q st) (a6q st) .none kV doc pm an cdv ct/\K.lookup f=some ⟨oc,od,.func fd,osl⟩/\PySem.W.codeIn K cdv qual=true
  kp:PySem.W.keepIn K (.ref f)=true
section
variable {P:Program} {w:World} {K:PySem.W.Frag} {mg:Str->Option Value} {base:Heap}
theorem Fun.ok {x qual:Str} {st:Stmt} {f:Addr} {fd:FuncData} {N ps:List Str} {k:Nat} {sp:Sp} (F:Fun K x qual st f fd) (S:FnScope N ps (a6q st)) (len:∀ vs H Q E,sp vs H Q E->vs.length=ps.length)
    (hbody:∀ (cdv:Value) (A:Around) (outer:List Env) (s:Shared) (H:Hp) (vs:List V) (Q:VK) (E:XK),Room k (A.deeper (envOfC qual (a6q st) s.heap.objs.size f cdv))->sp vs H Q E →
      ∃ t,PSs (l0q CX0 P w K mg base N qual (a6q st) f cdv A outer s H E).nox (b1q st) t/\t { nx:=λ _ H'=>Q .non H',rt:=Q } (c8q N vs) H):FnOk P w K mg base CX0 (k+1) f fd ps sp:=by
  obtain ⟨oc,od,kV,doc,pm,an,cdv,ct,osl,rfl,lk,hcd⟩:=F.ex
  refine sFq lk hcd S len λ A outer s H vs Q E hr hsp=>?_
  obtain ⟨t,h,q⟩:=hbody cdv A outer s H vs Q E hr hsp
  exact ⟨t,h.nox,q⟩
theorem Fun.binds {x qual:Str} {st:Stmt} {f:Addr} {fd:FuncData} {ps:List Str} (F:Fun K x qual st f fd)
    (h:∀ (kV doc pm:Value) (an:Option Addr) (cdv ct:Value) (us:List Value),us.length=ps.length->bindArgs (PySem.W.fnOf x qual (bDq st) (b1q st) (a6q st) .none kV doc pm an cdv ct) ⟨us,[]⟩=pure (ps.zip us)):Binds K fd ps []:=by
  obtain ⟨oc,od,kV,doc,pm,an,cdv,ct,osl,rfl,lk,hcd⟩:=F.ex
  exact .all (h kV doc pm an cdv ct)
theorem o6q {x qual:Str} {st:Stmt} {f:Addr} {oc:Value} {od an:Option Addr} {osl:Array (Option Value)} {kV doc pm cdv ct:Value} (l:K.lookup f=some ⟨oc,od,.func (PySem.W.fnOf x qual (bDq st) (b1q st) (a6q st) .none kV doc pm an cdv ct),osl⟩)
 (c:PySem.W.codeIn K cdv qual=true) (k:PySem.W.keepIn K (.ref f)=true):Fun K x qual st f (PySem.W.fnOf x qual (bDq st) (b1q st) (a6q st) .none kV doc pm an cdv ct):=⟨⟨oc,od,kV,doc,pm,an,cdv,ct,osl,rfl,l,c⟩,k⟩
end
section
variable {X:Cx}
end
def Same (H H':Hp):Prop:=∀ b o,H b=some o->H' b=some o
theorem Same.refl (H:Hp):Same H H:=λ _ _ h=>h
def bFq (cells:List (Str × Addr)):List (Str × NameKind)->List (Str × Addr)->List (Str × Addr)
  | [],acc=>acc
  | (n,k)::r,acc=>bFq cells r (if k=.free then (n,(cells.lookup n).getD 0)::acc else acc)
theorem e0q {α β:Type} {f:α->β->Sem (ForInStep β)} (g:β->α->β):∀ (l:List α) (c:β),(∀ x∈l,∀ c,f x c=pure (.yield (g c x)))->forIn l c f=pure (l.foldl g c)
  | [],_,_=>rfl
  | x::l,c,h=>by
    rw [List.forIn_cons,h x List.mem_cons_self,pure_bind]
    exact e0q g l _ λ y hy=>h y (List.mem_cons_of_mem _ hy)
theorem dXq (cells:List (Str × Addr)):∀ (names:List (Str × NameKind)) (acc:List (Str × Addr)),
    names.foldl (λ c y=>if y.2=.free then (y.1,(cells.lookup y.1).getD 0)::c else c) acc=bFq cells names acc
  | [],_=>rfl
  | (n,k)::r,acc=>by
    rw [List.foldl_cons,bFq]
    exact dXq cells r _
theorem iYq {scope:Scope} {env:Env} (h:∀ y∈scope.names,y.2=.free->∃ c,env.cells.lookup y.1=some c):closureFor scope env=pure (bFq env.cells scope.names []):=by
  rw [<- dXq]
  simp only [closureFor]
  rw [e0q (λ c y=>if y.2=.free then (y.1,(env.cells.lookup y.1).getD 0)::c else c) scope.names [] λ x hx c=>?_]
  . rfl
  . obtain ⟨n,k⟩:=x
    by_cases hk:k=.free
    . subst hk
      obtain ⟨a,e⟩:=h _ hx rfl
      have e':env.cells.lookup n=some a:=e
      simp [cellOf,e']
    . have hb:(k==NameKind.free)=false:=by simpa using hk
      simp [hb,hk]
theorem gXq {cells:List (Str × Addr)}:∀ (names:List (Str × NameKind)) (acc:List (Str × Addr)),(∀ y∈names,y.2=.free->∃ c,cells.lookup y.1=some c)->(∀ x c,acc.lookup x=some c->cells.lookup x=some c) →
    ∀ x c,(bFq cells names acc).lookup x=some c->cells.lookup x=some c
  | [],_,_,ha=>ha
  | (n,k)::r,acc,h,ha=>by
    rw [bFq]
    refine gXq r _ (λ y hy=>h y (List.mem_cons_of_mem _ hy)) λ x c e=>?_
    by_cases hk:k=.free
    . rw [if_pos hk] at e
      obtain ⟨a,ea⟩:=h (n,k) List.mem_cons_self hk
      have ea':cells.lookup n=some a:=ea
      rw [List.lookup_cons] at e
      cases hx:x==n with
      | true=>
        rw [hx] at e
        have e2:some ((cells.lookup n).getD 0)=some c:=e
        rw [ea'] at e2
        have e3:a=c:=Option.some.inj e2
        rw [eq_of_beq hx,ea',e3]
      | false=>
        rw [hx] at e
        exact ha x c e
    . rw [if_neg hk] at e
      exact ha x c e
theorem fJq {cells:List (Str × Addr)} {x:Str}:∀ (names:List (Str × NameKind)) (acc:List (Str × Addr)),(acc.lookup x).isSome=true->((bFq cells names acc).lookup x).isSome=true
  | [],_,h=>h
  | (n,k)::r,acc,h=>by
    rw [bFq]
    refine fJq r _ ?_
    by_cases hk:k=.free
    . rw [if_pos hk,List.lookup_cons]
      cases hx:x==n with
      | true=>rfl
      | false=>exact h
    . rw [if_neg hk];exact h
theorem cOq {cells:List (Str × Addr)} {x:Str}:∀ (names:List (Str × NameKind)) (acc:List (Str × Addr)),(x,NameKind.free)∈names->((bFq cells names acc).lookup x).isSome=true
  | [],_,h=>nomatch h
  | (n,k)::r,acc,h=>by
    rw [bFq]
    rcases List.mem_cons.mp h with e | h
    . cases e
      refine fJq r _ ?_
      rw [if_pos rfl,List.lookup_cons,beq_self_eq_true];rfl
    . exact cOq r _ h
theorem e3q {g:Str->NameKind->NameKind} {x:Str}:∀ names:List (Str × NameKind),(names.map λ y=>(y.1,g y.1 y.2)).lookup x=(names.lookup x).map (g x)
  | []=>rfl
  | (n,k)::r=>by
    rw [List.map_cons,List.lookup_cons,List.lookup_cons]
    cases hx:x==n with
    | true=>
      have e:=eq_of_beq hx
      subst e;rfl
    | false=>exact e3q r
theorem eIq (scope:Scope) (env:Env):(relabel scope env).names=scope.names.map λ y=>(y.1,if (y.2==.free&&env.scope.kind==.function&&env.kindOf y.1==some .cell)=true then NameKind.cell else y.2):=by
  unfold relabel
  refine List.map_congr_left λ y _=>?_
  obtain ⟨n,k⟩:=y
  show (if (k==.free&&env.scope.kind==.function&&env.kindOf n==some .cell)=true then (n,NameKind.cell) else (n,k))=_
  split<;>simp_all
theorem cFq (scope:Scope) (env:Env) (x:Str):(relabel scope env).names.lookup x=(scope.names.lookup x).map λ k=>if (k==.free&&env.scope.kind==.function&&env.kindOf x==some .cell)=true then NameKind.cell else k:=by
  rw [eIq]
  exact e3q (g:=λ n k=>if (k==.free&&env.scope.kind==.function&&env.kindOf n==some .cell)=true then NameKind.cell else k) scope.names
def aNq (X:Cx) (scope:Scope) (N':List Str) (C:Addr) (ex:List Addr) (s:Shared) (H:Hp):Cx:=
  { X with N:=N',s₀:=s,H₀:=H,env:=compEnvC scope (bFq X.env.cells scope.names []) C X.env,outer:=X.stack,stack:=X.stack,ex:=ex,fn:=λ _=>false,pn:=[],xe:=λ _ _=>False }
def bYq (nt:Nat) (cap:List Nat) (σ:St):St:=List.replicate nt none++cap.map λ i=>(σ[i]?).join
structure CompOk (X:Cx) (scope:Scope) (N':List Str) (nt:Nat) (cap:List Nat):Prop where
  kind:scope.kind=.function
  nocell:∀ y∈scope.names,y.2≠.cell
  locs:∀ y∈scope.names,y.2=.local->scope.names.lookup y.1=some .local
  frees:∀ y∈scope.names,y.2=.free->X.env.scope.names.lookup y.1=some .cell\/X.env.scope.names.lookup y.1=some .free
  len:N'.length=nt+cap.length
  caps:∀ (j i:Nat) (x:Str),cap[j]?=some i->N'[nt+j]?=some x->X.N[i]?=some x/\scope.names.lookup x=some .free
section
variable {X:Cx} {scope:Scope} {N':List Str} {nt:Nat} {cap:List Nat} {pins:List (Addr × Obj)} {σ:St} {H:Hp} {s:Shared}
theorem CompOk.has (c:CompOk X scope N' nt cap) (ok:X.Ok):∀ y∈scope.names,y.2=.free->∃ a,X.env.cells.lookup y.1=some a:=λ y hy hk=>ok.has y.1 (c.frees y hy hk)
theorem CompOk.cells (c:CompOk X scope N' nt cap) (ok:X.Ok) {x:Str} {a:Addr} (e:(bFq X.env.cells scope.names []).lookup x=some a):X.env.cells.lookup x=some a:=
  gXq scope.names [] (c.has ok) (λ _ _ z=>by simp at z) x a e
theorem CompOk.free_of (c:CompOk X scope N' nt cap) {x:Str} (h:(relabel scope X.env).names.lookup x=some .cell\/(relabel scope X.env).names.lookup x=some .free):(x,NameKind.free)∈scope.names:=by
  rw [cFq] at h
  cases q:scope.names.lookup x with
  | none=>rw [q] at h;simp at h
  | some k=>
    have hm:=PySem.mem_of_lookup q
    have nc:k≠.cell:=c.nocell _ hm
    rw [q] at h
    by_cases hk:k=.free
    . subst hk;exact hm
    . have hb:(k==NameKind.free)=false:=by simpa using hk
      simp only [Option.map_some,hb,Bool.false_and,Bool.false_eq_true,if_false,Option.some.injEq] at h
      rcases h with h | h
      . exact absurd h nc
      . exact absurd h hk
theorem Inv.comp (I:Inv X pins σ H s) (c:CompOk X scope N' nt cap) {fp:List Addr} (hf:∀ b∈fp,fYq X pins H b) (hfs:∀ b∈fp,b < s.heap.objs.size) {h':Heap} {m:Str->Option Value} {t':Nat}
    (hk:∀ b o,s.heap.get? b=some o->h'.get? b=some o) (hn:h'.Ns s.heap.objs.size m) :
    Inv (aNq X scope N' s.heap.objs.size fp s H) [] (bYq nt cap σ) H { s with heap:=h',toks:=t' }:=by
  have cl:=λ{x:Str} {a:Addr} (e:(bFq X.env.cells scope.names []).lookup x=some a)=>c.cells I.ok e
  have cellLt:∀ x a,X.env.cells.lookup x=some a->a < s.heap.objs.size:=λ x a e=>by
    obtain ⟨v,q⟩:=I.cell x a e
    exact q.lt
  refine ⟨⟨I.ok.mod,c.kind,I.ok.glob,I.ok.blt,Nat.le_refl _,λ x y a e1 e2=>I.ok.inj x y a (cl e1) (cl e2),λ x hx=>?_,λ x a hx=>absurd hx Bool.false_ne_true,I.ok.hd,I.ok.frames,.inl rfl,λ b hb=>⟨?_,λ x a e=>?_⟩,
      λ b o e=>I.bs b o e,Nat.le_trans I.ok.bsz I.sz,λ b o e hb=>?_,λ b hb hbf=>?_,I.stack,λ b hb=>I.stkFree b hb⟩,
    rfl,I.bare,Un.kept hk,⟨m,hn,λ i x v e1 e2 e3=>?_⟩,λ x a e=>?_,I.hok.fresh (Nat.le_refl _),λ x a e=>I.freeC x a (cl e),λ p hp=>absurd (show p∈([]:List (Addr × Obj)) from hp) (by simp),I.hok.kept hk,?_⟩
  . exact Option.isSome_iff_exists.mp (cOq scope.names [] (c.free_of hx))
  . exact Nat.ne_of_lt (hfs b hb)
  . exact (hf b hb).2.2.2.2.1 x a (cl e)
  . obtain ⟨f0,f1,f2,f3,_⟩:=hf b hb
    rcases f3 with z | z
    . exact I.ok.noex b o e z
    . exact absurd (Nat.lt_of_lt_of_le (Heap.lt_size e) (Nat.le_trans I.ok.bsz z)) (Nat.lt_irrefl _)
  . obtain ⟨f0,f1,f2,_⟩:=hf b hb
    rcases List.mem_cons.mp (I.stkSub b hbf) with z | z
    . exact f1 z
    . exact f2 z
  .
    have e1':N'[i]?=some x:=e1
    have hi:nt<=i:=by
      refine Nat.le_of_not_lt λ q=>?_
      unfold bYq at e2
      rw [List.getElem?_append_left (by simpa using q),List.getElem?_replicate,if_pos q] at e2
      cases e2
    obtain ⟨j,rfl⟩:=Nat.exists_eq_add_of_le hi
    unfold bYq at e2
    rw [List.getElem?_append_right (by simp),List.length_replicate,Nat.add_sub_cancel_left,List.getElem?_map] at e2
    cases q:cap[j]? with
    | none=>rw [q] at e2;cases e2
    | some k=>
      rw [q] at e2
      have e2':(σ[k]?).join=some v:=Option.some.inj e2
      have e4:σ[k]?=some (some v):=by
        cases z:σ[k]? with
        | none=>rw [z] at e2';cases e2'
        | some w'=>rw [z] at e2';exact congrArg some e2'
      obtain ⟨n1,n2⟩:=c.caps j k x q e1'
      have hmem:=PySem.mem_of_lookup n2
      have hkind:=c.frees _ hmem rfl
      obtain ⟨m0,_,hl⟩:=I.loc
      obtain ⟨u,r,lk⟩:=hl k x v n1 e4 (.inr hkind)
      refine ⟨u,r,.inr ⟨?_,?_⟩⟩
      . show (relabel scope X.env).names.lookup x=some .cell\/(relabel scope X.env).names.lookup x=some .free
        rw [cFq,n2]
        by_cases z:((NameKind.free==.free&&X.env.scope.kind==.function&&X.env.kindOf x==some .cell)=true)
        . exact .inl (by rw [Option.map_some,if_pos z])
        . exact .inr (by rw [Option.map_some,if_neg z])
      . rcases lk with ⟨k1,_⟩ | ⟨_,a,e,z⟩
        . have k1':X.env.scope.names.lookup x=some .local:=k1
          rcases hkind with y | y<;>(rw [k1'] at y;cases y)
        . obtain ⟨a',ea⟩:=Option.isSome_iff_exists.mp (cOq (cells:=X.env.cells) scope.names [] hmem)
          have e':=cl ea
          rw [e] at e';cases e'
          obtain ⟨o,ho,hd⟩:=z
          exact ⟨a,ea,o,hk _ _ ho,hd⟩
  . obtain ⟨v,o,ho,hd⟩:=I.cell x a (cl e)
    exact ⟨v,o,hk _ _ ho,hd⟩
  . show (bYq nt cap σ).length=N'.length
    unfold bYq
    rw [List.length_append,List.length_replicate,List.length_map,c.len]
theorem Inv.uncomp {C:Addr} {fp:List Addr} {σ':St} {H':Hp} {s':Shared} (I:Inv X pins σ H s) (hC:C=s.heap.objs.size) (hf:∀ b∈fp,fYq X pins H b) {N':List Str} (J:Inv (aNq X scope N' C fp s H) [] σ' H' s') :
    ∃ m,s'.heap.Ns C m/\∀ h',Heap.SameBut C s'.heap h'->Inv X pins σ H' { s' with heap:=h' }:=by
  subst hC
  obtain ⟨m,hn,_⟩:=J.loc
  refine ⟨m,hn,λ h' hs=>?_⟩
  have ne:∀ b o,s.heap.get? b=some o->b≠s.heap.objs.size:=λ b o e=>Nat.ne_of_lt (Heap.lt_size e)
  have B:=J.base
  refine I.call' (ch:=fp) J.os ⟨λ b o e n hb hx=>?_,λ b o e n hb hx=>?_,B.free,λ b o e hx=>?_,B.tups,B.frzs,B.tbls⟩ (λ b u e=>?_) J.bare λ b hb=>?_
  . exact (hs.2 b (ne b o e)).trans (B.keep b o e n hb hx)
  . obtain ⟨sl,q⟩:=B.slot b o e n hb hx
    exact ⟨sl,(hs.2 b (ne b o e)).trans q⟩
  . obtain ⟨o',q⟩:=B.there b o e hx
    exact ⟨o',(hs.2 b (ne b o e)).trans q⟩
  . have hCn:H' s.heap.objs.size=none:=J.free
    refine (J.hok b u e).stay (λ d w' hd q=>(hs.2 d ?_).trans q) (λ _ q=>q) λ _ _ q=>q
    intro z
    subst z
    rcases hd with z | z
    . rw [<- z,hCn] at e;cases e
    . rw [hCn] at z;cases z
  . obtain ⟨f0,f1,f2,f3,f4,f5⟩:=hf b hb
    exact ⟨f3,f1,f4,f5⟩
end
def j2q (wi:TI) (g:TG) (te:TE) (nt:Nat) (cap:List Nat):TE:=λ σ H Q=>wi σ H λ J H1=>∀ acc,H1 acc=none →
  ∃ W:Nat->Nat->List V->St->Hp->Prop,(∃ m,W 0 m [] (bYq nt cap σ) (upd H1 acc (.lst [])))/\∀ i m ys σ' H',W i m ys σ' H' →
    (J.stop i H'/\Q (.ref acc) H')\/(J.go i H'/\∀ x H2,J.yld i H' x H2->g x σ' H2 λ σ3 H3=>te σ3 H3 λ y H4=>
      H4 acc=some (.lst ys)/\ys.length < sizeLine/\∃ m',m' < m/\W (i+1) m' (ys++[y]) σ3 (upd H4 acc (.lst (ys++[y]))))
section
variable {X:Cx} {scope:Scope} {N':List Str} {nt:Nat} {cap:List Nat} {elt iter tg:Expr} {pos:Pos} {wi:TI} {g:TG} {te:TE}
theorem nRq (hc:X.calm=true) (c:CompOk X scope N' nt cap) (hi:PI X tg iter wi) (hg:∀ C ex s H,PG (aNq X scope N' C ex s H) tg g) (he:∀ C ex s H,PE (aNq X scope N' C ex s H) elt te)
    (hs:∀ x,foldedSetIterable iter X.env x=pure x:=by intro _;rfl):PE X (.ListComp elt [⟨tg,iter,[],0⟩] scope pos) (j2q wi g te nt cap):=by
  intro pins s σ H Q I h
  rw [eval_ListComp]
  refine wpAny_comprehension_free (use:=none) rfl hs (iYq (c.has I.ok)) c.kind c.locs (thn (hi pins s σ H _ I h) λ v s1 h1=>thn h1 λ itv s2 h2=>?_)
  obtain ⟨it,fp,tn,J,H2,rfl,I2,T,st2,f2,R⟩:=h2
  have hD:H2 s2.heap.objs.size=none:=I2.hok.fresh (Nat.le_refl _)
  obtain ⟨W,⟨m0,w0⟩,turn⟩:=R _ hD
  have I3:Inv X pins σ (upd H2 s2.heap.objs.size (.lst [])) { s2 with heap:=s2.heap.push { cls:=.type "list", dict:=none,data:=.seq ([]:List Value).toArray } }:=
    I2.laid (t':=s2.toks) (λ b u e=>Heap.get?_push_of_some _ e) (Nat.le_refl _) ⟨Nat.zero_le _,[],0,.nil,Heap.get?_push_size _ rfl⟩
  have fpLt:∀ b∈fp,b < s2.heap.objs.size:=λ b hb=>by
    obtain ⟨o,e,_⟩:=T.obj _ _ st2 b hb
    exact Heap.lt_size e
  have f3:∀ b∈fp,fYq X pins (upd H2 s2.heap.objs.size (.lst [])) b:=λ b hb=>⟨by rw [aGq (Nat.ne_of_lt (fpLt b hb))];exact (f2 b hb).1,(f2 b hb).2⟩
  have st3:tn 0 (s2.heap.push { cls:=.type "list", dict:=none,data:=.seq ([]:List Value).toArray }):=T.keep _ _ _ st2 λ b _ o e=>Heap.get?_push_of_some _ e
  generalize hh3:s2.heap.push { cls:=.type "list", dict:=none,data:=.seq ([]:List Value).toArray }=h3 at I3 st3
  have sz3:s2.heap.objs.size < h3.objs.size:=by rw [<- hh3,Heap.size_push];exact Nat.lt_succ_self _
  generalize hDD:s2.heap.objs.size=D at I3 f3 hD w0 turn sz3 fpLt
  refine wpAny_newObj_type ?_
  rw [hDD,hh3]
  refine wpAny_newFunctionEnv c.nocell (by intro y hy;simp at hy) (λ h4 hns4 hsb4=>?_) c.kind
  dsimp only at hns4 hsb4 ⊢
  have keep4:∀ b o,h3.get? b=some o->h4.get? b=some o:=λ b o e=>(hsb4.2 b (Nat.ne_of_lt (Heap.lt_size e))).trans (Heap.get?_push_of_some _ e)
  have I4:=I3.comp (t':=s2.toks+([]:List (Str × Value)).length) c f3 (λ b hb=>Nat.lt_trans (fpLt b hb) sz3) keep4 hns4
  have st4:tn 0 h4:=T.keep _ _ _ st3 λ b _ o e=>keep4 b o e
  dsimp only at I4
  have fin:∀ {σ':St} {H':Hp} {s':Shared},Inv (aNq X scope N' h3.objs.size fp { s2 with heap:=h3 } (upd H2 D (.lst []))) [] σ' H' s'->Q (.ref D) H' →
      compPost (model X.prog X.w) X.A X.xe none (EP X pins σ Q) (.ref D) h3.objs.size (.ok .next) s':=λ{σ' H' s'} J' q=>by
    obtain ⟨m,hn,hh⟩:=I3.uncomp rfl f3 J'
    exact ⟨m,hn,λ h' hs'=>⟨.ref D,H',hh h' hs',rfl,q⟩⟩
  have stat:∀ {H':Hp},(∀ b∈fp,H' b=none)->∀ b∈fp,fYq (aNq X scope N' h3.objs.size fp { s2 with heap:=h3 } (upd H2 D (.lst []))) [] H' b:=λ{H'} hn b hb=>by
    refine ⟨hn b hb,Nat.ne_of_lt (Nat.lt_trans (fpLt b hb) sz3),λ z=>?_,.inl hb,λ x a e=>(f3 b hb).2.2.2.2.1 x a (c.cells I.ok e),λ p hp=>absurd (show p∈([]:List (Addr × Obj)) from hp) (by simp)⟩
    rcases List.mem_cons.mp (I.stkSub b z) with y | y
    . exact (f3 b hb).2.1 y
    . exact (f3 b hb).2.2.1 y
  have loop:codeAny (model X.prog X.w) X.A (.compLoop (.ListComp elt [⟨tg,iter,[],0⟩] scope pos) 0 (.ref it) (.ref D) (compEnvC scope (bFq X.env.cells scope.names []) h3.objs.size X.env))
      (compPost (model X.prog X.w) X.A X.xe none (EP X pins σ Q) (.ref D) h3.objs.size) { s2 with heap:=h4,toks:=s2.toks+([]:List (Str × Value)).length }:=by
    refine codeAny_loop rfl (λ n s'=>∃ i ys σ' H',Inv (aNq X scope N' h3.objs.size fp { s2 with heap:=h3 } (upd H2 D (.lst []))) [] σ' H' s'/\tn i s'.heap/\(∀ b∈fp,H' b=none)/\W i n ys σ' H') (λ n s5 hI=>?_) m0 ⟨0,[],_,_,I4,st4,λ b hb=>(f3 b hb).1,w0⟩
    obtain ⟨i,ys,σ5,H5,I5,st5,fr5,w5⟩:=hI
    show wpAny _ X.A ((compTurn (.ListComp elt [⟨tg,iter,[],0⟩] scope pos) 0 (.ref it) (.ref D) (compEnvC scope (bFq X.env.cells scope.names []) h3.objs.size X.env)).onRaise (λ x=>do noteFrame x (compEnvC scope (bFq X.env.cells scope.names []) h3.objs.size X.env);theTreesLotGoes x)) _ _ s5
    refine wpAny_noted ?_
    rw [compTurn_list1]
    rcases turn i n ys σ5 H5 w5 with ⟨stop,qn⟩ | ⟨go,step⟩
    . refine wpAny_bind (wpAny_standAt (wpAny_bind (wpAny_mono (T.done (aNq X scope N' h3.objs.size fp { s2 with heap:=h3 } (upd H2 D (.lst []))) rfl rfl rfl hc i [] s5 σ5 H5 (λ _ _=>False) I5 (stat fr5) st5 stop) (λ r s6 ⟨hr,I6⟩=>?_) λ _ _ z=>z.elim)))
      subst hr
      exact wpAny_pure (fin I6 qn)
    . refine wpAny_bind (wpAny_standAt (wpAny_bind (wpAny_mono (T.item (aNq X scope N' h3.objs.size fp { s2 with heap:=h3 } (upd H2 D (.lst []))) rfl rfl rfl hc i [] s5 σ5 H5 (λ _ _=>False) I5 (stat fr5) st5 go) (λ r s6 ⟨u,hr,h6⟩=>?_) λ _ _ z=>z.elim)))
      subst hr
      refine wpAny_bind (wpAny_mono h6 (λ _ s7 ⟨x,H7,I7,r7,y7,st7,fr7⟩=>?_) λ _ _ z=>z.elim)
      have I7':=I7.pinned (stat fr7) (T.obj _ _ st7)
      refine wpAny_bind (wpAny_mono (hg _ _ _ _ _ s7 σ5 H7 x u _ I7' r7 (step x H7 y7)) (λ _ s8 ⟨σ8,H8,I8,q8⟩=>?_) λ _ _ z=>z.elim)
      refine wpAny_bind (wpAny_bind (wpAny_mono (he _ _ _ _ _ s8 σ8 H8 _ I8 q8) (λ yv s9 ⟨y,H9,I9,r9,e9,z9,m',hm',w9⟩=>?_) λ _ _ z=>z.elim))
      refine wpAny_bind (wpAny_mono (cQq (X:=aNq X scope N' h3.objs.size fp { s2 with heap:=h3 } (upd H2 D (.lst []))) _ s9 σ8 H9 (.ref D) [y] (.ref D) [yv] (λ v H10=>v=.non/\H10=upd H9 D (.lst (ys++[y]))) I9 rfl (.cons r9 .nil) ⟨D,ys,y,rfl,rfl,e9,z9,rfl,rfl⟩)
        (λ _ s10 ⟨v10,H10,I10,_,_,e10⟩=>?_) λ _ _ z=>z.elim)
      subst e10
      refine wpAny_pure (wpAny_pure ⟨rfl,m',hm',i+1,ys++[y],σ8,_,I10.unpinned,?_,λ b hb=>?_,w9⟩)
      . exact T.keep _ _ _ st7 λ b hb o e=>(I10.pin (b,o) (List.mem_append_right _ (List.mem_append_right _ (b6q hb e)))).1
      . obtain ⟨o,e,d⟩:=T.obj _ _ st7 b hb
        exact (I10.pin (b,o) (List.mem_append_right _ (List.mem_append_right _ (b6q hb e)))).2.1
  exact codeAny_compStart_list loop (T.self _ 0 _ _ _ st4 loop)
end
structure Got (P:Program) (w:World) (K:PySem.W.Frag) (mg:Str->Option Value) (base:Heap) (k:Nat) (x:Str) (ps:List Str) (sp:Sp):Prop where
  ex:∃ (f:Addr) (fd:FuncData),FnOk P w K mg base CX0 k f fd ps sp/\mg x=some (.ref f)/\PySem.W.keepIn K (.ref f)=true/\Binds K fd ps []
section
variable {X:Cx} {k j:Nat} {x:Str} {ps:List Str} {sp:Sp} {p pos:Pos} {e:Expr} {es:List Expr} {t:TA}
theorem rVq (G:Got X.prog X.w X.K X.mg X.base k x ps sp) (hr:Room j X.A) (hk:k<=j) (hg:Gl X x) (ha:PA X (e::es) t) (hdb:(x==("__debug__" : Str))=false:=by decide)
    (he:starEach (e::es) X.env=(false,eval e X.env)::starEach es X.env:=by rfl) (hpl:(backTo pos (starEach es X.env)).any (·.1)=false:=by rfl) :
    PE X (.Call (.Name x p) (e::es) [] pos) (kTq sp [] E0 t):=by
  obtain ⟨f,fd,F,hm,kp,b⟩:=G.ex
  exact nEq F (hr.mono hk) hg hm kp b .nil r0q ha hdb he hpl
end
section
variable {X:Cx}
theorem jXq:OpR X (binaryOp .FloorDiv) (rI (λ _ j=>0 < j/\j < 2 ^ 64) λ i j=>.int (i / j)):=opI λ i j t u s E Q hc q=>by
  have h0:j≠0:=by omega
  have h1:j.natAbs.log2 < 9000:=by
    have e1:j.natAbs < 2 ^ 64:=by omega
    exact Nat.lt_trans ((Nat.log2_lt (by omega)).mpr e1) (by decide)
  have e:i.fdiv j=i / j:=Int.fdiv_eq_ediv_of_nonneg i (by omega)
  exact floordiv_int h0 (by rw [e];exact q) (.inl (PyProof.noPylong_of_log2 h1))
theorem mAq (l b:Addr) (items items2:Array Value) (n n2:Nat) (dd2:Option Addr) (sl2:Array (Option Value)) (h0:¬(!items.isEmpty&&Builtin.List.listTooLong (items.size+items2.size))=true) (h1:items.size<=sizeLine) (h2:items.size+items2.size<=sizeLine+1) :
    Meets (Builtin.«list.extend» ⟨[.ref l,.ref b],[]⟩) (λ _ R s=>s.heap.get? l=some { cls:=.type "list", dict:=none,data:=.seq items n,slots:=#[] } ∧
      s.heap.get? b=some { cls:=.type "tuple", dict:=dd2,data:=.seq items2 n2,slots:=sl2 }/\R (.ok (.ret Value.none)) { s with heap:=s.heap.update l (Obj.mapSeq λ x=>x++items2),toks:=s.toks }):=
  .of_wp λ prog w A R s h=>by
    obtain ⟨hp,g,d,tk,os⟩:=s
    obtain ⟨hl,hb,h⟩:=h
    have f1:=AutoSeq1.idx_int
    have f2:=AutoSeq1.sub_tuple_tuple
    have f3:=AutoSeq1.sub_list_list
    have f4:=AutoSeq1.sub_tuple_list
    have f5:=AutoSeq1.sub_list_tuple
    have hz':(items++items2).size<=sizeLine+1:=by rw [Array.size_append];exact h2
    wp_walk using (wpAny_updateSeq hl rfl (hz:=h1) (_hz':=hz')),wpAny_loadPart' hl,wpAny_loadPart' hb
    exact ⟨_,rfl,h⟩
def s7q (K:PySem.W.Frag):V->List V->Hp->VK->Prop:=λ x vs H Q=>∃ l b xs zs,x=.ref l/\vs=[.ref b]/\H l=some (.lst xs)/\SqT K H b zs/\xs.length+zs.length<=sizeLine/\Q .non (upd H l (.lst (xs++zs)))
theorem mZq:MtM X "list.extend" (s7q X.K):=by
  intro pins s σ H x vs v us Q I rx rv h
  obtain ⟨l,b,xs,zs,rfl,rfl,hH,hB,hz,q⟩:=h
  cases rx
  obtain ⟨u,rfl,ru⟩:=rv.one
  cases ru
  obtain ⟨z,its,n,r,hl,e⟩:=I.lstM hH
  obtain ⟨its2,r2,⟨⟨c2,dd2,da2,sl2⟩,e2,hc2,n2,hd2⟩,hz2⟩:=I.tuple hB
  simp only at hc2 hd2
  subst hc2 hd2
  have hl2:=r2.length
  have hsz:its.toArray.size+its2.toArray.size<=sizeLine:=by rw [List.size_toArray,List.size_toArray];omega
  have hlong:¬ (!its.toArray.isEmpty&&Builtin.List.listTooLong (its.toArray.size+its2.toArray.size))=true:=by
    rw [gRq hsz,Bool.and_false]
    exact Bool.false_ne_true
  refine call_meets F.slot_list_extend ⟨_,e,rfl⟩ F.entry_list_extend (F.args_list_extend_2 _ _) (mAq l b its.toArray its2.toArray n n2 dd2 sl2 hlong (by rw [List.size_toArray];omega) (by omega)) ⟨e,e2,?_⟩
  refine ⟨.non,_,I.lset (its':=its++its2) hH e (by simp) (r.append r2) ?_,rfl,q⟩
  rw [List.length_append]
  omega
end
section
variable {X:Cx} {scope:Scope} {N':List Str} {nt:Nat} {cap:List Nat} {elt iter tg:Expr} {pos:Pos} {wi:TI} {g:TG} {te:TE}
end
def aHq:Expr->Bool
  | .Starred ..=>false
  | _=>true
theorem a8q {e:Expr} {es:List Expr} {env:Env} (h:aHq e=true):starEach (e::es) env=(false,eval e env)::starEach es env:=by
  cases e<;>first | rfl | cases h
section
variable {κ:Type} [DecidableEq κ]
end
section
variable {P:Program} {w:World} {H:Hp} {h:Heap} {a:Addr}
end
section
variable {X:Cx} {pins:List (Addr × Obj)} {σ:St} {H:Hp} {s:Shared} {a:Addr} {y v:V} {u r:Value} {o:Option V} {A:Around} {E:Value->Shared->Prop}
end
section
variable {X:Cx} {pins:List (Addr × Obj)} {σ:St} {H:Hp} {s:Shared} {a:Addr} {kvs:List (Key × V)} {k:Key} {u:Value} {A:Around} {E:Value->Shared->Prop}
end
section
variable {X:Cx} {o i e value:Expr} {pos pos' tpos:Pos} {td ty tv:TE}
end
section
variable {X:Cx} {pos:Pos}
end
section
variable {X:Cx} {pins:List (Addr × Obj)} {σ:St} {H:Hp} {s:Shared} {a:Addr} {y d:V} {u r:Value} {o:Option V} {A:Around} {E:Value->Shared->Prop}
end
section
variable {X:Cx} {o e f:Expr} {apos cpos:Pos} {td ty tx:TE}
end
section
variable {X:Cx} {pins:List (Addr × Obj)} {σ:St} {H:Hp} {s:Shared} {a:Addr} {kvs:List (Key × V)} {A:Around} {E:Value->Shared->Prop}
end
section
variable {X:Cx} {pins:List (Addr × Obj)} {σ:St} {H:Hp} {s:Shared} {a:Addr} {y:V} {u:Value} {A:Around} {E:Value->Shared->Prop}
end
section
variable {κ:Type} [DecidableEq κ]
end
section
variable {prog:Program} {w:World} {A:Around} {E:Value->Shared->Prop} {s:Shared}
theorem c0q {t sl:Addr} {items:Array Value} {vl vu:Value} {lo hi:Option Int} {Q:Value->Shared->Prop} (ht:IsTup s.heap t items) (hs:s.heap.IsSliceOf sl vl vu .none) (pl:IsPart vl lo) (pu:IsPart vu hi)
    (hw:HT.sIx items.size 0 lo=0/\HT.sIx items.size items.size hi=items.size) (h:Q (.ref t) s):wpAny (model prog w) A (getItem (.ref t) (.ref sl)) Q E s:=by
  obtain ⟨os,hos,hcs,hds⟩:=id hs
  have hTs:s.TypeIs (.ref sl) "slice":=⟨os,hos,hcs⟩
  unfold getItem
  try with_reducible refine wpAny_holding ?_
  first | refine wpAny_bind (wpAny_pure ?_) | skip
  refine wpAny_bind (wpAny_sequenceKey ht.typeIs (by decide) ?_)
  refine wpAny_bind (wpAny_callSpecial?_slot (name:=Str.ofString "__getitem__") ht.typeIs PyProof.Rows.slot_tuple_getitem (wpAny_call_entry PyProof.Rows.slot_tuple_getitem ht.typeIs entry_tuple_getitem ?_ (args_tuple_getitem _ _)))
  show wpAny _ _ (Builtin.Tuple.tupleItemsOf (.ref t) >>= _) _ _ s
  refine wpAny_bind (tupleItemsOf_ ht ?_)
  refine wpAny_bind (wpAny_typeOf hTs ?_)
  rw [if_pos (by decide)]
  refine wpAny_bind (HT.sliceApplied_gen hs pl pu ?_)
  have hyes:(((HT.sIx items.size 0 lo:Nat):Int)==0&&(1:Int)==1&&(HT.sIx items.size items.size hi - HT.sIx items.size 0 lo)==items.size)=true:=by
    rw [hw.1,hw.2];simp
  show wpAny _ _ (if (((HT.sIx items.size 0 lo:Nat):Int)==0&&(1:Int)==1&&(HT.sIx items.size items.size hi - HT.sIx items.size 0 lo)==items.size)=true then _ else _) _ _ s
  rw [if_pos hyes]
  have ex:∀ {Q':Bool->Shared->Prop},Q' true s->wpAny (model prog w) A.in1 (Builtin.Tuple.tupleIsExact (.ref t)) Q' E s:=λ{Q'} q=>by
    unfold Builtin.Tuple.tupleIsExact
    refine wpAny_bind (wpAny_typeOf ht.typeIs (wpAny_pure ?_))
    have e:(Value.type "tuple"==Value.type "tuple")=true:=beq_self_eq_true _
    rw [e];exact q
  first
    | exact wpAny_bind (ex (wpAny_bind (wpAny_rule (wpAny_pure ⟨_,rfl,wpAny_pure h⟩))))
    | (unfold Builtin.Tuple.tupleIsExact
       refine wpAny_bind (wpAny_bind (wpAny_typeOf ht.typeIs (wpAny_pure ?_)))
       have e:(Value.type "tuple"==Value.type "tuple")=true:=beq_self_eq_true _
       rw [e,if_pos rfl]
       first
         | exact wpAny_bind (wpAny_rule (wpAny_pure ⟨_,rfl,wpAny_pure h⟩))
         | exact wpAny_bind (wpAny_rule (wpAny_bind (wpAny_pure (wpAny_pure ⟨_,rfl,wpAny_pure h⟩))))
         | exact wpAny_bind (wpAny_rule (wpAny_bind (wpAny_bind (wpAny_pure (wpAny_pure ⟨_,rfl,wpAny_pure h⟩))))))
end
section
variable {X:Cx}
def s2q (K:PySem.W.Frag):V->Option Int->Option Int->Hp->VK->Prop:=λ x lo hi H Q=>∃ a xs,x=.ref a/\SqT K H a xs ∧
  ((HT.sIx xs.length 0 lo=0/\HT.sIx xs.length xs.length hi=xs.length)->Q (.ref a) H)/\(¬ (HT.sIx xs.length 0 lo=0/\HT.sIx xs.length xs.length hi=xs.length)->∀ p,H p=none->Q (.ref p) (upd H p (.tup (hXq xs lo hi))))
theorem mTq:SlR X (s2q X.K):=by
  intro pins s σ H x v vl vu lo hi sl Q I rx hs pl pu h
  obtain ⟨a,xs,rfl,hx,q1,q2⟩:=h
  by_cases hw:HT.sIx xs.length 0 lo=0/\HT.sIx xs.length xs.length hi=xs.length
  . cases rx
    obtain ⟨its,r,ht,hz⟩:=I.tuple hx
    have hlen:its.toArray.size=xs.length:=by rw [List.size_toArray];exact r.length.symm
    refine ⟨"tuple", _,PyProof.Rows.slot_tuple_getitem.lookup,ht.typeIs,?_⟩
    exact c0q ht hs pl pu (by rw [hlen];exact hw) ⟨.ref a,H,I,rfl,q1 hw⟩
  . exact pWq pins s σ H _ v vl vu lo hi sl Q I rx hs pl pu ⟨a,xs,rfl,hx,hw,q2 hw⟩
def t1q (K:PySem.W.Frag):R2:=λ x y H Q=>∃ a b xs ys,x=.ref a/\y=.ref b/\SqT K H a xs/\SqT K H b ys/\xs.length+ys.length<=sizeLine ∧
  (xs=[]->Q (.ref b) H)/\(xs≠[]->ys=[]->Q (.ref a) H)/\(xs≠[]->ys≠[]->∀ p,H p=none->Q (.ref p) (upd H p (.tup (xs++ys))))
theorem op_catW:OpR X (binaryOp .Add) (t1q X.K):=by
  intro pins s σ H x y v u Q I rx ry h
  obtain ⟨a,b,xs,ys,rfl,rfl,ha,hb,hz,q0,q1,q2⟩:=h
  by_cases hx:xs=[]
  . cases rx;cases ry
    obtain ⟨its,r,ht,_⟩:=I.tuple ha
    obtain ⟨its2,r2,ht2,_⟩:=I.tuple hb
    subst hx
    cases r
    obtain ⟨⟨cls,dd,data,sl⟩,ho,hc,n,hd⟩:=id ht
    obtain ⟨⟨cls2,dd2,data2,sl2⟩,ho2,hc2,n2,hd2⟩:=id ht2
    simp only at hc hd hc2 hd2
    subst hc hd hc2 hd2
    refine concat_meets ⟨_,ho,rfl⟩ ⟨_,ho2,rfl⟩ noFill_tuple_add seq_tuple_add PySem.F.slot_tuple_add PySem.F.entry_tuple_add (PySem.F.args_tuple_add_2 _ _) (tuple_addW0 a b _ its2.toArray n n2 dd dd2 sl sl2 (by simp)) ⟨ho,ho2,?_⟩
    exact ⟨.ref b,H,I,rfl,q0 rfl⟩
  . exact mIq pins s σ H _ _ v u Q I rx ry ⟨a,b,xs,ys,rfl,rfl,ha,hb,hx,hz,q1 hx,q2 hx⟩
end
section
variable {X:Cx}
def t4q (K:PySem.W.Frag):V->Option Int->Option Int->Hp->VK->Prop:=λ x lo hi H Q=>∃ a xs,x=.ref a/\SqT K H a xs/\∀ t H2,Same H H2->SqT K H2 t (hXq xs lo hi)->Q (.ref t) H2
theorem k6q {xs:List V} {lo hi:Option Int} (h:HT.sIx xs.length 0 lo=0/\HT.sIx xs.length xs.length hi=xs.length):hXq xs lo hi=xs:=by
  unfold hXq
  rw [h.1,h.2,List.drop_zero,Nat.sub_zero,List.take_length]
theorem sl_tupU:SlR X (t4q X.K):=by
  intro pins s σ H x v vl vu lo hi sl Q I rx hs pl pu h
  obtain ⟨a,xs,rfl,hx,q⟩:=h
  refine mTq pins s σ H _ v vl vu lo hi sl Q I rx hs pl pu ⟨a,xs,rfl,hx,λ w=>q a H (Same.refl _) (by rw [k6q w];exact hx),λ _ p hp=>q p _ (λ b u e=>by rw [aGq (aIq e hp)];exact e) (SqT.of aRq)⟩
end
structure JE (X:Cx) (e:Expr) (t:TE):Prop where
  run:PE X e t
structure JT (X:Cx) (e:Expr) (t:TT):Prop where
  run:PT X e t
structure JW (X:Cx) (e:Expr) (t:TT):Prop where
  run:PW X e t
structure JA (X:Cx) (es:List Expr) (t:TA):Prop where
  run:PA X es t
structure JS (X:Cx) (st:Stmt) (t:TS):Prop where
  run:PS X st t
structure JB (X:Cx) (st:List Stmt) (t:TS):Prop where
  run:PSs X st t
structure JG (X:Cx) (e:Expr) (t:TG):Prop where
  run:PG X e t
structure JGs (X:Cx) (es:List Expr) (t:TGs):Prop where
  run:PGs X es t
structure JI (X:Cx) (tg iter:Expr) (wi:TI):Prop where
  run:PI X tg iter wi
structure JO (X:Cx) (e:Option Expr) (t:TO):Prop where
  run:PO X e t
structure JOp (X:Cx) (f:Value->Value->Sem Value) (r:R2):Prop where
  run:OpR X f r
structure JUn (X:Cx) (f:Value->Sem Value) (r:V->Hp->VK->Prop):Prop where
  run:UnR X f r
structure JCall (X:Cx) (f:Value) (r:List V->Hp->VK->Prop):Prop where
  run:CallR X f r
structure JIx (X:Cx) (r:R2):Prop where
  run:IxR X r
structure JSl (X:Cx) (r:V->Option Int->Option Int->Hp->VK->Prop):Prop where
  run:SlR X r
structure JMt (X:Cx) (id:String) (r:V->List V->Hp->VK->Prop):Prop where
  run:MtR X id r
structure JSet (X:Cx) (t:qFq):Prop where
  run:rNq X t
section
variable {X:Cx} {a b c e o i:Expr} {es:List Expr} {ta tb te to ti:TE} {t tr:TA} {pos p apos cpos:Pos}
theorem pHq {n:Int} {j}:JE X (.Constant (.int n) j pos) (tC (.int n)):=⟨pEq⟩
theorem sNq {n:Bool} {j}:JE X (.Constant (.bool n) j pos) (tC (.bl n)):=⟨sHq⟩
theorem qDq {x:Str} {j}:JE X (.Constant (.str x) j pos) (tC (.str x)):=⟨oUq⟩
theorem jv (k:Nat) {x:Str} (hN:X.N[k]?=some x:=by rfl) (hv:Vis X.env.scope x:=by first | exact Or.inl rfl | exact Or.inr (Or.inl rfl) | exact Or.inr (Or.inr rfl)) (hd:(x==("__debug__" : Str))=false:=by decide)
    (hcd:(x==("__classdict__" : Str))=false:=by decide):JE X (.Name x pos) (u5q k):=⟨lLq hN hv hd hcd⟩
theorem nSq {x:Str} {v:V} {u:Value} (hg:Gl X x) (hm:X.mg x=none) (hv:bootBuiltins x=some u) (r:RelV v u) (hn:x≠"__name__":=by decide) (hd:(x==("__debug__" : Str))=false:=by decide):JE X (.Name x pos) (tC v):=⟨nKq hg hm hv r hn hd⟩
theorem mYq {x:Str} {v:V} {u:Value} (hg:Gl X x) (hm:X.mg x=some u) (r:RelV v u) (hd:(x==("__debug__" : Str))=false:=by decide):JE X (.Name x pos) (tC v):=⟨m0q hg hm r hd⟩
theorem qYq:JA X [] uGq:=⟨oYq⟩
theorem m6q (ha:JE X e te) (hr:JA X es t) (hs:aHq e=true:=by rfl):JA X (e::es) (pBq te t):=⟨mPq ha.run hr.run (a8q hs)⟩
theorem nZq {x1} (h:JA X es t):JE X (.Tuple es x1 pos) (u7q t):=⟨qIq h.run⟩
theorem l1q (h:JA X es t):JE X (.List es pos) (tXq t):=⟨q9q h.run⟩
theorem sCq {op:Operator} {r:R2} (ho:JOp X (binaryOp op) r) (ha:JE X a ta) (hb:JE X b tb):JE X (.BinOp a op b pos) (tOp r ta tb):=⟨tGq ho.run ha.run hb.run⟩
theorem t8q {op:UnaryOp} {r:V->Hp->VK->Prop} (ho:JUn X (unaryOp op) r) (ha:JE X a ta):JE X (.UnaryOp op a pos) (tUn r ta):=⟨sDq ho.run ha.run⟩
theorem r4q (ha:JE X a ta):JE X (.UnaryOp .Not a pos) (qCq ta):=⟨pOq ha.run⟩
theorem mHq {op:CmpOp} {r:R2} (ho:JOp X (compareOp op) r) (ha:JE X a ta) (hb:JE X b tb) (hm:behindInMarks op b=false):JE X (.Compare a [op] [b] pos) (tOp r ta tb):=⟨m5q ho.run ha.run hb.run hm⟩
theorem p3q {op} (h:JE X a ta):JE X (.BoolOp op [a] pos) ta:=⟨qAq h.run⟩
theorem oZq {rest:List Expr} (ha:JE X a ta) (hb:JE X (.BoolOp .And (b::rest) pos) tb):JE X (.BoolOp .And (a::b::rest) pos) (pRq ta tb):=⟨pUq ha.run hb.run⟩
theorem kHq {tc:TT} (hc:JT X c tc) (ha:JE X a ta) (hb:JE X b tb):JE X (.IfExp c a b pos) (tIf tc ta tb):=⟨jZq hc.run ha.run hb.run⟩
theorem lOq:JO X none iJq:=⟨n7q⟩
theorem nCq (h:JE X e te):JO X (some e) (q8q te):=⟨nHq h.run⟩
theorem kUq {r:V->Option Int->Option Int->Hp->VK->Prop} {lo hi:Option Expr} {tl th:TO} {p2:Pos} (hr:JSl X r) (he:JE X e te) (hl:JO X lo tl) (hu:JO X hi th):JE X (.Subscript e (.Slice lo hi none p2) pos) (tSl r te tl th):=⟨kGq hr.run he.run hl.run hu.run⟩
theorem nXq {r:R2} (hr:JIx X r) (ha:JE X a ta) (hb:JE X b tb) (hs:eVq b):JE X (.Subscript a b pos) (tOp r ta tb):=⟨tMq hr.run ha.run hb.run hs⟩
theorem b8q {es:List Expr} {env:Env} (h:es.all aHq=true):(backTo pos (starEach es env)).any (·.1)=false:=by
  induction es with
  | nil=>rfl
  | cons x r ih=>
    rw [List.all_cons,Bool.and_eq_true] at h
    rw [a8q h.1]
    exact ih h.2
theorem tHq {k j:Nat} {x:Str} {ps:List Str} {sp:Sp} (G:Got X.prog X.w X.K X.mg X.base k x ps sp) (hr:Room j X.A) (hk:k<=j) (hg:Gl X x) (ha:JA X (e::es) t) (hdb:(x==("__debug__" : Str))=false:=by decide)
    (hs:(e::es).all aHq=true:=by rfl):JE X (.Call (.Name x p) (e::es) [] pos) (kTq sp [] E0 t):=by
  have h:=hs
  rw [List.all_cons,Bool.and_eq_true] at h
  exact ⟨rVq G hr hk hg ha.run hdb (a8q h.1) (b8q h.2)⟩
theorem k2q {x:Str} {id:String} {r:List V->Hp->VK->Prop} (hc:JCall X (.builtin id) r) (hg:Gl X x) (hm:X.mg x=none) (hv:bootBuiltins x=some (.builtin id)) (ha:JA X (e::es) t) (hn:x≠"__name__":=by decide) (hdb:(x==("__debug__" : Str))=false:=by decide)
    (hs:(e::es).all aHq=true:=by rfl):JE X (.Call (.Name x p) (e::es) [] pos) (tCB r t):=by
  have h:=hs
  rw [List.all_cons,Bool.and_eq_true] at h
  exact ⟨kBq hc.run hg hm hv ha.run hn hdb (a8q h.1) (b8q h.2)⟩
theorem jFq {x:Str} {T:String} {r:List V->Hp->VK->Prop} (hc:JCall X (.type T) r) (hg:Gl X x) (hm:X.mg x=none) (hv:bootBuiltins x=some (.type T)) (ha:JA X (e::es) t) (hn:x≠"__name__":=by decide) (hdb:(x==("__debug__" : Str))=false:=by decide)
    (hs:(e::es).all aHq=true:=by rfl):JE X (.Call (.Name x p) (e::es) [] pos) (tCB r t):=by
  have h:=hs
  rw [List.all_cons,Bool.and_eq_true] at h
  exact ⟨i2q hc.run hg hm hv ha.run hn hdb (a8q h.1) (b8q h.2)⟩
theorem rMq {name:Str} {T id:String} {r:V->List V->Hp->VK->Prop} (pa:PlainAttrs T) (slot:Slot T name id) (hty:typeOf (.builtin id)=pure (.type "method_descriptor")) (hm:JMt X id r) (ho:JE X o to) (ha:JA X [e] t)
    (hbase:attributeBase o name X.env (eval o X.env)=eval o X.env:=by rfl) (hline:(apos.endLine==cpos.line)=true:=by rfl) (hs:aHq e=true:=by rfl):JE X (.Call (.Attribute o name apos) [e] [] cpos) (tBM X.K T r to t):=
  ⟨rOq pa slot hty hm.run ho.run ha.run hbase (by rw [a8q hs];rfl) hline (a8q hs) rfl⟩
theorem oRq {name:Str} {T id:String} {r:V->List V->Hp->VK->Prop} (pa:PlainAttrs T) (slot:Slot T name id) (hty:typeOf (.builtin id)=pure (.type "method_descriptor")) (hm:JMt X id r) (ho:JE X o to)
    (hbase:attributeBase o name X.env (eval o X.env)=eval o X.env:=by rfl) (hline:(apos.endLine==cpos.line)=true:=by rfl):JE X (.Call (.Attribute o name apos) [] [] cpos) (tWq X.K T r to):=⟨pZq pa slot hty hm.run ho.run hbase hline⟩
theorem nNq {op:CmpOp} {r:R2} (ho:JOp X (compareOp op) r) (ha:JE X a ta) (hb:JE X b tb) (hm:behindInMarks op b=false):JT X (.Compare a [op] [b] pos) (qQq (tOp r ta tb)):=⟨mMq ho.run ha.run hb.run hm⟩
theorem q3q {tc:TT} (ha:JT X a tc):JT X (.UnaryOp .Not a pos) (tTq tc):=⟨q1q ha.run⟩
theorem jSq (ha:JE X a ta) (he:∀ whole,isTrue a X.env whole=(do let v ← whole;standAt a.pos;holding [v] (truthy v))):JT X a (λ σ H Q=>ta σ H λ x H'=>∃ k,sMq X.K x H' k/\Q k H'):=⟨jYq ha.run he⟩
theorem lZq {tA:TT} (ha:JT X a tA):JW X (.BoolOp .And [a] pos) tA:=⟨lRq ha.run⟩
theorem p1q {tA:TT} (ha:JT X a tA):JW X (.BoolOp .Or [a] pos) tA:=⟨rEq ha.run⟩
theorem pVq {tA tB':TT} {rest:List Expr} (ha:JT X a tA) (hb:JW X (.BoolOp .And (b::rest) pos) tB'):JW X (.BoolOp .And (a::b::rest) pos) (u3q tA tB'):=⟨pJq ha.run hb.run⟩
theorem sUq {tA tB':TT} {rest:List Expr} (ha:JT X a tA) (hb:JW X (.BoolOp .Or (b::rest) pos) tB'):JW X (.BoolOp .Or (a::b::rest) pos) (tOr tA tB'):=⟨sPq ha.run hb.run⟩
theorem JW.pt {tA:TT} (h:JW X e tA):JT X e tA:=⟨PW.pt h.run⟩
theorem nMq {k:Nat} {x:Str} (hN:X.N.Nodup) (hi:X.N[k]?=some x) (hx:Loc X.env.scope x) (hf:X.fn x=true\/X.env.scope.names.lookup x=some .local:=by first | exact .inl rfl | exact .inr rfl | assumption):JG X (.Name x pos) (hJq k):=⟨m2q hN hi hx hf⟩
theorem nFq:JGs X [] tOq:=⟨nQq⟩
theorem kVq {tg:TG} {u:TGs} (h1:JG X e tg) (h2:JGs X es u) (hs:(assignEach (e::es) X.env).map (·.2)=assign e X.env::(assignEach es X.env).map (·.2):=by rfl):JGs X (e::es) (r6q tg u):=⟨kLq h1.run h2.run hs⟩
theorem p4q {k n:Nat} {tg:TGs} (hc:X.calm=true) (h:JGs X es tg) (hn:(assignEach es X.env).length=n:=by rfl) (hst:(assignEach es X.env).findIdx? (·.1)=none:=by rfl):JG X (.Tuple es k pos) (tRq X.K n tg):=⟨oVq hc h.run hn hst⟩
theorem o2q {tset:qFq} (ho:JE X o to) (hi:JE X i ti) (hs:JSet X tset) (ha:∀ v,assign (.Subscript o i pos) X.env v=(do
      let ov ← holding [v] (eval o X.env)
      let iv ← holding [v,ov] (eval i X.env)
      standAt pos
      holding [v,ov,iv] (setItem ov iv v)
      release [v,ov,iv] []):=by intro _;rfl):JG X (.Subscript o i pos) (tUq to ti tset):=⟨qSq ho.run hi.run hs.run ha⟩
theorem i6q {tg:Expr} (hg:Gl X "range") (hm:X.mg "range" = none) (ha:JA X [a] t) (hs:aHq a=true:=by rfl):JI X tg (.Call (.Name "range" p) [a] [] pos) (qKq t):=⟨jCq hg hm ha.run (a8q hs)⟩
theorem oHq:JB X [] o7q:=⟨n9q⟩
theorem lNq {st:Stmt} {rest:List Stmt} {ts us:TS} (h1:JS X st ts) (h2:JB X rest us):JB X (st::rest) (u8q ts us):=⟨kYq h1.run h2.run⟩
theorem p0q {st:Stmt} {ts:TS} (h1:JS X st ts):JB X [st] ts:=⟨m3q h1.run⟩
theorem nGq (he:JE X e te) (hs:swapsWith e none pos.line X.env=pure false:=by rfl):JS X (.Expr e pos) (oDq te):=⟨n6q he.run hs⟩
theorem r1q (he:JE X e te):JS X (.Return (some e) pos) (tNq te):=⟨r5q he.run⟩
theorem tFq {ss us:List Stmt} {tc:TT} {ts tu:TS} (hc:JT X c tc) (ha:JB X ss ts) (hb:JB X us tu):JS X (.If c ss us pos) (uEq tc ts tu):=⟨rUq hc.run ha.run hb.run⟩
theorem o8q {k:Nat} {x:Str} {pos':Pos} (hN:X.N.Nodup) (hi:X.N[k]?=some x) (hx:Loc X.env.scope x) (he:JE X e te) (hs:swapsWith e (some (.Name x pos')) pos.line X.env=pure false:=by rfl) (hf:X.fn x=true\/X.env.scope.names.lookup x=some .local:=by first | exact .inl rfl | exact .inr rfl | assumption) :
    JS X (.Assign [.Name x pos'] e pos) (nVq te (hJq k)):=⟨oEq hN hi hx he.run hs hf⟩
theorem pNq {tg:Expr} {g:TG} (he:JE X e te) (hg:JG X tg g) (hs:swapsWithSole [tg] e pos.line X.env=pure false:=by rfl) (hw:swappedStores [tg] e X.env=pure none:=by rfl) (h1:(assignEach [tg] X.env).map (·.2)=[assign tg X.env]:=by rfl):JS X (.Assign [tg] e pos) (nVq te g):=⟨pQq he.run hg.run hs hw h1⟩
theorem jTq {body:List Stmt} {tc:TT} {tb':TS} (hp:PassesOwn (model X.prog X.w) X.A X.env X.xe) (hc:JT X c tc) (hb:JB X body tb'):JS X (.While c body [] pos) (lCq tc tb'):=⟨kEq hp hc.run hb.run⟩
theorem oXq {tg iter:Expr} {body:List Stmt} {wi:TI} {g:TG} {tb':TS} (hp:PassesOwn (model X.prog X.w) X.A X.env X.xe) (hc:X.calm=true) (hi:JI X tg iter wi) (hg:JG X tg g) (hb:JB X body tb') (hs:∀ x,foldedSetIterable iter X.env x=pure x:=by intro _;rfl) :
    JS X (.For tg iter body [] pos) (u9q wi g tb'):=⟨qMq hp hc hi.run hg.run hb.run hs⟩
theorem lQq {scope:Scope} {N':List Str} {nt:Nat} {cap:List Nat} {elt iter tg:Expr} {wi:TI} {g:TG} (hc:X.calm=true) (ok:CompOk X scope N' nt cap) (hi:JI X tg iter wi) (hg:∀ C ex s H,JG (aNq X scope N' C ex s H) tg g) (he:∀ C ex s H,JE (aNq X scope N' C ex s H) elt te)
    (hs:∀ x,foldedSetIterable iter X.env x=pure x:=by intro _;rfl):JE X (.ListComp elt [⟨tg,iter,[],0⟩] scope pos) (j2q wi g te nt cap):=⟨nRq hc ok hi.run (λ C ex s H=>(hg C ex s H).run) (λ C ex s H=>(he C ex s H).run) hs⟩
end
theorem Fun.okJ {P:Program} {w:World} {K:PySem.W.Frag} {mg:Str->Option Value} {base:Heap} {x qual:Str} {st:Stmt} {f:Addr} {fd:FuncData} {N ps:List Str} {k:Nat} {sp:Sp} (F:Fun K x qual st f fd) (S:FnScope N ps (a6q st)) (len:∀ vs H Q E,sp vs H Q E->vs.length=ps.length)
    (hbody:∀ (cdv:Value) (A:Around) (outer:List Env) (s:Shared) (H:Hp) (vs:List V) (Q:VK) (E:XK),Room k (A.deeper (envOfC qual (a6q st) s.heap.objs.size f cdv))->sp vs H Q E →
      ∃ t,JB (l0q CX0 P w K mg base N qual (a6q st) f cdv A outer s H E).nox (b1q st) t/\t { nx:=λ _ H'=>Q .non H',rt:=Q } (c8q N vs) H):FnOk P w K mg base CX0 (k+1) f fd ps sp:=
  F.ok S len λ cdv A outer s H vs Q E hr h=>let ⟨t,j,q⟩:=hbody cdv A outer s H vs Q E hr h;⟨t,j.run,q⟩
section
variable {X:Cx} {scope:Scope} {N':List Str} {nt:Nat} {cap:List Nat} {elt iter tg:Expr} {pos:Pos} {wi:TI} {g:TG} {te:TE}
theorem hVq {y:Str} {py spos:Pos} {k:Nat} (hc:X.calm=true) (hN:X.N.Nodup) (hk:X.N[k]?=some y) (hy:Loc X.env.scope y) (c:CompOk X scope N' nt cap) (hi:PI X tg iter wi) (hg:∀ C ex s H,PG (aNq X scope N' C ex s H) tg g) (he:∀ C ex s H,PE (aNq X scope N' C ex s H) elt te)
    (hs:∀ x,foldedSetIterable iter X.env x=pure x:=by intro _;rfl) (hsw:swapsWith (.ListComp elt [⟨tg,iter,[],0⟩] scope pos) (some (.Name y py)) spos.line X.env=pure true:=by rfl) (hf:X.fn y=true\/X.env.scope.names.lookup y=some .local:=by first | exact .inl rfl | exact .inr rfl | assumption) :
    PS X (.Assign [.Name y py] (.ListComp elt [⟨tg,iter,[],0⟩] scope pos) spos) (nVq (j2q wi g te nt cap) (hJq k)):=by
  intro pins s σ H D0 I h
  rw [exec_Assign_Name_used _ _ _ _ hsw]
  refine wpAny_bind (wpAny_standAt (wpAny_bind ?_))
  show wpAny _ X.A (do let _ ← comprehension (.ListComp elt [⟨tg,iter,[],0⟩] scope pos) scope X.env _ (newList []) false (eval iter X.env) (some (assign (.Name y py) X.env))) _ _ s
  refine wpAny_bind (wpAny_mono (wpAny_comprehension_free (use:=some (assign (.Name y py) X.env)) (Q:=λ _ s'=>SP X pins D0 .next s') rfl hs (iYq (c.has I.ok)) c.kind c.locs (thn (hi pins s σ H _ I h) λ v s1 h1=>thn h1 λ itv s2 h2=>?_)) (λ _ s' hq=>wpAny_pure (wpAny_pure hq)) λ _ _ e=>e)
  obtain ⟨it,fp,tn,J,H2,rfl,I2,T,st2,f2,R⟩:=h2
  have hD:H2 s2.heap.objs.size=none:=I2.hok.fresh (Nat.le_refl _)
  obtain ⟨W,⟨m0,w0⟩,turn⟩:=R _ hD
  have I3:Inv X pins σ (upd H2 s2.heap.objs.size (.lst [])) { s2 with heap:=s2.heap.push { cls:=.type "list", dict:=none,data:=.seq ([]:List Value).toArray } }:=
    I2.laid (t':=s2.toks) (λ b u e=>Heap.get?_push_of_some _ e) (Nat.le_refl _) ⟨Nat.zero_le _,[],0,.nil,Heap.get?_push_size _ rfl⟩
  have fpLt:∀ b∈fp,b < s2.heap.objs.size:=λ b hb=>by
    obtain ⟨o,e,_⟩:=T.obj _ _ st2 b hb
    exact Heap.lt_size e
  have f3:∀ b∈fp,fYq X pins (upd H2 s2.heap.objs.size (.lst [])) b:=λ b hb=>⟨by rw [aGq (Nat.ne_of_lt (fpLt b hb))];exact (f2 b hb).1,(f2 b hb).2⟩
  have st3:tn 0 (s2.heap.push { cls:=.type "list", dict:=none,data:=.seq ([]:List Value).toArray }):=T.keep _ _ _ st2 λ b _ o e=>Heap.get?_push_of_some _ e
  generalize hh3:s2.heap.push { cls:=.type "list", dict:=none,data:=.seq ([]:List Value).toArray }=h3 at I3 st3
  have sz3:s2.heap.objs.size < h3.objs.size:=by rw [<- hh3,Heap.size_push];exact Nat.lt_succ_self _
  generalize hDD:s2.heap.objs.size=D at I3 f3 hD w0 turn sz3 fpLt
  refine wpAny_newObj_type ?_
  rw [hDD,hh3]
  refine wpAny_newFunctionEnv c.nocell (by intro y hy;simp at hy) (λ h4 hns4 hsb4=>?_) c.kind
  dsimp only at hns4 hsb4 ⊢
  have keep4:∀ b o,h3.get? b=some o->h4.get? b=some o:=λ b o e=>(hsb4.2 b (Nat.ne_of_lt (Heap.lt_size e))).trans (Heap.get?_push_of_some _ e)
  have I4:=I3.comp (t':=s2.toks+([]:List (Str × Value)).length) c f3 (λ b hb=>Nat.lt_trans (fpLt b hb) sz3) keep4 hns4
  have st4:tn 0 h4:=T.keep _ _ _ st3 λ b _ o e=>keep4 b o e
  dsimp only at I4
  have fin:∀ {σ':St} {H':Hp} {s':Shared},Inv (aNq X scope N' h3.objs.size fp { s2 with heap:=h3 } (upd H2 D (.lst []))) [] σ' H' s'->D0.nx (σ.set k (some (.ref D))) H' →
      compPost (model X.prog X.w) X.A X.xe (some (assign (.Name y py) X.env)) (λ _ s'=>SP X pins D0 .next s') (.ref D) h3.objs.size (.ok .next) s':=λ{σ' H' s'} J' q=>by
    obtain ⟨m,hn,hh⟩:=I3.uncomp rfl f3 J'
    have IX:Inv X pins σ H' s':=hh s'.heap (Heap.SameBut.refl ..)
    have hCL:h3.objs.size≠X.env.locals:=Nat.ne_of_gt I3.lt
    have hCc:∀ x a,X.env.cells.lookup x=some a->a≠h3.objs.size:=λ x a e=>by
      obtain ⟨v,z⟩:=I3.cell x a e
      exact Nat.ne_of_lt z.lt
    show wpAny _ X.A (assign (.Name y py) X.env (.ref D)) _ _ s'
    refine wpAny_assign_Name (fVq IX hN hk hy (v:=.ref D) rfl (λ s'' I'' hch=>?_) hf)
    obtain ⟨a,sb,ha⟩:=hch
    have hCa:h3.objs.size≠a:=by
      rcases ha with z | z
      . rw [z];exact hCL
      . exact (hCc _ _ z).symm
    refine ⟨m,hn.sameBut sb hCa,λ h' hs'=>⟨_,H',?_,q⟩⟩
    exact I''.turned (t':=s''.toks) (λ b o hb e=>(hs'.2 b hb).trans e) J'.free hCL (.inr I3.sz) hCc λ p hp z=>by
      have e:=(I3.pin p hp).1
      rw [z] at e
      exact absurd (Heap.lt_size e) (Nat.lt_irrefl _)
  have stat:∀ {H':Hp},(∀ b∈fp,H' b=none)->∀ b∈fp,fYq (aNq X scope N' h3.objs.size fp { s2 with heap:=h3 } (upd H2 D (.lst []))) [] H' b:=λ{H'} hn b hb=>by
    refine ⟨hn b hb,Nat.ne_of_lt (Nat.lt_trans (fpLt b hb) sz3),λ z=>?_,.inl hb,λ x a e=>(f3 b hb).2.2.2.2.1 x a (c.cells I.ok e),λ p hp=>absurd (show p∈([]:List (Addr × Obj)) from hp) (by simp)⟩
    rcases List.mem_cons.mp (I.stkSub b z) with y | y
    . exact (f3 b hb).2.1 y
    . exact (f3 b hb).2.2.1 y
  have loop:codeAny (model X.prog X.w) X.A (.compLoop (.ListComp elt [⟨tg,iter,[],0⟩] scope pos) 0 (.ref it) (.ref D) (compEnvC scope (bFq X.env.cells scope.names []) h3.objs.size X.env))
      (compPost (model X.prog X.w) X.A X.xe (some (assign (.Name y py) X.env)) (λ _ s'=>SP X pins D0 .next s') (.ref D) h3.objs.size) { s2 with heap:=h4,toks:=s2.toks+([]:List (Str × Value)).length }:=by
    refine codeAny_loop rfl (λ n s'=>∃ i ys σ' H',Inv (aNq X scope N' h3.objs.size fp { s2 with heap:=h3 } (upd H2 D (.lst []))) [] σ' H' s'/\tn i s'.heap/\(∀ b∈fp,H' b=none)/\W i n ys σ' H') (λ n s5 hI=>?_) m0 ⟨0,[],_,_,I4,st4,λ b hb=>(f3 b hb).1,w0⟩
    obtain ⟨i,ys,σ5,H5,I5,st5,fr5,w5⟩:=hI
    show wpAny _ X.A ((compTurn (.ListComp elt [⟨tg,iter,[],0⟩] scope pos) 0 (.ref it) (.ref D) (compEnvC scope (bFq X.env.cells scope.names []) h3.objs.size X.env)).onRaise (λ x=>do noteFrame x (compEnvC scope (bFq X.env.cells scope.names []) h3.objs.size X.env);theTreesLotGoes x)) _ _ s5
    refine wpAny_noted ?_
    rw [compTurn_list1]
    rcases turn i n ys σ5 H5 w5 with ⟨stop,qn⟩ | ⟨go,step⟩
    . refine wpAny_bind (wpAny_standAt (wpAny_bind (wpAny_mono (T.done (aNq X scope N' h3.objs.size fp { s2 with heap:=h3 } (upd H2 D (.lst []))) rfl rfl rfl hc i [] s5 σ5 H5 (λ _ _=>False) I5 (stat fr5) st5 stop) (λ r s6 ⟨hr,I6⟩=>?_) λ _ _ z=>z.elim)))
      subst hr
      exact wpAny_pure (fin I6 qn)
    . refine wpAny_bind (wpAny_standAt (wpAny_bind (wpAny_mono (T.item (aNq X scope N' h3.objs.size fp { s2 with heap:=h3 } (upd H2 D (.lst []))) rfl rfl rfl hc i [] s5 σ5 H5 (λ _ _=>False) I5 (stat fr5) st5 go) (λ r s6 ⟨u,hr,h6⟩=>?_) λ _ _ z=>z.elim)))
      subst hr
      refine wpAny_bind (wpAny_mono h6 (λ _ s7 ⟨x,H7,I7,r7,y7,st7,fr7⟩=>?_) λ _ _ z=>z.elim)
      have I7':=I7.pinned (stat fr7) (T.obj _ _ st7)
      refine wpAny_bind (wpAny_mono (hg _ _ _ _ _ s7 σ5 H7 x u _ I7' r7 (step x H7 y7)) (λ _ s8 ⟨σ8,H8,I8,q8⟩=>?_) λ _ _ z=>z.elim)
      refine wpAny_bind (wpAny_bind (wpAny_mono (he _ _ _ _ _ s8 σ8 H8 _ I8 q8) (λ yv s9 ⟨y,H9,I9,r9,e9,z9,m',hm',w9⟩=>?_) λ _ _ z=>z.elim))
      refine wpAny_bind (wpAny_mono (cQq (X:=aNq X scope N' h3.objs.size fp { s2 with heap:=h3 } (upd H2 D (.lst []))) _ s9 σ8 H9 (.ref D) [y] (.ref D) [yv] (λ v H10=>v=.non/\H10=upd H9 D (.lst (ys++[y]))) I9 rfl (.cons r9 .nil) ⟨D,ys,y,rfl,rfl,e9,z9,rfl,rfl⟩)
        (λ _ s10 ⟨v10,H10,I10,_,_,e10⟩=>?_) λ _ _ z=>z.elim)
      subst e10
      refine wpAny_pure (wpAny_pure ⟨rfl,m',hm',i+1,ys++[y],σ8,_,I10.unpinned,?_,λ b hb=>?_,w9⟩)
      . exact T.keep _ _ _ st7 λ b hb o e=>(I10.pin (b,o) (List.mem_append_right _ (List.mem_append_right _ (b6q hb e)))).1
      . obtain ⟨o,e,d⟩:=T.obj _ _ st7 b hb
        exact (I10.pin (b,o) (List.mem_append_right _ (List.mem_append_right _ (b6q hb e)))).2.1
  exact codeAny_compStart_list loop (T.self _ 0 _ _ _ st4 loop)
end
section
variable {X:Cx} {tg:Expr}
end
end L2
namespace L2
open PySem PySem.Spec PyProof.Rows Builtin
section
variable {X:Cx}
end
section
variable {X:Cx} {a b c e:Expr} {t:TA} {te:TE} {pos p:Pos}
theorem iRq {tg:Expr} (hg:Gl X "range") (hm:X.mg "range" = none) (ha:JA X [a,b] t) (h1:aHq a=true:=by rfl) (h2:aHq b=true:=by rfl):JI X tg (.Call (.Name "range" p) [a,b] [] pos) (pDq t):=
  ⟨i3q hg hm ha.run (by rw [a8q h1,a8q h2];rfl) (by rw [a8q h2];rfl)⟩
variable {scope:Scope} {N':List Str} {nt:Nat} {cap:List Nat} {elt iter tg:Expr} {wi:TI} {g:TG}
theorem hOq {y:Str} {py spos:Pos} {k:Nat} (hc:X.calm=true) (hN:X.N.Nodup) (hk:X.N[k]?=some y) (hy:Loc X.env.scope y) (ok:CompOk X scope N' nt cap) (hi:JI X tg iter wi) (hg:∀ C ex s H,JG (aNq X scope N' C ex s H) tg g) (he:∀ C ex s H,JE (aNq X scope N' C ex s H) elt te)
    (hs:∀ x,foldedSetIterable iter X.env x=pure x:=by intro _;rfl) (hsw:swapsWith (.ListComp elt [⟨tg,iter,[],0⟩] scope pos) (some (.Name y py)) spos.line X.env=pure true:=by rfl) (hf:X.fn y=true\/X.env.scope.names.lookup y=some .local:=by first | exact .inl rfl | exact .inr rfl | assumption) :
    JS X (.Assign [.Name y py] (.ListComp elt [⟨tg,iter,[],0⟩] scope pos) spos) (nVq (j2q wi g te nt cap) (hJq k)):=⟨hVq hc hN hk hy ok hi.run (λ C ex s H=>(hg C ex s H).run) (λ C ex s H=>(he C ex s H).run) hs hsw hf⟩
end
structure FnV (P:Program) (w:World) (K:PySem.W.Frag) (mg:Str->Option Value) (base:Heap) (k:Nat) (f:Addr) (sp:Sp):Prop where
  ex:∃ (fd:FuncData) (ps:List Str),FnOk P w K mg base CX0 k f fd ps sp/\PySem.W.keepIn K (.ref f)=true/\Binds K fd ps []
theorem Got.fnV {P:Program} {w:World} {K:PySem.W.Frag} {mg:Str->Option Value} {base:Heap} {k:Nat} {x:Str} {ps:List Str} {sp:Sp} (G:Got P w K mg base k x ps sp):∃ f,mg x=some (.ref f)/\FnV P w K mg base k f sp:=by
  obtain ⟨f,fd,F,hm,kp,b⟩:=G.ex
  exact ⟨f,hm,fd,ps,F,kp,b⟩
def l5q (i:Nat) (f:Addr) (sp:Sp) (t:TA):TE:=λ σ H Q=>σ[i]?=some (some (.ref f))/\kTq sp [] E0 t σ H Q
section
variable {X:Cx} {k j:Nat} {f:Addr} {x:Str} {sp:Sp} {p pos:Pos} {e:Expr} {es:List Expr} {t:TA}
theorem rWq {i:Nat} (G:FnV X.prog X.w X.K X.mg X.base k f sp) (hr:Room j X.A) (hk:k<=j) (hN:X.N[i]?=some x) (hv:Vis X.env.scope x) (ha:PA X (e::es) t) (hd:(x==("__debug__" : Str))=false) (hcd:(x==("__classdict__" : Str))=false)
    (he:starEach (e::es) X.env=(false,eval e X.env)::starEach es X.env) (hpl:(backTo pos (starEach es X.env)).any (·.1)=false) :
    PE X (.Call (.Name x p) (e::es) [] pos) (l5q i f sp t):=by
  intro pins s σ H Q I h
  obtain ⟨e1,h⟩:=h
  obtain ⟨fd,ps,F,kp,b⟩:=G.ex
  refine wpAny_Call_Name_kw (thn (lLq (pos:=p) hN hv hd hcd pins s σ H (λ v H1=>v=.ref f/\H1=H) I ⟨_,e1,rfl,rfl⟩) λ u s1 ⟨v,H1,I1,r1,ev,eH⟩=>?_)
  subst ev eH
  obtain rfl:u=Value.ref f:=r1
  refine PySem.W.callWith_K (h₀:=X.base) I.ok.mod.kin kp (thn (ha pos pins s1 σ H1 _ I1 h) λ us s2 ⟨vs,H2,I2,r,q⟩=>⟨I2.kIn,?_⟩) he hpl
  exact lKq F (hr.mono hk) b .nil r0q I2 r q
theorem tKq (i:Nat) (G:FnV X.prog X.w X.K X.mg X.base k f sp) (hr:Room j X.A) (hk:k<=j) (ha:JA X (e::es) t) (hN:X.N[i]?=some x:=by rfl) (hv:Vis X.env.scope x:=by first | exact Or.inl rfl | exact Or.inr (Or.inl rfl) | exact Or.inr (Or.inr rfl))
    (hd:(x==("__debug__" : Str))=false:=by decide) (hcd:(x==("__classdict__" : Str))=false:=by decide) (hs:(e::es).all aHq=true:=by rfl):JE X (.Call (.Name x p) (e::es) [] pos) (l5q i f sp t):=by
  have h:=hs
  rw [List.all_cons,Bool.and_eq_true] at h
  exact ⟨rWq G hr hk hN hv ha.run hd hcd (a8q h.1) (b8q h.2)⟩
end
end L2
namespace KRv
open PySem PyProof.Rows
theorem own:Manifest.owners.lookup (String.ofList ['d', 'e', 's', 'r', 'e', 'v', 'e', 'r'].reverse)=some Manifest.sig_reversed:=by kernel_rfl
theorem sNext:Slot "reversed" "__next__" "reversed.__next__":=.of (owner:="reversed") (n:="__next__") (by rw [typeLookup_type,builtinLookup_eq_fast];kernel_rfl) (by decide +kernel) (by decide +kernel) (by decide +kernel) (by first | exact .inl (by decide +kernel) | exact .inr (by decide +kernel)) (by rw [isSubtype_type];kernel_rfl)
theorem q5q:Slot "reversed" "__iter__" "reversed.__iter__":=.of (owner:="reversed") (n:="__iter__") (by rw [typeLookup_type,builtinLookup_eq_fast];kernel_rfl) (by decide +kernel) (by decide +kernel) (by decide +kernel) (by first | exact .inl (by decide +kernel) | exact .inr (by decide +kernel)) (by rw [isSubtype_type];kernel_rfl)
theorem sHint:Slot "reversed" "__length_hint__" "reversed.__length_hint__":=.of (owner:="reversed") (n:="__length_hint__") (by rw [typeLookup_type,builtinLookup_eq_fast];kernel_rfl) (by decide +kernel) (by decide +kernel) (by decide +kernel) (by first | exact .inl (by decide +kernel) | exact .inr (by decide +kernel)) (by rw [isSubtype_type];kernel_rfl)
theorem tBq:Slot "reversed" "__init__" "object.__init__":=.of (owner:="object") (n:="__init__") (by rw [typeLookup_type,builtinLookup_eq_fast];kernel_rfl) (by decide +kernel) (by decide +kernel) (by decide +kernel) (by first | exact .inl (by decide +kernel) | exact .inr (by decide +kernel)) (by rw [isSubtype_type];kernel_rfl)
theorem qNq:entryFor table "reversed.__next__" = some Builtin.«reversed.__next__»:=entryFor_of_tree (by kernel_rfl)
theorem sVq:entryFor table "reversed.__length_hint__" = some Builtin.«reversed.__length_hint__»:=entryFor_of_tree (by kernel_rfl)
theorem sJq:entryFor table "reversed.__iter__" = some Builtin.«dict_keyiterator.__iter__»:=entryFor_alias (id':="dict_keyiterator.__iter__") (by kernel_rfl) (by first | rfl | decide +kernel | (unfold String.splitOn;simp +decide [String.splitOnAux])) (by decide +kernel) (by kernel_rfl)
theorem q4q (a:Value):argsOk "reversed.__next__" ⟨[a],[]⟩:=by unfold argsOk;rw [signature?_of (id:="reversed.__next__") (n:=['_', '_', 't', 'x', 'e', 'n', '_', '_']) (o:=['d', 'e', 's', 'r', 'e', 'v', 'e', 'r']) (by kernel_rfl) own];kernel_rfl
theorem rQq (a:Value):argsOk "reversed.__iter__" ⟨[a],[]⟩:=by unfold argsOk;rw [signature?_of (id:="reversed.__iter__") (n:=['_', '_', 'r', 'e', 't', 'i', '_', '_']) (o:=['d', 'e', 's', 'r', 'e', 'v', 'e', 'r']) (by kernel_rfl) own];kernel_rfl
theorem tDq (a:Value):argsOk "reversed.__length_hint__" ⟨[a],[]⟩:=by unfold argsOk;rw [signature?_of (id:="reversed.__length_hint__") (n:=['_', '_', 't', 'n', 'i', 'h', '_', 'h', 't', 'g', 'n', 'e', 'l', '_', '_']) (o:=['d', 'e', 's', 'r', 'e', 'v', 'e', 'r']) (by kernel_rfl) own];kernel_rfl
theorem o1q:TypeCalled "reversed" "reversed.__new__" "object.__init__":=⟨by decide +kernel,by decide +kernel,⟨_,_,F.mro_reversed⟩,F.made_reversed,by decide +kernel,by rw [isSubtype_type];kernel_rfl,tBq⟩
theorem sRq:typeLookup (.type "reversed") "__len__" = pure none:=by rw [typeLookup_type,builtinLookup_eq_fast];kernel_rfl
theorem sEq:typeLookup (.type "tuple") "__reversed__" = pure none:=by rw [typeLookup_type,builtinLookup_eq_fast];kernel_rfl
theorem pCq:isSubtype (.type "tuple") (.type "dict")=pure false:=by rw [isSubtype_type];kernel_rfl
abbrev IsRev (h:Heap) (it t:Addr) (k:Int):Prop:=h.get? it=some { cls:=.type "reversed", dict:=none,data:=.fields #[.ref t,rawInt k],slots:=#[] }
section
variable {prog:Program} {w:World} {A:Around} {E:Value->Shared->Prop} {s:Shared} {it t:Addr}
theorem stops {α:Type} {Q:α->Shared->Prop} (hh:A.handled=none) (h:∀ h' e,(∀ b o,s.heap.get? b=some o->h'.get? b=some o)->Shared.TypeIs { s with heap:=h' } (.ref e) "StopIteration"->E (.ref e) { s with heap:=h' }):wpAny (model prog w) A (Builtin.SmallTypes.stopIteration:Sem α) Q E s:=by
  unfold Builtin.SmallTypes.stopIteration
  refine wpAny_bind ?_
  unfold newExc newTuple
  refine wpAny_bind (wpAny_newObj_type ?_ (by size_fits))
  rw [show firstArgMember (.type "StopIteration") []=pure Value.none from by unfold firstArgMember;rfl,pure_bind]
  refine wpAny_newObj_type ?_ (by size_fits)
  unfold raiseNew
  refine wpAny_bind (wpAny_handled ?_)
  rw [hh]
  exact wpAny_throw (h _ _ (λ b o e=>Heap.get?_push_of_some _ (Heap.get?_push_of_some _ e)) ⟨_,Heap.get?_push_size _ rfl,rfl⟩)
theorem sBq {k:Int} {Q:Value->Shared->Prop} (hit:IsRev s.heap it t k) (h:Q (.ref it) s):wpAny (model prog w) A (pyIter (.ref it)) Q E s:=
  have hT:s.TypeIs (.ref it) "reversed":=⟨_,hit,rfl⟩
  wpAny_pyIter_slot hT q5q (wpAny_call_entry q5q hT sJq (wpAny_pure ⟨_,rfl,"reversed", _,hT,sNext.lookup,h⟩) (rQq _))
theorem sTq {k:Nat} {items:Array Value} {x:Value} {Q:Option Value->Shared->Prop} (hit:IsRev s.heap it t k) (ht:IsTup s.heap t items) (hx:items[k]?=some x) (hk:(k:Int) < 2 ^ 63)
    (hQ:∀ h' tk,IsRev h' it t ((k:Int) - 1)->Heap.SameBut it s.heap h'->Q (some x) { s with heap:=h',toks:=tk }):wpAny (model prog w) A (pyNext (.ref it)) Q E s:=by
  have hT:s.TypeIs (.ref it) "reversed":=⟨_,hit,rfl⟩
  have hlt:k < items.size:=(Array.getElem?_eq_some_iff.mp hx).1
  unfold pyNext
  refine wpAny_bind (wpAny_attempt (wpAny_callSpecial?_slot hT sNext (wpAny_call_entry sNext hT qNq ?_ (q4q _))))
  refine (show wpAny (model prog w) A.in1 (field (.ref it) 0 >>= _) _ _ s from wpAny_bind (wpAny_field hit rfl (x:=.ref t) rfl ?_))
  refine (show wpAny (model prog w) A.in1 (field (.ref it) 1 >>= _) _ _ s from wpAny_bind (wpAny_field hit rfl (x:=rawInt k) rfl ?_))
  refine (show wpAny (model prog w) A.in1 (if (k:Int) < 0 then _ else _) _ _ s from ?_)
  rw [if_neg (by omega)]
  refine wpAny_bind (wpAny_specialOf ht.typeIs slot_tuple_getitem.lookup ?_)
  rw [if_neg (by simp)]
  refine (show wpAny (model prog w) A.in1 (mkInt k >>= _) _ _ s from wpAny_bind (wpAny_mkInt ?_))
  refine wpAny_bind (wpAny_attempt (getItem_tuple (j:=k) (x:=x) (s:={ s with toks:=s.toks+1 }) ht (by omega) hk (by simp [seqIndex?];omega) hx ?_))
  refine (show wpAny (model prog w) A.in1 (field (.ref it) 1 >>= _) _ _ _ from wpAny_bind (wpAny_field hit rfl (x:=rawInt k) rfl ?_))
  exact wpAny_bind (wpAny_setField hit rfl (by simp) (wpAny_pure ⟨x,rfl,wpAny_pure (hQ _ _ (Heap.get?_update_self _ hit rfl) (Heap.SameBut.update ..))⟩))
theorem vFq {k:Int} {Q:Option Value->Shared->Prop} (hh:A.handled=none) (hit:IsRev s.heap it t k) (hk:k < 0) (hQ:∀ h',Heap.ExtBut it s.heap h'->Q none { s with heap:=h' }):wpAny (model prog w) A (pyNext (.ref it)) Q E s:=by
  have hT:s.TypeIs (.ref it) "reversed":=⟨_,hit,rfl⟩
  unfold pyNext
  refine wpAny_bind (wpAny_attempt (wpAny_callSpecial?_slot hT sNext (wpAny_call_entry sNext hT qNq ?_ (q4q _))))
  refine (show wpAny (model prog w) A.in1 (field (.ref it) 0 >>= _) _ _ s from wpAny_bind (wpAny_field hit rfl (x:=.ref t) rfl ?_))
  refine (show wpAny (model prog w) A.in1 (field (.ref it) 1 >>= _) _ _ s from wpAny_bind (wpAny_field hit rfl (x:=rawInt k) rfl ?_))
  refine (show wpAny (model prog w) A.in1 (if k < 0 then _ else _) _ _ s from ?_)
  rw [if_pos hk]
  refine wpAny_bind (wpAny_rule (wpAny_bind ?_))
  refine (show wpAny (model prog w) A.in1 (setField (.ref it) 1 (rawInt (-1)) >>= λ _=>setField (.ref it) 0 .none) _ _ s from wpAny_bind (wpAny_setField hit rfl (by simp) ?_))
  refine wpAny_setField (Heap.get?_update_self (Obj.mapFields (·.setIfInBounds 1 (rawInt (-1)))) hit rfl) rfl (by simp) ?_
  refine wpAny_bind (stops (A:=A.in1) hh λ h' e kk hs=>?_)
  refine wpAny_bind (wpAny_isInstance (T:="StopIteration") (b:=true) hs isSubtype_stop (wpAny_pure (hQ _ λ b o hb e=>kk b o ?_)))
  exact ((Heap.SameBut.update ..).trans (Heap.SameBut.update ..)).extBut b o hb e
theorem sSq {k:Int} {items:Array Value} {Q:Value->Shared->Prop} (hit:IsRev s.heap it t k) (ht:IsTup s.heap t items) (hz:(items.size:Int) < 2 ^ 63) (hk:k+1=items.size)
    (h:∀ u tk,s.toks<=tk->Q (.int (items.size:Int) u) { s with toks:=tk }):wpAny (model prog w) A (call (.builtin "reversed.__length_hint__") [.ref it]) Q E s:=by
  have hT:s.TypeIs (.ref it) "reversed":=⟨_,hit,rfl⟩
  refine wpAny_call_entry sHint hT sVq ?_ (tDq _)
  refine (show wpAny (model prog w) A.in1 (field (.ref it) 0 >>= _) _ _ s from wpAny_bind (wpAny_field hit rfl (x:=.ref t) rfl ?_))
  refine (show wpAny (model prog w) A.in1 (if (Value.ref t==Value.none)=true then _ else _) _ _ s from ?_)
  rw [if_neg (show ¬ ((Value.ref t==Value.none)=true) from Bool.false_ne_true)]
  refine (show wpAny (model prog w) A.in1 (call (.builtin "len") [.ref t] >>= _) _ _ s from wpAny_bind (len_tuple ht hz ?_))
  refine wpAny_bind (m:=asInt? (.int (items.size:Int) _)) (wpAny_pure ?_)
  refine (show wpAny (model prog w) A.in1 (field (.ref it) 1 >>= _) _ _ _ from wpAny_bind (wpAny_field hit rfl (x:=rawInt k) rfl ?_))
  refine (show wpAny (model prog w) A.in1 (if (items.size:Int) < k+1 then _ else _) _ _ _ from ?_)
  rw [if_neg (by omega),hk]
  exact wpAny_bind (wpAny_mkInt (wpAny_pure ⟨_,rfl,h _ _ (by simp;omega)⟩))
end
theorem newT (t:Addr) (items:Array Value) (hz:(items.size:Int) < 2 ^ 63) :
    Meets (Builtin.«reversed.__new__» ⟨[.type "reversed", .ref t],[]⟩) (λ _ R s=>IsTup s.heap t items ∧
      ∀ tk,R (.ok (.ret (.ref s.heap.objs.size))) { s with heap:=s.heap.push { cls:=.type "reversed", data:=.fields #[.ref t,rawInt ((items.size:Int) - 1)] },toks:=tk }):=
  .of_wp λ prog w A R s ⟨ht,h⟩=>by
    unfold Builtin.«reversed.__new__»
    refine wpAny_bind (wpAny_of_eq (newClass_reversed _) (wpAny_bind (m:=Builtin.SmallTypes.refuseKeywords _ _ _) (wpAny_pure ?_)))
    refine wpAny_bind (wpAny_of_eq (a:=()) (by rfl) (wpAny_bind (wpAny_specialOf ht.typeIs sEq (wpAny_bind ?_))))
    refine (show wpAny (model prog w) A.in1 (isInstance (Value.ref t) (.type "dict") >>= _) _ _ s from wpAny_bind (wpAny_isInstance (T:="tuple") (b:=false) ht.typeIs pCq ?_))
    rw [if_neg (by decide)]
    refine wpAny_bind (wpAny_specialOf ht.typeIs slot_tuple_getitem.lookup ?_)
    refine (show wpAny (model prog w) A.in1 (if (["tuple.__getitem__", "str.__getitem__", "bytes.__getitem__", "bytearray.__getitem__", "memoryview.__getitem__", "numpy.ndarray.__getitem__", "sqlite3.Row.__getitem__"].contains "tuple.__getitem__")=true then _ else _) _ _ s from ?_)
    rw [if_pos (by decide)]
    refine wpAny_pure ?_
    rw [if_neg (by decide)]
    refine (show wpAny (model prog w) A.in1 (call (.builtin "len") [.ref t] >>= _) _ _ s from wpAny_bind (len_tuple ht hz ?_))
    refine wpAny_bind (m:=asInt? (.int (items.size:Int) _)) (wpAny_pure ?_)
    refine (show wpAny (model prog w) A.in1 (newObj (.type "reversed") (.fields #[.ref t,rawInt ((items.size:Int) - 1)]) >>= _) _ _ _ from wpAny_bind (wpAny_newObj_type ?_ (by size_fits)))
    exact wpAny_pure ⟨_,rfl,h _⟩
theorem callT {prog:Program} {w:World} {A:Around} {E:Value->Shared->Prop} {s:Shared} {t:Addr} {items:Array Value} {Q:Value->Shared->Prop} (ht:IsTup s.heap t items) (hz:(items.size:Int) < 2 ^ 63)
    (h:∀ tk,Q (.ref s.heap.objs.size) { s with heap:=s.heap.push { cls:=.type "reversed", data:=.fields #[.ref t,rawInt ((items.size:Int) - 1)] },toks:=tk }):wpAny (model prog w) A (call (.type "reversed") [.ref t]) Q E s:=
  callType_new o1q (by decide) (F.typeCall_reversed_1 _) (F.newCall_reversed_1 _) (λ obj=>F.args_object_init_2 obj _) F.entry_reversed_new (newT t items hz) ⟨ht,λ tk=>⟨⟨_,Heap.get?_push_size _ rfl,rfl⟩,h tk⟩⟩
theorem t7q {prog:Program} {w:World} {A:Around} (hh:A.handled=none) (I t:Addr) (hne:t≠I) (items:Array Value) (hz:(items.size:Int) < 2 ^ 63) :
    Walks prog w A I [I,t] [I] items.size (λ i v=>items[items.size - 1 - i]?=some v) (λ i h=>IsRev h I t ((items.size:Int) - 1 - i)/\IsTup h t items) where
  sub:=λ b hb=>by rw [List.mem_singleton.mp hb];exact List.mem_cons_self
  frame:=λ _ _ _ st hk=>⟨hk I (by simp) _ st.1,let ⟨o,ho,r⟩:=st.2;⟨o,hk t (by simp) _ ho,r⟩⟩
  item:=λ i s Q E hi st hQ=>by
    have st1:IsRev s.heap I t ((items.size - 1 - i:Nat):Int):=by rw [show ((items.size - 1 - i:Nat):Int)=(items.size:Int) - 1 - i by omega];exact st.1
    refine sTq st1 st.2 (x:=items[items.size - 1 - i]) (by simp<;>omega) (by omega) λ h' tk hit' hs'=>?_
    rw [show ((items.size - 1 - i:Nat):Int) - 1=(items.size:Int) - 1 - ((i+1:Nat):Int) by omega] at hit'
    exact hQ _ h' tk (by simp<;>omega) ⟨hit',st.2.extBut hs'.extBut hne⟩ λ b o hb e=>hs'.extBut b o (λ z=>hb (List.mem_singleton.mpr z)) e
  done:=λ s Q E st hQ=>vFq hh st.1 (by omega) λ h' he=>hQ h' s.toks λ b o hb e=>he b o (λ z=>hb (List.mem_singleton.mpr z)) e
  self:=λ i s Q E st h=>sBq st.1 h
def p7q (prog:Program) (w:World) (A:Around) (I:Addr) (St:Nat->Shared->Prop):Prop:=
  ∀ (s:Shared) (Q:Bool->Shared->Prop) (E:Value->Shared->Prop),St 0 s->(∀ b tk,s.toks<=tk->Q b { s with toks:=tk })->wpAny (model prog w) A (Builtin.List.listLengthHint (.ref I)) Q E s
structure It (prog:Program) (w:World) (A:Around) (I:Addr) (fp wr:List Addr) (n:Nat) (P:Nat->Value->Prop) (St:Nat->Shared->Prop):Prop where
  walk:WalksS prog w A I fp wr (λ a b=>b=a) n P St
  ty:∃ T,(Value.type T==Value.type "list")=false/\(Value.type T==Value.type "tuple")=false/\∀ i s,St i s->s.TypeIs (.ref I) T
  hint:p7q prog w A I St
  mem:I∈fp
  few:n<=sizeLine
section
variable {prog:Program} {w:World} {A:Around} {E:Value->Shared->Prop} {s:Shared} {R:Result->Shared->Prop} {I S:Addr} {fp wr:List Addr} {n:Nat} {P:Nat->Value->Prop} {St:Nat->Shared->Prop}
abbrev listAt (acc:Array Value) (c:Nat):Obj:={ cls:=.type "list", dict:=none,data:=.seq acc c,slots:=#[] }
theorem rPq (J:It prog w A.in1 I fp wr n P St) (res:Value) (c₀:Nat) (hst:St 0 s) (hSf:S ∉ fp) (hS:s.heap.get? S=some (listAt #[] c₀))
    (hR:∀ s' acc c,Moved (S::wr) (λ a b=>b=a) s s'->s'.heap.get? S=some (listAt acc c)->ItemsOf P acc n->R (.ok (.ret res)) s') :
    wpAny (model prog w) A.in1 (Builtin.List.listExtendWith (.ref S) (.ref I) res)
      (λ fin s'=>match fin with | .done f=>R (.ok f) s' | .again c'=>c'.quiet=true/\codeAny (model prog w) A c' R s') (λ e s'=>R (.error e) s') s:=by
  obtain ⟨T,t1,t2,hT⟩:=J.ty
  have W:=J.walk
  have h1:Builtin.List.listSameRef (.ref S) (.ref I)=false:=by
    have:S≠I:=λ e=>hSf (e ▸ J.mem)
    simp [Builtin.List.listSameRef,this]
  unfold Builtin.List.listExtendWith
  refine wpAny_bind (wpAny_typeOf (hT 0 _ hst) ?_)
  rw [h1,t1,t2,Bool.or_false,Bool.or_false,if_neg Bool.false_ne_true]
  refine wpAny_bind (W.self 0 _ _ _ hst (wpAny_bind (wpAny_holding (J.hint _ _ _ hst λ b tk htk=>?_))))
  have go:∀ (h':Heap) (c:Nat),(∀ b o,b≠S->s.heap.get? b=some o->h'.get? b=some o)->h'.get? S=some (listAt #[] c) →
      codeAny (model prog w) A (.builtin "list.extend.loop" ⟨[.ref S,.ref I,res],[]⟩) R { s with heap:=h',toks:=tk }:=λ h' c kk e=>
    codeAny_extend_loopS W J.few _ hSf _ n 0 _ _ _ rfl (Nat.zero_le _) (W.frame 0 s h' tk hst htk λ b hb o e=>kk b o (λ z=>hSf (z ▸ hb)) e) e (ItemsOf.nil P) λ s' acc c' hm hS' hacc=>
      hR s' acc c' (Moved.trans (s':={ s with heap:=h',toks:=tk }) W.gtrans ⟨λ b o hb e=>kk b o (λ z=>hb (by rw [z];exact List.mem_cons_self)) e,rfl,rfl,rfl,htk⟩ hm) hS' hacc
  refine wpAny_ite_split (λ _=>wpAny_bind (wpAny_rule (wpAny_bind ?_))) (λ _=>wpAny_pure ⟨plainId_quiet F.plain_extend_loop _,go _ _ (λ _ _ _ e=>e) hS⟩)
  refine (show wpAny (model prog w) A.in1 (updateSeq S (·.push .none) >>= λ _=>updateSeq S (·.pop)) _ _ _ from wpAny_bind (wpAny_updateSeq hS rfl ?_))
  have e2:=Heap.get?_update_self (Obj.mapSeq (·.push Value.none)) hS rfl
  refine wpAny_updateSeq (hz:=by seq_fits) e2 rfl (wpAny_pure ⟨plainId_quiet F.plain_extend_loop _,go _ _ (λ b o hb e=>?_) (Heap.get?_update_self (Obj.mapSeq (·.pop)) e2 rfl)⟩)
  exact (Heap.get?_update_other _ _ (Ne.symm hb)).trans ((Heap.get?_update_other _ _ (Ne.symm hb)).trans e)
theorem listOf {Q:Value->Shared->Prop} (J:It prog w A.in1.in1 I fp wr n P St) (hst:St 0 s) (hfp:∀ b∈fp,b < s.heap.objs.size)
    (hQ:∀ s' acc c,Moved (s.heap.objs.size::wr) (λ a b=>b=a) { s with heap:=s.heap.push (listAt #[] 0) } s'->s'.heap.get? s.heap.objs.size=some (listAt acc c)->ItemsOf P acc n->Q (.ref s.heap.objs.size) s') :
    wpAny (model prog w) A (call (.type "list") [.ref I]) Q E s:=by
  have hSf:s.heap.objs.size ∉ fp:=λ hm=>Nat.lt_irrefl _ (hfp _ hm)
  refine callType_codes (Q₁:=λ obj s₁=>obj=.ref s.heap.objs.size/\s₁={ s with heap:=s.heap.push (listAt #[] 0) }) F.called_list (F.typeCall_list_1 _) F.entry_list_init (code_list_new _ ⟨rfl,rfl⟩) ?_
  rintro obj s₁ ⟨rfl,rfl⟩
  have hS:(s.heap.push (listAt #[] 0)).get? s.heap.objs.size=some (listAt #[] 0):=Heap.get?_push_size _ rfl
  refine ⟨⟨_,hS,rfl⟩,F.args_list_init_2 _ _,?_⟩
  refine (show wpAny (model prog w) A.in1.in1 (Builtin.List.listItems (.ref s.heap.objs.size) >>= λ old=>Builtin.List.listUpdate (.ref s.heap.objs.size) (λ _=>#[]) >>= λ _=>letGo old.toList.reverse >>= λ _=>Builtin.List.listExtendWith (.ref s.heap.objs.size) (.ref I) .none) _ _ _ from wpAny_bind ?_)
  unfold Builtin.List.listItems
  refine wpAny_bind (wpAny_seqItems hS rfl (wpAny_pure ?_))
  refine (show wpAny (model prog w) A.in1.in1 (updateSeq s.heap.objs.size (λ _=>#[]) >>= λ _=>letGo (#[]:Array Value).toList.reverse >>= λ _=>Builtin.List.listExtendWith (.ref s.heap.objs.size) (.ref I) .none) _ _ _ from wpAny_bind (wpAny_updateSeq hS rfl (wpAny_bind (wpAny_letGo ?_))))
  have kk:∀ b o,b≠s.heap.objs.size->(s.heap.push (listAt #[] 0)).get? b=some o->((s.heap.push (listAt #[] 0)).update s.heap.objs.size (Obj.mapSeq (λ _=>(#[]:Array Value)))).get? b=some o:=λ b o hb e=>(Heap.get?_update_other _ _ (Ne.symm hb)).trans e
  refine rPq (A:=A.in1) J .none _ (J.walk.frame 0 s _ s.toks hst (Nat.le_refl _) λ b hb o e=>kk b o (λ z=>hSf (z ▸ hb)) (Heap.get?_push_of_some _ e)) hSf (Heap.get?_update_self (Obj.mapSeq (λ _=>(#[]:Array Value))) hS rfl) λ s' acc c hm hS' hacc=>⟨rfl,hQ s' acc c ?_ hS' hacc⟩
  exact Moved.trans (s':={ s with heap:=(s.heap.push (listAt #[] 0)).update s.heap.objs.size (Obj.mapSeq (λ _=>(#[]:Array Value))) }) J.walk.gtrans ⟨λ b o hb e=>kk b o (λ z=>hb (by rw [z];exact List.mem_cons_self)) e,rfl,rfl,rfl,Nat.le_refl _⟩ hm
theorem rHq {t:Addr} {items:Array Value} (hz:items.size<=sizeLine):p7q prog w A I (λ i s=>IsRev s.heap I t ((items.size:Int) - 1 - i)/\IsTup s.heap t items):=by
  intro s Q E st h
  have hT:s.TypeIs (.ref I) "reversed":=⟨_,st.1,rfl⟩
  have hl:=sizeLine_eq
  unfold Builtin.List.listLengthHint
  refine wpAny_bind (wpAny_specialOf hT sRq ?_)
  refine (show wpAny (model prog w) A (specialOf (Value.ref I) (Str.ofString "__length_hint__") >>= _) _ _ _ from wpAny_bind (wpAny_specialOf hT sHint.lookup ?_))
  (generalize hid:("reversed.__length_hint__" : String)=id0;(fail_if_success (clear hid id0));wp_delta;rw [show splitId id0=some ("reversed", "__length_hint__") from by subst hid;decide +kernel];subst hid)
  refine wpAny_bind (wpAny_isInstance (b:=true) hT (by rw [isSubtype_type];kernel_rfl) ?_)
  rw [if_neg (by decide)]
  refine wpAny_ite_split (λ hab=>absurd hab (by decide +kernel)) (λ _=>wpAny_bind (wpAny_rule (wpAny_bind (wpAny_of_eq (sHint.bind _) ?_))))
  refine (show wpAny (model prog w) A ((call (.builtin "reversed.__length_hint__") [.ref I]).attempt >>= _) _ _ _ from wpAny_bind (wpAny_attempt (sSq (items:=items) st.1 st.2 (by omega) (by omega) λ u tk htk=>?_)))
  dsimp only
  have ha:∀ (n:Int) (u:Tok),asInt? (Value.int n u)=pure (some n):=λ _ _=>rfl
  have h1:Builtin.List.listFitsIndex (items.size:Int)=true:=by
    unfold Builtin.List.listFitsIndex
    simp only [Bool.and_eq_true,decide_eq_true_eq]
    omega
  have h2:Builtin.List.listTooLong ((items.size:Int)).toNat=false:=by simp [Builtin.List.listTooLong,sizeLine];omega
  rw [ha,pure_bind]
  dsimp only
  rw [h1,h2,if_neg (by decide),if_neg (by omega),if_neg (by decide)]
  exact wpAny_pure (h _ _ htk)
end
theorem moved_eq {wr:List Addr} {s s':Shared} (hm:Moved wr (λ a b=>b=a) s s'):s'={ s with heap:=s'.heap,toks:=s'.toks }:=by
  obtain ⟨h',g',d',tk',os'⟩:=s'
  cases (show g'=s.gens from hm.gens)
  cases (show d'=s.drawn from hm.drawn)
  cases (show os'=s.os from hm.os)
  rfl
theorem back {its:List Value} {acc:Array Value} (h:ItemsOf (λ i v=>its.toArray[its.toArray.size - 1 - i]?=some v) acc its.toArray.size):acc.toList=its.reverse:=by
  obtain ⟨hs0,hp⟩:=h
  have hs:acc.size=its.length:=by simpa using hs0
  apply List.ext_getElem?
  intro i
  by_cases hi:i < its.length
  . have h1:i < acc.size:=by omega
    have e:=hp i acc[i] (by simp [h1])
    rw [List.getElem?_reverse hi,Array.getElem?_toList,Array.getElem?_eq_getElem h1,<- e]
    simp
  . rw [List.getElem?_eq_none (by rw [Array.length_toList];omega),List.getElem?_eq_none (by rw [List.length_reverse];omega)]
theorem itT {prog:Program} {w:World} {A:Around} {I t:Addr} {items:Array Value} (hh:A.handled=none) (hne:t≠I) (hz:items.size<=sizeLine) :
    It prog w A I [I,t] [I] items.size (λ i v=>items[items.size - 1 - i]?=some v) (λ i s=>IsRev s.heap I t ((items.size:Int) - 1 - i)/\IsTup s.heap t items) where
  walk:=(t7q hh I t hne items (by have:=sizeLine_eq;omega)).toS
  ty:=⟨"reversed", by decide,by decide,λ _ _ st=>⟨_,st.1,rfl⟩⟩
  hint:=rHq hz
  mem:=by simp
  few:=hz
end KRv
namespace L2
open PySem PySem.Spec PyProof.Rows
section
variable {X:Cx} {e:Expr} {te:TE} {p p2 pos pos2:Pos}
def uLq (X:Cx) (pins:List (Addr × Obj)) (σ:St) (R:Addr->List V->Hp->Prop) (v:Value) (s:Shared):Prop:=
  ∃ (a it:Addr) (xs:List V) (its:List Value) (H:Hp),v=.ref it/\Inv X pins σ H s/\KRv.IsRev s.heap it a ((its.toArray.size:Int) - 1)/\IsTup s.heap a its.toArray/\a≠it/\Vals xs its/\its.toArray.size<=sizeLine/\SqT X.K H a xs/\fYq X pins H it/\R a xs H
def uKq (X:Cx) (pins:List (Addr × Obj)) (σ:St) (R:Addr->List V->Hp->Prop) (v:Value) (s:Shared):Prop:=
  ∃ (a it:Addr) (xs:List V) (its:List Value) (H:Hp),v=.ref it/\Inv X pins σ H s/\s.heap.IsRevIter it a ((its.toArray.size:Int) - 1)/\s.heap.IsList a its.toArray/\a≠it/\Vals xs its/\its.toArray.size<=sizeLine/\SqL X.K H a xs/\fYq X pins H it/\R a xs H
theorem mSq {pins:List (Addr × Obj)} {s:Shared} {σ:St} {H:Hp} {R:Addr->List V->Hp->Prop} (hg:Gl X "reversed") (hm:X.mg "reversed" = none) (he:PE X e te) (hs:aHq e=true) (I:Inv X pins σ H s)
    (h:te σ H λ x H1=>∃ a xs,x=.ref a/\SqT X.K H1 a xs/\R a xs H1):wpAny (model X.prog X.w) X.A (eval (.Call (.Name "reversed" p2) [e] [] pos2) X.env) (uLq X pins σ R) X.xe s:=by
  refine wpAny_Call_Name_kw (c3q I hg hm PyProof.Rows.boot_reversed ?_)
  refine PyProof.Rows.callWith_type1 ?_ (a8q hs) rfl
  rw [a8q hs]
  show wpAny _ _ (spliced ((false,eval e X.env)::backTo pos2 (starEach [] X.env))) _ _ s
  refine Calls.spliced_cons (thn (he pins s σ H _ I h) λ u s1 ⟨x,H1,I1,r1,a,xs,ex,hq,q⟩=>Calls.spliced_nil ?_)
  subst ex
  cases r1
  obtain ⟨its,rv,pl,hz⟩:=I1.tuple hq
  have hl:=rv.length
  have h63:=cEq
  refine KRv.callT pl (by rw [List.size_toArray];omega) λ tk=>?_
  exact ⟨a,s1.heap.objs.size,xs,its,H1,rfl,I1.kept λ b o e=>Heap.get?_push_of_some _ e,Heap.get?_push_size _ rfl,pl.push _,Nat.ne_of_lt pl.lt,rv,by rw [List.size_toArray];omega,hq,I1.fpOk (Nat.le_refl _) (I1.hok.fresh (Nat.le_refl _)),q⟩
theorem mKq {pins:List (Addr × Obj)} {s:Shared} {σ:St} {H:Hp} {R:Addr->List V->Hp->Prop} (hg:Gl X "reversed") (hm:X.mg "reversed" = none) (he:PE X e te) (hs:aHq e=true) (I:Inv X pins σ H s)
    (h:te σ H λ x H1=>∃ a xs,x=.ref a/\SqL X.K H1 a xs/\R a xs H1):wpAny (model X.prog X.w) X.A (eval (.Call (.Name "reversed" p2) [e] [] pos2) X.env) (uKq X pins σ R) X.xe s:=by
  refine wpAny_Call_Name_kw (c3q I hg hm PyProof.Rows.boot_reversed ?_)
  refine PyProof.Rows.callWith_type1 ?_ (a8q hs) rfl
  rw [a8q hs]
  show wpAny _ _ (spliced ((false,eval e X.env)::backTo pos2 (starEach [] X.env))) _ _ s
  refine Calls.spliced_cons (thn (he pins s σ H _ I h) λ u s1 ⟨x,H1,I1,r1,a,xs,ex,hq,q⟩=>Calls.spliced_nil ?_)
  subst ex
  cases r1
  obtain ⟨its,rv,pl,hz⟩:=I1.list hq
  have hl:=rv.length
  have hlt:a < s1.heap.objs.size:=by obtain ⟨o,ho,_⟩:=pl.isList;exact Heap.lt_size ho
  refine call_reversed_list pl.isList ?_
  exact ⟨a,s1.heap.objs.size,xs,its,H1,rfl,I1.kept (t':=s1.toks) λ b o e=>Heap.get?_push_of_some _ e,⟨_,Heap.get?_push_size _ rfl,rfl,rfl⟩,let ⟨o,ho,r⟩:=pl.isList;⟨o,Heap.get?_push_of_some _ ho,r⟩,Nat.ne_of_lt hlt,rv,by rw [List.size_toArray];omega,hq,I1.fpOk (Nat.le_refl _) (I1.hok.fresh (Nat.le_refl _)),q⟩
theorem mVq {pins:List (Addr × Obj)} {σ:St} {H:Hp} {s s':Shared} {it:Addr} {acc:Array Value} {c:Nat} {ys:List V} {Q:VK} (I:Inv X pins σ H s) (fp:fYq X pins H it) (hit:it < s.heap.objs.size)
    (hm:Moved (s.heap.objs.size::[it]) (λ a b=>b=a) { s with heap:=s.heap.push (KRv.listAt #[] 0) } s') (hS:s'.heap.get? s.heap.objs.size=some (KRv.listAt acc c))
    (rv:Vals ys acc.toList) (hz:ys.length<=sizeLine) (q:∀ l,H l=none->Q (.ref l) (upd H l (.lst ys))):EP X pins σ Q (.ref s.heap.objs.size) s':=by
  have I2:Inv X pins σ (upd H s.heap.objs.size (.lst ys)) { s with heap:=s.heap.push { cls:=.type "list", dict:=none,data:=.seq acc c,slots:=#[] } }:=
    I.laid (t':=s.toks) (λ b o e=>Heap.get?_push_of_some _ e) (Nat.le_refl _) (show ObjOk X.prog X.w _ _ _ (.lst ys) from ⟨hz,acc.toList,c,rv,by simpa using Heap.get?_push_size s.heap (o:={ cls:=.type "list", dict:=none,data:=.seq acc c,slots:=#[] }) rfl⟩)
  obtain ⟨f0,f1,f2,f3,f4,f5⟩:=fp
  have I3:=I2.turned (h':=s'.heap) (t':=s'.toks) (it:=it) (λ b o hb e=>?_) (by rw [aGq (Nat.ne_of_lt hit)];exact f0) f1 f3 f4 f5
  . rw [KRv.moved_eq hm]
    exact ⟨.ref s.heap.objs.size,_,I3,rfl,q _ (I.hok.fresh (Nat.le_refl _))⟩
  . rcases Heap.get?_push_cases e with ⟨z1,z2⟩ | e
    . rw [z1,z2];exact hS
    . refine hm.heap b o (λ z=>?_) (Heap.get?_push_of_some _ e)
      simp only [List.mem_cons,List.not_mem_nil,or_false] at z
      rcases z with z | z
      . rw [z] at e;exact absurd (Heap.lt_size e) (Nat.lt_irrefl _)
      . exact hb z
def lJq (K:PySem.W.Frag) (te:TE):TE:=λ σ H Q=>te σ H λ x H1=>∃ a xs,x=.ref a/\SqT K H1 a xs/\∀ l,H1 l=none->Q (.ref l) (upd H1 l (.lst xs.reverse))
theorem dDq (hc:X.calm=true) (hgl:Gl X "list") (hml:X.mg "list" = none) (hg:Gl X "reversed") (hm:X.mg "reversed" = none) (he:PE X e te) (hs:aHq e=true) :
    PE X (.Call (.Name "list" p) [.Call (.Name "reversed" p2) [e] [] pos2] [] pos) (lJq X.K te):=by
  intro pins s σ H Q I h
  refine wpAny_Call_Name_kw (c3q I hgl hml PyProof.Rows.boot_list ?_)
  refine PyProof.Rows.callWith_type1 ?_ (a8q rfl) rfl
  rw [a8q rfl]
  show wpAny _ _ (spliced ((false,eval (.Call (.Name "reversed" p2) [e] [] pos2) X.env)::backTo pos (starEach [] X.env))) _ _ s
  refine Calls.spliced_cons (thn (mSq (R:=λ _ xs H1=>∀ l,H1 l=none->Q (.ref l) (upd H1 l (.lst xs.reverse))) hg hm he hs I h) λ v s1 h1=>Calls.spliced_nil ?_)
  obtain ⟨a,it,xs,its,H1,rfl,I1,hit,ht,hne,rv,hz,_,fp,q⟩:=h1
  have hi:=Heap.lt_size hit
  have hl:=rv.length
  refine KRv.listOf (KRv.itT (prog:=X.prog) (w:=X.w) (A:=X.A.in1.in1) (I:=it) (t:=a) (items:=its.toArray) (I.ok.hd hc) hne hz) ⟨by simpa using hit,ht⟩ (λ b hb=>?_) (λ s' acc c' hm' hS hacc=>?_)
  . simp only [List.mem_cons,List.not_mem_nil,or_false] at hb
    rcases hb with rfl | rfl
    . exact hi
    . exact ht.lt
  . exact mVq I1 fp hi hm' hS (by rw [KRv.back hacc];exact rv.reverse) (by rw [List.length_reverse];rw [List.size_toArray] at hz;omega) q
theorem iUq:∀ (bs:List Bool),(List.range bs.length).all (λ i=>bs.getD i true)=bs.all id:=by
  intro bs
  rw [Bool.eq_iff_iff,List.all_eq_true,List.all_eq_true]
  constructor
  . intro h x hx
    obtain ⟨i,hi,e⟩:=List.getElem_of_mem hx
    have:=h i (List.mem_range.mpr hi)
    rw [List.getD_eq_getElem?_getD,List.getElem?_eq_getElem hi,Option.getD_some,e] at this
    exact this
  . intro h i hi
    have hi':=List.mem_range.mp hi
    rw [List.getD_eq_getElem?_getD,List.getElem?_eq_getElem hi',Option.getD_some]
    exact h _ (List.getElem_mem hi')
def s9q (K:PySem.W.Frag):List V->Hp->VK->Prop:=λ xs H Q=>∃ (p:Addr) (bs:List Bool),xs=[.ref p]/\SqL K H p (bs.map V.bl)/\Q (.bl (bs.all id)) H
theorem hYq (hc:X.calm=true):CallR X (.builtin "all") (s9q X.K):=by
  intro pins s σ H xs us Q I r h
  obtain ⟨p,bs,rfl,hp,hQ⟩:=h
  obtain ⟨u,rfl,ru⟩:=r.one
  cases ru
  obtain ⟨its,rv,pl,hz⟩:=I.list hp
  have hlen:=rv.length
  rw [List.length_map] at hlen
  have hlt:p < s.heap.objs.size:=by obtain ⟨o,ho,_⟩:=pl.isList;exact Heap.lt_size ho
  refine call_all_walk (wpAny_pyIter_list pl.isList ?_)
  refine ⟨s.heap.objs.size,[s.heap.objs.size,p],[s.heap.objs.size],its.toArray.size,_,_,λ i=>bs.getD i true,rfl,Walks.list (A:=X.A.in1) (I.ok.hd hc) _ p (Nat.ne_of_lt hlt) its.toArray,⟨⟨_,Heap.get?_push_size _ rfl,rfl,rfl⟩,let ⟨o,ho,r⟩:=pl.isList;⟨o,Heap.get?_push_of_some _ ho,r⟩⟩,?_,λ h' tk kk=>?_⟩
  . intro i v s' Q' E' hv hq
    have hi:i < its.length:=by
      have:=(Array.getElem?_eq_some_iff.mp hv).1
      simpa using this
    obtain ⟨v1,e1,e2⟩:=rv.get (i:=i) (x:=V.bl bs[i]) (by rw [List.getElem?_map,List.getElem?_eq_getElem (by omega)];rfl)
    have e3:its[i]?=some v:=by simpa using hv
    rw [e1] at e3
    cases e3
    have e4:v=Value.bool bs[i]:=e2
    subst e4
    refine wpAny_truthy_bool ?_
    have e5:bs.getD i true=bs[i]:=by rw [List.getD_eq_getElem?_getD,List.getElem?_eq_getElem (by omega)];rfl
    rw [<- e5]
    exact hq
  . refine ⟨.bl (bs.all id),H,I.kept λ b o e=>kk b o ?_ (Heap.get?_push_of_some _ e),?_,hQ⟩
    . simp only [List.mem_cons,List.not_mem_nil,or_false]
      exact Nat.ne_of_lt (Heap.lt_size e)
    . show Value.bool _=Value.bool _
      rw [List.size_toArray,<- hlen,iUq]
end
section
variable {X:Cx} {e:Expr} {te:TE} {p p2 pos pos2:Pos}
theorem dFq (hgl:Gl X "list") (hml:X.mg "list" = none) (hg:Gl X "reversed") (hm:X.mg "reversed" = none) (he:JE X e te) (hc:X.calm=true:=by rfl) (hs:aHq e=true:=by rfl) :
    JE X (.Call (.Name "list" p) [.Call (.Name "reversed" p2) [e] [] pos2] [] pos) (lJq X.K te):=⟨dDq hc hgl hml hg hm he.run hs⟩
end
end L2
namespace KZp
open PySem PyProof.Rows
section
variable {prog:Program} {w:World} {A:Around} {E:Value->Shared->Prop} {s:Shared}
theorem uAq {it t:Addr} {i:Nat} {items:Array Value} {x:Value} {Q:Value->Shared->Prop} (hit:s.heap.IsTupleIter it t i) (ht:s.heap.IsTuple t items) (hx:items[i]?=some x)
    (hQ:∀ h',h'.IsTupleIter it t (i+1)->Heap.SameBut it s.heap h'->Q x { s with heap:=h' }):wpAny (model prog w) A (Builtin.SmallTypes.nextOf (.ref it)) Q E s:=by
  obtain ⟨o,ho,hc,hd⟩:=id hit
  obtain ⟨ol,hol,_,nl,hdl⟩:=ht
  unfold Builtin.SmallTypes.nextOf
  refine wpAny_bind (wpAny_callSpecial?_slot hit.typeIs F.slot_tuple_iterator_next (wpAny_call_entry F.slot_tuple_iterator_next hit.typeIs F.entry_tuple_iterator_next ?_ (F.args_tuple_iterator_next_1 _)))
  refine (show wpAny (model prog w) A.in1 (field (.ref it) 0 >>= _) _ _ s from wpAny_bind (wpAny_field ho hd (x:=.ref t) rfl ?_))
  refine (show wpAny (model prog w) A.in1 (if (Value.ref t==Value.none)=true then _ else _) _ _ s from ?_)
  rw [if_neg (show ¬ ((Value.ref t==Value.none)=true) from Bool.false_ne_true)]
  refine (show wpAny (model prog w) A.in1 (field (.ref it) 1 >>= _) _ _ s from wpAny_bind (wpAny_field ho hd (x:=.int i 0) rfl ?_))
  refine (show wpAny (model prog w) A.in1 (seqItems? (.ref t) >>= _) _ _ s from wpAny_bind (wpAny_seqItems hol hdl ?_))
  simp only [Int.toNat_natCast,hx]
  refine wpAny_bind (wpAny_setField ho hd (by simp) (wpAny_pure ⟨x,rfl,wpAny_pure (hQ _ ⟨_,Heap.get?_update_self _ ho (Obj.isFreed_of_fields (Obj.data_mapFields hd _)),(Obj.cls_mapFields ..).trans hc,?_⟩ (Heap.SameBut.update ..))⟩))
  rw [Obj.data_mapFields hd]
  simp [rawInt]
theorem rXq {it t:Addr} {i:Nat} {items:Array Value} {Q:Value->Shared->Prop} (hh:A.handled=none) (hit:s.heap.IsTupleIter it t i) (ht:s.heap.IsTuple t items) (hx:items[i]?=none)
    (hE:∀ h' e,Heap.ExtBut it s.heap h'->Shared.TypeIs { s with heap:=h' } (.ref e) "StopIteration"->E (.ref e) { s with heap:=h' }):wpAny (model prog w) A (Builtin.SmallTypes.nextOf (.ref it)) Q E s:=by
  obtain ⟨o,ho,hc,hd⟩:=id hit
  obtain ⟨ol,hol,_,nl,hdl⟩:=ht
  unfold Builtin.SmallTypes.nextOf
  refine wpAny_bind (wpAny_callSpecial?_slot hit.typeIs F.slot_tuple_iterator_next (wpAny_call_entry F.slot_tuple_iterator_next hit.typeIs F.entry_tuple_iterator_next ?_ (F.args_tuple_iterator_next_1 _)))
  refine (show wpAny (model prog w) A.in1 (field (.ref it) 0 >>= _) _ _ s from wpAny_bind (wpAny_field ho hd (x:=.ref t) rfl ?_))
  refine (show wpAny (model prog w) A.in1 (if (Value.ref t==Value.none)=true then _ else _) _ _ s from ?_)
  rw [if_neg (show ¬ ((Value.ref t==Value.none)=true) from Bool.false_ne_true)]
  refine (show wpAny (model prog w) A.in1 (field (.ref it) 1 >>= _) _ _ s from wpAny_bind (wpAny_field ho hd (x:=.int i 0) rfl ?_))
  refine (show wpAny (model prog w) A.in1 (seqItems? (.ref t) >>= _) _ _ s from wpAny_bind (wpAny_seqItems hol hdl ?_))
  simp only [Int.toNat_natCast,hx]
  refine wpAny_bind (wpAny_rule (wpAny_bind (wpAny_setField ho hd (by simp) ?_)))
  exact KRv.stops (A:=A.in1) hh λ h' e kk hs=>hE _ e (λ b o' hb e'=>kk b o' ((Heap.SameBut.update ..).extBut b o' hb e')) hs
structure St (z TI TO i1 i2 l1 l2:Addr) (f0:Value) (i:Nat) (h:Heap):Prop where
  zip:IsZip h z TI TO f0
  ti:IsPair h TI (.ref i1) (.ref i2)
  to:∃ a b,IsPair h TO a b
  it1:h.IsTupleIter i1 l1 i
  it2:h.IsTupleIter i2 l2 i
variable {z TI TO i1 i2 l1 l2:Addr} {i:Nat} {xs ys:Array Value}
theorem nextZ {x y:Value} {Q:Option Value->Shared->Prop} (D:ZipApart z TI TO i1 i2 l1 l2) (st:St z TI TO i1 i2 l1 l2 .none i s.heap) (hl1:s.heap.IsTuple l1 xs) (hl2:s.heap.IsTuple l2 ys) (hx:xs[i]?=some x) (hy:ys[i]?=some y)
    (hQ:∀ h',St z TI TO i1 i2 l1 l2 (rawInt s.heap.objs.size) (i+1) h'->IsPair h' s.heap.objs.size x y->(∀ c o,c≠z->c≠TO->c≠i1->c≠i2->s.heap.get? c=some o->h'.get? c=some o)->Q (some (.ref s.heap.objs.size)) { s with heap:=h' }) :
    wpAny (model prog w) A (pyNext (.ref z)) Q E s:=by
  obtain ⟨hz,hTI,⟨a,b,hTO⟩,h1,h2⟩:=st
  have hT:s.TypeIs (.ref z) "zip":=⟨_,hz,rfl⟩
  unfold pyNext
  refine wpAny_bind (wpAny_attempt (wpAny_callSpecial?_slot hT F.slot_zip_next (wpAny_call_entry F.slot_zip_next hT F.entry_zip_next ?_ (F.args_zip_next_1 _))))
  refine (show wpAny (model prog w) A.in1 (field (.ref z) 2 >>= _) _ _ _ from wpAny_bind (wpAny_field hz rfl (x:=.bool false) rfl ?_))
  refine (show wpAny (model prog w) A.in1 (field (.ref z) 3 >>= _) _ _ _ from wpAny_bind (wpAny_field hz rfl (x:=.ref TI) rfl (wpAny_bind (wpAny_seqItems hTI rfl ?_))))
  refine (show wpAny (model prog w) A.in1 (Builtin.SmallTypes.ownedTupleIsFree (.ref z) >>= _) _ _ _ from wpAny_bind ?_)
  unfold Builtin.SmallTypes.ownedTupleIsFree
  refine wpAny_bind (wpAny_field hz rfl (x:=.none) rfl (wpAny_pure ?_))
  simp only [if_true]
  refine wpAny_bind (wpAny_rule (wpAny_bind (wpAny_field hz rfl (x:=.ref TO) rfl (wpAny_bind (wpAny_setField_rec hz (by simp) λ g1 hz1 k1=>wpAny_bind ?_)))))
  replace hz1:IsZip g1 z TI TO .ellipsis:=hz1
  simp only [List.zipIdx_cons,List.zipIdx_nil,List.forIn_cons,List.forIn_nil]
  refine wpAny_bind (wpAny_bind (wpAny_onRaise ?_))
  refine (show wpAny (model prog w) A.in1 (Builtin.SmallTypes.nextOf (.ref i1) >>= _) _ _ _ from wpAny_bind (uAq (h1.extBut k1.extBut D.i1z) (hl1.extBut k1.extBut D.l1z) hx λ g2 j1 k2=>wpAny_pure ?_))
  have hTO2:IsPair g2 TO a b:=k2.extBut _ _ D.TOi1 (k1.extBut _ _ D.TOz hTO)
  refine wpAny_bind (wpAny_seqItems hTO2 rfl (wpAny_bind (wpAny_updateSeq_pair hTO2 λ g3 hTO3 k3=>wpAny_bind (wpAny_letGo (wpAny_pure ?_)))))
  replace hTO3:IsPair g3 TO x b:=hTO3
  refine wpAny_bind (wpAny_bind (wpAny_onRaise ?_))
  refine (show wpAny (model prog w) A.in1 (Builtin.SmallTypes.nextOf (.ref i2) >>= _) _ _ _ from wpAny_bind (uAq (((h2.extBut k1.extBut D.i2z).extBut k2.extBut D.i12.symm).extBut k3.extBut D.TOi2.symm) (((hl2.extBut k1.extBut D.l2z).extBut k2.extBut D.l2i1).extBut k3.extBut D.l2TO) hy λ g4 j2 k4=>wpAny_pure ?_))
  have hTO4:IsPair g4 TO x b:=k4.extBut _ _ D.TOi2 hTO3
  refine wpAny_bind (wpAny_seqItems hTO4 rfl (wpAny_bind (wpAny_updateSeq_pair hTO4 λ g5 hTO5 k5=>wpAny_bind (wpAny_letGo (wpAny_pure (wpAny_pure ?_))))))
  replace hTO5:IsPair g5 TO x y:=hTO5
  refine wpAny_bind (wpAny_seqItems hTO5 rfl (wpAny_bind (wpAny_newTuple ?_)))
  have hsz:g5.objs.size=s.heap.objs.size:=by rw [k5.1,k4.1,k3.1,k2.1,k1.1]
  have hz5:IsZip g5 z TI TO .ellipsis:=k5.extBut _ _ D.TOz.symm (k4.extBut _ _ D.i2z.symm (k3.extBut _ _ D.TOz.symm (k2.extBut _ _ D.i1z.symm hz1)))
  have keep:∀ c o,c≠z->c≠TO->c≠i1->c≠i2->s.heap.get? c=some o->g5.get? c=some o:=λ c o c1 c2 c3 c4 e=>k5.extBut _ _ c2 (k4.extBut _ _ c4 (k3.extBut _ _ c2 (k2.extBut _ _ c3 (k1.extBut _ _ c1 e))))
  have J1:g5.IsTupleIter i1 l1 (i+1):=((j1.extBut k3.extBut D.TOi1.symm).extBut k4.extBut D.i12).extBut k5.extBut D.TOi1.symm
  have J2:g5.IsTupleIter i2 l2 (i+1):=j2.extBut k5.extBut D.TOi2.symm
  refine (show wpAny (model prog w) A.in1 (Builtin.SmallTypes.ownedTupleHandOut (.ref z) (.ref g5.objs.size) >>= _) _ _ _ from wpAny_bind ?_)
  unfold Builtin.SmallTypes.ownedTupleHandOut
  have hz6:IsZip (g5.push { cls:=.type "tuple", data:=.seq #[x,y] }) z TI TO .ellipsis:=Heap.get?_push_of_some _ hz5
  refine wpAny_bind (wpAny_setField_rec hz6 (by simp) λ g7 hz7 k7=>?_)
  replace hz7:IsZip g7 z TI TO (rawInt g5.objs.size):=hz7
  refine wpAny_setField_rec hz7 (by simp) λ g8 hz8 k8=>?_
  replace hz8:IsZip g8 z TI TO (rawInt g5.objs.size):=hz8
  have up:∀ c o,c≠z->g5.get? c=some o->g8.get? c=some o:=λ c o c1 e=>k8.extBut _ _ c1 (k7.extBut _ _ c1 (Heap.get?_push_of_some _ e))
  have hzl:g5.objs.size≠z:=Nat.ne_of_gt (Heap.lt_size hz5)
  have hT8:IsPair g8 g5.objs.size x y:=k8.extBut _ _ hzl (k7.extBut _ _ hzl (Heap.get?_push_size _ rfl))
  rw [hsz] at hz8 hT8
  refine wpAny_pure ⟨_,rfl,wpAny_pure ?_⟩
  rw [hsz]
  exact hQ g8 ⟨hz8,up _ _ D.TIz (keep _ _ D.TIz D.TITO D.TIi1 D.TIi2 hTI),⟨x,y,up _ _ D.TOz hTO5⟩,let ⟨o,ho,r⟩:=J1;⟨o,up _ _ D.i1z ho,r⟩,let ⟨o,ho,r⟩:=J2;⟨o,up _ _ D.i2z ho,r⟩⟩ hT8 λ c o c1 c2 c3 c4 e=>up c o c1 (keep c o c1 c2 c3 c4 e)
theorem endZ {Q:Option Value->Shared->Prop} (hh:A.handled=none) (D:ZipApart z TI TO i1 i2 l1 l2) (st:St z TI TO i1 i2 l1 l2 .none i s.heap) (hl1:s.heap.IsTuple l1 xs) (hx:xs[i]?=none)
    (hQ:∀ h',(∀ c o,c≠z->c≠TO->c≠i1->c≠i2->s.heap.get? c=some o->h'.get? c=some o)->Q none { s with heap:=h' }):wpAny (model prog w) A (pyNext (.ref z)) Q E s:=by
  obtain ⟨hz,hTI,⟨a,b,hTO⟩,h1,h2⟩:=st
  have hT:s.TypeIs (.ref z) "zip":=⟨_,hz,rfl⟩
  unfold pyNext
  refine wpAny_bind (wpAny_attempt (wpAny_callSpecial?_slot hT F.slot_zip_next (wpAny_call_entry F.slot_zip_next hT F.entry_zip_next ?_ (F.args_zip_next_1 _))))
  refine (show wpAny (model prog w) A.in1 (field (.ref z) 2 >>= _) _ _ _ from wpAny_bind (wpAny_field hz rfl (x:=.bool false) rfl ?_))
  refine (show wpAny (model prog w) A.in1 (field (.ref z) 3 >>= _) _ _ _ from wpAny_bind (wpAny_field hz rfl (x:=.ref TI) rfl (wpAny_bind (wpAny_seqItems hTI rfl ?_))))
  refine (show wpAny (model prog w) A.in1 (Builtin.SmallTypes.ownedTupleIsFree (.ref z) >>= _) _ _ _ from wpAny_bind ?_)
  unfold Builtin.SmallTypes.ownedTupleIsFree
  refine wpAny_bind (wpAny_field hz rfl (x:=.none) rfl (wpAny_pure ?_))
  simp only [if_true]
  refine wpAny_bind (wpAny_rule (wpAny_bind (wpAny_field hz rfl (x:=.ref TO) rfl (wpAny_bind (wpAny_setField_rec hz (by simp) λ g1 hz1 k1=>wpAny_bind ?_)))))
  replace hz1:IsZip g1 z TI TO .ellipsis:=hz1
  simp only [List.zipIdx_cons,List.zipIdx_nil,List.forIn_cons,List.forIn_nil]
  refine wpAny_bind (wpAny_bind (wpAny_onRaise ?_))
  refine (show wpAny (model prog w) A.in1 (Builtin.SmallTypes.nextOf (.ref i1) >>= _) _ _ _ from wpAny_bind (rXq (A:=A.in1) hh (h1.extBut k1.extBut D.i1z) (hl1.extBut k1.extBut D.l1z) hx λ g2 e k2 he=>?_))
  obtain ⟨oe,hoe,hce⟩:=he
  have hz2:IsZip g2 z TI TO .ellipsis:=k2 _ _ D.i1z.symm hz1
  have hez:e≠z:=λ q=>by
    subst q
    have q2:some _=some oe:=Eq.trans (Eq.symm hz2) hoe
    cases q2
    simp at hce
  refine wpAny_setField_rec hz2 (by simp) λ g3 _ k3=>?_
  refine wpAny_bind (wpAny_isInstance (T:="StopIteration") (b:=true) ⟨oe,k3.extBut _ _ hez hoe,hce⟩ isSubtype_stop (wpAny_pure (hQ _ λ c o c1 _ c3 _ q=>?_)))
  exact k3.extBut _ _ c1 (k2 _ _ c3 (k1.extBut _ _ c1 q))
end
abbrev g1 (h:Heap) (l1:Addr):Heap:=h.push { cls:=.type "tuple_iterator", data:=.fields #[.ref l1,.int 0 0] }
abbrev g2 (h:Heap) (l1 l2:Addr):Heap:=(g1 h l1).push { cls:=.type "tuple_iterator", data:=.fields #[.ref l2,.int 0 0] }
abbrev g3 (h:Heap) (l1 l2:Addr):Heap:=(g2 h l1 l2).push { cls:=.type "tuple", data:=.seq #[.ref h.objs.size,.ref (g1 h l1).objs.size] }
abbrev g4 (h:Heap) (l1 l2:Addr):Heap:=(g3 h l1 l2).push { cls:=.type "tuple", data:=.seq #[.none,.none] }
abbrev g5 (h:Heap) (l1 l2:Addr):Heap:=(g4 h l1 l2).push { cls:=.type "zip", data:=.fields #[.none,.bool false,.bool false,.ref (g2 h l1 l2).objs.size,.ref (g3 h l1 l2).objs.size] }
theorem uWq (l1 l2:Addr) (xs ys:Array Value) :
    Meets (Builtin.«zip.__new__» ⟨[.type "zip", .ref l1,.ref l2],[]⟩) (λ _ R s=>s.heap.IsTuple l1 xs/\s.heap.IsTuple l2 ys/\R (.ok (.ret (.ref (g4 s.heap l1 l2).objs.size))) { s with heap:=g5 s.heap l1 l2 }):=
  .of_wp λ prog w A R s h=>by
    obtain ⟨hp,g,d,tk,os⟩:=s
    obtain ⟨hl1,hl2,h⟩:=h
    have hsub:=sub_zip
    have hL1:Heap.IsTuple (Shared.heap ⟨hp,g,d,tk,os⟩) l1 xs:=hl1
    have hL2:Heap.IsTuple (Shared.heap ⟨g1 hp l1,g,d,tk,os⟩) l2 ys:=Heap.IsTuple.push hl2 _
    wp_walk using wpAny_pyIter_tuple hL1,wpAny_pyIter_tuple hL2
    exact ⟨_,rfl,h⟩
theorem callZ {prog:Program} {w:World} {A:Around} {E:Value->Shared->Prop} {s:Shared} {l1 l2:Addr} {xs ys:Array Value} {Q:Value->Shared->Prop} (hl1:s.heap.IsTuple l1 xs) (hl2:s.heap.IsTuple l2 ys)
    (h:∀ h',St (s.heap.objs.size+4) (s.heap.objs.size+2) (s.heap.objs.size+3) s.heap.objs.size (s.heap.objs.size+1) l1 l2 .none 0 h'->(∀ c o,s.heap.get? c=some o->h'.get? c=some o)->Q (.ref (s.heap.objs.size+4)) { s with heap:=h' }) :
    wpAny (model prog w) A (call (.type "zip") [.ref l1,.ref l2]) Q E s:=by
  refine callType_new F.called_zip (by decide) (F.typeCall_zip_2 _ _) (F.newCall_zip_2 _ _) (λ obj=>F.args_object_init_3 obj _ _) F.entry_zip_new (uWq l1 l2 xs ys) ⟨hl1,hl2,?_⟩
  have z1:(g1 s.heap l1).objs.size=s.heap.objs.size+1:=Heap.size_push ..
  have z2:(g2 s.heap l1 l2).objs.size=s.heap.objs.size+2:=by rw [Heap.size_push,z1]
  have z3:(g3 s.heap l1 l2).objs.size=s.heap.objs.size+3:=by rw [Heap.size_push,z2]
  have z4:(g4 s.heap l1 l2).objs.size=s.heap.objs.size+4:=by rw [Heap.size_push,z3]
  have e5:(g5 s.heap l1 l2).get? (g4 s.heap l1 l2).objs.size=some _:=Heap.get?_push_size _ rfl
  have e4:(g5 s.heap l1 l2).get? (g3 s.heap l1 l2).objs.size=some _:=Heap.get?_push_of_some _ (Heap.get?_push_size _ rfl)
  have e3:(g5 s.heap l1 l2).get? (g2 s.heap l1 l2).objs.size=some _:=Heap.get?_push_of_some _ (Heap.get?_push_of_some _ (Heap.get?_push_size _ rfl))
  have e2:(g5 s.heap l1 l2).get? (g1 s.heap l1).objs.size=some _:=Heap.get?_push_of_some _ (Heap.get?_push_of_some _ (Heap.get?_push_of_some _ (Heap.get?_push_size _ rfl)))
  have e1:(g5 s.heap l1 l2).get? s.heap.objs.size=some _:=Heap.get?_push_of_some _ (Heap.get?_push_of_some _ (Heap.get?_push_of_some _ (Heap.get?_push_of_some _ (Heap.get?_push_size _ rfl))))
  rw [z2,z3,z4] at e5
  rw [z1,z2] at e3
  rw [z3] at e4
  rw [z1] at e2
  show _/\_
  rw [z4]
  exact ⟨⟨_,e5,rfl⟩,h _ ⟨e5,e3,⟨_,_,e4⟩,⟨_,e1,rfl,rfl⟩,⟨_,e2,rfl,rfl⟩⟩ λ c o x=>Heap.get?_push_of_some _ (Heap.get?_push_of_some _ (Heap.get?_push_of_some _ (Heap.get?_push_of_some _ (Heap.get?_push_of_some _ x))))⟩
end KZp
namespace L2
open PySem PySem.Spec PyProof.Rows
theorem Inv.turnedL {X:Cx} {pins:List (Addr × Obj)} {σ:St} {H:Hp} {s:Shared} {h':Heap} {t':Nat} {fp:List Addr} (I:Inv X pins σ H s) (hf:∀ b∈fp,fYq X pins H b) (k:∀ b o,b ∉ fp->s.heap.get? b=some o->h'.get? b=some o):Inv X pins σ H { s with heap:=h',toks:=t' }:=by
  have nit:∀ b u,H b=some u->b ∉ fp:=λ b u e z=>by rw [(hf b z).1] at e;cases e
  refine I.step (g':=s.gens) (d':=s.drawn) (ch:=fp) (λ b hb=>?_) (λ b o _ _ hc e _=>k b o hc e) (λ b o _ _ hc e _=>⟨o.slots,k b o hc e⟩) (λ _ _ _ _ n=>n)
    (λ b o hc e=>⟨o,k b o hc e⟩) (λ _ _ e=>e) (λ _ _ _ e=>e) (λ b ps e=>⟨#[],by rw [e];simp⟩) (λ m hm=>?_) (λ b u e=>?_) I.bare
  . obtain ⟨f0,f1,f2,f3,f4,f5⟩:=hf b hb
    exact ⟨f3,f1,f4,f5⟩
  . obtain ⟨o,es,ep,ho,r⟩:=hm
    exact ⟨o,es,ep,k _ o (λ z=>(hf _ z).2.1 rfl) ho,r⟩
  . refine (I.hok b u e).stay (λ c v hc q=>k c v ?_ q) (λ _ q=>q) λ _ _ q=>q
    rcases hc with z | z
    . rw [z];exact nit b u e
    . exact nit c _ z
theorem apart (n a b:Nat) (h1:a < n) (h2:b < n):ZipApart (n+4) (n+2) (n+3) n (n+1) a b:=by
  constructor<;>(intro e;have e':(@Eq Nat _ _):=e;omega)
def Itz (K:PySem.W.Frag) (a b:Addr):It:=
  ⟨λ i H=>∃ xs ys x y,SqT K H a xs/\SqT K H b ys/\xs[i]?=some x/\ys[i]?=some y,λ i H v H'=>∃ T x y,v=.ref T/\H T=none/\H'=upd H T (.tup [x,y])/\(∀ xs,SqT K H a xs->xs[i]?=some x)/\∀ ys,SqT K H b ys->ys[i]?=some y,λ i H=>∃ xs,SqT K H a xs/\xs.length<=i⟩
theorem jWq {P:Program} {w:World} {K:PySem.W.Frag} {es:List Expr} {k:Nat} {pos:Pos} {z TI TO i1 i2 l1 l2:Addr} (D:ZipApart z TI TO i1 i2 l1 l2) :
    Turn P w K (.Tuple es k pos) (Itz K l1 l2) [z,TI,TO,i1,i2] z (λ i h=>KZp.St z TI TO i1 i2 l1 l2 .none i h) where
  mem:=by simp
  obj:=λ i h st b hb=>by
    simp only [List.mem_cons,List.not_mem_nil,or_false] at hb
    obtain ⟨a1,a2,⟨p,q,a3⟩,⟨o4,a4,_,d4⟩,⟨o5,a5,_,d5⟩⟩:=st
    rcases hb with rfl | rfl | rfl | rfl | rfl
    . exact ⟨_,a1,λ v e=>by cases (show Data.fields _=Data.cell v from e)⟩
    . exact ⟨_,a2,λ v e=>by cases (show Data.seq _ _=Data.cell v from e)⟩
    . exact ⟨_,a3,λ v e=>by cases (show Data.seq _ _=Data.cell v from e)⟩
    . exact ⟨_,a4,λ v e=>by rw [d4] at e;cases e⟩
    . exact ⟨_,a5,λ v e=>by rw [d5] at e;cases e⟩
  keep:=λ i h h' st kk=>by
    obtain ⟨a1,a2,⟨p,q,a3⟩,⟨o4,a4,r4⟩,⟨o5,a5,r5⟩⟩:=st
    exact ⟨kk _ (by simp) _ a1,kk _ (by simp) _ a2,⟨p,q,kk _ (by simp) _ a3⟩,⟨o4,kk _ (by simp) _ a4,r4⟩,⟨o5,kk _ (by simp) _ a5,r5⟩⟩
  item:=by
    intro X hP hw hK hc i pins s σ H E I hf st hg
    subst hP hw hK
    obtain ⟨xs,ys,x,y,hq1,hq2,hx,hy⟩:=hg
    obtain ⟨its1,rv1,p1,_⟩:=I.tuple hq1
    obtain ⟨its2,rv2,p2,_⟩:=I.tuple hq2
    obtain ⟨u1,hu1,ru1⟩:=rv1.get hx
    obtain ⟨u2,hu2,ru2⟩:=rv2.get hy
    refine KZp.nextZ D st (show s.heap.IsTuple l1 its1.toArray from p1) (show s.heap.IsTuple l2 its2.toArray from p2) (x:=u1) (y:=u2) (by simpa using hu1) (by simpa using hu2) λ h' st' hT kk=>?_
    refine ⟨_,rfl,wpAny_letOwnedTupleGo_zip st'.zip λ h2 hz2 k2=>?_⟩
    have kk2:∀ b o,b ∉ [z,TI,TO,i1,i2]->s.heap.get? b=some o->h2.get? b=some o:=λ b o hb e=>by
      simp only [List.mem_cons,List.not_mem_nil,or_false,not_or] at hb
      exact k2.extBut _ _ hb.1 (kk b o hb.1 hb.2.2.1 hb.2.2.2.1 hb.2.2.2.2 e)
    have I1:Inv X pins σ (upd H s.heap.objs.size (.tup [x,y])) { s with heap:=s.heap.push { cls:=.type "tuple", data:=.seq #[u1,u2] } }:=
      I.laid (t':=s.toks) (λ b o e=>Heap.get?_push_of_some _ e) (Nat.le_refl _) (show ObjOk X.prog X.w _ _ _ (.tup [x,y]) from ⟨by show 2<=sizeLine;decide,[u1,u2],.cons ru1 (.cons ru2 .nil),IsTup.new _ _⟩)
    have hzT:s.heap.objs.size≠z:=Nat.ne_of_gt (Heap.lt_size st.zip)
    have lts:∀ b∈[z,TI,TO,i1,i2],b < s.heap.objs.size:=λ b hb=>by
      obtain ⟨a1,a2,⟨p,q,a3⟩,⟨o4,a4,_⟩,⟨o5,a5,_⟩⟩:=st
      simp only [List.mem_cons,List.not_mem_nil,or_false] at hb
      rcases hb with rfl | rfl | rfl | rfl | rfl
      . exact Heap.lt_size a1
      . exact Heap.lt_size a2
      . exact Heap.lt_size a3
      . exact Heap.lt_size a4
      . exact Heap.lt_size a5
    have I2:Inv X pins σ (upd H s.heap.objs.size (.tup [x,y])) { s with heap:=h2 }:=
      Inv.turnedL (s:={ s with heap:=s.heap.push { cls:=.type "tuple", data:=.seq #[u1,u2] } }) (h':=h2) (t':=s.toks) (fp:=[z,TI,TO,i1,i2]) I1 (λ b hb=>by
        obtain ⟨f0,fr⟩:=hf b hb
        exact ⟨by rw [aGq (Nat.ne_of_lt (lts b hb))];exact f0,fr⟩) (λ b o hb e=>by
        rcases Heap.get?_push_cases e with ⟨e1,e2⟩ | e
        . rw [e1,e2];exact k2.extBut _ _ hzT hT
        . exact kk2 b o hb e)
    refine ⟨.ref s.heap.objs.size,_,I2,rfl,⟨_,x,y,rfl,I.hok.fresh (Nat.le_refl _),rfl,λ xs' h=>by rw [I.tuple_inj h hq1];exact hx,λ ys' h=>by rw [I.tuple_inj h hq2];exact hy⟩,?_,λ b hb=>by rw [aGq (Nat.ne_of_lt (lts b hb))];exact (hf b hb).1⟩
    obtain ⟨a1,a2,⟨p,q,a3⟩,⟨o4,a4,r4⟩,⟨o5,a5,r5⟩⟩:=st'
    exact ⟨hz2,k2.extBut _ _ D.TIz a2,⟨p,q,k2.extBut _ _ D.TOz a3⟩,⟨o4,k2.extBut _ _ D.i1z a4,r4⟩,⟨o5,k2.extBut _ _ D.i2z a5,r5⟩⟩
  done:=by
    intro X hP hw hK hc i pins s σ H E I hf st hg
    subst hP hw hK
    obtain ⟨xs,hq1,hx⟩:=hg
    obtain ⟨its1,rv1,p1,_⟩:=I.tuple hq1
    have hl:=rv1.length
    refine KZp.endZ (I.ok.hd hc) D st (show s.heap.IsTuple l1 its1.toArray from p1) (by simp;omega) λ h' kk=>⟨rfl,?_⟩
    exact I.turnedL (t':=s.toks) (fp:=[z,TI,TO,i1,i2]) hf λ b o hb e=>by
      simp only [List.mem_cons,List.not_mem_nil,or_false,not_or] at hb
      exact kk b o hb.1 hb.2.2.1 hb.2.2.2.1 hb.2.2.2.2 e
  self:=λ _ _ _ _ _ st h=>wpAny_pyIter_zip st.zip h
section
variable {X:Cx}
def tVq (K:PySem.W.Frag) (t:TA):TI:=λ σ H R=>t σ H λ vs H1=>∃ a b,vs=[.ref a,.ref b]/\(∃ xs,SqT K H1 a xs)/\(∃ ys,SqT K H1 b ys)/\R (Itz K a b) H1
theorem q0q {es:List Expr} {k:Nat} {tp:Pos} {a b:Expr} {t:TA} {p pos:Pos} (hg:Gl X "zip") (hm:X.mg "zip" = none) (ha:PA X [a,b] t) (h1:aHq a=true) (h2:aHq b=true):PI X (.Tuple es k tp) (.Call (.Name "zip" p) [a,b] [] pos) (tVq X.K t):=by
  intro pins s σ H R I h
  have hs:starEach [a,b] X.env=(false,eval a X.env)::starEach [b] X.env:=a8q h1
  have hp:(backTo pos (starEach [b] X.env)).any (·.1)=false:=by rw [a8q h2];rfl
  refine Call_ (c3q I hg hm PyProof.Rows.boot_zip (PyProof.Rows.callWith_type1 (thn (ha pos pins s σ H _ I h) λ us s1 ⟨vs,H1,I1,r1,l1,l2,ev,⟨xs,q1⟩,⟨ys,q2⟩,q⟩=>?_) hs hp))
  subst ev
  cases r1 with
  | cons r rr=>
    cases rr with
    | cons r' rr=>
      cases rr
      cases r
      cases r'
      obtain ⟨its1,rv1,p1,_⟩:=I1.tuple q1
      obtain ⟨its2,rv2,p2,_⟩:=I1.tuple q2
      refine KZp.callZ (show s1.heap.IsTuple l1 its1.toArray from p1) (show s1.heap.IsTuple l2 its2.toArray from p2) λ h' st kk=>wpAny_pyIter_zip st.zip ?_
      have b1:=p1.lt
      have b2:=p2.lt
      have D:ZipApart (s1.heap.objs.size+4) (s1.heap.objs.size+2) (s1.heap.objs.size+3) s1.heap.objs.size (s1.heap.objs.size+1) l1 l2:=apart _ _ _ b1 b2
      refine ⟨s1.heap.objs.size+4,_,_,_,H1,rfl,I1.kept (t':=s1.toks) kk,jWq D,st,λ b hb=>?_,q⟩
      have hb':s1.heap.objs.size<=b:=by
        simp only [List.mem_cons,List.not_mem_nil,or_false] at hb
        rcases hb with e | e | e | e | e<;>(rw [e];first | exact Nat.le_refl _ | exact Nat.le_add_right _ _)
      exact I1.fpOk hb' (I1.hok.fresh hb')
theorem qTq {es:List Expr} {k:Nat} {tp:Pos} {a b:Expr} {t:TA} {p pos:Pos} (hg:Gl X "zip") (hm:X.mg "zip" = none) (ha:JA X [a,b] t) (h1:aHq a=true:=by rfl) (h2:aHq b=true:=by rfl):JI X (.Tuple es k tp) (.Call (.Name "zip" p) [a,b] [] pos) (tVq X.K t):=⟨q0q hg hm ha.run h1 h2⟩
end
def fzn (o:Obj):HO:=.frz o (.ext λ _=>True)
section
variable {P:Program} {w:World} {H H':Hp} {h h':Heap} {as:List Addr}
end
structure CloAt (H:Hp) (f:Addr) (name qual:Str) (st:Stmt) (cl:List (Str × Addr)) (fvs:List V):Prop where
  fn:∃ (oc:Value) (od:Option Addr) (doc pm cdv ct:Value) (sl:Array (Option Value)),H f=some (fzn ⟨oc,od,.func (PySem.W.fnX name qual (bDq st) (b1q st) (a6q st) cl .none .none doc pm none cdv ct),sl⟩) ∧
    ∃ c o vs t,cdv=.ref c/\H c=some (fzn o)/\o.data=.fields vs/\vs[1]?=some (.str qual t)
  cells:∀ (i:Nat) (x:Str) (c:Addr),cl[i]?=some (x,c)->∃ v u o,fvs[i]?=some v/\RelV v u/\H c=some (fzn o)/\o.data=.cell (some u)
  len:cl.length=fvs.length
  nda:(cl.map (·.2)).Nodup
section
variable {P:Program} {w:World} {K:PySem.W.Frag} {mg:Str->Option Value} {base:Heap} {k:Nat} {name qual:Str} {st:Stmt} {fr:List Str} {fvs:List V} {N ps:List Str} {sp:Sp}
end
section
variable {X:Cx} {k j:Nat} {name qual:Str} {st:Stmt} {fr:List Str} {fvs:List V} {ps:List Str} {x:Str} {sp:Sp} {p pos:Pos} {e:Expr} {es:List Expr} {t:TA}
end
def v4q (env:Env) (fr:List Str):List (Str × Addr):=fr.map λ x=>(x,(env.cells.lookup x).getD 0)
structure MadeAt (env:Env) (H:Hp) (f:Addr) (name qual:Str) (st:Stmt) (fr:List Str):Prop where
  fn:∃ (oc:Value) (od:Option Addr) (doc pm cdv ct:Value) (sl:Array (Option Value)),H f=some (fzn ⟨oc,od,.func (PySem.W.fnX name qual (bDq st) (b1q st) (a6q st) (v4q env fr) .none .none doc pm none cdv ct),sl⟩) ∧
    ∃ c o vs t,cdv=.ref c/\H c=some (fzn o)/\o.data=.fields vs/\vs[1]?=some (.str qual t)
section
variable {X:Cx} {pins:List (Addr × Obj)} {σ:St} {H H2:Hp} {s s':Shared} {as:List Addr}
end
section
variable {X:Cx} {k j:Nat} {g:Addr} {fd:FuncData} {name qual:Str} {st:Stmt} {fr:List Str} {ix:List Nat} {ps:List Str} {x:Str} {sp:Sp} {p pos:Pos} {e:Expr} {es:List Expr} {t:TA}
end
def Tab (H:Hp) (T:Addr) (pos:Pos) (qual:Str):Prop:=∃ ps,H T=some (.tbl ps)/\TriplesOk ps.toList/\(codeAmong pos ps.toList=none\/∃ c o vs t,codeAmong pos ps.toList=some (.ref c)/\H c=some (fzn o)/\o.data=.fields vs/\vs[1]?=some (.str qual t))
section
variable {P:Program} {w:World} {H:Hp} {h h':Heap} {T c:Addr} {ps mo:Array Value} {oc:Obj} {fs ex:List Addr}
end
section
variable {X:Cx} {i:Nat} {T c:Addr} {name:Str} {params:Arguments} {body:List Stmt} {scope:Scope} {pos:Pos} {fr:List Str}
end
section
variable {P:Program} {w:World} {K:PySem.W.Frag} {mg mb:Str->Option Value} {k:Nat} {fa a:Addr} {fd:FuncData} {x:Str} {sp:Sp} {s₁:Shared} {vs:List Value} {ns:List Int} {tabs:List (Addr × Addr)}
end
end L2
namespace L3
open PySem PySem.Spec L2
inductive D where
  | non | bl (b:Bool) | int (i:Int) | str (x:Str) | ref (a:Addr) | ty (n:String) | tup (ds:List D) | frl (ds:List D)
def FrL (K:PySem.W.Frag) (H:Hp) (a:Addr) (xs:List V):Prop:=
  (∃ o,H a=some (.frz o (.lst xs)))\/∃ (o:Obj) (its:Array Value) (n:Nat),K.lookup a=some o/\o.cls=.type "list"/\o.dict=none/\o.data=.seq its n/\its.size<=sizeLine/\Vals xs its.toList
theorem FrL.sq {K:PySem.W.Frag} {H:Hp} {a:Addr} {xs:List V} (h:FrL K H a xs):SqL K H a xs:=by
  rcases h with h | h
  . exact .inl (.inr h)
  . exact .inr h
mutual
def Abs (K:PySem.W.Frag) (H:Hp):D->V->Prop
  | .non,v=>v=.non
  | .bl b,v=>v=.bl b
  | .int i,v=>v=.int i
  | .str x,v=>v=.str x
  | .ref a,v=>v=.ref a
  | .ty n,v=>v=.ty n
  | .tup ds,v=>∃ a vs,v=.ref a/\SqT K H a vs/\AbsL K H ds vs
  | .frl ds,v=>∃ a vs,v=.ref a/\FrL K H a vs/\AbsL K H ds vs
def AbsL (K:PySem.W.Frag) (H:Hp):List D->List V->Prop
  | [],vs=>vs=[]
  | d::ds,vs=>∃ v r,vs=v::r/\Abs K H d v/\AbsL K H ds r
end
structure Mono (K:PySem.W.Frag) (H H':Hp):Prop where
  tp:∀ a xs,SqT K H a xs->SqT K H' a xs
  fr:∀ a xs,FrL K H a xs->FrL K H' a xs
  fz:∀ a o,H a=some (fzn o)->H' a=some (fzn o)
section
variable {K:PySem.W.Frag} {H H':Hp}
mutual
theorem Abs.mono (h:Mono K H H'):∀ {d:D} {v:V},Abs K H d v->Abs K H' d v
  | .non,_,r=>r
  | .bl _,_,r=>r
  | .int _,_,r=>r
  | .str _,_,r=>r
  | .ref _,_,r=>r
  | .ty _,_,r=>r
  | .tup _,_,⟨a,vs,e,q,l⟩=>⟨a,vs,e,h.tp a vs q,AbsL.mono h l⟩
  | .frl _,_,⟨a,vs,e,q,l⟩=>⟨a,vs,e,h.fr a vs q,AbsL.mono h l⟩
theorem AbsL.mono (h:Mono K H H'):∀ {ds:List D} {vs:List V},AbsL K H ds vs->AbsL K H' ds vs
  | [],_,r=>r
  | _::_,_,⟨v,r,e,q,l⟩=>⟨v,r,e,Abs.mono h q,AbsL.mono h l⟩
end
theorem AbsL.len:∀ {ds:List D} {vs:List V},AbsL K H ds vs->vs.length=ds.length
  | [],_,r=>by cases r;rfl
  | _::_,_,⟨v,r,e,_,l⟩=>by subst e;simp [l.len]
theorem AbsL.append:∀ {ds es:List D} {vs us:List V},AbsL K H ds vs->AbsL K H es us->AbsL K H (ds++es) (vs++us)
  | [],_,_,_,r,s=>by cases r;exact s
  | _::_,_,_,_,⟨v,r,e,q,l⟩,s=>by subst e;exact ⟨v,_,rfl,q,l.append s⟩
theorem AbsL.one {d:D} {v:V} (h:Abs K H d v):AbsL K H [d] [v]:=⟨v,[],rfl,h,rfl⟩
theorem AbsL.get:∀ {ds:List D} {vs:List V} {i:Nat} {d:D},AbsL K H ds vs->ds[i]?=some d->∃ v,vs[i]?=some v/\Abs K H d v
  | [],_,_,_,_,e=>by simp at e
  | _::_,_,0,_,⟨v,r,e',q,l⟩,e=>by simp at e;subst e e';exact ⟨v,rfl,q⟩
  | _::_,_,i+1,d,⟨v,r,e',q,l⟩,e=>by
    subst e'
    obtain ⟨u,h1,h2⟩:=AbsL.get (i:=i) (d:=d) l (by simpa using e)
    exact ⟨u,by simpa using h1,h2⟩
theorem AbsL.take:∀ {ds:List D} {vs:List V} (n:Nat),AbsL K H ds vs->AbsL K H (ds.take n) (vs.take n)
  | _,_,0,_=>by simp [AbsL]
  | [],_,n+1,r=>by cases r;simp [AbsL]
  | _::_,_,n+1,⟨v,r,e,q,l⟩=>by subst e;exact ⟨v,_,rfl,q,l.take n⟩
theorem AbsL.drop:∀ {ds:List D} {vs:List V} (n:Nat),AbsL K H ds vs->AbsL K H (ds.drop n) (vs.drop n)
  | _,_,0,r=>r
  | [],_,n+1,r=>by cases r;simp [AbsL]
  | _::_,_,n+1,⟨v,r,e,q,l⟩=>by subst e;exact l.drop n
theorem AbsL.reverse:∀ {ds:List D} {vs:List V},AbsL K H ds vs->AbsL K H ds.reverse vs.reverse
  | [],_,r=>by cases r;simp [AbsL]
  | _::_,_,⟨v,r,e,q,l⟩=>by subst e;rw [List.reverse_cons,List.reverse_cons];exact l.reverse.append (.one q)
theorem AbsL.set {d:D} {v:V} (h:Abs K H d v):∀ {ds:List D} {vs:List V} (i:Nat),AbsL K H ds vs->AbsL K H (ds.set i d) (vs.set i v)
  | [],_,_,r=>by cases r;simp [AbsL]
  | _::_,_,0,⟨u,r,e,q,l⟩=>by subst e;exact ⟨v,r,rfl,h,l⟩
  | _::_,_,i+1,⟨u,r,e,q,l⟩=>by subst e;exact ⟨u,_,rfl,q,l.set h i⟩
theorem AbsL.of_ints:∀ (ns:List Int),AbsL K H (ns.map D.int) (ns.map V.int)
  | []=>rfl
  | n::ns=>⟨_,_,rfl,rfl,AbsL.of_ints ns⟩
end
def cut {α:Type} (xs:List α) (lo hi:Option Int):List α:=(xs.drop (HT.sIx xs.length 0 lo)).take (HT.sIx xs.length xs.length hi - HT.sIx xs.length 0 lo)
theorem AbsL.cut {K:PySem.W.Frag} {H:Hp} {ds:List D} {vs:List V} (h:AbsL K H ds vs) (lo hi:Option Int):AbsL K H (L3.cut ds lo hi) (hXq vs lo hi):=by
  have e:=h.len
  rw [L3.cut,hXq,e]
  exact (h.drop _).take _
inductive DO where
  | lst (ds:List D)
  | ins (C:Addr) (fs:List (Str × D))
  | dK (kvs:List (Key × D))
  | dT (kvs:List (List Key × D))
  | tab (pos:Pos) (qual:Str) | made (env:Env) (name qual:Str) (st:Stmt) (fr:List Str) | clo (name qual:Str) (st:Stmt) (fr:List Str) (vals:List D)
abbrev DV:=Addr->Option DO
abbrev DSt:=List (Option D)
def up (G:DV) (a:Addr) (o:DO):DV:=λ b=>if b=a then some o else G b
theorem a9q {G:DV} {a:Addr} {o:DO}:up G a o a=some o:=by unfold up;rw [if_pos rfl]
theorem aWq {G:DV} {a b:Addr} {o:DO} (h:b≠a):up G a o b=G b:=by unfold up;rw [if_neg h]
theorem lWq {G:DV} {a:Addr} {o u:DO}:up (up G a o) a u=up G a u:=by funext b;unfold up;split<;>rfl
theorem gBq {G:DV} {a b:Addr} {o u:DO} (h:a≠b):up (up G a o) b u=up (up G b u) a o:=by
  funext c;unfold up;split<;>split<;>simp_all
theorem n1q {G:DV} {a:Addr} {o:DO} (h:G a=some o):up G a o=G:=by
  funext b;unfold up;split
  . next e=>rw [e,h]
  . rfl
def tEq {κ:Type} (K:PySem.W.Frag) (H:Hp) (fs:List (κ × D)) (gs:List (κ × V)):Prop:=fs.map (·.1)=gs.map (·.1)/\AbsL K H (fs.map (·.2)) (gs.map (·.2))
def BearO (K:PySem.W.Frag) (H:Hp) (a:Addr):DO->Prop
  | .lst ds=>∃ vs,H a=some (.lst vs)/\AbsL K H ds vs
  | .ins C fs=>∃ dx gs,H a=some (.ins C dx gs)/\tEq K H fs gs
  | .dK kvs=>∃ gs,H a=some (.dK gs)/\tEq K H kvs gs
  | .dT kvs=>∃ gs,H a=some (.dT gs)/\tEq K H kvs gs
  | .tab pos qual=>Tab H a pos qual
  | .made env name qual st fr=>MadeAt env H a name qual st fr
  | .clo name qual st fr vals=>∃ cl fvs,CloAt H a name qual st cl fvs/\cl.map (·.1)=fr/\AbsL K H vals fvs
def Vw (K:PySem.W.Frag) (G:DV) (H:Hp):Prop:=∀ a o,G a=some o->BearO K H a o
theorem BearO.some {K:PySem.W.Frag} {H:Hp} {a:Addr} {o:DO} (h:BearO K H a o):∃ u,H a=.some u:=by
  cases o with
  | lst ds=>obtain ⟨_,e,_⟩:=h;exact ⟨_,e⟩
  | ins C fs=>obtain ⟨_,_,e,_⟩:=h;exact ⟨_,e⟩
  | dK kvs=>obtain ⟨_,e,_⟩:=h;exact ⟨_,e⟩
  | dT kvs=>obtain ⟨_,e,_⟩:=h;exact ⟨_,e⟩
  | tab pos qual=>obtain ⟨_,e,_⟩:=h;exact ⟨_,e⟩
  | made env name qual st fr=>obtain ⟨_,_,_,_,_,_,_,e,_⟩:=h.fn;exact ⟨_,e⟩
  | clo name qual st fr vals=>obtain ⟨_,_,h,_⟩:=h;obtain ⟨_,_,_,_,_,_,_,e,_⟩:=h.fn;exact ⟨_,e⟩
theorem Vw.none {K:PySem.W.Frag} {G:DV} {H:Hp} (h:Vw K G H) {a:Addr} (e:H a=.none):G a=.none:=by
  cases q:G a with
  | none=>rfl
  | some o=>obtain ⟨u,z⟩:=(h a o q).some;rw [e] at z;cases z
theorem BearO.mono {K:PySem.W.Frag} {H H':Hp} {a:Addr} {o:DO} (ht:Mono K H H') (e:H' a=H a) (h:BearO K H a o):BearO K H' a o:=by
  cases o with
  | lst ds=>obtain ⟨vs,q,l⟩:=h;exact ⟨vs,by rw [e];exact q,l.mono ht⟩
  | ins C fs=>obtain ⟨dx,gs,q,l⟩:=h;exact ⟨dx,gs,by rw [e];exact q,l.1,l.2.mono ht⟩
  | dK kvs=>obtain ⟨gs,q,l⟩:=h;exact ⟨gs,by rw [e];exact q,l.1,l.2.mono ht⟩
  | dT kvs=>obtain ⟨gs,q,l⟩:=h;exact ⟨gs,by rw [e];exact q,l.1,l.2.mono ht⟩
  | tab pos qual=>
    obtain ⟨ps,h1,h2,h3⟩:=h
    refine ⟨ps,by rw [e];exact h1,h2,?_⟩
    rcases h3 with h3 | ⟨c,o,vs,t,h3,h4,h5⟩
    . exact .inl h3
    . exact .inr ⟨c,o,vs,t,h3,ht.fz _ _ h4,h5⟩
  | made env name qual st fr=>
    obtain ⟨oc,od,doc,pm,cdv,ct,sl,h1,c,o,vs,t,h2,h3,h4⟩:=h.fn
    exact ⟨oc,od,doc,pm,cdv,ct,sl,ht.fz _ _ h1,c,o,vs,t,h2,ht.fz _ _ h3,h4⟩
  | clo name qual st fr vals=>
    obtain ⟨cl,fvs,C,h1,h2⟩:=h
    obtain ⟨oc,od,doc,pm,cdv,ct,sl,h3,c,o,vs,t,h4,h5,h6⟩:=C.fn
    exact ⟨cl,fvs,⟨⟨oc,od,doc,pm,cdv,ct,sl,ht.fz _ _ h3,c,o,vs,t,h4,ht.fz _ _ h5,h6⟩,λ i x c hi=>let ⟨v,u,o,z1,z2,z3,z4⟩:=C.cells i x c hi;⟨v,u,o,z1,z2,ht.fz _ _ z3,z4⟩,C.len,C.nda⟩,h1,h2.mono ht⟩
structure Go (K:PySem.W.Frag) (G:DV) (H:Hp) (G':DV) (H':Hp):Prop where
  tup:Mono K H H'
  dom:∀ a o,H a=some o->∃ o',H' a=some o'
  same:∀ a o,H a=some o->G a=none->H' a=some o
  new:∀ a o,H a=some o->G a=none->G' a=none
  vw:Vw K G' H'
section
variable {K:PySem.W.Frag} {G G1 G2 G':DV} {H H1 H2 H':Hp}
theorem Go.refl (v:Vw K G H):Go K G H G H:=⟨⟨λ _ _ h=>h,λ _ _ h=>h,λ _ _ h=>h⟩,λ _ o e=>⟨o,e⟩,λ _ _ e _=>e,λ _ _ _ e=>e,v⟩
theorem Go.trans (a:Go K G H G1 H1) (b:Go K G1 H1 G2 H2):Go K G H G2 H2:=
  ⟨⟨λ x xs h=>b.tup.tp x xs (a.tup.tp x xs h),λ x xs h=>b.tup.fr x xs (a.tup.fr x xs h),λ x o h=>b.tup.fz x o (a.tup.fz x o h)⟩,λ x o e=>let ⟨o',e'⟩:=a.dom x o e;b.dom x o' e',λ x o e n=>b.same x o (a.same x o e n) (a.new x o e n),
   λ x o e n=>b.new x o (a.same x o e n) (a.new x o e n),b.vw⟩
def Sub (G G':DV):Prop:=∀ a o,G a=some o->G' a=some o
theorem Sub.refl (G:DV):Sub G G:=λ _ _ e=>e
theorem Sub.trans {G G1 G2:DV} (a:Sub G G1) (b:Sub G1 G2):Sub G G2:=λ x o e=>b x o (a x o e)
theorem Sub.none {G G':DV} (h:Sub G G') {a:Addr} (e:G' a=.none):G a=.none:=by
  cases q:G a with
  | none=>rfl
  | some o=>rw [h a o q] at e;cases e
theorem Vw.sub (v:Vw K G' H) (h:Sub G G'):Vw K G H:=λ a o e=>v a o (h a o e)
theorem Go.sub (g:Go K G H G1 H1) (h:Sub G2 G1):Go K G H G2 H1:=⟨g.tup,g.dom,g.same,λ x o e n=>h.none (g.new x o e n),g.vw.sub h⟩
theorem mXq {a p:Addr} {o:HO} {xs:List V} (hp:∀ ys,¬ Rd H p (.tup ys)) (h:SqT K H a xs):SqT K (upd H p o) a xs:=by
  rcases h with h | h
  . have ne:a≠p:=by rintro rfl;exact hp _ h
    refine .inl ?_
    unfold Rd at h ⊢
    rw [aGq ne];exact h
  . exact .inr h
theorem n2q {p:Addr} {ys:List V} (h:H p=none):¬ Rd H p (.tup ys):=by
  rintro (e | ⟨o,e⟩)<;>rw [h] at e<;>cases e
theorem r8q {p:Addr} {xs ys:List V} (h:H p=some (.lst xs)):¬ Rd H p (.tup ys):=by
  rintro (e | ⟨o,e⟩)<;>rw [h] at e<;>cases e
theorem h3q {p:Addr} {o:HO} (hp:∀ ys,¬ Rd H p (.tup ys)) (hl:∀ o ys,H p≠some (.frz o ys)):Mono K H (upd H p o) where
  tp:=λ _ _ q=>mXq hp q
  fr:=λ a xs q=>by
    rcases q with ⟨z,q⟩ | q
    . exact .inl ⟨z,by rw [aGq (by rintro rfl;exact hl _ _ q)];exact q⟩
    . exact .inr q
  fz:=λ a u q=>by rw [aGq (by rintro rfl;exact hl _ _ q)];exact q
theorem c1q {p:Addr} {o:HO} (h:H p=none):Mono K H (upd H p o):=h3q (λ _=>n2q h) λ _ _ e=>by rw [h] at e;cases e
theorem b4q {p:Addr} {o:HO} {xs:List V} (h:H p=some (.lst xs)):Mono K H (upd H p o):=h3q (λ _=>r8q h) λ _ _ e=>by rw [h] at e;cases e
theorem Go.newT (v:Vw K G H) {p:Addr} {o:HO} (h:H p=none):Go K G H G (upd H p o) where
  tup:=c1q h
  dom:=λ a u e=>⟨u,by rw [aGq (aIq e h)];exact e⟩
  same:=λ a u e _=>by rw [aGq (aIq e h)];exact e
  new:=λ _ _ _ e=>e
  vw:=λ a u e=>(v a u e).mono (c1q h) (aGq (by rintro rfl;obtain ⟨z,q⟩:=(v _ _ e).some;rw [h] at q;cases q))
theorem Go.newL (v:Vw K G H) {p:Addr} {ds:List D} {vs:List V} (h:H p=none) (r:AbsL K H ds vs):Go K G H (up G p (.lst ds)) (upd H p (.lst vs)) where
  tup:=c1q h
  dom:=λ a u e=>⟨u,by rw [aGq (aIq e h)];exact e⟩
  same:=λ a u e _=>by rw [aGq (aIq e h)];exact e
  new:=λ a u e n=>by rw [aWq (aIq e h)];exact n
  vw:=λ a u e=>by
    by_cases c:a=p
    . subst c;rw [a9q] at e;cases e
      exact ⟨vs,aRq,r.mono (c1q h)⟩
    . rw [aWq c] at e
      exact (v a u e).mono (c1q h) (aGq c)
theorem Go.setL (v:Vw K G H) {p:Addr} {ds0 ds:List D} {vs:List V} (h:G p=some (.lst ds0)) (r:AbsL K H ds vs):Go K G H (up G p (.lst ds)) (upd H p (.lst vs)):=by
  obtain ⟨us,hp,_⟩:=v p _ h
  exact {
    tup:=b4q hp
    dom:=λ a u e=>by
      by_cases c:a=p
      . subst c;exact ⟨_,aRq⟩
      . exact ⟨u,by rw [aGq c];exact e⟩
    same:=λ a u e n=>by
      have c:a≠p:=by rintro rfl;rw [h] at n;cases n
      rw [aGq c];exact e
    new:=λ a u e n=>by
      have c:a≠p:=by rintro rfl;rw [h] at n;cases n
      rw [aWq c];exact n
    vw:=λ a u e=>by
      by_cases c:a=p
      . subst c;rw [a9q] at e;cases e
        exact ⟨vs,aRq,r.mono (b4q hp)⟩
      . rw [aWq c] at e
        exact (v a u e).mono (b4q hp) (aGq c) }
theorem Go.grow (v:Vw K G H) (h:Same H H'):Go K G H G H':=by
  have ht:Mono K H H':=⟨λ b xs q=>by
    rcases q with q | q
    . rcases q with q | ⟨o,q⟩
      . exact .inl (.inl (h _ _ q))
      . exact .inl (.inr ⟨o,h _ _ q⟩)
    . exact .inr q,λ b xs q=>by
    rcases q with ⟨o,q⟩ | q
    . exact .inl ⟨o,h _ _ q⟩
    . exact .inr q,λ b o q=>h _ _ q⟩
  exact ⟨ht,λ a o e=>⟨o,h a o e⟩,λ a o e _=>h a o e,λ _ _ _ e=>e,λ a u e=>by
    obtain ⟨z,q⟩:=(v a u e).some
    exact (v a u e).mono ht (by rw [q];exact h _ _ q)⟩
end
structure Bears (K:PySem.W.Frag) (ρ:DSt) (G:DV) (σ:St) (H:Hp):Prop where
  len:ρ.length=σ.length
  st:∀ (i:Nat) (d:D),ρ[i]?=some (some d)->∃ v,σ[i]?=some (some v)/\Abs K H d v
  vw:Vw K G H
theorem Bears.go {K:PySem.W.Frag} {ρ:DSt} {G G':DV} {σ:St} {H H':Hp} (b:Bears K ρ G σ H) (g:Go K G H G' H'):Bears K ρ G' σ H':=
  ⟨b.len,λ i d e=>let ⟨v,h1,h2⟩:=b.st i d e;⟨v,h1,h2.mono g.tup⟩,g.vw⟩
theorem Bears.set {K:PySem.W.Frag} {ρ:DSt} {G:DV} {σ:St} {H:Hp} {d:D} {v:V} (b:Bears K ρ G σ H) (h:Abs K H d v) (i:Nat):Bears K (ρ.set i (some d)) G (σ.set i (some v)) H where
  len:=by simp [b.len]
  vw:=b.vw
  st:=λ j e he=>by
    by_cases c:j=i
    . subst c
      rw [List.getElem?_set] at he ⊢
      have l:=b.len
      simp only [if_true] at he ⊢
      split at he
      . next q=>rw [if_pos (by omega)];simp at he;subst he;exact ⟨v,rfl,h⟩
      . cases he
    . rw [List.getElem?_set_ne (by omega)] at he ⊢
      exact b.st j e he
def StSub (ρ ρ':DSt):Prop:=ρ.length=ρ'.length/\∀ (i:Nat) (d:D),ρ[i]?=some (some d)->ρ'[i]?=some (some d)
theorem StSub.refl (ρ:DSt):StSub ρ ρ:=⟨rfl,λ _ _ e=>e⟩
theorem Bears.weak {K:PySem.W.Frag} {ρ ρ':DSt} {G G':DV} {σ:St} {H:Hp} (b:Bears K ρ' G' σ H) (s:StSub ρ ρ') (g:Sub G G'):Bears K ρ G σ H:=
  ⟨s.1.trans b.len,λ i d e=>b.st i d (s.2 i d e),b.vw.sub g⟩
abbrev DK:=D->DV->Prop
abbrev DTE:=DSt->DV->DK->Prop
abbrev DTT:=DSt->DV->(Bool->DV->Prop)->Prop
abbrev DTA:=DSt->DV->(List D->DV->Prop)->Prop
abbrev DTO:=DSt->DV->(Option Int->DV->Prop)->Prop
structure DEnds where
  nx:DSt->DV->Prop
  rt:DK
  bk:DSt->DV->Prop:=λ _ _=>False
  ct:DSt->DV->Prop:=λ _ _=>False
abbrev DTS:=DEnds->DSt->DV->Prop
abbrev Fin (K:PySem.W.Frag) (G:DV) (H:Hp) (DQ:DK) (Q:VK):Prop:=∀ d G' v H',Go K G H G' H'->Abs K H' d v->DQ d G'->Q v H'
abbrev uFq (K:PySem.W.Frag) (G:DV) (H:Hp) (DQ:Bool->DV->Prop) (Q:Bool->Hp->Prop):Prop:=∀ b G' H',Go K G H G' H'->DQ b G'->Q b H'
abbrev v9q (K:PySem.W.Frag) (G:DV) (H:Hp) (DQ:Option Int->DV->Prop) (Q:Option Int->Hp->Prop):Prop:=∀ b G' H',Go K G H G' H'->DQ b G'->Q b H'
abbrev uSq (K:PySem.W.Frag) (n:Nat) (G:DV) (H:Hp) (DQ:List D->DV->Prop) (Q:List V->Hp->Prop):Prop:=∀ ds G' vs H',Go K G H G' H'->AbsL K H' ds vs->ds.length=n->DQ ds G'->Q vs H'
structure AE (X:Cx) (e:Expr) (t:DTE):Prop where
  run:∃ tc:TE,JE X e tc/\∀ ρ G DQ σ H Q,Bears X.K ρ G σ H->t ρ G DQ->Fin X.K G H DQ Q->tc σ H Q
structure AT (X:Cx) (e:Expr) (t:DTT):Prop where
  run:∃ tc:TT,JT X e tc/\∀ ρ G DQ σ H Q,Bears X.K ρ G σ H->t ρ G DQ->uFq X.K G H DQ Q->tc σ H Q
structure AW (X:Cx) (e:Expr) (t:DTT):Prop where
  run:∃ tc:TT,JW X e tc/\∀ ρ G DQ σ H Q,Bears X.K ρ G σ H->t ρ G DQ->uFq X.K G H DQ Q->tc σ H Q
structure AA (X:Cx) (es:List Expr) (t:DTA):Prop where
  run:∃ tc:TA,JA X es tc/\∀ ρ G DQ σ H Q,Bears X.K ρ G σ H->t ρ G DQ->uSq X.K es.length G H DQ Q->tc σ H Q
structure AO (X:Cx) (e:Option Expr) (t:DTO):Prop where
  run:∃ tc:TO,JO X e tc/\∀ ρ G DQ σ H Q,Bears X.K ρ G σ H->t ρ G DQ->v9q X.K G H DQ Q->tc σ H Q
structure EndsOk (K:PySem.W.Frag) (G:DV) (H:Hp) (DD:DEnds) (Dc:Ends):Prop where
  nx:∀ ρ G' σ H',Go K G H G' H'->Bears K ρ G' σ H'->DD.nx ρ G'->Dc.nx σ H'
  rt:Fin K G H DD.rt Dc.rt
  bk:∀ ρ G' σ H',Go K G H G' H'->Bears K ρ G' σ H'->DD.bk ρ G'->Dc.bk σ H'
  ct:∀ ρ G' σ H',Go K G H G' H'->Bears K ρ G' σ H'->DD.ct ρ G'->Dc.ct σ H'
structure AS (X:Cx) (st:Stmt) (t:DTS):Prop where
  run:∃ tc:TS,JS X st tc/\∀ DD Dc ρ G σ H,Bears X.K ρ G σ H->t DD ρ G->EndsOk X.K G H DD Dc->tc Dc σ H
structure AB (X:Cx) (st:List Stmt) (t:DTS):Prop where
  run:∃ tc:TS,JB X st tc/\∀ DD Dc ρ G σ H,Bears X.K ρ G σ H->t DD ρ G->EndsOk X.K G H DD Dc->tc Dc σ H
abbrev DTG:=D->DSt->DV->(DSt->DV->Prop)->Prop
abbrev hWq:=List D->DSt->DV->(DSt->DV->Prop)->Prop
abbrev sAq (K:PySem.W.Frag) (G:DV) (H:Hp) (DQ:DSt->DV->Prop) (Q:St->Hp->Prop):Prop:=∀ ρ G' σ H',Go K G H G' H'->Bears K ρ G' σ H'->DQ ρ G'->Q σ H'
structure AG (X:Cx) (tg:Expr) (t:DTG):Prop where
  run:∃ tc:TG,JG X tg tc/\∀ d v ρ G DQ σ H Q,Bears X.K ρ G σ H->Abs X.K H d v->t d ρ G DQ->sAq X.K G H DQ Q->tc v σ H Q
structure AGs (X:Cx) (tgs:List Expr) (t:hWq):Prop where
  run:∃ tc:TGs,JGs X tgs tc/\∀ ds vs ρ G DQ σ H Q,Bears X.K ρ G σ H->AbsL X.K H ds vs->t ds ρ G DQ->sAq X.K G H DQ Q->tc vs σ H Q
abbrev DR1:=D->DV->DK->Prop
abbrev DR2:=D->D->DV->DK->Prop
abbrev DRL:=List D->DV->DK->Prop
structure AOp (X:Cx) (f:Value->Value->Sem Value) (r:DR2):Prop where
  run:∃ rc:R2,JOp X f rc/\∀ x y vx vy G H DQ Q,Vw X.K G H->Abs X.K H x vx->Abs X.K H y vy->r x y G DQ->Fin X.K G H DQ Q->rc vx vy H Q
structure AUn (X:Cx) (f:Value->Sem Value) (r:DR1):Prop where
  run:∃ rc:V->Hp->VK->Prop,JUn X f rc/\∀ x vx G H DQ Q,Vw X.K G H->Abs X.K H x vx->r x G DQ->Fin X.K G H DQ Q->rc vx H Q
structure ACall (X:Cx) (f:Value) (r:DRL):Prop where
  run:∃ rc:List V->Hp->VK->Prop,JCall X f rc/\∀ xs vs G H DQ Q,Vw X.K G H->AbsL X.K H xs vs->r xs G DQ->Fin X.K G H DQ Q->rc vs H Q
structure AIx (X:Cx) (r:DR2):Prop where
  run:∃ rc:R2,JIx X rc/\∀ x y vx vy G H DQ Q,Vw X.K G H->Abs X.K H x vx->Abs X.K H y vy->r x y G DQ->Fin X.K G H DQ Q->rc vx vy H Q
structure ASl (X:Cx) (r:D->Option Int->Option Int->DV->DK->Prop):Prop where
  run:∃ rc,JSl X rc/\∀ x vx lo hi G H DQ Q,Vw X.K G H->Abs X.K H x vx->r x lo hi G DQ->Fin X.K G H DQ Q->rc vx lo hi H Q
theorem Fin.after {K:PySem.W.Frag} {G G1:DV} {H H1:Hp} {DQ:DK} {Q:VK} (F:Fin K G H DQ Q) (g:Go K G H G1 H1):Fin K G1 H1 DQ Q:=λ d G' v H' g' a q=>F d G' v H' (g.trans g') a q
theorem EndsOk.after {K:PySem.W.Frag} {G G1:DV} {H H1:Hp} {DD:DEnds} {Dc:Ends} (F:EndsOk K G H DD Dc) (g:Go K G H G1 H1):EndsOk K G1 H1 DD Dc:=
  ⟨λ ρ G' σ H' g' b q=>F.nx ρ G' σ H' (g.trans g') b q,λ d G' v H' g' a q=>F.rt d G' v H' (g.trans g') a q,λ ρ G' σ H' g' b q=>F.bk ρ G' σ H' (g.trans g') b q,λ ρ G' σ H' g' b q=>F.ct ρ G' σ H' (g.trans g') b q⟩
end L3
namespace L3
open PySem PySem.Spec L2
section
variable {X:Cx} {a b c e o i:Expr} {es:List Expr} {ta tb te to ti:DTE} {t:DTA} {pos p apos cpos:Pos}
abbrev dC (d:D):DTE:=λ _ G Q=>Q d G
abbrev u2q (k:Nat):DTE:=λ ρ G Q=>match ρ[k]? with
  | some (some d)=>Q d G
  | _=>False
theorem q6q {v:V} {d:D} (h:JE X e (tC v)) (r:∀ H,Abs X.K H d v):AE X e (dC d):=⟨_,h,λ ρ G DQ σ H Q B q F=>F d G v H (.refl B.vw) (r H) q⟩
theorem a2q {n:Int} {j}:AE X (.Constant (.int n) j pos) (dC (.int n)):=q6q pHq λ _=>rfl
theorem kNq {n:Bool} {j}:AE X (.Constant (.bool n) j pos) (dC (.bl n)):=q6q sNq λ _=>rfl
theorem aBq {x:Str} {j}:AE X (.Constant (.str x) j pos) (dC (.str x)):=q6q qDq λ _=>rfl
theorem a1q (k:Nat) {x:Str} (hN:X.N[k]?=some x:=by rfl) (hv:Vis X.env.scope x:=by first | exact Or.inl rfl | exact Or.inr (Or.inl rfl) | exact Or.inr (Or.inr rfl)) (hd:(x==("__debug__" : Str))=false:=by decide)
    (hcd:(x==("__classdict__" : Str))=false:=by decide):AE X (.Name x pos) (u2q k):=⟨_,jv k hN hv hd hcd,λ ρ G DQ σ H Q B q F=>by
  unfold u2q at q
  split at q
  . next d h=>
    obtain ⟨v,h1,h2⟩:=B.st k d h
    exact ⟨v,h1,F d G v H (.refl B.vw) h2 q⟩
  . exact q.elim⟩
theorem bLq {x:Str} {n:String} (hg:Gl X x) (hm:X.mg x=none) (hv:bootBuiltins x=some (.type n)) (hn:x≠"__name__":=by decide) (hd:(x==("__debug__" : Str))=false:=by decide):AE X (.Name x pos) (dC (.ty n)):=
  q6q (nSq (v:=.ty n) hg hm hv rfl hn hd) λ _=>rfl
theorem eOq {x:Str} {v:V} {u:Value} {d:D} (hg:Gl X x) (hm:X.mg x=some u) (r:RelV v u) (ha:∀ H,Abs X.K H d v) (hd:(x==("__debug__" : Str))=false:=by decide):AE X (.Name x pos) (dC d):=q6q (mYq hg hm r hd) ha
abbrev v2q:DTA:=λ _ G Q=>Q [] G
abbrev tIq (ta:DTE) (tr:DTA):DTA:=λ ρ G Q=>ta ρ G λ x G1=>tr ρ G1 λ xs G2=>Q (x::xs) G2
theorem a3q:AA X [] v2q:=⟨_,qYq,λ ρ G DQ σ H Q B q F=>F [] G [] H (.refl B.vw) rfl rfl q⟩
theorem a0q (ha:AE X e te) (hr:AA X es t) (hs:aHq e=true:=by rfl):AA X (e::es) (tIq te t):=by
  obtain ⟨ca,ja,ra⟩:=ha.run
  obtain ⟨cr,jr,rr⟩:=hr.run
  refine ⟨_,m6q ja jr hs,λ ρ G DQ σ H Q B q F=>?_⟩
  refine ra ρ G _ σ H _ B q λ x G1 v H1 g1 ax q1=>rr ρ G1 _ σ H1 _ (B.go g1) q1 λ xs G2 vs H2 g2 axs hl q2=>?_
  exact F (x::xs) G2 (v::vs) H2 (g1.trans g2) ⟨v,vs,rfl,ax.mono g2.tup,axs⟩ (by simp [hl]) q2
abbrev v8q (t:DTA):DTE:=λ ρ G Q=>t ρ G λ ds G1=>Q (.tup ds) G1
abbrev v5q (t:DTA):DTE:=λ ρ G Q=>t ρ G λ ds G1=>∀ p,G1 p=none->Q (.ref p) (up G1 p (.lst ds))
theorem gKq {n:Nat} (h:Nat.ble n 1000=true):n<=sizeLine:=by
  have:=Nat.le_of_ble_eq_true h
  rw [sizeLine_eq];omega
theorem aLq {x1} (h:AA X es t) (hl:Nat.ble es.length 1000=true:=by rfl):AE X (.Tuple es x1 pos) (v8q t):=by
  obtain ⟨ca,ja,ra⟩:=h.run
  refine ⟨_,nZq ja,λ ρ G DQ σ H Q B q F=>ra ρ G _ σ H _ B q λ ds G1 vs H1 g1 al hn q1=>⟨by rw [al.len,hn];exact gKq hl,λ p hp=>?_⟩⟩
  have g2:=Go.newT (o:=.tup vs) g1.vw hp
  exact F (.tup ds) G1 _ _ (g1.trans g2) ⟨p,vs,rfl,.of aRq,al.mono g2.tup⟩ q1
theorem f4q (h:AA X es t) (hl:Nat.ble es.length 1000=true:=by rfl):AE X (.List es pos) (v5q t):=by
  obtain ⟨ca,ja,ra⟩:=h.run
  refine ⟨_,l1q ja,λ ρ G DQ σ H Q B q F=>ra ρ G _ σ H _ B q λ ds G1 vs H1 g1 al hn q1=>⟨by rw [al.len,hn];exact gKq hl,λ p hp=>?_⟩⟩
  exact F (.ref p) _ _ _ (g1.trans (Go.newL g1.vw hp al)) rfl (q1 p (g1.vw.none hp))
def atN (ds:List D):Int->Option D
  | .ofNat k=>ds[k]?
  | .negSucc k=>atI ds (.negSucc k)
theorem lAq (ds:List D) (i:Int):atN ds i=atI ds i:=by
  cases i with
  | negSucc k=>rfl
  | ofNat k=>
    show ds[k]?=atI ds (k:Int)
    by_cases h:k < ds.length
    . rw [List.getElem?_eq_getElem h]
      exact (eNq (List.getElem?_eq_getElem h)).symm
    . rw [List.getElem?_eq_none (by omega)]
      unfold atI ixN
      rw [if_pos (by omega),if_neg (by omega)];rfl
def atD (ds:List D) (i:Int) (G:DV) (Q:DK):Prop:=match atN ds i with
  | some d=>Q d G
  | none=>False
theorem iNq {ds:List D} {i:Int} {G:DV} {Q:DK} {d:D} (h:atI ds i=some d) (q:Q d G):atD ds i G Q:=by unfold atD;rw [lAq,h];exact q
@[irreducible] def onL (G:DV) (l:Addr) (k:List D->Prop):Prop:=match G l with
  | some (.lst ds)=>k ds
  | _=>False
@[irreducible] def onM (G:DV) (l:Addr) (k:List D->Prop):Prop:=match G l with
  | some (.lst ds)=>k ds
  | _=>False
theorem aPq {G:DV} {l:Addr} {k:List D->Prop} {ds:List D} (h:G l=some (.lst ds)) (q:k ds):onL G l k:=by unfold onL;rw [h];exact q
theorem bBq {G:DV} {l:Addr} {k:List D->Prop} {ds:List D} (h:G l=some (.lst ds)) (q:k ds):onM G l k:=by unfold onM;rw [h];exact q
theorem aYq {K:PySem.W.Frag} {G:DV} {H:Hp} {l:Addr} {k:List D->Prop} (v:Vw K G H) (h:onL G l k):∃ ds vs,k ds/\SqL K H l vs/\AbsL K H ds vs:=by
  unfold onL at h
  split at h
  . next ds e=>obtain ⟨vs,z,r⟩:=v _ _ e;exact ⟨ds,vs,h,.of z,r⟩
  . exact h.elim
theorem bOq {K:PySem.W.Frag} {G:DV} {H:Hp} {l:Addr} {k:List D->Prop} (v:Vw K G H) (h:onM G l k):∃ ds vs,k ds/\G l=some (.lst ds)/\H l=some (.lst vs)/\AbsL K H ds vs:=by
  unfold onM at h
  split at h
  . next ds e=>obtain ⟨vs,z,r⟩:=v _ _ e;exact ⟨ds,vs,h,e,z,r⟩
  . exact h.elim
abbrev dOp (r:DR2) (ta tb:DTE):DTE:=λ ρ G Q=>ta ρ G λ x G1=>tb ρ G1 λ y G2=>r x y G2 Q
abbrev dUn (r:DR1) (ta:DTE):DTE:=λ ρ G Q=>ta ρ G λ x G1=>r x G1 Q
theorem aFq {op:Operator} {r:DR2} (ho:AOp X (binaryOp op) r) (ha:AE X a ta) (hb:AE X b tb):AE X (.BinOp a op b pos) (dOp r ta tb):=by
  obtain ⟨ca,ja,ra⟩:=ha.run
  obtain ⟨cb,jb,rb⟩:=hb.run
  obtain ⟨co,jo,ro⟩:=ho.run
  refine ⟨_,sCq jo ja jb,λ ρ G DQ σ H Q B q F=>?_⟩
  exact ra ρ G _ σ H _ B q λ x G1 v H1 g1 ax q1=>rb ρ G1 _ σ H1 _ (B.go g1) q1 λ y G2 u H2 g2 ay q2=>ro x y v u G2 H2 DQ Q g2.vw (ax.mono g2.tup) ay q2 (F.after (g1.trans g2))
theorem fBq {op:CmpOp} {r:DR2} (ho:AOp X (compareOp op) r) (ha:AE X a ta) (hb:AE X b tb) (hm:behindInMarks op b=false):AE X (.Compare a [op] [b] pos) (dOp r ta tb):=by
  obtain ⟨ca,ja,ra⟩:=ha.run
  obtain ⟨cb,jb,rb⟩:=hb.run
  obtain ⟨co,jo,ro⟩:=ho.run
  refine ⟨_,mHq jo ja jb hm,λ ρ G DQ σ H Q B q F=>?_⟩
  exact ra ρ G _ σ H _ B q λ x G1 v H1 g1 ax q1=>rb ρ G1 _ σ H1 _ (B.go g1) q1 λ y G2 u H2 g2 ay q2=>ro x y v u G2 H2 DQ Q g2.vw (ax.mono g2.tup) ay q2 (F.after (g1.trans g2))
theorem jKq {op:UnaryOp} {r:DR1} (ho:AUn X (unaryOp op) r) (ha:AE X a ta):AE X (.UnaryOp op a pos) (dUn r ta):=by
  obtain ⟨ca,ja,ra⟩:=ha.run
  obtain ⟨co,jo,ro⟩:=ho.run
  refine ⟨_,t8q jo ja,λ ρ G DQ σ H Q B q F=>?_⟩
  exact ra ρ G _ σ H _ B q λ x G1 v H1 g1 ax q1=>ro x v G1 H1 DQ Q g1.vw ax q1 (F.after g1)
theorem b3q {r:DR2} (hr:AIx X r) (ha:AE X a ta) (hb:AE X b tb) (hs:eVq b):AE X (.Subscript a b pos) (dOp r ta tb):=by
  obtain ⟨ca,ja,ra⟩:=ha.run
  obtain ⟨cb,jb,rb⟩:=hb.run
  obtain ⟨co,jo,ro⟩:=hr.run
  refine ⟨_,nXq jo ja jb hs,λ ρ G DQ σ H Q B q F=>?_⟩
  exact ra ρ G _ σ H _ B q λ x G1 v H1 g1 ax q1=>rb ρ G1 _ σ H1 _ (B.go g1) q1 λ y G2 u H2 g2 ay q2=>ro x y v u G2 H2 DQ Q g2.vw (ax.mono g2.tup) ay q2 (F.after (g1.trans g2))
def Br (c:Bool) (A B:Prop):Prop:=(c=true->A)/\(c=false->B)
abbrev blD (x:D) (k:Bool->Prop):Prop:=match x with
  | .bl c=>k c
  | _=>False
theorem gIq {K:PySem.W.Frag} {H:Hp} {x:D} {v:V} {k:Bool->Prop} (h:blD x k) (r:Abs K H x v):∃ c,v=.bl c/\x=.bl c/\k c:=by
  unfold blD at h
  split at h
  . exact ⟨_,r,rfl,h⟩
  . exact h.elim
abbrev tAq (ta tb:DTE):DTE:=λ ρ G Q=>ta ρ G λ x G1=>blD x λ c=>Br c (tb ρ G1 Q) (Q (.bl false) G1)
abbrev tCq (ta:DTE):DTE:=λ ρ G Q=>ta ρ G λ x G1=>blD x λ c=>Q (.bl (!c)) G1
theorem gVq {op} (h:AE X a ta):AE X (.BoolOp op [a] pos) ta:=by
  obtain ⟨ca,ja,ra⟩:=h.run
  exact ⟨_,p3q ja,ra⟩
theorem dYq {rest:List Expr} (ha:AE X a ta) (hb:AE X (.BoolOp .And (b::rest) pos) tb):AE X (.BoolOp .And (a::b::rest) pos) (tAq ta tb):=by
  obtain ⟨ca,ja,ra⟩:=ha.run
  obtain ⟨cb,jb,rb⟩:=hb.run
  refine ⟨_,oZq ja jb,λ ρ G DQ σ H Q B q F=>ra ρ G _ σ H _ B q λ x G1 v H1 g1 ax q1=>?_⟩
  obtain ⟨c,e1,e2,q2⟩:=gIq q1 ax
  refine ⟨c,e1,?_⟩
  cases c with
  | true=>exact rb ρ G1 _ σ H1 _ (B.go g1) (q2.1 rfl) (F.after g1)
  | false=>exact F (.bl false) _ _ _ g1 rfl (q2.2 rfl)
theorem oLq (ha:AE X a ta):AE X (.UnaryOp .Not a pos) (tCq ta):=by
  obtain ⟨ca,ja,ra⟩:=ha.run
  refine ⟨_,r4q ja,λ ρ G DQ σ H Q B q F=>ra ρ G _ σ H _ B q λ x G1 v H1 g1 ax q1=>?_⟩
  obtain ⟨c,e1,e2,q2⟩:=gIq q1 ax
  exact ⟨c,e1,F (.bl (!c)) _ _ _ g1 rfl q2⟩
abbrev dIf (tc:DTT) (ta tb:DTE):DTE:=λ ρ G Q=>tc ρ G λ c G1=>Br c (ta ρ G1 Q) (tb ρ G1 Q)
theorem kOq {tc:DTT} (hc:AT X c tc) (ha:AE X a ta) (hb:AE X b tb):AE X (.IfExp c a b pos) (dIf tc ta tb):=by
  obtain ⟨cc,jc,rc⟩:=hc.run
  obtain ⟨ca,ja,ra⟩:=ha.run
  obtain ⟨cb,jb,rb⟩:=hb.run
  refine ⟨_,kHq jc ja jb,λ ρ G DQ σ H Q B q F=>rc ρ G _ σ H _ B q λ c G1 H1 g1 q1=>?_⟩
  cases c with
  | true=>exact ra ρ G1 _ σ H1 _ (B.go g1) (q1.1 rfl) (F.after g1)
  | false=>exact rb ρ G1 _ σ H1 _ (B.go g1) (q1.2 rfl) (F.after g1)
abbrev rZq (t:DTE):DTT:=λ ρ G Q=>t ρ G λ x G1=>blD x λ c=>Q c G1
theorem aEq {op:CmpOp} {r:DR2} (ho:AOp X (compareOp op) r) (ha:AE X a ta) (hb:AE X b tb) (hm:behindInMarks op b=false):AT X (.Compare a [op] [b] pos) (rZq (dOp r ta tb)):=by
  obtain ⟨ca,ja,ra⟩:=ha.run
  obtain ⟨cb,jb,rb⟩:=hb.run
  obtain ⟨co,jo,ro⟩:=ho.run
  refine ⟨_,nNq jo ja jb hm,λ ρ G DQ σ H Q B q F=>?_⟩
  refine ra ρ G _ σ H _ B q λ x G1 v H1 g1 ax q1=>rb ρ G1 _ σ H1 _ (B.go g1) q1 λ y G2 u H2 g2 ay q2=>ro x y v u G2 H2 _ _ g2.vw (ax.mono g2.tup) ay q2 λ z G3 w H3 g3 az q3=>?_
  obtain ⟨c,e1,e2,q4⟩:=gIq q3 az
  exact ⟨c,e1,F c G3 H3 ((g1.trans g2).trans g3) q4⟩
abbrev v7q (tc:DTT):DTT:=λ ρ G Q=>tc ρ G λ c G1=>Q (!c) G1
abbrev uVq (tc td:DTT):DTT:=λ ρ G Q=>tc ρ G λ c G1=>Br c (td ρ G1 Q) (Q false G1)
abbrev dOr (tc td:DTT):DTT:=λ ρ G Q=>tc ρ G λ c G1=>Br c (Q true G1) (td ρ G1 Q)
theorem jDq {tc:DTT} (ha:AT X a tc):AT X (.UnaryOp .Not a pos) (v7q tc):=by
  obtain ⟨ca,ja,ra⟩:=ha.run
  exact ⟨_,q3q ja,λ ρ G DQ σ H Q B q F=>ra ρ G _ σ H _ B q λ c G1 H1 g1 q1=>F _ _ _ g1 q1⟩
theorem e4q {tc:DTT} (ha:AT X a tc):AW X (.BoolOp .And [a] pos) tc:=by
  obtain ⟨ca,ja,ra⟩:=ha.run
  exact ⟨_,lZq ja,ra⟩
theorem dIq {tc:DTT} (ha:AT X a tc):AW X (.BoolOp .Or [a] pos) tc:=by
  obtain ⟨ca,ja,ra⟩:=ha.run
  exact ⟨_,p1q ja,ra⟩
theorem gWq {tc td:DTT} {rest:List Expr} (ha:AT X a tc) (hb:AW X (.BoolOp .And (b::rest) pos) td):AW X (.BoolOp .And (a::b::rest) pos) (uVq tc td):=by
  obtain ⟨ca,ja,ra⟩:=ha.run
  obtain ⟨cb,jb,rb⟩:=hb.run
  refine ⟨_,pVq ja jb,λ ρ G DQ σ H Q B q F=>ra ρ G _ σ H _ B q λ c G1 H1 g1 q1=>?_⟩
  cases c with
  | true=>exact rb ρ G1 _ σ H1 _ (B.go g1) (q1.1 rfl) λ c G' H' g'=>F c G' H' (g1.trans g')
  | false=>exact F _ _ _ g1 (q1.2 rfl)
theorem g0q {tc td:DTT} {rest:List Expr} (ha:AT X a tc) (hb:AW X (.BoolOp .Or (b::rest) pos) td):AW X (.BoolOp .Or (a::b::rest) pos) (dOr tc td):=by
  obtain ⟨ca,ja,ra⟩:=ha.run
  obtain ⟨cb,jb,rb⟩:=hb.run
  refine ⟨_,sUq ja jb,λ ρ G DQ σ H Q B q F=>ra ρ G _ σ H _ B q λ c G1 H1 g1 q1=>?_⟩
  cases c with
  | false=>exact rb ρ G1 _ σ H1 _ (B.go g1) (q1.2 rfl) λ c G' H' g'=>F c G' H' (g1.trans g')
  | true=>exact F _ _ _ g1 (q1.1 rfl)
theorem AW.at {tc:DTT} (h:AW X e tc):AT X e tc:=by
  obtain ⟨ca,ja,ra⟩:=h.run
  exact ⟨_,ja.pt,ra⟩
def vCq (x:D) (G:DV) (k:Bool->Prop):Prop:=match x with
  | .non=>k false
  | .bl b=>k b
  | .int i=>k (i !=0)
  | .str y=>y.length<=sizeLine/\k ((y.length:Int) !=0)
  | .tup ds=>k (!ds.isEmpty)
  | .ref p=>onL G p λ ds=>k (!ds.isEmpty)
  | _=>False
theorem AbsL.isEmpty {K:PySem.W.Frag} {H:Hp} {ds:List D} {vs:List V} (h:AbsL K H ds vs):vs.isEmpty=ds.isEmpty:=by
  have:=h.len
  cases ds<;>cases vs<;>simp_all
abbrev oMq (t:DTE):DTT:=λ ρ G Q=>t ρ G λ x G1=>vCq x G1 λ c=>Q c G1
theorem bRq (ha:AE X a ta) (he:∀ whole,isTrue a X.env whole=(do let v ← whole;standAt a.pos;holding [v] (truthy v)):=by intro _;rfl):AT X a (oMq ta):=by
  obtain ⟨ca,ja,ra⟩:=ha.run
  refine ⟨_,jSq ja he,λ ρ G DQ σ H Q B q F=>ra ρ G _ σ H _ B q λ x G1 v H1 g1 ax q1=>?_⟩
  cases x with
  | non=>cases ax;exact ⟨_,rfl,F _ _ _ g1 q1⟩
  | bl b=>cases ax;exact ⟨_,rfl,F _ _ _ g1 q1⟩
  | int i=>cases ax;exact ⟨_,rfl,F _ _ _ g1 q1⟩
  | str y=>cases ax;exact ⟨_,⟨q1.1,rfl⟩,F _ _ _ g1 q1.2⟩
  | ref l=>
    cases ax
    obtain ⟨ds,vs,k,s,r⟩:=aYq g1.vw q1
    exact ⟨_,.inl ⟨vs,s,rfl⟩,by rw [r.isEmpty];exact F _ _ _ g1 k⟩
  | tup ds=>
    obtain ⟨l,vs,rfl,s,r⟩:=ax
    exact ⟨_,.inr (.inl ⟨vs,s,rfl⟩),by rw [r.isEmpty];exact F _ _ _ g1 q1⟩
  | ty n=>exact (show False from q1).elim
  | frl ds=>exact (show False from q1).elim
abbrev mDq:DTO:=λ _ G Q=>Q none G
abbrev s3q (t:DTE):DTO:=λ ρ G Q=>t ρ G λ x G1=>match x with
  | .int i=>Q (some i) G1
  | _=>False
theorem jNq:AO X none mDq:=⟨_,lOq,λ ρ G DQ σ H Q B q F=>F none G H (.refl B.vw) q⟩
theorem gCq (h:AE X e te):AO X (some e) (s3q te):=by
  obtain ⟨ca,ja,ra⟩:=h.run
  refine ⟨_,nCq ja,λ ρ G DQ σ H Q B q F=>ra ρ G _ σ H _ B q λ x G1 v H1 g1 ax q1=>?_⟩
  split at q1
  . next i=>exact ⟨i,ax,F _ _ _ g1 q1⟩
  . exact q1.elim
abbrev dSl (r:D->Option Int->Option Int->DV->DK->Prop) (te:DTE) (tl th:DTO):DTE:=λ ρ G Q=>te ρ G λ x G1=>tl ρ G1 λ l G2=>th ρ G2 λ u G3=>r x l u G3 Q
theorem h9q {r:D->Option Int->Option Int->DV->DK->Prop} {lo hi:Option Expr} {tl th:DTO} {p2:Pos} (hr:ASl X r) (he:AE X e te) (hl:AO X lo tl) (hu:AO X hi th):AE X (.Subscript e (.Slice lo hi none p2) pos) (dSl r te tl th):=by
  obtain ⟨ce,je,re⟩:=he.run
  obtain ⟨cl,jl,rl⟩:=hl.run
  obtain ⟨cu,ju,ru⟩:=hu.run
  obtain ⟨cr,jr,rr⟩:=hr.run
  refine ⟨_,kUq jr je jl ju,λ ρ G DQ σ H Q B q F=>re ρ G _ σ H _ B q λ x G1 v H1 g1 ax q1=>rl ρ G1 _ σ H1 _ (B.go g1) q1 λ l G2 H2 g2 q2=>ru ρ G2 _ σ H2 _ ((B.go g1).go g2) q2 λ u G3 H3 g3 q3=>?_⟩
  exact rr x v l u G3 H3 DQ Q g3.vw ((ax.mono g2.tup).mono g3.tup) q3 (F.after ((g1.trans g2).trans g3))
abbrev tJq:DTS:=λ D ρ G=>D.nx ρ G
abbrev uYq (t u:DTS):DTS:=λ D ρ G=>t { D with nx:=u D } ρ G
abbrev t3q (te:DTE):DTS:=λ D ρ G=>te ρ G λ _ G1=>D.nx ρ G1
abbrev vGq (te:DTE):DTS:=λ D ρ G=>te ρ G D.rt
abbrev uJq (c:DTT) (t u:DTS):DTS:=λ D ρ G=>c ρ G λ b G1=>Br b (t D ρ G1) (u D ρ G1)
theorem aMq:AB X [] tJq:=⟨_,oHq,λ DD Dc ρ G σ H B q F=>F.nx ρ G σ H (.refl B.vw) B q⟩
theorem a4q {st:Stmt} {rest:List Stmt} {ts us:DTS} (h1:AS X st ts) (h2:AB X rest us):AB X (st::rest) (uYq ts us):=by
  obtain ⟨c1,j1,r1⟩:=h1.run
  obtain ⟨c2,j2,r2⟩:=h2.run
  refine ⟨_,lNq j1 j2,λ DD Dc ρ G σ H B q F=>r1 _ _ ρ G σ H B q ⟨λ ρ' G' σ' H' g b q=>r2 DD Dc ρ' G' σ' H' b q (F.after g),F.rt,F.bk,F.ct⟩⟩
theorem a7q {st:Stmt} {ts:DTS} (h1:AS X st ts):AB X [st] ts:=by
  obtain ⟨c1,j1,r1⟩:=h1.run
  exact ⟨_,p0q j1,r1⟩
theorem eYq (he:AE X e te) (hs:swapsWith e none pos.line X.env=pure false:=by rfl):AS X (.Expr e pos) (t3q te):=by
  obtain ⟨c1,j1,r1⟩:=he.run
  exact ⟨_,nGq j1 hs,λ DD Dc ρ G σ H B q F=>r1 ρ G _ σ H _ B q λ d G' v H' g _ q=>F.nx ρ G' σ H' g (B.go g) q⟩
theorem aAq (he:AE X e te):AS X (.Return (some e) pos) (vGq te):=by
  obtain ⟨c1,j1,r1⟩:=he.run
  exact ⟨_,r1q j1,λ DD Dc ρ G σ H B q F=>r1 ρ G _ σ H _ B q F.rt⟩
theorem aSq {ss us:List Stmt} {tc:DTT} {ts tu:DTS} (hc:AT X c tc) (ha:AB X ss ts) (hb:AB X us tu):AS X (.If c ss us pos) (uJq tc ts tu):=by
  obtain ⟨cc,jc,rc⟩:=hc.run
  obtain ⟨ca,ja,ra⟩:=ha.run
  obtain ⟨cb,jb,rb⟩:=hb.run
  refine ⟨_,tFq jc ja jb,λ DD Dc ρ G σ H B q F=>rc ρ G _ σ H _ B q λ c G1 H1 g1 q1=>?_⟩
  cases c with
  | true=>exact ra DD Dc ρ G1 σ H1 (B.go g1) (q1.1 rfl) (F.after g1)
  | false=>exact rb DD Dc ρ G1 σ H1 (B.go g1) (q1.2 rfl) (F.after g1)
abbrev fSq (k:Nat):DTG:=λ d ρ G Q=>Q (ρ.set k (some d)) G
abbrev mEq:hWq:=λ ds ρ G Q=>match ds with
  | []=>Q ρ G
  | _=>False
abbrev iGq (t:DTG) (u:hWq):hWq:=λ ds ρ G Q=>match ds with
  | d::r=>t d ρ G λ ρ' G'=>u r ρ' G' Q
  | []=>False
abbrev oSq (t:hWq):DTG:=λ d ρ G Q=>match d with
  | .tup ds=>t ds ρ G Q
  | _=>False
theorem aUq {k:Nat} {x:Str} (hN:X.N.Nodup) (hi:X.N[k]?=some x) (hx:Loc X.env.scope x) (hf:X.fn x=true\/X.env.scope.names.lookup x=some .local:=by first | exact .inl rfl | exact .inr rfl | assumption):AG X (.Name x pos) (fSq k):=
  ⟨_,nMq hN hi hx hf,λ d v ρ G DQ σ H Q B a q F=>F _ G _ H (.refl B.vw) (B.set a k) q⟩
abbrev sXq (te:DTE) (g:DTG):DTS:=λ D ρ G=>te ρ G λ x G1=>g x ρ G1 D.nx
theorem e1q {tg:Expr} {g:DTG} (he:AE X e te) (hg:AG X tg g) (hs:swapsWithSole [tg] e pos.line X.env=pure false:=by rfl) (hw:swappedStores [tg] e X.env=pure none:=by rfl) (h1:(assignEach [tg] X.env).map (·.2)=[assign tg X.env]:=by rfl):AS X (.Assign [tg] e pos) (sXq te g):=by
  obtain ⟨c1,j1,r1⟩:=he.run
  obtain ⟨c2,j2,r2⟩:=hg.run
  exact ⟨_,pNq j1 j2 hs hw h1,λ DD Dc ρ G σ H B q F=>r1 ρ G _ σ H _ B q λ d G1 v H1 g1 a q1=>r2 d v ρ G1 _ σ H1 _ (B.go g1) a q1 λ ρ' G' σ' H' g' b q'=>F.nx ρ' G' σ' H' (g1.trans g') b q'⟩
theorem aOq {k:Nat} {x:Str} {pos':Pos} (hN:X.N.Nodup) (hi:X.N[k]?=some x) (hx:Loc X.env.scope x) (he:AE X e te) (hs:swapsWith e (some (.Name x pos')) pos.line X.env=pure false:=by rfl) (hf:X.fn x=true\/X.env.scope.names.lookup x=some .local:=by first | exact .inl rfl | exact .inr rfl | assumption) :
    AS X (.Assign [.Name x pos'] e pos) (sXq te (fSq k)):=by
  obtain ⟨c1,j1,r1⟩:=he.run
  exact ⟨_,o8q hN hi hx j1 hs hf,λ DD Dc ρ G σ H B q F=>r1 ρ G _ σ H _ B q λ d G1 v H1 g1 a q1=>F.nx _ G1 _ H1 g1 ((B.go g1).set a k) q1⟩
theorem cSq:AGs X [] mEq:=⟨_,nFq,λ ds vs ρ G DQ σ H Q B a q F=>by
  cases ds with
  | nil=>cases a;exact ⟨rfl,F ρ G σ H (.refl B.vw) B q⟩
  | cons d r=>exact (show False from q).elim⟩
theorem aZq {tg:DTG} {u:hWq} (h1:AG X e tg) (h2:AGs X es u) (hs:(assignEach (e::es) X.env).map (·.2)=assign e X.env::(assignEach es X.env).map (·.2):=by rfl):AGs X (e::es) (iGq tg u):=by
  obtain ⟨c1,j1,r1⟩:=h1.run
  obtain ⟨c2,j2,r2⟩:=h2.run
  refine ⟨_,kVq j1 j2 hs,λ ds vs ρ G DQ σ H Q B a q F=>?_⟩
  cases ds with
  | nil=>exact (show False from q).elim
  | cons d r=>
    obtain ⟨v,us,rfl,ad,ar⟩:=a
    exact ⟨v,us,rfl,r1 d v ρ G _ σ H _ B ad q λ ρ' G' σ' H' g b q'=>r2 r us ρ' G' _ σ' H' _ b (ar.mono g.tup) q' λ ρ2 G2 σ2 H2 g2 b2 q2=>F ρ2 G2 σ2 H2 (g.trans g2) b2 q2⟩
theorem fUq {k n:Nat} {tg:hWq} (hc:X.calm=true) (h:AGs X es tg) (hl:es.length=n:=by rfl) (hn:(assignEach es X.env).length=n:=by rfl) (hst:(assignEach es X.env).findIdx? (·.1)=none:=by rfl)
    (hlen:∀ ds ρ G Q,tg ds ρ G Q->ds.length=n:=by intro ds ρ G Q h;match ds,h with | [],h=>(first | rfl | exact (show False from h).elim) | [_],h=>(first | rfl | exact (show False from h).elim) | [_,_],h=>(first | rfl | exact (show False from h).elim) | [_,_,_],h=>(first | rfl | exact (show False from h).elim) | _::_::_::_::_,h=>exact (show False from h).elim):AG X (.Tuple es k pos) (oSq tg):=by
  obtain ⟨c1,j1,r1⟩:=h.run
  refine ⟨_,p4q (n:=n) hc j1 hn hst,λ d v ρ G DQ σ H Q B a q F=>?_⟩
  cases d with
  | tup ds=>
    obtain ⟨l,vs,rfl,s,r⟩:=a
    exact ⟨l,vs,rfl,s,by rw [r.len];exact hlen _ _ _ _ q,r1 ds vs ρ G DQ σ H Q B r q F⟩
  | _=>exact (show False from q).elim
end
end L3
namespace L3
open PySem PySem.Spec L2
section
variable {X:Cx}
def vBq:DR2:=λ x y G Q=>match x,y with
  | .int i,.int j=>Q (.int (i+j)) G
  | .str i,.str j=>i.length+j.length<=sizeLine/\Q (.str (i++j)) G
  | .tup xs,.tup ys=>xs.length+ys.length<=sizeLine/\Q (.tup (xs++ys)) G
  | .ref l,.ref m=>onM G l λ xs=>onM G m λ ys=>xs.length+ys.length<=sizeLine/\∀ p,G p=none->Q (.ref p) (up G p (.lst (xs++ys)))
  | _,_=>False
theorem aXq:AOp X (binaryOp .Add) vBq:=by
  refine ⟨_,⟨op_add.or (op_add_str.or (op_catW.or rCq))⟩,λ x y vx vy G H DQ Q v ax ay r F=>?_⟩
  cases x with
  | int i=>
    cases y with
    | int j=>cases ax;cases ay;exact .inl ⟨i,j,rfl,rfl,F (.int (i+j)) G _ H (.refl v) rfl r⟩
    | _=>exact (show False from r).elim
  | str i=>
    cases y with
    | str j=>cases ax;cases ay;exact .inr (.inl ⟨i,j,rfl,rfl,r.1,F (.str (i++j)) G _ H (.refl v) rfl r.2⟩)
    | _=>exact (show False from r).elim
  | tup xs=>
    cases y with
    | tup ys=>
      obtain ⟨l,vs,rfl,s1,r1⟩:=ax
      obtain ⟨m,us,rfl,s2,r2⟩:=ay
      have l1:=r1.len
      have l2:=r2.len
      refine .inr (.inr (.inl ⟨l,m,vs,us,rfl,rfl,s1,s2,by rw [l1,l2];exact r.1,λ e=>?_,λ e e2=>?_,λ e e2 p hp=>?_⟩))
      . subst e
        have e':xs=[]:=by cases xs<;>simp_all
        subst e'
        exact F (.tup ys) G _ H (.refl v) ⟨m,us,rfl,s2,r2⟩ (by simpa using r.2)
      . subst e2
        have e':ys=[]:=by cases ys<;>simp_all
        subst e'
        exact F (.tup xs) G _ H (.refl v) ⟨l,vs,rfl,s1,r1⟩ (by simpa using r.2)
      . have g:=Go.newT (o:=.tup (vs++us)) v hp
        exact F (.tup (xs++ys)) G _ _ g ⟨p,_,rfl,.of aRq,(r1.append r2).mono g.tup⟩ r.2
    | _=>exact (show False from r).elim
  | ref l=>
    cases y with
    | ref m=>
      cases ax;cases ay
      obtain ⟨xs,vs,k1,e1,h1,r1⟩:=bOq v r
      obtain ⟨ys,us,k2,e2,h2,r2⟩:=bOq v k1
      have l1:=r1.len
      have l2:=r2.len
      exact .inr (.inr (.inr ⟨l,m,vs,us,rfl,rfl,h1,h2,by rw [l1,l2];exact k2.1,λ p hp=>F (.ref p) _ _ _ (Go.newL v hp (r1.append r2)) rfl (k2.2 p (v.none hp))⟩))
    | _=>exact (show False from r).elim
  | _=>exact (show False from r).elim
def pXq (C:Int->Int->Prop) (g:Int->Int->D):DR2:=λ x y G Q=>match x,y with
  | .int i,.int j=>C i j/\Q (g i j) G
  | _,_=>False
def hMq (g:Int->Int->D):DR2:=λ x y G Q=>match x,y with
  | .int i,.int j=>Q (g i j) G
  | _,_=>False
theorem kRq {f:Value->Value->Sem Value} {C:Int->Int->Prop} {g:Int->Int->Int} (h:OpR X f (rI C λ i j=>.int (g i j))):AOp X f (pXq C λ i j=>.int (g i j)):=by
  refine ⟨_,⟨h⟩,λ x y vx vy G H DQ Q v ax ay r F=>?_⟩
  cases x with
  | int i=>
    cases y with
    | int j=>cases ax;cases ay;exact ⟨i,j,rfl,rfl,r.1,F (.int (g i j)) G _ H (.refl v) rfl r.2⟩
    | _=>exact (show False from r).elim
  | _=>exact (show False from r).elim
theorem p8q {f:Value->Value->Sem Value} {g:Int->Int->Int} (h:OpR X f (rI0 λ i j=>.int (g i j))):AOp X f (hMq λ i j=>.int (g i j)):=by
  refine ⟨_,⟨h⟩,λ x y vx vy G H DQ Q v ax ay r F=>?_⟩
  cases x with
  | int i=>
    cases y with
    | int j=>cases ax;cases ay;exact ⟨i,j,rfl,rfl,F (.int (g i j)) G _ H (.refl v) rfl r⟩
    | _=>exact (show False from r).elim
  | _=>exact (show False from r).elim
theorem i9q {f:Value->Value->Sem Value} {g:Int->Int->Bool} (h:OpR X f (rI0 λ i j=>.bl (g i j))):AOp X f (hMq λ i j=>.bl (g i j)):=by
  refine ⟨_,⟨h⟩,λ x y vx vy G H DQ Q v ax ay r F=>?_⟩
  cases x with
  | int i=>
    cases y with
    | int j=>cases ax;cases ay;exact ⟨i,j,rfl,rfl,F (.bl (g i j)) G _ H (.refl v) rfl r⟩
    | _=>exact (show False from r).elim
  | _=>exact (show False from r).elim
theorem aJq:AOp X (binaryOp .Sub) (hMq λ i j=>.int (i - j)):=p8q oTq
theorem bQq:AOp X (binaryOp .Mult) (pXq CMul λ i j=>.int (i * j)):=kRq rDq
theorem cJq:AOp X (binaryOp .FloorDiv) (pXq (λ _ j=>0 < j/\j < 2 ^ 64) λ i j=>.int (i / j)):=kRq jXq
theorem bPq:AOp X (binaryOp .Mod) (pXq (λ _ j=>0 < j) λ i j=>.int (i % j)):=kRq o0q
theorem n4q:AOp X (binaryOp .Pow) (pXq u6q λ i j=>.int (i ^ j.toNat)):=kRq pPq
theorem bIq:AOp X (compareOp .Lt) (hMq λ i j=>.bl (decide (i < j))):=i9q s5q
theorem bNq:AOp X (compareOp .Gt) (hMq λ i j=>.bl (decide (j < i))):=i9q sLq
theorem rBq:AOp X (compareOp .GtE) (hMq λ i j=>.bl (decide (j<=i))):=i9q sYq
def uRq:DR1:=λ x G Q=>match x with
  | .int i=>Q (.int (-i)) G
  | _=>False
theorem cPq:AUn X (unaryOp .USub) uRq:=by
  refine ⟨_,⟨pTq⟩,λ x vx G H DQ Q v ax r F=>?_⟩
  cases x with
  | int i=>cases ax;exact ⟨i,rfl,F (.int (-i)) G _ H (.refl v) rfl r⟩
  | _=>exact (show False from r).elim
def vEq:D->Bool
  | .non=>true
  | _=>false
theorem eGq {K:PySem.W.Frag} {H:Hp} {ds:List D} {vs:List V} {i:Int} {d:D} (r:AbsL K H ds vs) (h:atI ds i=some d):∃ v,atI vs i=some v/\Abs K H d v:=by
  unfold atI at h ⊢
  rw [r.len]
  cases e:ixN ds.length i with
  | none=>rw [e] at h;cases h
  | some j=>
    rw [e] at h
    exact r.get h
theorem eEq {ds:List D} {i:Int} {G:DV} {Q:DK} (h:atD ds i G Q):∃ d,atI ds i=some d/\Q d G:=by
  unfold atD at h
  rw [lAq] at h
  split at h
  . next d e=>exact ⟨d,e,h⟩
  . exact h.elim
def ixD:DR2:=λ x y G Q=>match x,y with
  | .tup ds,.int i=>atD ds i G Q
  | .ref l,.int i=>onL G l λ ds=>atD ds i G Q
  | .frl ds,.int i=>atD ds i G Q
  | .str z,.int i=>z.length<=sizeLine/\∃ c,atI z.cps.toList i=some c/\Q (.str ⟨#[c]⟩) G
  | _,_=>False
theorem lBq {ds:List D} {i:Int} {G:DV} {Q:DK} {d:D} (h:atI ds i=some d) (q:Q d G):ixD (.frl ds) (.int i) G Q:=iNq h q
theorem p2q {l:Addr} {ds:List D} {i:Int} {G:DV} {Q:DK} {d:D} (hl:G l=some (.lst ds)) (h:atI ds i=some d) (q:Q d G):ixD (.ref l) (.int i) G Q:=aPq hl (iNq h q)
theorem aix:AIx X ixD:=by
  refine ⟨_,⟨l9q⟩,λ x y vx vy G H DQ Q v ax ay r F=>?_⟩
  cases x with
  | tup ds=>
    cases y with
    | int i=>
      cases ay
      obtain ⟨l,vs,rfl,s,rl⟩:=ax
      obtain ⟨d,hd,q⟩:=eEq r
      obtain ⟨u,hu,ad⟩:=eGq rl hd
      exact .inr (.inl ⟨l,vs,i,u,rfl,rfl,s,hu,F d G u H (.refl v) ad q⟩)
    | _=>exact (show False from r).elim
  | ref l=>
    cases y with
    | int i=>
      cases ax;cases ay
      obtain ⟨ds,vs,k,s,rl⟩:=aYq v r
      obtain ⟨d,hd,q⟩:=eEq k
      obtain ⟨u,hu,ad⟩:=eGq rl hd
      exact .inl ⟨l,vs,i,u,rfl,rfl,s,hu,F d G u H (.refl v) ad q⟩
    | _=>exact (show False from r).elim
  | frl ds=>
    cases y with
    | int i=>
      cases ay
      obtain ⟨l,vs,rfl,s,rl⟩:=ax
      obtain ⟨d,hd,q⟩:=eEq r
      obtain ⟨u,hu,ad⟩:=eGq rl hd
      exact .inl ⟨l,vs,i,u,rfl,rfl,s.sq,hu,F d G u H (.refl v) ad q⟩
    | _=>exact (show False from r).elim
  | str z=>
    cases y with
    | int i=>
      cases ax;cases ay
      obtain ⟨hz,c,hc,q⟩:=r
      exact .inr (.inr ⟨z,i,c,rfl,rfl,hz,hc,F (.str ⟨#[c]⟩) G _ H (.refl v) rfl q⟩)
    | _=>exact (show False from r).elim
  | _=>exact (show False from r).elim
def slD:D->Option Int->Option Int->DV->DK->Prop:=λ x lo hi G Q=>match x with
  | .tup ds=>Q (.tup (cut ds lo hi)) G
  | .ref l=>onL G l λ ds=>∀ p,G p=none->Q (.ref p) (up G p (.lst (cut ds lo hi)))
  | .frl ds=>∀ p,G p=none->Q (.ref p) (up G p (.lst (cut ds lo hi)))
  | _=>False
theorem asl:ASl X slD:=by
  refine ⟨_,⟨sl_tupU.or lPq⟩,λ x vx lo hi G H DQ Q v ax r F=>?_⟩
  cases x with
  | tup ds=>
    obtain ⟨l,vs,rfl,s,rl⟩:=ax
    refine .inl ⟨l,vs,rfl,s,λ t H2 sm st=>?_⟩
    have g:=Go.grow v sm
    exact F (.tup (cut ds lo hi)) G _ _ g ⟨t,_,rfl,st,(rl.cut lo hi).mono g.tup⟩ r
  | ref l=>
    cases ax
    obtain ⟨ds,vs,k,s,rl⟩:=aYq v r
    exact .inr ⟨l,vs,rfl,s,λ p hp=>F (.ref p) _ _ _ (Go.newL v hp (rl.cut lo hi)) rfl (k p (v.none hp))⟩
  | frl ds=>
    obtain ⟨l,vs,rfl,s,rl⟩:=ax
    exact .inr ⟨l,vs,rfl,s.sq,λ p hp=>F (.ref p) _ _ _ (Go.newL v hp (rl.cut lo hi)) rfl (r p (v.none hp))⟩
  | _=>exact (show False from r).elim
def c7q:D->Bool
  | .non=>true
  | .bl _=>true
  | .int _=>true
  | .str _=>true
  | _=>false
def toV:D->V
  | .non=>.non
  | .bl b=>.bl b
  | .int i=>.int i
  | .str x=>.str x
  | _=>.non
theorem iMq {K:PySem.W.Frag} {H:Hp} {d:D} {v:V} (a:Abs K H d v) (h:c7q d=true):v=toV d/\dEq v=true:=by
  cases d with
  | non=>cases a;exact ⟨rfl,rfl⟩
  | bl b=>cases a;exact ⟨rfl,rfl⟩
  | int b=>cases a;exact ⟨rfl,rfl⟩
  | str b=>cases a;exact ⟨rfl,rfl⟩
  | _=>exact absurd h (by simp [c7q])
theorem rTq {K:PySem.W.Frag} {H:Hp}:∀ {ds:List D} {vs:List V},AbsL K H ds vs->ds.all c7q=true->vs=ds.map toV/\vs.all dEq=true
  | [],_,r,_=>by cases r;exact ⟨rfl,rfl⟩
  | _::_,_,⟨v,r,e,q,l⟩,h=>by
    subst e
    rw [List.all_cons,Bool.and_eq_true] at h
    obtain ⟨h1,h2⟩:=iMq q h.1
    obtain ⟨h3,h4⟩:=rTq l h.2
    exact ⟨by rw [List.map_cons,<- h1,<- h3],by rw [List.all_cons,h2,h4];rfl⟩
def eqF:D->D->Bool
  | .non,.non=>true
  | .bl a,.bl b=>a==b
  | .bl a,.int b=>(if a then 1 else 0)==b
  | .int a,.bl b=>a==(if b then 1 else 0)
  | .int a,.int b=>a==b
  | .str a,.str b=>a==b
  | _,_=>false
theorem s6q {x y:D} (hx:c7q x=true) (hy:c7q y=true):eqV (toV x) (toV y)=eqF x y:=by
  cases x<;>cases y<;>first | rfl | (simp [c7q] at hx;done) | (simp [c7q] at hy;done)
def inL (x:D) (ds:List D):Bool:=ds.any λ y=>eqF y x
theorem nDq {x:D} (hx:c7q x=true):∀ {ds:List D},ds.all c7q=true->inV (toV x) (ds.map toV)=inL x ds
  | [],_=>rfl
  | d::ds,h=>by
    rw [List.all_cons,Bool.and_eq_true] at h
    have ih:=nDq hx h.2
    unfold inV inL at *
    rw [List.map_cons,List.any_cons,List.any_cons,ih,s6q h.1 hx]
def inD (neg:Bool):DR2:=λ x y G Q=>match y with
  | .tup ds=>c7q x=true/\ds.all c7q=true/\Q (.bl (neg ^^ inL x ds)) G
  | .ref l=>onL G l λ ds=>c7q x=true/\ds.all c7q=true/\Q (.bl (neg ^^ inL x ds)) G
  | .str j=>(match x with
      | .str i=>Q (.bl (neg ^^ !(Builtin.Str.occurrences j i 0 j.length 1).isEmpty)) G
      | _=>False)
  | _=>False
theorem l3q:AOp X (compareOp .In) (inD false):=by
  refine ⟨_,⟨op_in_seq.or iSq⟩,λ x y vx vy G H DQ Q v ax ay r F=>?_⟩
  cases y with
  | tup ds=>
    obtain ⟨h1,h2,q⟩:=r
    obtain ⟨l,vs,rfl,s,rl⟩:=ay
    obtain ⟨e1,f1⟩:=iMq ax h1
    obtain ⟨e2,f2⟩:=rTq rl h2
    refine .inl ⟨l,vs,rfl,.inr s,f1,f2,?_⟩
    rw [e1,e2,nDq h1 h2]
    exact F (.bl _) G _ H (.refl v) rfl (by simpa using q)
  | ref l=>
    cases ay
    obtain ⟨ds,vs,⟨h1,h2,q⟩,s,rl⟩:=aYq v r
    obtain ⟨e1,f1⟩:=iMq ax h1
    obtain ⟨e2,f2⟩:=rTq rl h2
    refine .inl ⟨l,vs,rfl,.inl s,f1,f2,?_⟩
    rw [e1,e2,nDq h1 h2]
    exact F (.bl _) G _ H (.refl v) rfl (by simpa using q)
  | str j=>
    cases x with
    | str i=>cases ax;cases ay;exact .inr ⟨i,j,rfl,rfl,F (.bl _) G _ H (.refl v) rfl (by simpa [inD] using r)⟩
    | _=>exact (show False from r).elim
  | _=>exact (show False from r).elim
variable {e o:Expr} {es:List Expr} {te to:DTE} {t:DTA} {pos p apos cpos:Pos}
abbrev dCB (r:DRL) (t:DTA):DTE:=λ ρ G Q=>t ρ G λ ds G1=>r ds G1 Q
theorem aDq {x:Str} {id:String} {r:DRL} (hc:ACall X (.builtin id) r) (hg:Gl X x) (hm:X.mg x=none) (hv:bootBuiltins x=some (.builtin id)) (ha:AA X (e::es) t) (hn:x≠"__name__":=by decide) (hdb:(x==("__debug__" : Str))=false:=by decide)
    (hs:(e::es).all aHq=true:=by rfl):AE X (.Call (.Name x p) (e::es) [] pos) (dCB r t):=by
  obtain ⟨ca,ja,ra⟩:=ha.run
  obtain ⟨cc,jc,rc⟩:=hc.run
  exact ⟨_,k2q jc hg hm hv ja hn hdb hs,λ ρ G DQ σ H Q B q F=>ra ρ G _ σ H _ B q λ ds G1 vs H1 g1 al _ q1=>rc ds vs G1 H1 DQ Q g1.vw al q1 (F.after g1)⟩
theorem fWq {x:Str} {T:String} {r:DRL} (hc:ACall X (.type T) r) (hg:Gl X x) (hm:X.mg x=none) (hv:bootBuiltins x=some (.type T)) (ha:AA X (e::es) t) (hn:x≠"__name__":=by decide) (hdb:(x==("__debug__" : Str))=false:=by decide)
    (hs:(e::es).all aHq=true:=by rfl):AE X (.Call (.Name x p) (e::es) [] pos) (dCB r t):=by
  obtain ⟨ca,ja,ra⟩:=ha.run
  obtain ⟨cc,jc,rc⟩:=hc.run
  exact ⟨_,jFq jc hg hm hv ja hn hdb hs,λ ρ G DQ σ H Q B q F=>ra ρ G _ σ H _ B q λ ds G1 vs H1 g1 al _ q1=>rc ds vs G1 H1 DQ Q g1.vw al q1 (F.after g1)⟩
abbrev nUq (r:D->DV->DK->Prop):DRL:=λ xs G Q=>match xs with
  | [x]=>r x G Q
  | _=>False
abbrev pIq (r:D->D->DV->DK->Prop):DRL:=λ xs G Q=>match xs with
  | [x,y]=>r x y G Q
  | _=>False
theorem cIq {K:PySem.W.Frag} {H:Hp} {r:D->DV->DK->Prop} {xs:List D} {vs:List V} {G:DV} {Q:DK} (h:nUq r xs G Q) (a:AbsL K H xs vs):∃ x v,xs=[x]/\vs=[v]/\Abs K H x v/\r x G Q:=by
  unfold nUq at h
  split at h
  . obtain ⟨v,r,rfl,q,l⟩:=a;cases l;exact ⟨_,v,rfl,rfl,q,h⟩
  . exact h.elim
theorem eMq {K:PySem.W.Frag} {H:Hp} {r:D->D->DV->DK->Prop} {xs:List D} {vs:List V} {G:DV} {Q:DK} (h:pIq r xs G Q) (a:AbsL K H xs vs):∃ x y v u,xs=[x,y]/\vs=[v,u]/\Abs K H x v/\Abs K H y u/\r x y G Q:=by
  unfold pIq at h
  split at h
  . obtain ⟨v,r,rfl,q,u,r2,rfl,q2,l⟩:=a;cases l;exact ⟨_,_,v,u,rfl,rfl,q,q2,h⟩
  . exact h.elim
def vIq:D->DV->DK->Prop:=λ x G Q=>match x with
  | .tup ds=>Q (.int ds.length) G
  | .ref l=>onL G l λ ds=>Q (.int ds.length) G
  | .frl ds=>Q (.int ds.length) G
  | .str z=>z.length<=sizeLine/\Q (.int z.length) G
  | _=>False
theorem aTq:ACall X (.builtin "len") (nUq vIq):=by
  refine ⟨_,⟨call_len_seq.or fGq⟩,λ xs vs G H DQ Q v a r F=>?_⟩
  obtain ⟨x,u,rfl,rfl,ax,r⟩:=cIq r a
  cases x with
  | tup ds=>
    obtain ⟨l,ws,rfl,s,rl⟩:=ax
    exact .inl ⟨l,ws,rfl,.inr s,by rw [rl.len];exact F (.int ds.length) G _ H (.refl v) rfl r⟩
  | ref l=>
    cases ax
    obtain ⟨ds,ws,k,s,rl⟩:=aYq v r
    exact .inl ⟨l,ws,rfl,.inl s,by rw [rl.len];exact F (.int ds.length) G _ H (.refl v) rfl k⟩
  | frl ds=>
    obtain ⟨l,ws,rfl,s,rl⟩:=ax
    exact .inl ⟨l,ws,rfl,.inl s.sq,by rw [rl.len];exact F (.int ds.length) G _ H (.refl v) rfl r⟩
  | str z=>cases ax;exact .inr ⟨z,rfl,r.1,F (.int z.length) G _ H (.refl v) rfl r.2⟩
  | _=>exact (show False from r).elim
def p6q (g:Int->Int->Int):D->D->DV->DK->Prop:=λ x y G Q=>match x,y with
  | .int i,.int j=>Q (.int (g i j)) G
  | _,_=>False
theorem jIq (hc:X.calm=true):ACall X (.builtin "max") (pIq (p6q λ i j=>if j > i then j else i)):=by
  refine ⟨_,⟨jAq hc⟩,λ xs vs G H DQ Q v a r F=>?_⟩
  obtain ⟨x,y,u,w,rfl,rfl,ax,ay,r⟩:=eMq r a
  cases x with
  | int i=>
    cases y with
    | int j=>cases ax;cases ay;exact ⟨i,j,rfl,F (.int (if j > i then j else i)) G _ H (.refl v) rfl r⟩
    | _=>exact (show False from r).elim
  | _=>exact (show False from r).elim
theorem fTq (hc:X.calm=true):ACall X (.builtin "min") (pIq (p6q λ i j=>if j < i then j else i)):=by
  refine ⟨_,⟨j6q hc⟩,λ xs vs G H DQ Q v a r F=>?_⟩
  obtain ⟨x,y,u,w,rfl,rfl,ax,ay,r⟩:=eMq r a
  cases x with
  | int i=>
    cases y with
    | int j=>cases ax;cases ay;exact ⟨i,j,rfl,F (.int (if j < i then j else i)) G _ H (.refl v) rfl r⟩
    | _=>exact (show False from r).elim
  | _=>exact (show False from r).elim
def vHq:D->DV->DK->Prop:=λ x G Q=>match x with
  | .tup ds=>Q (.tup ds) G
  | .ref l=>onL G l λ ds=>Q (.tup ds) G
  | _=>False
theorem cXq:ACall X (.type "tuple") (nUq vHq):=by
  refine ⟨_,⟨eXq⟩,λ xs vs G H DQ Q v a r F=>?_⟩
  obtain ⟨x,u,rfl,rfl,ax,r⟩:=cIq r a
  cases x with
  | tup ds=>
    obtain ⟨l,ws,rfl,s,rl⟩:=ax
    exact ⟨l,ws,rfl,.inr ⟨s,F (.tup ds) G _ H (.refl v) ⟨l,ws,rfl,s,rl⟩ r⟩⟩
  | ref l=>
    cases ax
    obtain ⟨ds,ws,k,s,rl⟩:=aYq v r
    refine ⟨l,ws,rfl,.inl ⟨s,λ p hp=>?_⟩⟩
    have g:=Go.newT (o:=.tup ws) v hp
    exact F (.tup ds) G _ _ g ⟨p,ws,rfl,.of aRq,rl.mono g.tup⟩ k
  | _=>exact (show False from r).elim
end
end L3
namespace L2
open PySem PySem.Spec PyProof.Rows
def u4q (K:PySem.W.Frag) (tl:TE):TI:=λ σ H R=>tl σ H λ x H1=>∃ a,x=.ref a/\(((∃ xs,SqL K H1 a xs)/\R (Itl K a) H1)\/((∃ xs,SqT K H1 a xs)/\R (Itt K a) H1))
theorem oFq {X:Cx} {tg l:Expr} {tl:TE} (hl:PE X l tl):PI X tg l (u4q X.K tl):=by
  intro pins s σ H R I h
  refine thn (hl pins s σ H _ I h) λ v s1 ⟨x,H1,I1,r1,q1⟩=>?_
  obtain ⟨a,e,q1⟩:=q1
  subst e
  cases r1
  rcases q1 with ⟨⟨xs,hq⟩,q⟩ | ⟨⟨xs,hq⟩,q⟩
  . obtain ⟨its,rv,p,hz⟩:=I1.list hq
    refine wpAny_pyIter_list p.isList ?_
    refine ⟨s1.heap.objs.size,[s1.heap.objs.size],_,_,H1,rfl,I1.kept (t':=s1.toks) λ b o e=>Heap.get?_push_of_some _ e,iLq a _,⟨_,Heap.get?_push_size _ rfl,rfl,rfl⟩,λ b hb=>?_,q⟩
    have e:b=s1.heap.objs.size:=by simpa using hb
    subst e
    exact I1.fpOk (Nat.le_refl _) (I1.hok.fresh (Nat.le_refl _))
  . obtain ⟨its,rv,p,hz⟩:=I1.tuple hq
    refine wpAny_pyIter_tuple (show s1.heap.IsTuple a its.toArray from p) ?_
    refine ⟨s1.heap.objs.size,[s1.heap.objs.size],_,_,H1,rfl,I1.kept (t':=s1.toks) λ b o e=>Heap.get?_push_of_some _ e,hPq a _,⟨_,Heap.get?_push_size _ rfl,rfl,rfl⟩,λ b hb=>?_,q⟩
    have e:b=s1.heap.objs.size:=by simpa using hb
    subst e
    exact I1.fpOk (Nat.le_refl _) (I1.hok.fresh (Nat.le_refl _))
end L2
namespace L3
open PySem PySem.Spec L2
section
variable {X:Cx} {a b c e o i tg iter:Expr} {es:List Expr} {ta tb te to ti:DTE} {t:DTA} {pos p apos cpos:Pos}
structure DIt where
  items:List D
  held:DV->Prop
abbrev DTI:=DSt->DV->(DIt->DV->Prop)->Prop
def uBq (K:PySem.W.Frag) (J:DIt) (Jc:It) (G:DV) (H:Hp):Prop:=∀ G1 H1,Go K G H G1 H1->J.held G1 →
  (∀ (i:Nat) (d:D),J.items[i]?=some d->Jc.go i H1/\∀ x H',Jc.yld i H1 x H'->Go K G1 H1 G1 H'/\Abs K H' d x)/\∀ i,J.items.length<=i->Jc.stop i H1
structure AI (X:Cx) (tg iter:Expr) (wi:DTI):Prop where
  run:∃ wc:TI,JI X tg iter wc/\∀ ρ G DR σ H R,Bears X.K ρ G σ H->wi ρ G DR->(∀ J Jc G' H',Go X.K G H G' H'->uBq X.K J Jc G' H'->DR J G'->R Jc H')->wc σ H R
@[irreducible] def pLq (G:DV) (l:Addr) (k:DIt->Prop):Prop:=match G l with
  | some (.lst ds)=>k ⟨ds,λ G=>G l=some (.lst ds)⟩
  | _=>False
abbrev sZq (ta:DTE):DTI:=λ ρ G R=>ta ρ G λ x G1=>match x with
  | .tup ds=>R ⟨ds,λ _=>True⟩ G1
  | .ref l=>pLq G1 l λ J=>R J G1
  | .frl ds=>R ⟨ds,λ _=>True⟩ G1
  | _=>False
theorem mLq {G:DV} {l:Addr} {k:DIt->Prop} {ds:List D} (h:G l=some (.lst ds)) (q:k ⟨ds,λ G=>G l=some (.lst ds)⟩):pLq G l k:=by unfold pLq;rw [h];exact q
theorem oWq {K:PySem.W.Frag} {ds:List D} {vs:List V} {l:Addr} {G1:DV} {H1:Hp} (v:Vw K G1 H1) (s:SqT K H1 l vs) (r:AbsL K H1 ds vs) :
    (∀ (i:Nat) (d:D),ds[i]?=some d->(Itt K l).go i H1/\∀ x H',(Itt K l).yld i H1 x H'->Go K G1 H1 G1 H'/\Abs K H' d x)/\∀ i,ds.length<=i->(Itt K l).stop i H1:=by
  refine ⟨λ i d hd=>?_,λ i hi=>⟨vs,s,by rw [r.len];exact hi⟩⟩
  obtain ⟨w,hw,aw⟩:=r.get hd
  refine ⟨⟨vs,w,s,hw⟩,λ x H' y=>?_⟩
  obtain ⟨rfl,y⟩:=y
  have z:=y vs s
  rw [hw] at z
  cases z
  exact ⟨.refl v,aw⟩
theorem iTq {K:PySem.W.Frag} {ds:List D} {vs:List V} {l:Addr} {G1:DV} {H1:Hp} (v:Vw K G1 H1) (s:SqL K H1 l vs) (r:AbsL K H1 ds vs) :
    (∀ (i:Nat) (d:D),ds[i]?=some d->(Itl K l).go i H1/\∀ x H',(Itl K l).yld i H1 x H'->Go K G1 H1 G1 H'/\Abs K H' d x)/\∀ i,ds.length<=i->(Itl K l).stop i H1:=by
  refine ⟨λ i d hd=>?_,λ i hi=>⟨vs,s,by rw [r.len];exact hi⟩⟩
  obtain ⟨w,hw,aw⟩:=r.get hd
  refine ⟨⟨vs,w,s,hw⟩,λ x H' y=>?_⟩
  obtain ⟨rfl,y⟩:=y
  have z:=y vs s
  rw [hw] at z
  cases z
  exact ⟨.refl v,aw⟩
theorem qPq {tc:TE} (hl:JE X a tc):JI X tg a (u4q X.K tc):=⟨oFq hl.run⟩
theorem l6q (ha:AE X a ta):AI X tg a (sZq ta):=by
  obtain ⟨ca,ja,ra⟩:=ha.run
  refine ⟨_,qPq ja,λ ρ G DR σ H R B q F=>ra ρ G _ σ H _ B q λ x G1 v H1 g1 ax q1=>?_⟩
  cases x with
  | tup ds=>
    obtain ⟨l,vs,rfl,s,r⟩:=ax
    exact ⟨l,rfl,.inr ⟨⟨vs,s⟩,F ⟨ds,λ _=>True⟩ _ G1 H1 g1 (λ G2 H2 g2 _=>oWq g2.vw (g2.tup.tp _ _ s) (r.mono g2.tup)) q1⟩⟩
  | ref l=>
    cases ax
    refine ⟨l,rfl,.inl ?_⟩
    replace q1:pLq G1 l λ J=>DR J G1:=q1
    unfold pLq at q1
    split at q1
    . next ds hd=>
      obtain ⟨vs,z,r⟩:=g1.vw _ _ hd
      refine ⟨⟨vs,.of z⟩,F ⟨ds,λ G=>G l=some (.lst ds)⟩ _ G1 H1 g1 (λ G2 H2 g2 h2=>?_) q1⟩
      obtain ⟨us,z2,r2⟩:=g2.vw _ _ h2
      exact iTq g2.vw (.of z2) r2
    . exact q1.elim
  | frl ds=>
    obtain ⟨l,vs,rfl,s,r⟩:=ax
    exact ⟨l,rfl,.inl ⟨⟨vs,s.sq⟩,F ⟨ds,λ _=>True⟩ _ G1 H1 g1 (λ G2 H2 g2 _=>iTq g2.vw (g2.tup.fr _ _ s).sq (r.mono g2.tup)) q1⟩⟩
  | _=>exact (show False from q1).elim
def bJq (lo:Int) (n:Nat):List D:=(List.range n).map λ(i:Nat)=>D.int (lo+(i:Int))
theorem dLq {lo:Int} {n i:Nat} {d:D} (h:(bJq lo n)[i]?=some d):i < n/\d=.int (lo+i):=by
  unfold bJq at h
  rw [List.getElem?_map] at h
  by_cases c:i < n
  . rw [List.getElem?_range c] at h
    simp at h
    exact ⟨c,h.symm⟩
  . rw [List.getElem?_eq_none (by simpa using c)] at h
    cases h
theorem b9q {lo:Int} {n:Nat}:(bJq lo n).length=n:=by simp [bJq]
@[irreducible] def onR (r:List D->Option (Int × Nat)) (ds:List D) (k:Int->Nat->Prop):Prop:=match r ds with
  | some (lo,n)=>k lo n
  | none=>False
abbrev iXq (r:List D->Option (Int × Nat)) (t:DTA):DTI:=λ ρ G R=>t ρ G λ ds G1=>onR r ds λ lo n=>R ⟨bJq lo n,λ _=>True⟩ G1
def dAq (i:Int):Bool:=decide (-(2 ^ 62)<=i)&&decide (i < 2 ^ 62)
def oOq:List D->Option (Int × Nat)
  | [.int j]=>if dAq j=true then some (0,j.toNat) else none
  | _=>none
def nYq:List D->Option (Int × Nat)
  | [.int i,.int j]=>if dAq i=true/\dAq j=true then some (i,(j - i).toNat) else none
  | _=>none
theorem small62_iff {i:Int}:dAq i=true ↔ -(2 ^ 62)<=i/\i < 2 ^ 62:=by unfold dAq;simp
theorem lGq {K:PySem.W.Frag} {lo:Int} {n:Nat} {G1:DV} {H1:Hp} (v:Vw K G1 H1) :
    (∀ (i:Nat) (d:D),(bJq lo n)[i]?=some d->(Itr lo n).go i H1/\∀ x H',(Itr lo n).yld i H1 x H'->Go K G1 H1 G1 H'/\Abs K H' d x)/\∀ i,(bJq lo n).length<=i->(Itr lo n).stop i H1:=by
  refine ⟨λ i d hd=>?_,λ i hi=>by rw [b9q] at hi;exact hi⟩
  obtain ⟨h1,rfl⟩:=dLq hd
  refine ⟨h1,λ x H' y=>?_⟩
  obtain ⟨rfl,rfl⟩:=y
  exact ⟨.refl v,rfl⟩
theorem kMq {ds:List D} {lo:Int} {n:Nat} (h:oOq ds=some (lo,n)):∃ j,ds=[.int j]/\(-(2 ^ 62)<=j/\j < 2 ^ 62)/\lo=0/\n=j.toNat:=by
  unfold oOq at h
  split at h
  . next j=>
    split at h
    . next c=>cases h;exact ⟨j,rfl,small62_iff.mp c,rfl,rfl⟩
    . cases h
  . cases h
theorem k3q {ds:List D} {lo:Int} {n:Nat} (h:nYq ds=some (lo,n)):∃ j,ds=[.int lo,.int j]/\(-(2 ^ 62)<=lo/\lo < 2 ^ 62/\-(2 ^ 62)<=j/\j < 2 ^ 62)/\n=(j - lo).toNat:=by
  unfold nYq at h
  split at h
  . next i j=>
    split at h
    . next c=>
      cases h
      have c1:=small62_iff.mp c.1
      have c2:=small62_iff.mp c.2
      exact ⟨j,rfl,⟨c1.1,c1.2,c2.1,c2.2⟩,rfl⟩
    . cases h
  . cases h
theorem j4q {j:Int} {k:Int->Nat->Prop} (h:-(2 ^ 62)<=j/\j < 2 ^ 62) (q:k 0 j.toNat):onR oOq [.int j] k:=by
  have e:oOq [.int j]=some (0,j.toNat):=if_pos (small62_iff.mpr h)
  unfold onR;rw [e];exact q
theorem n5q {i j:Int} {k:Int->Nat->Prop} (h1:-(2 ^ 62)<=i/\i < 2 ^ 62) (h2:-(2 ^ 62)<=j/\j < 2 ^ 62) (q:k i (j - i).toNat):onR nYq [.int i,.int j] k:=by
  have e:nYq [.int i,.int j]=some (i,(j - i).toNat):=if_pos ⟨small62_iff.mpr h1,small62_iff.mpr h2⟩
  unfold onR;rw [e];exact q
theorem d0q {r:List D->Option (Int × Nat)} {ds:List D} {R:DIt->DV->Prop} {G:DV} (h:onR r ds λ lo n=>R ⟨bJq lo n,λ _=>True⟩ G):∃ lo n,r ds=some (lo,n)/\R ⟨bJq lo n,λ _=>True⟩ G:=by
  unfold onR at h
  split at h
  . next lo n e=>exact ⟨lo,n,e,h⟩
  . exact h.elim
theorem fAq (hg:Gl X "range") (hm:X.mg "range" = none) (ha:AA X [a] t) (hs:aHq a=true:=by rfl):AI X tg (.Call (.Name "range" p) [a] [] pos) (iXq oOq t):=by
  obtain ⟨ca,ja,ra⟩:=ha.run
  refine ⟨_,i6q hg hm ja hs,λ ρ G DR σ H R B q F=>ra ρ G _ σ H _ B q λ ds G1 vs H1 g1 al hl q1=>?_⟩
  obtain ⟨lo,n,e,q2⟩:=d0q q1
  obtain ⟨j,rfl,c,rfl,rfl⟩:=kMq e
  obtain ⟨v,r,rfl,av,l⟩:=al
  cases l;cases av
  exact ⟨j,rfl,c.1,c.2,F _ _ G1 H1 g1 (λ G2 H2 g2 _=>lGq g2.vw) q2⟩
theorem iZq (hg:Gl X "range") (hm:X.mg "range" = none) (ha:AA X [a,b] t) (h1:aHq a=true:=by rfl) (h2:aHq b=true:=by rfl):AI X tg (.Call (.Name "range" p) [a,b] [] pos) (iXq nYq t):=by
  obtain ⟨ca,ja,ra⟩:=ha.run
  refine ⟨_,iRq hg hm ja h1 h2,λ ρ G DR σ H R B q F=>ra ρ G _ σ H _ B q λ ds G1 vs H1 g1 al hl q1=>?_⟩
  obtain ⟨lo,n,e,q2⟩:=d0q q1
  obtain ⟨j,rfl,c,rfl⟩:=k3q e
  obtain ⟨v,r,rfl,av,u,r2,rfl,au,l⟩:=al
  cases l;cases av;cases au
  exact ⟨lo,j,rfl,c,F _ _ G1 H1 g1 (λ G2 H2 g2 _=>lGq g2.vw) q2⟩
def Wk (P:DSt->DV->Prop):DSt->DV->Prop:=λ ρ G=>∃ ρ' G',StSub ρ' ρ/\Sub G' G/\P ρ' G'
theorem Wk.of {P:DSt->DV->Prop} {ρ:DSt} {G:DV} (h:P ρ G):Wk P ρ G:=⟨ρ,G,.refl _,.refl _,h⟩
abbrev uUq (wi:DTI) (g:DTG) (tb:DTS):DTS:=λ DD ρ G=>wi ρ G λ J G1=>∃ P:Nat->DSt->DV->Prop,P 0 ρ G1/\(∀ i ρ G,i<=J.items.length->P i ρ G->J.held G) ∧
  (∀ (i:Nat) (d:D) (ρ:DSt) (G:DV),J.items[i]?=some d->P i ρ G->g d ρ G λ ρ' G'=>tb { DD with nx:=Wk (P (i+1)),ct:=Wk (P (i+1)),bk:=DD.nx } ρ' G')/\∀ ρ G,P J.items.length ρ G->DD.nx ρ G
theorem j9q {body:List Stmt} {wi:DTI} {g:DTG} {tb:DTS} (hp:PassesOwn (model X.prog X.w) X.A X.env X.xe) (hc:X.calm=true) (hi:AI X tg iter wi) (hg:AG X tg g) (hb:AB X body tb) (hs:∀ x,foldedSetIterable iter X.env x=pure x:=by intro _;rfl) :
    AS X (.For tg iter body [] pos) (uUq wi g tb):=by
  obtain ⟨ci,ji,ri⟩:=hi.run
  obtain ⟨cg,jg,rg⟩:=hg.run
  obtain ⟨cb,jb,rb⟩:=hb.run
  refine ⟨_,oXq hp hc ji jg jb hs,λ DD Dc ρ G σ H B q F=>ri ρ G _ σ H _ B q λ J Jc G1 H1 g1 ok q1=>?_⟩
  obtain ⟨P,p0,held,turn,done⟩:=q1
  refine ⟨λ i m σ' H'=>m=J.items.length - i/\i<=J.items.length/\∃ ρ' G',P i ρ' G'/\Bears X.K ρ' G' σ' H'/\Go X.K G1 H1 G' H',⟨_,rfl,Nat.zero_le _,ρ,G1,p0,B.go g1,.refl g1.vw⟩,?_⟩
  rintro i m σ2 H2 ⟨rfl,hi,ρ2,G2,p2,b2,g2⟩
  have k2:=ok G2 H2 g2 (held i ρ2 G2 hi p2)
  by_cases hlt:i < J.items.length
  . have hd:J.items[i]?=some J.items[i]:=by simp [hlt]
    obtain ⟨go,yl⟩:=k2.1 i _ hd
    refine .inr ⟨go,λ σ' H'=>∃ ρ' G',P (i+1) ρ' G'/\Bears X.K ρ' G' σ' H'/\Go X.K G1 H1 G' H',λ σ' H' ⟨ρ',G',z1,z2,z3⟩=>⟨J.items.length - (i+1),by omega,rfl,hlt,ρ',G',z1,z2,z3⟩,λ x H' y=>?_⟩
    obtain ⟨g3,ax⟩:=yl x H' y
    refine rg _ x ρ2 G2 _ σ2 H' _ (b2.go g3) ax (turn i _ ρ2 G2 hd p2) λ ρ4 G4 σ4 H4 g4 b4 q4=>?_
    have gg:=(g2.trans g3).trans g4
    have again:∀ ρ' G' σ' H',Go X.K G4 H4 G' H'->Bears X.K ρ' G' σ' H'->Wk (P (i+1)) ρ' G'->∃ ρ' G',P (i+1) ρ' G'/\Bears X.K ρ' G' σ' H'/\Go X.K G1 H1 G' H':=λ ρ' G' σ' H' g' b' ⟨ρ5,G5,s1,s2,w⟩=>
      ⟨ρ5,G5,w,b'.weak s1 s2,(gg.trans g').sub s2⟩
    exact rb _ _ ρ4 G4 σ4 H4 b4 q4 ⟨λ ρ' G' σ' H' g' b' w=>again ρ' G' σ' H' g' b' w,(F.after ((g1.trans gg))).rt,λ ρ' G' σ' H' g' b' w=>F.nx ρ' G' σ' H' ((g1.trans gg).trans g') b' w,λ ρ' G' σ' H' g' b' w=>again ρ' G' σ' H' g' b' w⟩
  . have e:i=J.items.length:=by omega
    subst e
    exact .inl ⟨k2.2 _ (Nat.le_refl _),F.nx ρ2 G2 σ2 H2 (g1.trans g2) b2 (done ρ2 G2 p2)⟩
abbrev qOq (tc:DTT) (tb:DTS):DTS:=λ DD ρ G=>∃ W:Nat->DSt->DV->Prop,(∃ m,W m ρ G)/\∀ m ρ G,W m ρ G →
  tc ρ G λ b G1=>Br b (tb { DD with nx:=Wk λ ρ' G'=>∃ m',m' < m/\W m' ρ' G',ct:=Wk λ ρ' G'=>∃ m',m' < m/\W m' ρ' G',bk:=DD.nx } ρ G1) (DD.nx ρ G1)
theorem kZq {body:List Stmt} {tc:DTT} {tb:DTS} (hp:PassesOwn (model X.prog X.w) X.A X.env X.xe) (hc:AT X c tc) (hb:AB X body tb):AS X (.While c body [] pos) (qOq tc tb):=by
  obtain ⟨cc,jc,rc⟩:=hc.run
  obtain ⟨cb,jb,rb⟩:=hb.run
  refine ⟨_,jTq hp jc jb,λ DD Dc ρ G σ H B q F=>?_⟩
  obtain ⟨W,⟨m0,w0⟩,turn⟩:=q
  refine ⟨λ m σ' H'=>∃ ρ' G',W m ρ' G'/\Bears X.K ρ' G' σ' H'/\Go X.K G H G' H',⟨m0,ρ,G,w0,B,.refl B.vw⟩,?_⟩
  rintro m σ2 H2 ⟨ρ2,G2,w2,b2,g2⟩
  refine rc ρ2 G2 _ σ2 H2 _ b2 (turn m ρ2 G2 w2) λ k G3 H3 g3 q3=>?_
  cases k with
  | true=>
    refine ⟨λ σ' H'=>∃ m',m' < m/\∃ ρ' G',W m' ρ' G'/\Bears X.K ρ' G' σ' H'/\Go X.K G H G' H',λ σ' H' ⟨m',z,ρ',G',z1,z2,z3⟩=>⟨m',z,ρ',G',z1,z2,z3⟩,?_⟩
    have gg:=g2.trans g3
    have again:∀ ρ' G' σ' H',Go X.K G3 H3 G' H'->Bears X.K ρ' G' σ' H'->Wk (λ ρ' G'=>∃ m',m' < m/\W m' ρ' G') ρ' G'->∃ m',m' < m/\∃ ρ' G',W m' ρ' G'/\Bears X.K ρ' G' σ' H'/\Go X.K G H G' H':=λ ρ' G' σ' H' g' b' ⟨ρ5,G5,s1,s2,m',hm,w⟩=>
      ⟨m',hm,ρ5,G5,w,b'.weak s1 s2,(gg.trans g').sub s2⟩
    exact rb _ _ ρ2 G3 σ2 H3 (b2.go g3) (q3.1 rfl) ⟨λ ρ' G' σ' H' g' b' w=>again ρ' G' σ' H' g' b' w,(F.after gg).rt,λ ρ' G' σ' H' g' b' w=>F.nx ρ' G' σ' H' (gg.trans g') b' w,λ ρ' G' σ' H' g' b' w=>again ρ' G' σ' H' g' b' w⟩
  | false=>exact F.nx ρ2 G3 σ2 H3 (g2.trans g3) (b2.go g3) (q3.2 rfl)
end
end L3
namespace L2
open PySem PySem.Spec PyProof.Rows
theorem JE.imp {X:Cx} {e:Expr} {t t':TE} (h:JE X e t) (i:∀ σ H Q,t' σ H Q->t σ H Q):JE X e t':=⟨λ pins s σ H Q I q=>h.run pins s σ H Q I (i σ H Q q)⟩
theorem JG.imp {X:Cx} {e:Expr} {t t':TG} (h:JG X e t) (i:∀ v σ H Q,t' v σ H Q->t v σ H Q):JG X e t':=⟨λ pins s σ H x v Q I r q=>h.run pins s σ H x v Q I r (i _ _ _ _ q)⟩
end L2
namespace L3
open PySem PySem.Spec L2
section
variable {X:Cx} {a b c e o i tg iter elt ct:Expr} {es:List Expr} {ta tb te to ti:DTE} {t:DTA} {pos p apos cpos:Pos}
abbrev rJq (K:PySem.W.Frag) (tc:TE) (t:DTE):Prop:=∀ ρ G DQ σ H Q,Bears K ρ G σ H->t ρ G DQ->Fin K G H DQ Q->tc σ H Q
abbrev sQq (K:PySem.W.Frag) (tc:TG) (t:DTG):Prop:=∀ d v ρ G DQ σ H Q,Bears K ρ G σ H->Abs K H d v->t d ρ G DQ->sAq K G H DQ Q->tc v σ H Q
theorem AE.uni {ι:Type} {cx:ι->Cx} {K:PySem.W.Frag} (hK:∀ z,(cx z).K=K) (h:∀ z,AE (cx z) e te):∃ tc:TE,(∀ z,JE (cx z) e tc)/\rJq K tc te:=by
  have h':∀ z,∃ tc,JE (cx z) e tc/\rJq K tc te:=λ z=>by
    have q:=(h z).run
    rw [hK z] at q
    exact q
  exact ⟨λ σ H Q=>∀ z,Classical.choose (h' z) σ H Q,λ z=>(Classical.choose_spec (h' z)).1.imp λ σ H Q q=>q z,λ ρ G DQ σ H Q B q F z=>(Classical.choose_spec (h' z)).2 ρ G DQ σ H Q B q F⟩
theorem AG.uni {ι:Type} {cx:ι->Cx} {K:PySem.W.Frag} {te:DTG} (hK:∀ z,(cx z).K=K) (h:∀ z,AG (cx z) e te):∃ tc:TG,(∀ z,JG (cx z) e tc)/\sQq K tc te:=by
  have h':∀ z,∃ tc,JG (cx z) e tc/\sQq K tc te:=λ z=>by
    have q:=(h z).run
    rw [hK z] at q
    exact q
  exact ⟨λ v σ H Q=>∀ z,Classical.choose (h' z) v σ H Q,λ z=>(Classical.choose_spec (h' z)).1.imp λ v σ H Q q=>q z,λ d v ρ G DQ σ H Q B ad q F z=>(Classical.choose_spec (h' z)).2 d v ρ G DQ σ H Q B ad q F⟩
def dBq (nt:Nat) (cap:List Nat) (ρ:DSt):DSt:=List.replicate nt none++cap.map λ i=>(ρ[i]?).join
theorem f7q {nt:Nat} {cap:List Nat} {ρ:DSt} {i:Nat} {d:D} (h:(dBq nt cap ρ)[i]?=some (some d)):nt<=i:=by
  by_cases c:nt<=i
  . exact c
  . unfold dBq at h
    rw [List.getElem?_append_left (by simpa using c),List.getElem?_replicate] at h
    rw [if_pos (by omega)] at h
    cases h
theorem Bears.comp {K:PySem.W.Frag} {ρ:DSt} {G:DV} {σ:St} {H:Hp} (B:Bears K ρ G σ H) (nt:Nat) (cap:List Nat):Bears K (dBq nt cap ρ) G (bYq nt cap σ) H:=by
  refine ⟨by simp [dBq,bYq],λ i d h=>?_,B.vw⟩
  have hi:=f7q h
  unfold dBq at h
  unfold bYq
  rw [List.getElem?_append_right (by simpa using hi)] at h ⊢
  rw [List.length_replicate,List.getElem?_map] at h ⊢
  cases e:cap[i - nt]? with
  | none=>rw [e] at h;cases h
  | some k=>
    rw [e] at h
    have h':(ρ[k]?).join=some d:=by simpa using h
    have h2:ρ[k]?=some (some d):=by
      cases q:ρ[k]? with
      | none=>rw [q] at h';cases h'
      | some z=>rw [q] at h';cases z with
        | none=>cases h'
        | some y=>simp at h';rw [h']
    obtain ⟨v,h3,h4⟩:=B.st k d h2
    exact ⟨v,by simp [h3],h4⟩
def hIq (nt:Nat) (g:DTG):Prop:=∀ d ρ G Q,g d ρ G Q->g d ρ G λ ρ' G'=>Q ρ' G'/\ρ'.length=ρ.length/\∀ i,nt<=i->ρ'[i]?=ρ[i]?
def gMq (nt:Nat) (g:hWq):Prop:=∀ d ρ G Q,g d ρ G Q->g d ρ G λ ρ' G'=>Q ρ' G'/\ρ'.length=ρ.length/\∀ i,nt<=i->ρ'[i]?=ρ[i]?
theorem b5q {nt k:Nat} (h:k < nt):hIq nt (fSq k):=λ d ρ G Q q=>⟨q,by simp,λ i hi=>List.getElem?_set_ne (by omega)⟩
theorem dRq {nt:Nat}:gMq nt mEq:=λ ds ρ G Q q=>by
  cases ds with
  | nil=>exact ⟨q,rfl,λ _ _=>rfl⟩
  | cons _ _=>exact (show False from q).elim
def s4q (g:DTG):Prop:=∀ d ρ G Q Q',(∀ ρ' G',Q ρ' G'->Q' ρ' G')->g d ρ G Q->g d ρ G Q'
def k4q (g:hWq):Prop:=∀ d ρ G Q Q',(∀ ρ' G',Q ρ' G'->Q' ρ' G')->g d ρ G Q->g d ρ G Q'
theorem bTq {k:Nat}:s4q (fSq k):=λ _ _ _ _ _ i q=>i _ _ q
theorem cKq:k4q mEq:=λ ds ρ G Q Q' i q=>by
  cases ds with
  | nil=>exact i _ _ q
  | cons _ _=>exact (show False from q).elim
theorem fXq {g:DTG} {u:hWq} (h1:s4q g) (h2:k4q u):k4q (iGq g u):=λ ds ρ G Q Q' i q=>by
  cases ds with
  | nil=>exact (show False from q).elim
  | cons d r=>exact h1 d ρ G _ _ (λ ρ' G' z=>h2 r ρ' G' _ _ i z) q
theorem bGq {nt:Nat} {g:DTG} {u:hWq} (m1:s4q g) (m2:k4q u) (h1:hIq nt g) (h2:gMq nt u):gMq nt (iGq g u):=λ ds ρ G Q q=>by
  cases ds with
  | nil=>exact (show False from q).elim
  | cons d r=>exact m1 d ρ G _ _ (λ ρ' G' ⟨z,z1,z2⟩=>m2 r ρ' G' _ _ (λ ρ2 G2 ⟨y,y1,y2⟩=>⟨y,y1.trans z1,λ i hi=>(y2 i hi).trans (z2 i hi)⟩) (h2 r ρ' G' Q z)) (h1 d ρ G _ q)
theorem fCq {nt:Nat} {u:hWq} (h:gMq nt u):hIq nt (oSq u):=λ d ρ G Q q=>by
  cases d with
  | tup ds=>exact h ds ρ G Q q
  | _=>exact (show False from q).elim
def WkV (P:DV->Prop):DV->Prop:=λ G=>∃ G',Sub G' G/\P G'
theorem WkV.of {P:DV->Prop} {G:DV} (h:P G):WkV P G:=⟨G,.refl _,h⟩
@[irreducible] def g7q (g:DTG) (te:DTE) (nt:Nat) (cap:List Nat) (ρ:DSt) (Q:DK) (J:DIt) (G1:DV):Prop:=J.items.length < sizeLine/\∃ P:Nat->List D->DV->Prop,P 0 [] G1/\(∀ i ds G,i<=J.items.length->P i ds G->J.held G) ∧
  (∀ (i:Nat) (d:D) (ds:List D) (G:DV),J.items[i]?=some d->P i ds G->g d (dBq nt cap ρ) G λ ρ3 G3=>te ρ3 G3 λ y G4=>WkV (P (i+1) (ds++[y])) G4)/\∀ ds G,P J.items.length ds G->∀ p,G p=none->Q (.ref p) (up G p (.lst ds))
abbrev nBq (wi:DTI) (g:DTG) (te:DTE) (nt:Nat) (cap:List Nat):DTE:=λ ρ G Q=>wi ρ G (g7q g te nt cap ρ Q)
theorem h5q {g:DTG} {te:DTE} {nt:Nat} {cap:List Nat} {ρ:DSt} {Q:DK} {J:DIt} {G1:DV} (P:Nat->List D->DV->Prop) (hz:J.items.length < sizeLine) (h0:P 0 [] G1) (held:∀ i ds G,i<=J.items.length->P i ds G->J.held G)
    (turn:∀ (i:Nat) (d:D) (ds:List D) (G:DV),J.items[i]?=some d->P i ds G->g d (dBq nt cap ρ) G λ ρ3 G3=>te ρ3 G3 λ y G4=>WkV (P (i+1) (ds++[y])) G4) (done:∀ ds G,P J.items.length ds G->∀ p,G p=none->Q (.ref p) (up G p (.lst ds))):g7q g te nt cap ρ Q J G1:=by
  unfold g7q;exact ⟨hz,P,h0,held,turn,done⟩
theorem h4q {α:Type} {J:DIt} {G1:DV} {g:DTG} {te:DTE} {nt:Nat} {cap:List Nat} {ρ:DSt} {Q:DK} (xs:List α) (en fn:α->D) (he:J.items=xs.map en) (hz:xs.length < sizeLine) (held:J.held G1)
    (turn:∀ x∈xs,∀ R:DK,R (fn x) G1->g (en x) (dBq nt cap ρ) G1 λ ρ3 G3=>te ρ3 G3 R) (q:∀ p,G1 p=none->Q (.ref p) (up G1 p (.lst (xs.map fn)))) :
    g7q g te nt cap ρ Q J G1:=by
  unfold g7q
  refine ⟨by rw [he,List.length_map];exact hz,λ i ds G=>G=G1/\ds=(xs.take i).map fn,⟨rfl,rfl⟩,λ i ds G _ h=>h.1 ▸ held,?_,?_⟩
  . rintro i d ds G hd ⟨rfl,rfl⟩
    rw [he,List.getElem?_map] at hd
    cases e:xs[i]? with
    | none=>rw [e] at hd;cases hd
    | some x=>
      rw [e] at hd
      cases hd
      refine turn x (List.mem_of_getElem? e) _ (WkV.of ⟨rfl,?_⟩)
      rw [List.take_add_one,e,List.map_append];rfl
  . rintro ds G ⟨rfl,rfl⟩ p hp
    rw [he,List.length_map,List.take_length]
    exact q p hp
theorem Vw.priv {K:PySem.W.Frag} {G:DV} {H:Hp} {acc:Addr} {ys zs:List V} (v:Vw K G H) (h:H acc=some (.lst ys)) (n:G acc=Option.none):Vw K G (upd H acc (.lst zs)):=λ a o e=>
  (v a o e).mono (b4q h) (aGq (by rintro rfl;rw [n] at e;cases e))
theorem Go.priv {K:PySem.W.Frag} {G G':DV} {H H':Hp} {acc:Addr} {ys zs:List V} (g:Go K G H G' H') (h0:H acc=none) (h:H' acc=some (.lst ys)) (n:G' acc=none):Go K G H G' (upd H' acc (.lst zs)) where
  tup:=⟨λ a xs q=>(b4q h).tp a xs (g.tup.tp a xs q),λ a xs q=>(b4q h).fr a xs (g.tup.fr a xs q),λ a o q=>(b4q (K:=K) h).fz a o (g.tup.fz a o q)⟩
  dom:=λ a o e=>by
    obtain ⟨o',e'⟩:=g.dom a o e
    exact ⟨o',by rw [aGq (aIq e h0)];exact e'⟩
  same:=λ a o e z=>by rw [aGq (aIq e h0)];exact g.same a o e z
  new:=g.new
  vw:=g.vw.priv h n
theorem Bears.priv {K:PySem.W.Frag} {ρ:DSt} {G:DV} {σ:St} {H:Hp} {acc:Addr} {ys zs:List V} (B:Bears K ρ G σ H) (h:H acc=some (.lst ys)) (n:G acc=none):Bears K ρ G σ (upd H acc (.lst zs)):=
  ⟨B.len,λ i d e=>let ⟨v,h1,h2⟩:=B.st i d e;⟨v,h1,h2.mono (b4q h)⟩,B.vw.priv h n⟩
theorem Go.held {K:PySem.W.Frag} {G G':DV} {H H':Hp} {acc:Addr} {ds:List D} {ys:List V} (g:Go K G H G' H') (h0:H acc=none) (h:H' acc=some (.lst ys)) (r:AbsL K H' ds ys):Go K G H (up G' acc (.lst ds)) H' where
  tup:=g.tup
  dom:=g.dom
  same:=g.same
  new:=λ a o e z=>by rw [aWq (aIq e h0)];exact g.new a o e z
  vw:=λ a o e=>by
    by_cases c:a=acc
    . subst c;rw [a9q] at e;cases e;exact ⟨ys,h,r⟩
    . rw [aWq c] at e;exact g.vw a o e
theorem fDq {K:PySem.W.Frag} {ci:TI} {cg:TG} {ce:TE} {wi:DTI} {g:DTG} {te:DTE} {nt:Nat} {cap:List Nat} (hk:hIq nt g)
    (ri:∀ ρ G DR σ H R,Bears K ρ G σ H->wi ρ G DR->(∀ J Jc G' H',Go K G H G' H'->uBq K J Jc G' H'->DR J G'->R Jc H')->ci σ H R) (rg:sQq K cg g) (re:rJq K ce te):rJq K (j2q ci cg ce nt cap) (nBq wi g te nt cap):=by
  intro ρ G DQ σ H Q B q F
  refine ri ρ G _ σ H _ B q λ J Jc G1 H1 g1 ok q1=>?_
  unfold g7q at q1
  obtain ⟨hsz,P,p0,held,turn,done⟩:=q1
  intro acc hacc
  have n1:=g1.vw.none hacc
  have gN:=Go.newT (o:=.lst []) g1.vw hacc
  refine ⟨λ i m ys σ' H'=>m=J.items.length - i/\i<=J.items.length/\∃ ds G',P i ds G'/\AbsL K H' ds ys/\ds.length<=i/\Bears K (dBq nt cap ρ) G' σ' H'/\Go K G1 H1 G' H'/\G' acc=none/\H' acc=some (.lst ys),
    ⟨_,rfl,Nat.zero_le _,[],G1,p0,rfl,Nat.le_refl _,((B.go g1).comp nt cap).go gN,gN,n1,aRq⟩,?_⟩
  rintro i m ys σ2 H2 ⟨rfl,hi,ds,G2,p2,r2,l2,b2,g2,n2,h2⟩
  have k2:=ok G2 H2 g2 (held i ds G2 hi p2)
  by_cases hlt:i < J.items.length
  . have hd:J.items[i]?=some J.items[i]:=by simp [hlt]
    obtain ⟨go,yl⟩:=k2.1 i _ hd
    refine .inr ⟨go,λ x H' y=>?_⟩
    obtain ⟨g3,ax⟩:=yl x H' y
    refine rg _ x _ G2 _ σ2 H' _ (b2.go g3) ax (hk _ _ _ _ (turn i _ ds G2 hd p2)) λ ρ4 G4 σ4 H4 g4 b4 ⟨q4,hl4,hs4⟩=>?_
    refine re ρ4 G4 _ σ4 H4 _ b4 q4 λ z G5 u H5 g5 az q5=>?_
    obtain ⟨G6,s6,p6⟩:=q5
    have gg:=(g3.trans g4).trans g5
    have h5:=gg.same acc _ h2 n2
    have n5:=gg.new acc _ h2 n2
    have n6:=s6.none n5
    have b5:Bears K (dBq nt cap ρ) G6 σ4 H5:=(b4.go g5).weak ⟨hl4.symm,λ j d e=>by rw [hs4 j (f7q e)];exact e⟩ s6
    refine ⟨h5,by rw [r2.len];omega,J.items.length - (i+1),by omega,rfl,hlt,ds++[z],G6,p6,((r2.mono gg.tup).append (.one az)).mono (b4q h5),by simp;omega,b5.priv h5 n6,(((g2.trans gg).sub s6)).priv hacc h5 n6,n6,aRq⟩
  . have e:i=J.items.length:=by omega
    subst e
    refine .inl ⟨k2.2 _ (Nat.le_refl _),F (.ref acc) (up G2 acc (.lst ds)) _ _ ((g1.trans g2).held ?_ h2 r2) rfl (done ds G2 p2 acc n2)⟩
    cases z:H acc with
    | none=>rfl
    | some o=>obtain ⟨o',e'⟩:=g1.dom acc o z;rw [hacc] at e';cases e'
theorem gFq {scope:Scope} {N':List Str} {nt:Nat} {cap:List Nat} {wi:DTI} {g:DTG} (hc:X.calm=true) (ok:CompOk X scope N' nt cap) (hk:hIq nt g) (hi:AI X tg iter wi) (hg:∀ C ex s H,AG (aNq X scope N' C ex s H) tg g) (he:∀ C ex s H,AE (aNq X scope N' C ex s H) elt te)
    (hs:∀ x,foldedSetIterable iter X.env x=pure x:=by intro _;rfl):AE X (.ListComp elt [⟨tg,iter,[],0⟩] scope pos) (nBq wi g te nt cap):=by
  obtain ⟨ci,ji,ri⟩:=hi.run
  obtain ⟨cg,jg,rg⟩:=AG.uni (ι:=Addr × List Addr × Shared × Hp) (cx:=λ z=>aNq X scope N' z.1 z.2.1 z.2.2.1 z.2.2.2) (K:=X.K) (λ _=>rfl) λ z=>hg _ _ _ _
  obtain ⟨ce,je,re⟩:=AE.uni (ι:=Addr × List Addr × Shared × Hp) (cx:=λ z=>aNq X scope N' z.1 z.2.1 z.2.2.1 z.2.2.2) (K:=X.K) (λ _=>rfl) λ z=>he _ _ _ _
  exact ⟨_,lQq hc ok ji (λ C ex s H=>jg (C,ex,s,H)) (λ C ex s H=>je (C,ex,s,H)) hs,fDq hk ri rg re⟩
theorem hKq {scope:Scope} {N':List Str} {nt:Nat} {cap:List Nat} {wi:DTI} {g:DTG} {y:Str} {py spos:Pos} {k:Nat} (hc:X.calm=true) (hN:X.N.Nodup) (hy:X.N[k]?=some y) (hl:Loc X.env.scope y) (ok:CompOk X scope N' nt cap) (hk:hIq nt g) (hi:AI X tg iter wi) (hg:∀ C ex s H,AG (aNq X scope N' C ex s H) tg g) (he:∀ C ex s H,AE (aNq X scope N' C ex s H) elt te)
    (hs:∀ x,foldedSetIterable iter X.env x=pure x:=by intro _;rfl) (hsw:swapsWith (.ListComp elt [⟨tg,iter,[],0⟩] scope pos) (some (.Name y py)) spos.line X.env=pure true:=by rfl) (hf:X.fn y=true\/X.env.scope.names.lookup y=some .local:=by first | exact .inl rfl | exact .inr rfl | assumption) :
    AS X (.Assign [.Name y py] (.ListComp elt [⟨tg,iter,[],0⟩] scope pos) spos) (sXq (nBq wi g te nt cap) (fSq k)):=by
  obtain ⟨ci,ji,ri⟩:=hi.run
  obtain ⟨cg,jg,rg⟩:=AG.uni (ι:=Addr × List Addr × Shared × Hp) (cx:=λ z=>aNq X scope N' z.1 z.2.1 z.2.2.1 z.2.2.2) (K:=X.K) (λ _=>rfl) λ z=>hg _ _ _ _
  obtain ⟨ce,je,re⟩:=AE.uni (ι:=Addr × List Addr × Shared × Hp) (cx:=λ z=>aNq X scope N' z.1 z.2.1 z.2.2.1 z.2.2.2) (K:=X.K) (λ _=>rfl) λ z=>he _ _ _ _
  exact ⟨_,hOq hc hN hy hl ok ji (λ C ex s H=>jg (C,ex,s,H)) (λ C ex s H=>je (C,ex,s,H)) hs hsw hf,λ DD Dc ρ G σ H B q F=>fDq hk ri rg re ρ G _ σ H _ B q λ d G1 v H1 g1 a q1=>F.nx _ G1 _ H1 g1 ((B.go g1).set a k) q1⟩
structure AMt (X:Cx) (T id:String) (ty:D->DV->Prop) (r:D->List D->DV->DK->Prop):Prop where
  run:∃ rc:V->List V->Hp->VK->Prop,JMt X id rc/\(∀ x v G H,Vw X.K G H->Abs X.K H x v->ty x G->tyV X.K T v H) ∧
    ∀ x xs vx vs G H DQ Q,Vw X.K G H->Abs X.K H x vx->AbsL X.K H xs vs->r x xs G DQ->Fin X.K G H DQ Q->rc vx vs H Q
abbrev dBM (ty:D->DV->Prop) (r:D->List D->DV->DK->Prop) (to:DTE) (t:DTA):DTE:=λ ρ G Q=>to ρ G λ x G1=>ty x G1/\t ρ G1 λ xs G2=>r x xs G2 Q
abbrev uQq (ty:D->DV->Prop) (r:D->List D->DV->DK->Prop) (to:DTE):DTE:=λ ρ G Q=>to ρ G λ x G1=>ty x G1/\r x [] G1 Q
theorem kJq {name:Str} {T id:String} {ty:D->DV->Prop} {r:D->List D->DV->DK->Prop} (pa:PlainAttrs T) (slot:Slot T name id) (hty:typeOf (.builtin id)=pure (.type "method_descriptor")) (hm:AMt X T id ty r) (ho:AE X o to) (ha:AA X [e] t)
    (hbase:attributeBase o name X.env (eval o X.env)=eval o X.env:=by rfl) (hline:(apos.endLine==cpos.line)=true:=by rfl) (hs:aHq e=true:=by rfl):AE X (.Call (.Attribute o name apos) [e] [] cpos) (dBM ty r to t):=by
  obtain ⟨co,jo,ro⟩:=ho.run
  obtain ⟨ca,ja,ra⟩:=ha.run
  obtain ⟨cm,jm,hy,rm⟩:=hm.run
  refine ⟨_,rMq pa slot hty jm jo ja hbase hline hs,λ ρ G DQ σ H Q B q F=>ro ρ G _ σ H _ B q λ x G1 v H1 g1 ax ⟨h1,q1⟩=>⟨hy x v G1 H1 g1.vw ax h1,?_⟩⟩
  exact ra ρ G1 _ σ H1 _ (B.go g1) q1 λ xs G2 vs H2 g2 al _ q2=>rm x xs v vs G2 H2 DQ Q g2.vw (ax.mono g2.tup) al q2 (F.after (g1.trans g2))
theorem j0q {name:Str} {T id:String} {ty:D->DV->Prop} {r:D->List D->DV->DK->Prop} (pa:PlainAttrs T) (slot:Slot T name id) (hty:typeOf (.builtin id)=pure (.type "method_descriptor")) (hm:AMt X T id ty r) (ho:AE X o to)
    (hbase:attributeBase o name X.env (eval o X.env)=eval o X.env:=by rfl) (hline:(apos.endLine==cpos.line)=true:=by rfl):AE X (.Call (.Attribute o name apos) [] [] cpos) (uQq ty r to):=by
  obtain ⟨co,jo,ro⟩:=ho.run
  obtain ⟨cm,jm,hy,rm⟩:=hm.run
  exact ⟨_,oRq pa slot hty jm jo hbase hline,λ ρ G DQ σ H Q B q F=>ro ρ G _ σ H _ B q λ x G1 v H1 g1 ax ⟨h1,q1⟩=>⟨hy x v G1 H1 g1.vw ax h1,rm x [] v [] G1 H1 DQ Q g1.vw ax rfl q1 (F.after g1)⟩⟩
def k1q:D->DV->Prop:=λ x G=>match x with
  | .ref l=>onL G l λ _=>True
  | _=>False
theorem eFq {K:PySem.W.Frag} {x:D} {v:V} {G:DV} {H:Hp} (w:Vw K G H) (ax:Abs K H x v) (h:k1q x G):tyV K "list" v H:=by
  cases x with
  | ref l=>cases ax;obtain ⟨ds,vs,_,s,_⟩:=aYq w h;exact .inl ⟨rfl,vs,s⟩
  | _=>exact (show False from h).elim
def tQq:D->List D->DV->DK->Prop:=λ x xs G Q=>match x,xs with
  | .ref l,[y]=>onM G l λ ds=>ds.length < sizeLine/\Q .non (up G l (.lst (ds++[y])))
  | _,_=>False
theorem cAq:AMt X "list" "list.append" k1q tQq:=by
  refine ⟨_,⟨cQq⟩,λ x v G H w ax h=>eFq w ax h,λ x xs vx vs G H DQ Q v ax al r F=>?_⟩
  unfold tQq at r
  split at r
  . next l y=>
    cases ax
    obtain ⟨u,us,rfl,au,z⟩:=al
    cases z
    obtain ⟨ds,ws,k,e1,h1,r1⟩:=bOq v r
    exact ⟨l,ws,u,rfl,rfl,h1,by rw [r1.len];exact k.1,F .non _ _ _ (Go.setL v e1 (r1.append (.one au))) rfl k.2⟩
  . exact r.elim
def tZq:D->List D->DV->DK->Prop:=λ x xs G Q=>match x,xs with
  | .ref l,[.tup es]=>onM G l λ ds=>ds.length+es.length<=sizeLine/\Q .non (up G l (.lst (ds++es)))
  | .ref l,[.ref m]=>onM G l λ ds=>onM G m λ es=>ds.length+es.length<=sizeLine/\Q .non (up G l (.lst (ds++es)))
  | _,_=>False
theorem JMt.or {id:String} {r r':V->List V->Hp->VK->Prop} (h:JMt X id r) (h':JMt X id r'):JMt X id (λ x xs H Q=>r x xs H Q\/r' x xs H Q):=⟨h.run.or h'.run⟩
theorem hCq:AMt X "list" "list.extend" k1q tZq:=by
  refine ⟨_,JMt.or ⟨mZq⟩ ⟨iOq⟩,λ x v G H w ax h=>eFq w ax h,λ x xs vx vs G H DQ Q v ax al r F=>?_⟩
  unfold tZq at r
  split at r
  . next l es'=>
    cases ax
    obtain ⟨u,us,rfl,⟨m,zs,rfl,s,rz⟩,z⟩:=al
    cases z
    obtain ⟨ds,ws,k,e1,h1,r1⟩:=bOq v r
    exact .inl ⟨l,m,ws,zs,rfl,rfl,h1,s,by rw [r1.len,rz.len];exact k.1,F .non _ _ _ (Go.setL v e1 (r1.append rz)) rfl k.2⟩
  . next l m=>
    cases ax
    obtain ⟨u,us,rfl,au,z⟩:=al
    cases z;cases au
    obtain ⟨ds,ws,k,e1,h1,r1⟩:=bOq v r
    obtain ⟨es',zs,k2,e2,h2,r2⟩:=bOq v k
    exact .inr ⟨l,m,ws,zs,rfl,rfl,h1,h2,by rw [r1.len,r2.len];exact k2.1,F .non _ _ _ (Go.setL v e1 (r1.append r2)) rfl k2.2⟩
  . exact r.elim
def u1q:D->List D->DV->DK->Prop:=λ x xs G Q=>match x,xs with
  | .ref l,[]=>onM G l λ ds=>∃ es d,ds=es++[d]/\Q d (up G l (.lst es))
  | _,_=>False
theorem gGq:AMt X "list" "list.pop" k1q u1q:=by
  refine ⟨_,⟨q2q⟩,λ x v G H w ax h=>eFq w ax h,λ x xs vx vs G H DQ Q v ax al r F=>?_⟩
  unfold u1q at r
  split at r
  . next l=>
    cases ax;cases al
    obtain ⟨ds,ws,⟨es',d,rfl,k⟩,e1,h1,r1⟩:=bOq v r
    have hl:=r1.len
    have hd:(es'++[d])[es'.length]?=some d:=by simp
    obtain ⟨u,hu,au⟩:=r1.get hd
    have e:ws.length - 1=es'.length:=by rw [hl];simp
    have r2:AbsL X.K H es' ws.dropLast:=by
      have z:=r1.take es'.length
      rw [List.take_left] at z
      rw [List.dropLast_eq_take,e];exact z
    have g:=Go.setL v e1 r2
    exact ⟨l,ws,u,rfl,rfl,h1,by rw [e];exact hu,F d _ _ _ g (au.mono g.tup) k⟩
  . exact r.elim
abbrev DSp:=List D->DV->DK->Prop
def aKq (K:PySem.W.Frag) (dsp:DSp):Sp:=λ vs H Q _=>∃ ds G DQ,AbsL K H ds vs/\Vw K G H/\dsp ds G DQ/\Fin K G H DQ Q
abbrev rAq (dsp:DSp) (t:DTA):DTE:=λ ρ G Q=>t ρ G λ ds G1=>dsp ds G1 Q
theorem a5q {k j:Nat} {x:Str} {ps:List Str} {dsp:DSp} (Gt:Got X.prog X.w X.K X.mg X.base k x ps (aKq X.K dsp)) (hr:Room j X.A) (hk:k<=j) (hg:Gl X x) (ha:AA X (e::es) t) (hdb:(x==("__debug__" : Str))=false:=by decide)
    (hs:(e::es).all aHq=true:=by rfl):AE X (.Call (.Name x p) (e::es) [] pos) (rAq dsp t):=by
  obtain ⟨ca,ja,ra⟩:=ha.run
  exact ⟨_,tHq Gt hr hk hg ja hdb hs,λ ρ G DQ σ H Q B q F=>ra ρ G _ σ H _ B q λ ds G1 vs H1 g1 al _ q1=>⟨ds,G1,DQ,by rw [List.append_nil];exact al,g1.vw,q1,F.after g1⟩⟩
abbrev r2q (k:Nat) (f:Addr) (dsp:DSp) (t:DTA):DTE:=λ ρ G Q=>ρ[k]?=some (some (.ref f))/\rAq dsp t ρ G Q
theorem mCq (n:Nat) {k j:Nat} {f:Addr} {x:Str} {dsp:DSp} (Gt:FnV X.prog X.w X.K X.mg X.base k f (aKq X.K dsp)) (hr:Room j X.A) (hk:k<=j) (ha:AA X (e::es) t) (hN:X.N[n]?=some x:=by rfl) (hv:Vis X.env.scope x:=by first | exact Or.inl rfl | exact Or.inr (Or.inl rfl) | exact Or.inr (Or.inr rfl))
    (hd:(x==("__debug__" : Str))=false:=by decide) (hcd:(x==("__classdict__" : Str))=false:=by decide) (hs:(e::es).all aHq=true:=by rfl):AE X (.Call (.Name x p) (e::es) [] pos) (r2q n f dsp t):=by
  obtain ⟨ca,ja,ra⟩:=ha.run
  refine ⟨_,tKq n Gt hr hk ja hN hv hd hcd hs,λ ρ G DQ σ H Q B q F=>?_⟩
  obtain ⟨q0,q⟩:=q
  obtain ⟨v,h1,h2⟩:=B.st n _ q0
  cases h2
  exact ⟨h1,ra ρ G _ σ H _ B q λ ds G1 vs H1 g1 al _ q1=>⟨ds,G1,DQ,by rw [List.append_nil];exact al,g1.vw,q1,F.after g1⟩⟩
def Dr (DQ:DK):DK:=λ d G=>∃ G',Sub G' G/\DQ d G'
theorem Dr.of {DQ:DK} {d:D} {G:DV} (h:DQ d G):Dr DQ d G:=⟨G,.refl _,h⟩
def f1q (N:List Str) (ds:List D):DSt:=ds.map some++List.replicate (N.length - ds.length) none
theorem g3q {K:PySem.W.Frag} {N:List Str} {ds:List D} {vs:List V} {G:DV} {H:Hp} (r:AbsL K H ds vs) (v:Vw K G H):Bears K (f1q N ds) G (L2.c8q N vs) H:=by
  have hl:=r.len
  refine ⟨by simp [f1q,L2.c8q,hl],λ i d h=>?_,v⟩
  unfold f1q at h
  unfold L2.c8q
  by_cases c:i < ds.length
  . rw [List.getElem?_append_left (by simpa using c),List.getElem?_map] at h
    rw [List.getElem?_append_left (by simpa [hl] using c),List.getElem?_map]
    cases e:ds[i]? with
    | none=>rw [e] at h;cases h
    | some z=>
      rw [e] at h
      simp at h
      subst h
      obtain ⟨u,h1,h2⟩:=r.get e
      exact ⟨u,by rw [h1];rfl,h2⟩
  . rw [List.getElem?_append_right (by simpa using c),List.getElem?_replicate] at h
    split at h<;>cases h
theorem okD {P:Program} {w:World} {K:PySem.W.Frag} {mg:Str->Option Value} {base:Heap} {x qual:Str} {st:Stmt} {f:Addr} {fd:FuncData} {N ps:List Str} {k:Nat} {dsp:DSp} (F:Fun K x qual st f fd) (S:FnScope N ps (a6q st)) (len:∀ ds G DQ,dsp ds G DQ->ds.length=ps.length)
    (hbody:∀ (cdv:Value) (A:Around) (outer:List Env) (s:Shared) (H:Hp) (E:XK),Room k (A.deeper (PyProof.Rows.envOfC qual (a6q st) s.heap.objs.size f cdv))->∀ (ds:List D) (G:DV) (DQ:DK),dsp ds G DQ →
      ∃ t,AB (l0q CX0 P w K mg base N qual (a6q st) f cdv A outer s H E).nox (b1q st) t/\t { nx:=λ _ G'=>Dr DQ .non G',rt:=Dr DQ } (f1q N ds) G):FnOk P w K mg base CX0 (k+1) f fd ps (aKq K dsp):=by
  refine F.okJ S (λ vs H Q E h=>?_) (λ cdv A outer s H vs Q E hr h=>?_)
  . obtain ⟨ds,G,DQ,r,_,h,_⟩:=h
    rw [r.len];exact len ds G DQ h
  . obtain ⟨ds,G,DQ,r,v,h,Fn⟩:=h
    obtain ⟨t,⟨tc,j,imp⟩,q⟩:=hbody cdv A outer s H E hr ds G DQ h
    refine ⟨tc,j,imp _ _ (f1q N ds) G (L2.c8q N vs) H (g3q r v) q ⟨λ ρ' G' σ' H' g b ⟨G2,s2,q2⟩=>Fn .non G2 .non H' (g.sub s2) rfl q2,λ d G' v H' g a ⟨G2,s2,q2⟩=>Fn d G2 v H' (g.sub s2) a q2,λ _ _ _ _ _ _ z=>z.elim,λ _ _ _ _ _ _ z=>z.elim⟩⟩
end
end L3
namespace L3
open PySem PySem.Spec L2
mutual
def eqD:D->D->Bool
  | .non,.non=>true
  | .bl a,.bl b=>a==b
  | .bl a,.int b=>(if a then 1 else 0)==b
  | .int a,.bl b=>a==(if b then 1 else 0)
  | .int a,.int b=>a==b
  | .str a,.str b=>a==b
  | .tup xs,.tup ys=>gSq xs ys
  | _,_=>false
def gSq:List D->List D->Bool
  | [],[]=>true
  | x::xs,y::ys=>eqD x y&&gSq xs ys
  | _,_=>false
end
mutual
def D.data:D->Bool
  | .ref _=>false
  | .ty _=>false
  | .frl _=>false
  | .tup ds=>aVq ds
  | _=>true
def aVq:List D->Bool
  | []=>true
  | d::ds=>d.data&&aVq ds
end
mutual
def D.dp:D->Nat
  | .tup ds=>1+bKq ds
  | _=>0
def bKq:List D->Nat
  | []=>0
  | d::ds=>max d.dp (bKq ds)
end
def eqJ (ds es:List D) (j:Nat):Bool:=match ds[j]?,es[j]? with
  | some d,some e=>eqD d e
  | _,_=>false
theorem bAq:∀ (ds es:List D),((List.range (min ds.length es.length)).all (eqJ ds es)&&ds.length==es.length)=gSq ds es
  | [],[]=>by simp [gSq]
  | [],e::es=>by simp [gSq]
  | d::ds,[]=>by simp [gSq]
  | d::ds,e::es=>by
    rw [gSq,<- bAq ds es,List.length_cons,List.length_cons,Nat.succ_min_succ,List.range_succ_eq_map,List.all_cons,List.all_map]
    have h1:eqJ (d::ds) (e::es) 0=eqD d e:=rfl
    have h2:(eqJ (d::ds) (e::es) ∘ Nat.succ)=eqJ ds es:=by funext j;simp [eqJ]
    rw [h1,h2,Bool.and_assoc]
    congr 2
    rw [Bool.eq_iff_iff];simp
section
variable {X:Cx} {pins:List (Addr × Obj)} {σ:L2.St} {H:Hp} {s:Shared}
mutual
theorem nPq (I:Inv X pins σ H s):∀ {d e:D} {v:V},d.data=true->e.data=true->Abs X.K H d v->Abs X.K H e v->d=e
  | .non,e,v,_,h,a,b=>by
    cases a
    cases e<;>first | rfl | (cases b;done) | (obtain ⟨_,_,z,_⟩:=b;cases z)
  | .bl _,e,v,_,h,a,b=>by
    cases a
    cases e<;>first | (cases b;rfl) | (cases b;done) | (obtain ⟨_,_,z,_⟩:=b;cases z)
  | .int _,e,v,_,h,a,b=>by
    cases a
    cases e<;>first | (cases b;rfl) | (cases b;done) | (obtain ⟨_,_,z,_⟩:=b;cases z)
  | .str _,e,v,_,h,a,b=>by
    cases a
    cases e<;>first | (cases b;rfl) | (cases b;done) | (obtain ⟨_,_,z,_⟩:=b;cases z)
  | .ref _,_,_,h,_,_,_=>by simp [D.data] at h
  | .ty _,_,_,h,_,_,_=>by simp [D.data] at h
  | .frl _,_,_,h,_,_,_=>by simp [D.data] at h
  | .tup ds,e,v,h0,h,a,b=>by
    obtain ⟨l,vs,rfl,s1,r1⟩:=a
    cases e with
    | tup es=>
      obtain ⟨m,us,z,s2,r2⟩:=b
      cases z
      have e:=I.tuple_inj s1 s2
      subst e
      rw [e5q I (by simpa [D.data] using h0) (by simpa [D.data] using h) r1 r2]
    | ref m=>simp [D.data] at h
    | frl m=>simp [D.data] at h
    | _=>cases b
theorem e5q (I:Inv X pins σ H s):∀ {ds es:List D} {vs:List V},aVq ds=true->aVq es=true->AbsL X.K H ds vs->AbsL X.K H es vs->ds=es
  | [],[],_,_,_,_,_=>rfl
  | [],e::es,_,_,_,a,b=>by cases a;obtain ⟨_,_,z,_⟩:=b;cases z
  | d::ds,[],_,_,_,a,b=>by cases b;obtain ⟨_,_,z,_⟩:=a;cases z
  | d::ds,e::es,vs,h1,h2,⟨v,r,e1,a1,l1⟩,⟨u,q,e2,a2,l2⟩=>by
    subst e1
    cases e2
    simp only [aVq,Bool.and_eq_true] at h1 h2
    rw [nPq I h1.1 h2.1 a1 a2,e5q I h1.2 h2.2 l1 l2]
end
mutual
theorem eJq:∀ {d:D},d.data=true->eqD d d=true
  | .non,_=>rfl
  | .bl _,_=>by simp [eqD]
  | .int _,_=>by simp [eqD]
  | .str _,_=>by simp [eqD]
  | .ref _,h=>by simp [D.data] at h
  | .ty _,h=>by simp [D.data] at h
  | .frl _,h=>by simp [D.data] at h
  | .tup ds,h=>by rw [eqD];exact fHq (by simpa [D.data] using h)
theorem fHq:∀ {ds:List D},aVq ds=true->gSq ds ds=true
  | [],_=>rfl
  | d::ds,h=>by
    simp only [aVq,Bool.and_eq_true] at h
    rw [gSq,eJq h.1,fHq h.2];rfl
end
mutual
theorem mBq (I:Inv X pins σ H s):∀ (d e:D) (A:Around) (x y:V) (u v:Value),d.data=true->e.data=true->Abs X.K H d x->Abs X.K H e y->RelV x u->RelV y v->A.units+d.dp < cLine->SeqAt.EqAt A s u v (eqD d e)
  | .tup ds,e,A,x,y,u,v,hd,he,ax,ay,ru,rv,hu=>by
    obtain ⟨a,vs,rfl,s1,r1⟩:=ax
    cases ru
    obtain ⟨its,rr,t1,_⟩:=I.tuple s1
    have hu0:A.units < cLine:=by omega
    cases e with
    | non=>cases ay;cases rv;exact SeqAt.EqAt.tuple_none t1 hu0
    | bl b=>cases ay;cases rv;exact SeqAt.EqAt.tuple_bool b t1 hu0
    | int b=>cases ay;obtain ⟨t,rfl⟩:=rv;exact SeqAt.EqAt.tuple_int b t t1 hu0
    | str b=>cases ay;obtain ⟨t,rfl⟩:=rv;exact SeqAt.EqAt.tuple_str b t t1 hu0
    | ref b=>simp [D.data] at he
    | ty b=>simp [D.data] at he
    | frl b=>simp [D.data] at he
    | tup es=>
      obtain ⟨b,us,rfl,s2,r2⟩:=ay
      cases rv
      by_cases hab:a=b
      . subst hab
        have e1:=I.tuple_inj s1 s2
        subst e1
        have e2:=e5q I (by simpa [D.data] using hd) (by simpa [D.data] using he) r1 r2
        subst e2
        rw [eJq hd]
        exact SeqAt.EqAt.same _
      . obtain ⟨its2,rr2,t2,_⟩:=I.tuple s2
        have l1:=rr.length
        have l2:=rr2.length
        have l3:=r1.len
        have l4:=r2.len
        simp only [D.dp] at hu
        have z:=SeqAt.RcAt.tuples (A:=A) (e:=eqJ ds es) t1 t2 hu0 (λ j h1 h2=>by
          have q:=cVq I ds es A.in1 vs us its its2 (by simpa [D.data] using hd) (by simpa [D.data] using he) r1 r2 rr rr2 (by show A.units+1+bKq ds < cLine;omega) j (by simpa using h1) (by simpa using h2)
          simpa using q)
        have ez:((List.range (min its.toArray.size its2.toArray.size)).all (eqJ ds es)&&its.toArray.size==its2.toArray.size)=eqD (.tup ds) (.tup es):=by
          rw [List.size_toArray,List.size_toArray,<- l1,<- l2,l3,l4,bAq];rfl
        rw [ez] at z
        exact SeqAt.EqAt.of_refs hab z
  | .ref _,_,_,_,_,_,_,hd,_,_,_,_,_,_=>by simp [D.data] at hd
  | .ty _,_,_,_,_,_,_,hd,_,_,_,_,_,_=>by simp [D.data] at hd
  | .frl _,_,_,_,_,_,_,hd,_,_,_,_,_,_=>by simp [D.data] at hd
  | .non,e,A,x,y,u,v,hd,he,ax,ay,ru,rv,hu=>by
    cases ax;cases ru
    have hu0:A.units < cLine:=by omega
    cases e with
    | non=>cases ay;cases rv;exact SeqAt.EqAt.same _
    | bl b=>cases ay;cases rv;exact SeqAt.EqAt.none_bool b
    | int b=>cases ay;obtain ⟨t,rfl⟩:=rv;exact SeqAt.EqAt.none_int b t
    | str b=>cases ay;obtain ⟨t,rfl⟩:=rv;exact SeqAt.EqAt.none_str b t
    | ref b=>simp [D.data] at he
    | ty b=>simp [D.data] at he
    | frl b=>simp [D.data] at he
    | tup es=>obtain ⟨b,us,rfl,s2,r2⟩:=ay;cases rv;obtain ⟨its2,rr2,t2,_⟩:=I.tuple s2;exact SeqAt.EqAt.none_tuple t2 hu0
  | .bl a,e,A,x,y,u,v,hd,he,ax,ay,ru,rv,hu=>by
    cases ax;cases ru
    have hu0:A.units < cLine:=by omega
    cases e with
    | non=>cases ay;cases rv;exact SeqAt.EqAt.bool_none a
    | bl b=>cases ay;cases rv;exact SeqAt.EqAt.bool_bool a b
    | int b=>cases ay;obtain ⟨t,rfl⟩:=rv;exact SeqAt.EqAt.bool_int a b t
    | str b=>cases ay;obtain ⟨t,rfl⟩:=rv;exact SeqAt.EqAt.bool_str a b t
    | ref b=>simp [D.data] at he
    | ty b=>simp [D.data] at he
    | frl b=>simp [D.data] at he
    | tup es=>obtain ⟨b,us,rfl,s2,r2⟩:=ay;cases rv;obtain ⟨its2,rr2,t2,_⟩:=I.tuple s2;exact SeqAt.EqAt.bool_tuple a t2 hu0
  | .int a,e,A,x,y,u,v,hd,he,ax,ay,ru,rv,hu=>by
    cases ax;obtain ⟨t',rfl⟩:=ru
    have hu0:A.units < cLine:=by omega
    cases e with
    | non=>cases ay;cases rv;exact SeqAt.EqAt.int_none a t'
    | bl b=>cases ay;cases rv;exact SeqAt.EqAt.int_bool a t' b
    | int b=>cases ay;obtain ⟨t,rfl⟩:=rv;exact SeqAt.EqAt.int_int a t' b t
    | str b=>cases ay;obtain ⟨t,rfl⟩:=rv;exact SeqAt.EqAt.int_str a t' b t
    | ref b=>simp [D.data] at he
    | ty b=>simp [D.data] at he
    | frl b=>simp [D.data] at he
    | tup es=>obtain ⟨b,us,rfl,s2,r2⟩:=ay;cases rv;obtain ⟨its2,rr2,t2,_⟩:=I.tuple s2;exact SeqAt.EqAt.int_tuple a t' t2 hu0
  | .str a,e,A,x,y,u,v,hd,he,ax,ay,ru,rv,hu=>by
    cases ax;obtain ⟨t',rfl⟩:=ru
    have hu0:A.units < cLine:=by omega
    cases e with
    | non=>cases ay;cases rv;exact SeqAt.EqAt.str_none a t'
    | bl b=>cases ay;cases rv;exact SeqAt.EqAt.str_bool a t' b
    | int b=>cases ay;obtain ⟨t,rfl⟩:=rv;exact SeqAt.EqAt.str_int a t' b t
    | str b=>cases ay;obtain ⟨t,rfl⟩:=rv;exact SeqAt.EqAt.str_str a t' b t
    | ref b=>simp [D.data] at he
    | ty b=>simp [D.data] at he
    | frl b=>simp [D.data] at he
    | tup es=>obtain ⟨b,us,rfl,s2,r2⟩:=ay;cases rv;obtain ⟨its2,rr2,t2,_⟩:=I.tuple s2;exact SeqAt.EqAt.str_tuple a t' t2 hu0
theorem cVq (I:Inv X pins σ H s):∀ (ds es:List D) (A:Around) (vs us:List V) (its its2:List Value),aVq ds=true->aVq es=true->AbsL X.K H ds vs->AbsL X.K H es us->Vals vs its->Vals us its2->A.units+bKq ds < cLine →
    ∀ j (h1:j < its.length) (h2:j < its2.length),SeqAt.EqAt A s its[j] its2[j] (eqJ ds es j)
  | [],es,A,vs,us,its,its2,_,_,e,e',rr,rr2,_,j,h1,h2=>by
    rw [show vs=[] from e] at rr
    cases rr
    exact absurd h1 (by simp)
  | d::ds,[],A,vs,us,its,its2,_,_,e,e',rr,rr2,_,j,h1,h2=>by
    rw [show us=[] from e'] at rr2
    cases rr2
    exact absurd h2 (by simp)
  | d::ds,e0::es,A,vs,us,its,its2,hd,he,⟨v,r,e,q,t⟩,⟨v',r',e',q',t'⟩,rr,rr2,hu,j,h1,h2=>by
    subst e e'
    cases rr with
    | cons r1 rt=>
      cases rr2 with
      | cons r2 rt2=>
        simp only [bKq] at hu
        simp only [aVq,Bool.and_eq_true] at hd he
        cases j with
        | zero=>exact mBq I d e0 A _ _ _ _ hd.1 he.1 q q' r1 r2 (by omega)
        | succ j=>
          have z:=cVq I ds es A _ _ _ _ hd.2 he.2 t t' rt rt2 (by omega) j (by simpa using h1) (by simpa using h2)
          simpa [eqJ] using z
end
theorem tLq (I:Inv X pins σ H s) (d e:D) (A:Around) (x y:V) (u v:Value) (hd:d.data=true) (he:e.data=true) (ax:Abs X.K H d x) (ay:Abs X.K H e y) (ru:RelV x u) (rv:RelV y v) (hu:A.units+d.dp < cLine):SeqAt.RcAt A s u v (eqD d e):=by
  have hu0:A.units < cLine:=by omega
  cases d with
  | tup ds=>
    obtain ⟨a,vs,rfl,s1,r1⟩:=ax
    cases ru
    obtain ⟨its,rr,t1,_⟩:=I.tuple s1
    cases e with
    | non=>cases ay;cases rv;exact SeqAt.RcAt.tuple_none t1 hu0
    | bl b=>cases ay;cases rv;exact SeqAt.RcAt.tuple_bool b t1 hu0
    | int b=>cases ay;obtain ⟨t,rfl⟩:=rv;exact SeqAt.RcAt.tuple_int b t t1 hu0
    | str b=>cases ay;obtain ⟨t,rfl⟩:=rv;exact SeqAt.RcAt.tuple_str b t t1 hu0
    | ref b=>simp [D.data] at he
    | ty b=>simp [D.data] at he
    | frl b=>simp [D.data] at he
    | tup es=>
      obtain ⟨b,us,rfl,s2,r2⟩:=ay
      cases rv
      obtain ⟨its2,rr2,t2,_⟩:=I.tuple s2
      have l1:=rr.length
      have l2:=rr2.length
      have l3:=r1.len
      have l4:=r2.len
      simp only [D.dp] at hu
      have z:=SeqAt.RcAt.tuples (A:=A) (e:=eqJ ds es) t1 t2 hu0 (λ j h1 h2=>by
        have q:=cVq I ds es A.in1 vs us its its2 (by simpa [D.data] using hd) (by simpa [D.data] using he) r1 r2 rr rr2 (by show A.units+1+bKq ds < cLine;omega) j (by simpa using h1) (by simpa using h2)
        simpa using q)
      have ez:((List.range (min its.toArray.size its2.toArray.size)).all (eqJ ds es)&&its.toArray.size==its2.toArray.size)=eqD (.tup ds) (.tup es):=by
        rw [List.size_toArray,List.size_toArray,<- l1,<- l2,l3,l4,bAq];rfl
      rw [ez] at z
      exact z
  | ref a=>simp [D.data] at hd
  | ty a=>simp [D.data] at hd
  | frl a=>simp [D.data] at hd
  | non=>
    cases ax;cases ru
    cases e with
    | non=>cases ay;cases rv;exact SeqAt.RcAt.none_none
    | bl b=>cases ay;cases rv;exact SeqAt.RcAt.none_bool b
    | int b=>cases ay;obtain ⟨t,rfl⟩:=rv;exact SeqAt.RcAt.none_int b t
    | str b=>cases ay;obtain ⟨t,rfl⟩:=rv;exact SeqAt.RcAt.none_str b t
    | ref b=>simp [D.data] at he
    | ty b=>simp [D.data] at he
    | frl b=>simp [D.data] at he
    | tup es=>obtain ⟨b,us,rfl,s2,r2⟩:=ay;cases rv;obtain ⟨its2,rr2,t2,_⟩:=I.tuple s2;exact SeqAt.RcAt.none_tuple t2 hu0
  | bl a=>
    cases ax;cases ru
    cases e with
    | non=>cases ay;cases rv;exact SeqAt.RcAt.bool_none a
    | bl b=>cases ay;cases rv;exact SeqAt.RcAt.bool_bool a b
    | int b=>cases ay;obtain ⟨t,rfl⟩:=rv;exact SeqAt.RcAt.bool_int a b t
    | str b=>cases ay;obtain ⟨t,rfl⟩:=rv;exact SeqAt.RcAt.bool_str a b t
    | ref b=>simp [D.data] at he
    | ty b=>simp [D.data] at he
    | frl b=>simp [D.data] at he
    | tup es=>obtain ⟨b,us,rfl,s2,r2⟩:=ay;cases rv;obtain ⟨its2,rr2,t2,_⟩:=I.tuple s2;exact SeqAt.RcAt.bool_tuple a t2 hu0
  | int a=>
    cases ax;obtain ⟨t',rfl⟩:=ru
    cases e with
    | non=>cases ay;cases rv;exact SeqAt.RcAt.int_none a t'
    | bl b=>cases ay;cases rv;exact SeqAt.RcAt.int_bool a t' b
    | int b=>cases ay;obtain ⟨t,rfl⟩:=rv;exact SeqAt.RcAt.int_int a t' b t
    | str b=>cases ay;obtain ⟨t,rfl⟩:=rv;exact SeqAt.RcAt.int_str a t' b t
    | ref b=>simp [D.data] at he
    | ty b=>simp [D.data] at he
    | frl b=>simp [D.data] at he
    | tup es=>obtain ⟨b,us,rfl,s2,r2⟩:=ay;cases rv;obtain ⟨its2,rr2,t2,_⟩:=I.tuple s2;exact SeqAt.RcAt.int_tuple a t' t2 hu0
  | str a=>
    cases ax;obtain ⟨t',rfl⟩:=ru
    cases e with
    | non=>cases ay;cases rv;exact SeqAt.RcAt.str_none a t'
    | bl b=>cases ay;cases rv;exact SeqAt.RcAt.str_bool a t' b
    | int b=>cases ay;obtain ⟨t,rfl⟩:=rv;exact SeqAt.RcAt.str_int a t' b t
    | str b=>cases ay;obtain ⟨t,rfl⟩:=rv;exact SeqAt.RcAt.str_str a t' b t
    | ref b=>simp [D.data] at he
    | ty b=>simp [D.data] at he
    | frl b=>simp [D.data] at he
    | tup es=>obtain ⟨b,us,rfl,s2,r2⟩:=ay;cases rv;obtain ⟨its2,rr2,t2,_⟩:=I.tuple s2;exact SeqAt.RcAt.str_tuple a t' t2 hu0
end
end L3
namespace L3
open PySem PySem.Spec L2
section
variable {X:Cx} {pins:List (Addr × Obj)} {σ:L2.St} {H:Hp} {s:Shared}
theorem rYq (I:Inv X pins σ H s) (d e:D) (A:Around) (x y:V) (u v:Value) (hd:d.data=true) (he:e.data=true) (ax:Abs X.K H d x) (ay:Abs X.K H e y) (ru:RelV x u) (rv:RelV y v) (hu:A.units+d.dp < cLine):SeqAt.RcNeAt A s u v (!eqD d e):=by
  have hu0:A.units < cLine:=by omega
  cases d with
  | tup ds=>
    obtain ⟨a,vs,rfl,s1,r1⟩:=ax
    cases ru
    obtain ⟨its,rr,t1,_⟩:=I.tuple s1
    cases e with
    | non=>cases ay;cases rv;exact SeqAt.RcNeAt.tuple_none t1 hu0
    | bl b=>cases ay;cases rv;exact SeqAt.RcNeAt.tuple_bool b t1 hu0
    | int b=>cases ay;obtain ⟨t,rfl⟩:=rv;exact SeqAt.RcNeAt.tuple_int b t t1 hu0
    | str b=>cases ay;obtain ⟨t,rfl⟩:=rv;exact SeqAt.RcNeAt.tuple_str b t t1 hu0
    | ref b=>simp [D.data] at he
    | ty b=>simp [D.data] at he
    | frl b=>simp [D.data] at he
    | tup es=>
      obtain ⟨b,us,rfl,s2,r2⟩:=ay
      cases rv
      obtain ⟨its2,rr2,t2,_⟩:=I.tuple s2
      have l1:=rr.length
      have l2:=rr2.length
      have l3:=r1.len
      have l4:=r2.len
      simp only [D.dp] at hu
      have z:=SeqAt.RcNeAt.tuples (A:=A) (e:=eqJ ds es) t1 t2 hu0 (λ j h1 h2=>by
        have q:=cVq I ds es A.in1 vs us its its2 (by simpa [D.data] using hd) (by simpa [D.data] using he) r1 r2 rr rr2 (by show A.units+1+bKq ds < cLine;omega) j (by simpa using h1) (by simpa using h2)
        simpa using q)
      have ez:((List.range (min its.toArray.size its2.toArray.size)).all (eqJ ds es)&&its.toArray.size==its2.toArray.size)=eqD (.tup ds) (.tup es):=by
        rw [List.size_toArray,List.size_toArray,<- l1,<- l2,l3,l4,bAq];rfl
      rw [ez] at z
      exact z
  | ref a=>simp [D.data] at hd
  | ty a=>simp [D.data] at hd
  | frl a=>simp [D.data] at hd
  | non=>
    cases ax;cases ru
    cases e with
    | non=>cases ay;cases rv;exact SeqAt.RcNeAt.none_none
    | bl b=>cases ay;cases rv;exact SeqAt.RcNeAt.none_bool b
    | int b=>cases ay;obtain ⟨t,rfl⟩:=rv;exact SeqAt.RcNeAt.none_int b t
    | str b=>cases ay;obtain ⟨t,rfl⟩:=rv;exact SeqAt.RcNeAt.none_str b t
    | ref b=>simp [D.data] at he
    | ty b=>simp [D.data] at he
    | frl b=>simp [D.data] at he
    | tup es=>obtain ⟨b,us,rfl,s2,r2⟩:=ay;cases rv;obtain ⟨its2,rr2,t2,_⟩:=I.tuple s2;exact SeqAt.RcNeAt.none_tuple t2 hu0
  | bl a=>
    cases ax;cases ru
    cases e with
    | non=>cases ay;cases rv;exact SeqAt.RcNeAt.bool_none a
    | bl b=>cases ay;cases rv;exact SeqAt.RcNeAt.bool_bool a b
    | int b=>cases ay;obtain ⟨t,rfl⟩:=rv;exact SeqAt.RcNeAt.bool_int a b t
    | str b=>cases ay;obtain ⟨t,rfl⟩:=rv;exact SeqAt.RcNeAt.bool_str a b t
    | ref b=>simp [D.data] at he
    | ty b=>simp [D.data] at he
    | frl b=>simp [D.data] at he
    | tup es=>obtain ⟨b,us,rfl,s2,r2⟩:=ay;cases rv;obtain ⟨its2,rr2,t2,_⟩:=I.tuple s2;exact SeqAt.RcNeAt.bool_tuple a t2 hu0
  | int a=>
    cases ax;obtain ⟨t',rfl⟩:=ru
    cases e with
    | non=>cases ay;cases rv;exact SeqAt.RcNeAt.int_none a t'
    | bl b=>cases ay;cases rv;exact SeqAt.RcNeAt.int_bool a t' b
    | int b=>cases ay;obtain ⟨t,rfl⟩:=rv;exact SeqAt.RcNeAt.int_int a t' b t
    | str b=>cases ay;obtain ⟨t,rfl⟩:=rv;exact SeqAt.RcNeAt.int_str a t' b t
    | ref b=>simp [D.data] at he
    | ty b=>simp [D.data] at he
    | frl b=>simp [D.data] at he
    | tup es=>obtain ⟨b,us,rfl,s2,r2⟩:=ay;cases rv;obtain ⟨its2,rr2,t2,_⟩:=I.tuple s2;exact SeqAt.RcNeAt.int_tuple a t' t2 hu0
  | str a=>
    cases ax;obtain ⟨t',rfl⟩:=ru
    cases e with
    | non=>cases ay;cases rv;exact SeqAt.RcNeAt.str_none a t'
    | bl b=>cases ay;cases rv;exact SeqAt.RcNeAt.str_bool a t' b
    | int b=>cases ay;obtain ⟨t,rfl⟩:=rv;exact SeqAt.RcNeAt.str_int a t' b t
    | str b=>cases ay;obtain ⟨t,rfl⟩:=rv;exact SeqAt.RcNeAt.str_str a t' b t
    | ref b=>simp [D.data] at he
    | ty b=>simp [D.data] at he
    | frl b=>simp [D.data] at he
    | tup es=>obtain ⟨b,us,rfl,s2,r2⟩:=ay;cases rv;obtain ⟨its2,rr2,t2,_⟩:=I.tuple s2;exact SeqAt.RcNeAt.str_tuple a t' t2 hu0
end
end L3
namespace L3
open PySem PySem.Spec L2
section
variable {X:Cx} {a b c e o i tg iter:Expr} {es:List Expr} {ta tb te to ti tc:DTE} {t:DTA} {pos p apos cpos:Pos}
theorem bEq {A:Around} {k:Nat} (hr:Room k A):A.units+200 < cLine:=by have:=hr.un;omega
def rKq (K:PySem.W.Frag) (f:Bool->Bool):R2:=λ x y H Q=>∃ d e,Abs K H d x/\Abs K H e y/\d.data=true/\e.data=true/\d.dp<=150/\Q (.bl (f (eqD d e))) H
def mUq (K:PySem.W.Frag) (f:Bool->Bool):R2:=λ x y H Q=>∃ l m vs us ds es,x=.ref l/\y=.ref m/\SqL K H l vs/\SqL K H m us/\AbsL K H ds vs/\AbsL K H es us/\aVq ds=true/\aVq es=true/\bKq ds<=150/\Q (.bl (f (gSq ds es))) H
theorem oCq (hu:X.A.units+200 < cLine):OpR X (compareOp .Eq) (rKq X.K id):=by
  intro pins s σ H x y v u Q I rx ry h
  obtain ⟨d,e,ax,ay,hd,he,hz,q⟩:=h
  exact tLq I d e X.A x y v u hd he ax ay rx ry (by omega) X.prog X.w X.xe _ ⟨.bl _,H,I,rfl,q⟩
theorem o9q (hu:X.A.units+200 < cLine):OpR X (compareOp .NotEq) (rKq X.K (!·)):=by
  intro pins s σ H x y v u Q I rx ry h
  obtain ⟨d,e,ax,ay,hd,he,hz,q⟩:=h
  exact rYq I d e X.A x y v u hd he ax ay rx ry (by omega) X.prog X.w X.xe _ ⟨.bl _,H,I,rfl,q⟩
theorem eLq:∀ {ds es:List D},ds.length≠es.length->gSq ds es=false
  | [],[],h=>absurd rfl h
  | [],_::_,_=>rfl
  | _::_,[],_=>rfl
  | d::ds,e::es,h=>by rw [gSq,eLq (by simpa using h),Bool.and_false]
theorem gTq {ds es:List D} (h:ds.length=es.length):(List.range ds.length).all (eqJ ds es)=gSq ds es:=by
  rw [<- bAq,<- h,Nat.min_self];simp
theorem lMq (hu:X.A.units+200 < cLine):OpR X (compareOp .Eq) (mUq X.K id):=by
  intro pins s σ H x y v u Q I rx ry h
  obtain ⟨l,m,vs,us,ds,es,rfl,rfl,s1,s2,r1,r2,hd,he,hz,q⟩:=h
  cases rx;cases ry
  obtain ⟨its,rr,t1,_⟩:=I.list s1
  obtain ⟨its2,rr2,t2,_⟩:=I.list s2
  have l1:=rr.length
  have l2:=rr2.length
  have l3:=r1.len
  have l4:=r2.len
  by_cases hl:ds.length=es.length
  . refine SeqAt.RcAt.lists (e:=eqJ ds es) t1.isList t2.isList (by rw [List.size_toArray,List.size_toArray];omega) (by omega) (λ j h1 h2=>?_) X.prog X.w X.xe _ ⟨.bl _,H,I,?_,q⟩
    . have q:=cVq I ds es X.A.in1 vs us its its2 hd he r1 r2 rr rr2 (by show X.A.units+1+bKq ds < cLine;omega) j (by simpa using h1) (by simpa using h2)
      simpa using q
    . show Value.bool _=Value.bool _
      rw [List.size_toArray,<- l1,l3,gTq hl];rfl
  . refine SeqAt.RcAt.lists_lengths t1.isList t2.isList (by rw [List.size_toArray,List.size_toArray];simp;omega) (by omega) X.prog X.w X.xe _ ⟨.bl _,H,I,?_,q⟩
    rw [eLq hl];rfl
theorem mFq (hu:X.A.units+200 < cLine):OpR X (compareOp .NotEq) (mUq X.K (!·)):=by
  intro pins s σ H x y v u Q I rx ry h
  obtain ⟨l,m,vs,us,ds,es,rfl,rfl,s1,s2,r1,r2,hd,he,hz,q⟩:=h
  cases rx;cases ry
  obtain ⟨its,rr,t1,_⟩:=I.list s1
  obtain ⟨its2,rr2,t2,_⟩:=I.list s2
  have l1:=rr.length
  have l2:=rr2.length
  have l3:=r1.len
  have l4:=r2.len
  by_cases hl:ds.length=es.length
  . refine SeqAt.RcNeAt.lists (e:=eqJ ds es) t1.isList t2.isList (by rw [List.size_toArray,List.size_toArray];omega) (by omega) (λ j h1 h2=>?_) X.prog X.w X.xe _ ⟨.bl _,H,I,?_,q⟩
    . have q:=cVq I ds es X.A.in1 vs us its its2 hd he r1 r2 rr rr2 (by show X.A.units+1+bKq ds < cLine;omega) j (by simpa using h1) (by simpa using h2)
      simpa using q
    . show Value.bool _=Value.bool _
      rw [List.size_toArray,<- l1,l3,gTq hl]
  . refine SeqAt.RcNeAt.lists_lengths t1.isList t2.isList (by rw [List.size_toArray,List.size_toArray];simp;omega) (by omega) X.prog X.w X.xe _ ⟨.bl _,H,I,?_,q⟩
    rw [eLq hl];rfl
def eqR (f:Bool->Bool):DR2:=λ x y G Q=>match x,y with
  | .int i,.int j=>Q (.bl (f (i==j))) G
  | .str i,.str j=>Q (.bl (f (i==j))) G
  | .tup _,.str _=>Q (.bl (f false)) G
  | .str _,.tup _=>Q (.bl (f false)) G
  | .ref l,.ref m=>onL G l λ ds=>onL G m λ es=>aVq ds=true/\aVq es=true/\bKq ds<=150/\Q (.bl (f (gSq ds es))) G
  | x,y=>x.data=true/\y.data=true/\x.dp<=150/\Q (.bl (f (eqD x y))) G
theorem oBq {f:Bool->Bool} {x y:D} {G:DV} {Q:DK} (hx:x.data=true) (hy:y.data=true) (hd:x.dp<=150) (q:Q (.bl (f (eqD x y))) G):eqR f x y G Q:=by
  cases x<;>cases y<;>first | exact q | exact ⟨hx,hy,hd,q⟩ | (simp [D.data] at hx;done) | (simp [D.data] at hy;done)
def rTS (K:PySem.W.Frag) (f:Bool->Bool):R2:=λ x y H Q=>(∃ a vs z,x=.ref a/\SqT K H a vs/\y=.str z/\Q (.bl (f false)) H)\/∃ a vs z,y=.ref a/\SqT K H a vs/\x=.str z/\Q (.bl (f false)) H
theorem n0q (hu:X.A.units+200 < cLine):OpR X (compareOp .Eq) (rTS X.K id):=by
  intro pins s σ H x y v u Q I rx ry h
  rcases h with ⟨a,vs,z,rfl,sq,rfl,q⟩ | ⟨a,vs,z,rfl,sq,rfl,q⟩
  . cases rx;obtain ⟨t,rfl⟩:=ry
    obtain ⟨its,rr,t1,_⟩:=I.tuple sq
    exact SeqAt.RcAt.tuple_str z t t1 (by omega) X.prog X.w X.xe _ ⟨.bl false,H,I,rfl,q⟩
  . cases ry;obtain ⟨t,rfl⟩:=rx
    obtain ⟨its,rr,t1,_⟩:=I.tuple sq
    exact SeqAt.RcAt.str_tuple z t t1 (by omega) X.prog X.w X.xe _ ⟨.bl false,H,I,rfl,q⟩
theorem nLq (hu:X.A.units+200 < cLine):OpR X (compareOp .NotEq) (rTS X.K (!·)):=by
  intro pins s σ H x y v u Q I rx ry h
  rcases h with ⟨a,vs,z,rfl,sq,rfl,q⟩ | ⟨a,vs,z,rfl,sq,rfl,q⟩
  . cases rx;obtain ⟨t,rfl⟩:=ry
    obtain ⟨its,rr,t1,_⟩:=I.tuple sq
    exact SeqAt.RcNeAt.tuple_str z t t1 (by omega) X.prog X.w X.xe _ ⟨.bl true,H,I,rfl,q⟩
  . cases ry;obtain ⟨t,rfl⟩:=rx
    obtain ⟨its,rr,t1,_⟩:=I.tuple sq
    exact SeqAt.RcNeAt.str_tuple z t t1 (by omega) X.prog X.w X.xe _ ⟨.bl true,H,I,rfl,q⟩
theorem l8q {f:Bool->Bool} {op:CmpOp} (h1:OpR X (compareOp op) (rKq X.K f)) (h2:OpR X (compareOp op) (mUq X.K f)) (h3:OpR X (compareOp op) (rTS X.K f)):AOp X (compareOp op) (eqR f):=by
  refine ⟨_,⟨h1.or (h2.or h3)⟩,λ x y vx vy G H DQ Q v ax ay r F=>?_⟩
  have fin:∀ b:Bool,DQ (.bl b) G->Q (.bl b) H:=λ b q=>F (.bl b) G _ H (.refl v) rfl q
  have gen:x.data=true/\y.data=true/\x.dp<=150/\DQ (.bl (f (eqD x y))) G->rKq X.K f vx vy H Q:=λ⟨z1,z2,z3,z4⟩=>⟨x,y,ax,ay,z1,z2,z3,fin _ z4⟩
  unfold eqR at r
  split at r
  . exact .inl (gen ⟨rfl,rfl,Nat.zero_le _,r⟩)
  . exact .inl (gen ⟨rfl,rfl,Nat.zero_le _,r⟩)
  . obtain ⟨l,vs,rfl,s1,_⟩:=ax
    cases ay
    exact .inr (.inr (.inl ⟨l,vs,_,rfl,s1,rfl,fin _ r⟩))
  . obtain ⟨l,vs,rfl,s1,_⟩:=ay
    cases ax
    exact .inr (.inr (.inr ⟨l,vs,_,rfl,s1,rfl,fin _ r⟩))
  . cases ax;cases ay
    obtain ⟨ds,vs,k1,s1,r1⟩:=aYq v r
    obtain ⟨es,us,⟨z1,z2,z3,k2⟩,s2,r2⟩:=aYq v k1
    exact .inr (.inl ⟨_,_,vs,us,ds,es,rfl,rfl,s1,s2,r1,r2,z1,z2,z3,fin _ k2⟩)
  . exact .inl (gen r)
theorem b2q (hu:X.A.units+200 < cLine):AOp X (compareOp .Eq) (eqR id):=l8q (oCq hu) (lMq hu) (n0q hu)
theorem lIq (hu:X.A.units+200 < cLine):AOp X (compareOp .NotEq) (eqR (!·)):=l8q (o9q hu) (mFq hu) (nLq hu)
abbrev qJq (t:DTE):DTE:=λ ρ G Q=>t ρ G λ d G'=>∃ G2,Sub G2 G'/\Q d G2
theorem eKq (h:AE X e te):AE X e (qJq te):=by
  obtain ⟨ca,ja,ra⟩:=h.run
  exact ⟨_,ja,λ ρ G DQ σ H Q B q F=>ra ρ G _ σ H _ B q λ d G' v H' g a ⟨G2,s2,q2⟩=>F d G2 v H' (g.sub s2) a q2⟩
@[irreducible] def atS (ds:List D) (i:Int) (G:DV) (Q:DK):Prop:=atD ds i G Q
theorem h2q {ds:List D} {i:Int} {G:DV} {Q:DK} (h:atD ds i G Q):atS ds i G Q:=by unfold atS;exact h
abbrev uTq (t:DTA) (tb:DTE):DTE:=λ ρ G Q=>t ρ G λ ds G1=>tb ρ G1 λ y G2=>match y with
  | .int i=>atS ds i G2 Q
  | _=>False
theorem b7q {lp:Pos} (h:AA X es t) (hb:AE X b tb) (hs:eVq b) (hl:Nat.ble es.length 1000=true:=by rfl):AE X (.Subscript (.List es lp) b pos) (uTq t tb):=by
  obtain ⟨ca,ja,ra⟩:=h.run
  obtain ⟨cb,jb,rb⟩:=hb.run
  refine ⟨_,nXq ⟨l9q⟩ (l1q ja) jb hs,λ ρ G DQ σ H Q B q F=>ra ρ G _ σ H _ B q λ ds G1 vs H1 g1 al hn q1=>⟨by rw [al.len,hn];exact gKq hl,λ p hp=>?_⟩⟩
  have g2:=Go.newT (o:=.lst vs) g1.vw hp
  have n1:=g1.vw.none hp
  refine rb ρ G1 _ σ _ _ ((B.go g1).go g2) q1 λ y G3 u H3 g3 ay q3=>?_
  have h3:=g3.same p _ aRq n1
  split at q3
  . next i=>
    cases ay
    unfold atS at q3
    obtain ⟨d,hd,q4⟩:=eEq q3
    obtain ⟨w,hw,aw⟩:=eGq ((al.mono g2.tup).mono g3.tup) hd
    exact .inl ⟨p,vs,i,w,rfl,rfl,.of h3,hw,F d G3 w H3 ((g1.trans g2).trans g3) aw q4⟩
  . exact q3.elim
def jHq (sc:Scope) (N:List Str) (scope:Scope) (N':List Str) (nt:Nat) (cap:List Nat):Bool:=
  scope.names.all (λ y=>y.2 !=.cell)&&scope.names.all (λ y=>y.2 !=.local||scope.names.lookup y.1==some .local) &&
  scope.names.all (λ y=>y.2 !=.free||(sc.names.lookup y.1==some .cell||sc.names.lookup y.1==some .free))&&N'.length==nt+cap.length &&
  (List.range cap.length).all λ j=>match cap[j]?,N'[nt+j]? with
    | some i,some x=>N[i]?==some x&&scope.names.lookup x==some .free
    | _,_=>true
theorem CompOk.of {scope:Scope} {N':List Str} {nt:Nat} {cap:List Nat} (hk:scope.kind=.function) (h:jHq X.env.scope X.N scope N' nt cap=true):CompOk X scope N' nt cap:=by
  unfold jHq at h
  simp only [Bool.and_eq_true,List.all_eq_true] at h
  obtain ⟨⟨⟨⟨h1,h2⟩,h3⟩,h4⟩,h5⟩:=h
  refine ⟨hk,λ y hy=>by simpa using h1 y hy,λ y hy e=>?_,λ y hy e=>?_,by simpa using h4,λ j i x hj hx=>?_⟩
  . have z:=h2 y hy
    rw [e] at z
    simpa using z
  . have z:=h3 y hy
    rw [e] at z
    simpa using z
  . have lt:j < cap.length:=by
      rcases Nat.lt_or_ge j cap.length with z | z
      . exact z
      . rw [List.getElem?_eq_none z] at hj;cases hj
    have z:=h5 j (List.mem_range.mpr lt)
    rw [hj,hx] at z
    simpa using z
abbrev s8q (to ti:DTE):DTG:=λ d ρ G Q=>to ρ G λ x G1=>ti ρ G1 λ y G2=>match x,y with
  | .ref l,.int k=>onM G2 l λ ds=>∃ j,ixN ds.length k=some j/\Q ρ (up G2 l (.lst (ds.set j d)))
  | _,_=>False
theorem iWq (ho:AE X o to) (hi:AE X i ti) (ha:∀ v,assign (.Subscript o i pos) X.env v=(do
      let ov ← holding [v] (eval o X.env)
      let iv ← holding [v,ov] (eval i X.env)
      standAt pos
      holding [v,ov,iv] (setItem ov iv v)
      release [v,ov,iv] []):=by intro _;rfl):AG X (.Subscript o i pos) (s8q to ti):=by
  obtain ⟨co,jo,ro⟩:=ho.run
  obtain ⟨ci,ji,ri⟩:=hi.run
  refine ⟨_,o2q jo ji ⟨jVq⟩ ha,λ d v ρ G DQ σ H Q B ad q F=>ro ρ G _ σ H _ B q λ x G1 vx H1 g1 ax q1=>ri ρ G1 _ σ H1 _ (B.go g1) q1 λ y G2 vy H2 g2 ay q2=>?_⟩
  split at q2
  . next l k=>
    cases ax;cases ay
    obtain ⟨ds,vs,⟨j,hj,q3⟩,e1,h1,r1⟩:=bOq g2.vw q2
    have ad2:=(ad.mono g1.tup).mono g2.tup
    have g3:=Go.setL g2.vw e1 (r1.set ad2 j)
    have gg:=(g1.trans g2).trans g3
    exact ⟨l,vs,k,j,rfl,rfl,h1,by rw [r1.len];exact hj,F ρ _ σ _ gg (B.go gg) q3⟩
  . exact q2.elim
abbrev jUq (te:DTE):DTE:=λ ρ G Q=>te ρ G λ x G1=>match x with
  | .tup ds=>∀ p,G1 p=none->Q (.ref p) (up G1 p (.lst ds.reverse))
  | _=>False
theorem dGq (hgl:Gl X "list") (hml:X.mg "list" = none) (hg:Gl X "reversed") (hm:X.mg "reversed" = none) (he:AE X e te) (hc:X.calm=true:=by rfl) (hs:aHq e=true:=by rfl):AE X (.Call (.Name "list" p) [.Call (.Name "reversed" apos) [e] [] cpos] [] pos) (jUq te):=by
  obtain ⟨ce,je,re⟩:=he.run
  refine ⟨_,dFq hgl hml hg hm je hc hs,λ ρ G DQ σ H Q B q F=>re ρ G _ σ H _ B q λ x G1 v H1 g1 ax q1=>?_⟩
  split at q1
  . next ds=>
    obtain ⟨l,vs,rfl,s,r⟩:=ax
    exact ⟨l,vs,rfl,s,λ p hp=>F (.ref p) _ _ _ (g1.trans (Go.newL g1.vw hp r.reverse)) rfl (q1 p (g1.vw.none hp))⟩
  . exact q1.elim
abbrev oKq (te:DTE):DTE:=λ ρ G Q=>te ρ G λ x G1=>match x with
  | .ref l=>onL G1 l λ ds=>∀ p,G1 p=none->Q (.ref p) (up G1 p (.lst ds.reverse))
  | _=>False
def bVq:List D->Option (List Bool)
  | []=>some []
  | .bl i::r=>(bVq r).map (i::·)
  | _::_=>none
theorem cYq {K:PySem.W.Frag} {H:Hp}:∀ {ds:List D} {bs:List Bool} {vs:List V},bVq ds=some bs->AbsL K H ds vs->vs=bs.map V.bl
  | [],bs,vs,h,r=>by cases h;exact r
  | d::ds,bs,vs,h,⟨v,q,e,av,l⟩=>by
    cases d with
    | bl i=>
      simp only [bVq,Option.map_eq_some_iff] at h
      obtain ⟨ms,h1,rfl⟩:=h
      subst e
      cases av
      rw [cYq h1 l];rfl
    | _=>simp [bVq] at h
theorem bXq:∀ bs:List Bool,bVq (bs.map D.bl)=some bs
  | []=>rfl
  | b::bs=>by simp [bVq,bXq bs]
def vAq:D->DV->DK->Prop:=λ x G Q=>match x with
  | .ref l=>onL G l λ ds=>∃ bs,bVq ds=some bs/\Q (.bl (bs.all id)) G
  | _=>False
theorem fLq (hc:X.calm=true):ACall X (.builtin "all") (nUq vAq):=by
  refine ⟨_,⟨hYq hc⟩,λ xs vs G H DQ Q v a r F=>?_⟩
  obtain ⟨x,u,rfl,rfl,ax,r⟩:=cIq r a
  cases x with
  | ref l=>
    cases ax
    obtain ⟨ds,ws,⟨bs,e,k⟩,s,rl⟩:=aYq v r
    rw [cYq e rl] at s
    exact ⟨l,bs,rfl,s,F (.bl (bs.all id)) G _ H (.refl v) rfl k⟩
  | _=>exact (show False from r).elim
def tyN (x:D) (G:DV) (k:String->Prop):Prop:=match x with
  | .non=>k "NoneType"
  | .bl _=>k "bool"
  | .int _=>k "int"
  | .str _=>k "str"
  | .tup _=>k "tuple"
  | .ref l=>onL G l λ _=>k "list"
  | _=>False
def sOq (t T:String):Option Bool:=
  if (t = "NoneType"\/t = "bool"\/t = "int"\/t = "str"\/t = "tuple"\/t = "list")/\(T = "bool"\/T = "int"\/T = "str"\/T = "tuple"\/T = "list") then some (decide (t=T)||(decide (t = "bool")&&decide (T = "int"))) else none
theorem bSq {K:PySem.W.Frag} {t T:String} {b:Bool} (h:sOq t T=some b):PySem.W.kitOne K (.type t) (.type T)=some b:=by
  unfold sOq at h
  split at h
  . next c=>
    obtain ⟨c1,c2⟩:=c
    rcases c1 with rfl | rfl | rfl | rfl | rfl | rfl<;>rcases c2 with rfl | rfl | rfl | rfl | rfl<;>(simp at h;subst h;first | rfl | exact kit_other rfl (by decide))
  . cases h
def v0q (K:PySem.W.Frag):List V->Hp->VK->Prop:=λ xs H Q=>∃ x T t b,xs=[x,.ty T]/\((TyOf K H x (.type t))\/(t = "tuple"/\∃ a vs,x=.ref a/\SqT K H a vs)\/(t = "list"/\∃ a vs,x=.ref a/\SqL K H a vs))/\PySem.W.kitOne K (.type t) (.type T)=some b/\Q (.bl b) H
theorem jGq:CallR X (.builtin "isinstance") (v0q X.K):=by
  intro pins s σ H xs us Q I r h
  obtain ⟨x,T,t,b,rfl,ty,hk,hQ⟩:=h
  obtain ⟨u,v,rfl,ru,rv⟩:=Vals.two r
  cases rv
  rcases ty with ty | ⟨rfl,a,vs,rfl,sq⟩ | ⟨rfl,a,vs,rfl,sq⟩
  . exact jJq I ru ty hk λ tk=>⟨.bl b,H,I.tok tk,rfl,hQ⟩
  . cases ru
    obtain ⟨its,_,⟨o,h1,h2,_⟩,_⟩:=I.tuple sq
    exact PySem.W.kia_one PySem.W.kitx_tuple I.kIn ⟨o,h1,h2⟩ hk (λ z=>nomatch z) λ tk=>⟨.bl b,H,I.tok tk,rfl,hQ⟩
  . cases ru
    obtain ⟨its,_,⟨o,n,h1,h2,_⟩,_⟩:=I.list sq
    exact PySem.W.kia_one PySem.W.kitx_list I.kIn ⟨o,h1,h2⟩ hk (λ z=>nomatch z) λ tk=>⟨.bl b,H,I.tok tk,rfl,hQ⟩
def v6q:D->D->DV->DK->Prop:=λ x y G Q=>match y with
  | .ty T=>tyN x G λ t=>∃ b,sOq t T=some b/\Q (.bl b) G
  | _=>False
theorem b0q:ACall X (.builtin "isinstance") (pIq v6q):=by
  refine ⟨_,⟨jGq⟩,λ xs vs G H DQ Q v a r F=>?_⟩
  obtain ⟨x,y,u,w,rfl,rfl,ax,ay,r⟩:=eMq r a
  cases y with
  | ty T=>
    cases ay
    cases x with
    | non=>cases ax;obtain ⟨b,hb,q⟩:=r;exact ⟨_,T,_,b,rfl,.inl .non,bSq hb,F (.bl b) G _ H (.refl v) rfl q⟩
    | bl z=>cases ax;obtain ⟨b,hb,q⟩:=r;exact ⟨_,T,_,b,rfl,.inl (.bl z),bSq hb,F (.bl b) G _ H (.refl v) rfl q⟩
    | int z=>cases ax;obtain ⟨b,hb,q⟩:=r;exact ⟨_,T,_,b,rfl,.inl (.int z),bSq hb,F (.bl b) G _ H (.refl v) rfl q⟩
    | str z=>cases ax;obtain ⟨b,hb,q⟩:=r;exact ⟨_,T,_,b,rfl,.inl (.str z),bSq hb,F (.bl b) G _ H (.refl v) rfl q⟩
    | tup ds=>obtain ⟨l,ws,rfl,s,_⟩:=ax;obtain ⟨b,hb,q⟩:=r;exact ⟨_,T,"tuple", b,rfl,.inr (.inl ⟨rfl,l,ws,rfl,s⟩),bSq hb,F (.bl b) G _ H (.refl v) rfl q⟩
    | ref l=>
      cases ax
      obtain ⟨ds,ws,⟨b,hb,q⟩,s,_⟩:=aYq v r
      exact ⟨_,T,"list", b,rfl,.inr (.inr ⟨rfl,l,ws,rfl,s⟩),bSq hb,F (.bl b) G _ H (.refl v) rfl q⟩
    | ty z=>exact (show False from r).elim
    | frl z=>exact (show False from r).elim
  | _=>exact (show False from r).elim
abbrev t9q (t:DTA):DTI:=λ ρ G R=>t ρ G λ ds G1=>match ds with
  | [.tup xs,.tup ys]=>xs.length<=ys.length/\R ⟨(xs.zip ys).map λ z=>.tup [z.1,z.2],λ _=>True⟩ G1
  | _=>False
theorem rFq {k:Nat} {tp:Pos} (hg:Gl X "zip") (hm:X.mg "zip" = none) (ha:AA X [a,b] t) (h1:aHq a=true:=by rfl) (h2:aHq b=true:=by rfl):AI X (.Tuple es k tp) (.Call (.Name "zip" p) [a,b] [] pos) (t9q t):=by
  obtain ⟨ca,ja,ra⟩:=ha.run
  refine ⟨_,qTq hg hm ja h1 h2,λ ρ G DR σ H R B q F=>ra ρ G _ σ H _ B q λ ds G1 vs H1 g1 al hl q1=>?_⟩
  split at q1
  . next xs ys=>
    obtain ⟨hle,q2⟩:=q1
    obtain ⟨v,r,rfl,⟨l,ws,rfl,s1,r1⟩,u,r2,rfl,⟨m,zs,rfl,s2,r2'⟩,z⟩:=al
    cases z
    refine ⟨l,m,rfl,⟨ws,s1⟩,⟨zs,s2⟩,F _ _ G1 H1 g1 (λ G2 H2 g2 _=>⟨λ n d hd=>?_,λ n hn=>⟨ws,g2.tup.tp _ _ s1,?_⟩⟩) q2⟩
    . rw [List.getElem?_map] at hd
      cases e:(xs.zip ys)[n]? with
      | none=>rw [e] at hd;cases hd
      | some z=>
        rw [e] at hd
        simp at hd
        subst hd
        obtain ⟨e1,e2⟩:=List.getElem?_zip_eq_some.mp e
        obtain ⟨w1,k1,a1⟩:=(r1.mono g2.tup).get e1
        obtain ⟨w2,k2,a2⟩:=(r2'.mono g2.tup).get e2
        refine ⟨⟨ws,zs,w1,w2,g2.tup.tp _ _ s1,g2.tup.tp _ _ s2,k1,k2⟩,λ x H' y=>?_⟩
        obtain ⟨T,x1,y1,rfl,hT,rfl,hx,hy⟩:=y
        have z1:=hx ws (g2.tup.tp _ _ s1)
        have z2:=hy zs (g2.tup.tp _ _ s2)
        rw [k1] at z1;rw [k2] at z2
        cases z1;cases z2
        have g3:=Go.newT (o:=.tup [w1,w2]) g2.vw hT
        exact ⟨g3,T,_,rfl,.of aRq,⟨_,_,rfl,a1.mono g3.tup,.one (a2.mono g3.tup)⟩⟩
    . have:=r1.len
      simp at hn
      omega
  . exact q1.elim
end
end L3
namespace L3
open PySem PyProof L2
open PySem.MeetsSeq
section
variable {X:Cx}
variable {e:Expr} {t:DTA} {pos apos cpos:Pos}
end
inductive Tm where
  | name (k:Nat) | whole (n:Int) | way (t:Tm) | give (t u:Tm) | pair (t u:Tm) | first (t:Tm) | second (t:Tm) | plus (t u:Tm) | look (t u v:Tm)
def Tm.inn:Tm->List Tm
  | .name _=>[]
  | .whole _=>[]
  | .way t=>[t]
  | .give t u=>[t,u]
  | .pair t u=>[t,u]
  | .first t=>[t]
  | .second t=>[t]
  | .plus t u=>[t,u]
  | .look t u v=>[t,u,v]
def Tm.word:Tm->Str
  | .name _=>"name" | .whole _=>"whole" | .way _=>"way" | .give _ _=>"give" | .pair _ _=>"pair" | .first _=>"first" | .second _=>"second" | .plus _ _=>"plus" | .look _ _ _=>"look"
def Tm.enc:Tm->D
  | .name k=>.tup [.str "name", .int k]
  | .whole n=>.tup [.str "whole", .int n]
  | .way t=>.tup [.str "way", t.enc]
  | .give t u=>.tup [.str "give", t.enc,u.enc]
  | .pair t u=>.tup [.str "pair", t.enc,u.enc]
  | .first t=>.tup [.str "first", t.enc]
  | .second t=>.tup [.str "second", t.enc]
  | .plus t u=>.tup [.str "plus", t.enc,u.enc]
  | .look t u v=>.tup [.str "look", t.enc,u.enc,v.enc]
def Tm.sz:Tm->Nat
  | .name _=>1
  | .whole _=>1
  | .way t=>1+t.sz
  | .give t u=>1+t.sz+u.sz
  | .pair t u=>1+t.sz+u.sz
  | .first t=>1+t.sz
  | .second t=>1+t.sz
  | .plus t u=>1+t.sz+u.sz
  | .look t u v=>1+t.sz+u.sz+v.sz
def Tm.dp:Tm->Nat
  | .name _=>0
  | .whole _=>0
  | .way t=>1+t.dp
  | .give t u=>1+max t.dp u.dp
  | .pair t u=>1+max t.dp u.dp
  | .first t=>1+t.dp
  | .second t=>1+t.dp
  | .plus t u=>1+max t.dp u.dp
  | .look t u v=>1+max t.dp (max u.dp v.dp)
abbrev fed (x y:Int):DO:=.lst [.int x,.int y]
def Fd (G:DV) (a:Addr):Prop:=∃ x y,G a=some (fed x y)
theorem Fd.up {G:DV} {a:Addr} {x y:Int}:Fd (up G a (fed x y)) a:=⟨x,y,a9q⟩
theorem Fd.new {G:DV} {a l:Addr} {o:DO} (h:Fd G a) (n:G l=none):Fd (L3.up G l o) a:=by
  obtain ⟨x,y,e⟩:=h
  exact ⟨x,y,by rw [aWq (by rintro rfl;rw [n] at e;cases e)];exact e⟩
theorem Fd.ne {G:DV} {a l:Addr} (h:Fd G a) (n:G l=none):l≠a:=by
  obtain ⟨x,y,e⟩:=h
  rintro rfl
  rw [n] at e;cases e
theorem f5q {G:DV} {a l:Addr} {f o:DO} (n:up G a f l=none):up (up G a f) l o=up (up G l o) a f/\G l=none/\l≠a:=by
  have ne:l≠a:=by rintro rfl;rw [a9q] at n;cases n
  exact ⟨gBq (Ne.symm ne),by rw [aWq ne] at n;exact n,ne⟩
theorem Sub.new {G G1:DV} {p:Addr} {o:DO} (h:Sub G G1) (n:G p=Option.none):Sub G (up G1 p o):=λ b u e=>by
  rw [aWq (by rintro rfl;rw [n] at e;cases e)];exact h b u e
theorem Sub.put {G G1:DV} {a:Addr} {o:DO} (h:Sub G G1):Sub (up G a o) (up G1 a o):=λ b u e=>by
  by_cases c:b=a
  . subst c;rw [a9q] at e ⊢;exact e
  . rw [aWq c] at e ⊢;exact h b u e
def Fx (a:Addr) (G G':DV):Prop:=∃ x y,G'=up G a (fed x y)
theorem Fx.mk {a:Addr} {G:DV} {x y:Int}:Fx a G (up G a (fed x y)):=⟨x,y,rfl⟩
theorem Fx.trans {a:Addr} {G G1 G2:DV} (h:Fx a G G1) (k:Fx a G1 G2):Fx a G G2:=by
  obtain ⟨x,y,rfl⟩:=h
  obtain ⟨z,u,rfl⟩:=k
  exact ⟨z,u,lWq⟩
theorem Fx.fd {a:Addr} {G G':DV} (h:Fx a G G'):Fd G' a:=by obtain ⟨x,y,rfl⟩:=h;exact .up
theorem Fx.refl {a:Addr} {G:DV} (h:Fd G a):Fx a G G:=by obtain ⟨x,y,e⟩:=h;exact ⟨x,y,(n1q e).symm⟩
theorem Fx.other {a l:Addr} {G G':DV} (h:Fx a G G') (n:l≠a):G' l=G l:=by obtain ⟨x,y,rfl⟩:=h;exact aWq n
theorem Fx.none {a l:Addr} {G G':DV} (h:Fx a G G') (n:G' l=Option.none):G l=Option.none:=by
  obtain ⟨x,y,rfl⟩:=h
  exact (f5q (o:=fed 0 0) n).2.1
def bHq:DSp:=λ ds G Q=>match ds with
  | [.ref a,.int m]=>Fd G a/\0 < m/\m < 2 ^ 62/\∀ d G',Fx a G G'->0<=d->d < m->Q (.int d) G'
  | _=>False
def fNq:DSp:=λ ds G Q=>match ds with
  | [.frl ss,.int k]=>∃ ns:List Int,ss=ns.map D.int/\ns.length<=63/\0<=k/\k < 2 ^ 32/\∀ r x y,G r=none->Q (.ref r) (up G r (fed x y))
  | _=>False
def bMq:DSp:=λ ds G Q=>match ds with
  | [.ref a]=>Fd G a/\∀ n G',Fx a G G'->-(2 ^ 40) < n->n < 2 ^ 40->Q (Tm.enc (.whole n)) G'
  | _=>False
structure Fit (p:Tm) (z d:Int):Prop where
  sz:(p.sz:Int)<=z
  dp:(p.dp:Int)<=d
def c2q (n:Nat):DSp:=λ ds G Q=>match ds with
  | [.ref a,.int many,.int room,.int deep]=>Fd G a/\0<=many/\many+deep < 2 ^ 32/\room < 1000/\0<=deep/\deep < n/\∀ (p:Tm) G',Fx a G G'->Fit p (3 * max room 0+1) deep->Q p.enc G'
  | _=>False
def l4q:DSp:=λ ds _ Q=>∃ ns:List Int,ds=[.frl (ns.map D.int)]/\ns.length<=63/\∀ G',Q (.bl true) G'
abbrev h6q (K:PySem.W.Frag):Sp:=aKq K l4q
theorem o4q {K:PySem.W.Frag} {H:Hp} {a:Addr} {ns:List Int} (hl:ns.length<=63) (o:rIq H) (h:SqL K H a (ns.map V.int)):h6q K [.ref a] H (λ v _=>v=.bl true) λ _ _ _=>False:=by
  have f:FrL K H a (ns.map V.int):=by
    rcases h with (h | h) | h
    . rcases o a with z | ⟨_,_,z⟩<;>(rw [h] at z;cases z)
    . exact .inl h
    . exact .inr h
  refine ⟨[.frl (ns.map D.int)],λ _=>none,λ d _=>d=.bl true,⟨.ref a,[],rfl,⟨a,_,rfl,f,AbsL.of_ints ns⟩,rfl⟩,nofun,⟨ns,rfl,hl,λ _=>rfl⟩,λ d G' v H' g ad e=>?_⟩
  subst e
  exact ad
theorem nTq {P:Program} {w:World} {K:PySem.W.Frag} {mg:Str->Option Value} {base:Heap} {f:Addr} {fd:FuncData} {ps:List Str} {k:Nat} {dsp:DSp} (no:∀ ds G DQ,¬ dsp ds G DQ):FnOk P w K mg base CX0 k f fd ps (aKq K dsp):=
  ⟨λ vs H Q E ⟨ds,G,DQ,_,_,h,_⟩=>absurd h (no ds G DQ),λ A outer s H args us vs Q E _ _ _ _ ⟨ds,G,DQ,_,_,h,_⟩=>absurd h (no ds G DQ)⟩
theorem at2 {x y:D} {G:DV} {Q:DK} {i:Int} (h0:0<=i) (h1:i < 2) (hx:i=0->Q x G) (hy:i=1->Q y G):atS [x,y] i G Q:=by
  refine h2q ?_
  rcases (by omega:i=0\/i=1) with rfl | rfl
  . exact hx rfl
  . exact hy rfl
theorem at4 {x y z u:D} {G:DV} {Q:DK} {i:Int} (h0:0<=i) (h1:i < 4) (hx:i=0->Q x G) (hy:i=1->Q y G) (hz:i=2->Q z G) (hu:i=3->Q u G):atS [x,y,z,u] i G Q:=by
  refine h2q ?_
  rcases (by omega:i=0\/i=1\/i=2\/i=3) with rfl | rfl | rfl | rfl
  . exact hx rfl
  . exact hy rfl
  . exact hz rfl
  . exact hu rfl
theorem at5 {x y z u v:D} {G:DV} {Q:DK} {i:Int} (h0:0<=i) (h1:i < 5) (hx:i=0->Q x G) (hy:i=1->Q y G) (hz:i=2->Q z G) (hu:i=3->Q u G) (hv:i=4->Q v G):atS [x,y,z,u,v] i G Q:=by
  refine h2q ?_
  rcases (by omega:i=0\/i=1\/i=2\/i=3\/i=4) with rfl | rfl | rfl | rfl | rfl
  . exact hx rfl
  . exact hy rfl
  . exact hz rfl
  . exact hu rfl
  . exact hv rfl
def ePq {α:Type} (enc:α->D) (inn:α->List α):DSp:=λ ds G Q=>∃ x,ds=[enc x]/\Q (.tup ((inn x).map enc)) G
section
variable {α:Type} {all:α->List (List Int × α)} {inn:α->List α}
theorem nJq {n:Nat} (h:n<=200000):n<=sizeLine:=by rw [sizeLine_eq];omega
theorem bWq {n:Nat} (h:n<=200000):n < sizeLine:=by rw [sizeLine_eq];omega
theorem up3 {G:DV} {p q:Addr} {x y z:DO} (h:p≠q):up (up (up G q x) p y) q z=up (up G q z) p y:=by
  rw [gBq h,lWq]
end
mutual
def D.plain:D->Bool
  | .int _=>true
  | .str _=>true
  | .tup ds=>decide (ds.length<=100000)&&dQq ds
  | _=>false
def dQq:List D->Bool
  | []=>true
  | d::ds=>d.plain&&dQq ds
end
theorem dMq:∀ {ds:List D} {d:D},dQq ds=true->d∈ds->d.plain=true
  | d::ds,e,h,m=>by
    simp only [dQq,Bool.and_eq_true] at h
    rcases List.mem_cons.mp m with rfl | m
    . exact h.1
    . exact dMq h.2 m
theorem h8q:∀ {ds:List D} {d:D},d∈ds->d.dp<=bKq ds
  | d::ds,e,m=>by
    rcases List.mem_cons.mp m with rfl | m
    . simp only [bKq];omega
    . have:=h8q m
      simp only [bKq];omega
def cLq (n:Nat):DSp:=λ ds G Q=>∃ d:D,ds=[d,d]/\d.plain=true/\d.dp < n/\Q (.bl true) G
theorem h0q {α β:Type} (f:α × α->β):∀ xs:List α,(xs.zip xs).map f=xs.map λ x=>f (x,x)
  | []=>rfl
  | x::xs=>by rw [List.zip_cons_cons,List.map_cons,List.map_cons,h0q f xs]
end L3
namespace L3
open PySem PyProof L2
section
variable {X:Cx}
variable {i:Nat} {T c:Addr} {name:Str} {params:Arguments} {body:List Stmt} {scope:Scope} {pos:Pos} {fr:List Str}
end
end L3
namespace L2
open PySem PySem.Spec PyProof.Rows
end L2
namespace L3
open PySem PyProof L2
section
variable {X:Cx} {k j:Nat} {name qual:Str} {st:Stmt} {fr:List Str} {vals:List D} {ps:List Str} {x:Str} {dsp:DSp} {p pos:Pos} {e:Expr} {es:List Expr} {t:DTA}
end
end L3
namespace L3
open PySem PyProof L2
section
variable {K:PySem.W.Frag} {H H':Hp}
end
section
variable {X:Cx} {e:Expr} {es:List Expr} {t:DTA} {p pos:Pos}
end
def uZq (K:PySem.W.Frag) (x q:Str) (st:Stmt) (f:Addr) (cd:Value):Prop:=∃ (oc:Value) (od:Option Addr) (kV doc pm:Value) (an:Option Addr) (ct:Value) (osl:Array (Option Value)),
  K.lookup f=some ⟨oc,od,.func (PySem.W.fnOf x q (bDq st) (b1q st) (a6q st) .none kV doc pm an cd ct),osl⟩/\PySem.W.codeIn K cd q=true/\PySem.W.keepIn K (.ref f)=true
def DT (K:PySem.W.Frag) (x:Str) (st:Stmt):Prop:=∃ (f:Addr) (cd:Value),PySem.W.nsIn K mainGlobals x=some (some (.ref f))/\uZq K x x st f cd
section
variable {K:PySem.W.Frag} {x m q:Str} {st:Stmt} {C c:Addr}
theorem DT.mk {f:Addr} {cd oc kV doc pm ct:Value} {od an:Option Addr} {osl:Array (Option Value)} (a:PySem.W.nsIn K mainGlobals x=some (some (.ref f))) (l:K.lookup f=some ⟨oc,od,.func (PySem.W.fnOf x x (bDq st) (b1q st) (a6q st) .none kV doc pm an cd ct),osl⟩) (k:PySem.W.codeIn K cd x=true) (p:PySem.W.keepIn K (.ref f)=true):DT K x st:=⟨f,cd,a,_,_,_,_,_,_,_,_,l,k,p⟩
theorem DT.ok (h:DT K x st):∃ (f:Addr) (fd:FuncData),PySem.W.nsIn K mainGlobals x=some (some (.ref f))/\Fun K x x st f fd:=
  let ⟨f,_,a,_,_,_,_,_,_,_,_,l,k,p⟩:=h;⟨f,_,a,o6q l k p⟩
end
end L3
namespace L3
open PySem PyProof L2
section
variable {K:PySem.W.Frag} {H:Hp}
def uDq (f:Str) (v:D):List (Str × D)->List (Str × D)
  | []=>[(f,v)]
  | (g,x)::r=>if g=f then (g,v)::r else (g,x)::uDq f v r
end
@[irreducible] def onI (G:DV) (a C:Addr) (k:List (Str × D)->Prop):Prop:=match G a with
  | some (.ins C' fs)=>C'=C/\k fs
  | _=>False
def uNq (fs:List (Str × D)) (f:Str) (k:D->Prop):Prop:=match fs.lookup f with
  | some d=>k d
  | none=>False
section
variable {K:PySem.W.Frag} {G:DV} {H:Hp}
end
section
variable {X:Cx} {o e value:Expr} {es:List Expr} {f m:Str} {C:Addr} {pos pos' tpos apos p:Pos} {ta tv:DTE} {t:DTA}
end
end L3
namespace L2
open PySem PySem.Spec PyProof.Rows
section
variable {X:Cx} {e:Expr} {ta:TA} {p p2 pos pos2:Pos}
end
end L2
namespace L3
open PySem PyProof L2
section
variable {X:Cx} {e:Expr} {t:DTA} {p p2 pos pos2:Pos}
end
end L3
namespace L2
open PySem PySem.Spec PyProof.Rows
end L2
namespace L3
open PySem PyProof L2
end L3
namespace KSs
open PySem PyProof.Rows
end KSs
namespace KSs
open PySem PyProof.Rows
section
variable {prog:Program} {w:World} {A:Around} {E:Value->Shared->Prop} {s:Shared} {a:Addr} {es:Array (Int × Value)} {ep:Nat} {t:SetTable}
end
end KSs
namespace KSs
open PySem PyProof.Rows
section
variable {prog:Program} {w:World} {A:Around} {E:Value->Shared->Prop} {s:Shared}
end
end KSs
namespace KSs
open PySem PyProof.Rows
end KSs
namespace KSs
open PySem PyProof.Rows
section
variable {prog:Program} {w:World} {A:Around} {E:Value->Shared->Prop} {s:Shared} {a I T:Addr} {es:Array (Int × Value)} {ep:Nat} {t:SetTable}
end
end KSs
namespace KSs
open PySem PyProof.Rows
section
variable {prog:Program} {w:World} {A:Around} {E:Value->Shared->Prop} {s:Shared} {a I T:Addr} {es:Array (Int × Value)} {ep:Nat} {t:SetTable}
end
end KSs
namespace KSs
open PySem PyProof.Rows
section
variable {prog:Program} {w:World} {A:Around} {E:Value->Shared->Prop} {s:Shared} {a I T:Addr} {es:Array (Int × Value)} {ep:Nat} {t:SetTable}
end
end KSs
namespace KSs
open PySem PyProof.Rows
section
variable {prog:Program} {w:World} {A:Around} {E:Value->Shared->Prop} {s:Shared} {a:Addr} {es:Array (Int × Value)} {ep:Nat} {t:SetTable}
end
end KSs
namespace KSs
open PySem PyProof.Rows
section
variable {prog:Program} {w:World} {A:Around} {E:Value->Shared->Prop} {s:Shared} {a:Addr} {es:Array (Int × Value)} {ep:Nat} {t:SetTable}
end
end KSs
namespace L2
open PySem PySem.Spec PyProof.Rows
section
variable {X:Cx} {e:Expr} {te:TE} {p p2 pos pos2:Pos}
end
end L2
namespace L3
open PySem PyProof L2
section
variable {X:Cx} {e:Expr} {te:DTE} {p p2 pos pos2:Pos}
end
end L3
namespace L2
open PySem PySem.Spec PyProof.Rows
section
variable {X:Cx}
end
end L2
namespace L3
open PySem PyProof L2
section
variable {X:Cx}
end
end L3
namespace KSs
open PySem PyProof.Rows
section
variable {prog:Program} {w:World} {A:Around} {E:Value->Shared->Prop} {s:Shared} {a:Addr} {es:Array (Int × Value)} {ep:Nat} {t:SetTable}
end
end KSs
namespace KSs
open PySem PyProof.Rows
end KSs
namespace KSs
open PySem PyProof.Rows
section
variable {prog:Program} {w:World} {A:Around} {E:Value->Shared->Prop} {s:Shared} {a:Addr} {es:Array (Int × Value)} {ep:Nat} {t:SetTable}
end
end KSs
namespace KSs
open PySem PyProof.Rows
section
variable {prog:Program} {w:World} {A:Around} {E:Value->Shared->Prop} {s:Shared} {a o:Addr} {es eo:Array (Int × Value)} {ep po:Nat} {t to:SetTable}
end
end KSs
namespace KSs
open PySem PyProof.Rows
section
variable {prog:Program} {w:World} {A:Around} {E:Value->Shared->Prop} {s:Shared} {a o:Addr} {es eo:Array (Int × Value)} {ep po:Nat} {t to:SetTable}
end
end KSs
namespace L2
open PySem PySem.Spec PyProof.Rows
section
variable {X:Cx} {e e2:Expr} {te te2:TE} {p p2 p3 pos pos2 pos3 bpos:Pos}
end
end L2
namespace L3
open PySem PyProof L2
section
variable {X:Cx} {e e2:Expr} {te te2:DTE} {p p2 p3 pos pos2 pos3 bpos:Pos}
end
end L3
namespace L3
open PySem PyProof L2
section
variable {K:PySem.W.Frag} {H:Hp} {G:DV}
end
section
variable {X:Cx} {o i e value:Expr} {pos pos' tpos:Pos} {td ti tv:DTE}
end
end L3
namespace L2
open PySem PySem.Spec PyProof.Rows
section
variable {X:Cx}
def Itv (K:PySem.W.Frag) (a:Addr) (n:Nat):It:=
  ⟨λ i H=>i < n/\∃ xs,SqL K H a xs/\xs.length=n,λ i H x H'=>H'=H/\∀ xs,SqL K H a xs->xs[n - 1 - i]?=some x,λ i _=>n<=i⟩
theorem jRq {P:Program} {w:World} {K:PySem.W.Frag} {tg:Expr} (a it:Addr) (n:Nat):Turn P w K tg (Itv K a n) [it] it (λ i h=>i<=n/\h.IsRevIter it a ((n:Int) - 1 - (i:Int))) where
  mem:=by simp
  obj:=λ i h st b hb=>by
    have e:b=it:=by simpa using hb
    subst e
    obtain ⟨_,o,e,c,d⟩:=st
    exact ⟨o,e,λ v z=>by rw [d] at z;cases z⟩
  keep:=λ i h h' st k=>⟨st.1,st.2.at λ o e=>k it (by simp) o e⟩
  item:=by
    intro X hP hw hK hc i pins s σ H E I hf st hg
    subst hP hw hK
    obtain ⟨hi,xs,hq,hx⟩:=hg
    obtain ⟨_,st⟩:=st
    obtain ⟨its,rv,p,hz⟩:=I.list hq
    have hlt:n - 1 - i < xs.length:=by omega
    have hx':xs[n - 1 - i]?=some xs[n - 1 - i]:=List.getElem?_eq_getElem hlt
    obtain ⟨u,hu,ru⟩:=rv.get hx'
    obtain ⟨f0,f1,f2,f3,f4,f5⟩:=hf it (by simp)
    rw [show (n:Int) - 1 - (i:Int)=((n - 1 - i:Nat):Int) by omega] at st
    refine wpAny_pyNext_rev_item st p.isList (x:=u) (by simpa using hu) λ h' st' sb=>?_
    have I1:Inv X pins σ H { s with heap:=h' }:=I.turned (t':=s.toks) (λ b o hb e=>(sb.2 b hb).trans e) f0 f1 f3 f4 f5
    obtain ⟨o,e,c,d⟩:=id st'
    exact ⟨u,rfl,jOq (s:={ s with heap:=h' }) e c d (by decide) ⟨_,H,I1,ru,⟨rfl,λ ys hy=>by rw [I.list_inj hy hq];exact hx'⟩,⟨hi,by rw [show (n:Int) - 1 - ((i+1:Nat):Int)=((n - 1 - i:Nat):Int) - 1 by omega];exact st'⟩,λ b hb=>(hf b hb).1⟩⟩
  done:=by
    intro X hP hw hK hc i pins s σ H E I hf st hg
    subst hP hw hK
    have hg':n<=i:=hg
    obtain ⟨hi,st⟩:=st
    obtain ⟨f0,f1,f2,f3,f4,f5⟩:=hf it (by simp)
    rw [show (n:Int) - 1 - (i:Int)=-1 by omega] at st
    exact wpAny_pyNext_rev_end (I.ok.hd hc) st λ h' eb=>⟨rfl,I.turned (t':=s.toks) (λ b o hb e=>eb b o hb e) f0 f1 f3 f4 f5⟩
  self:=λ _ _ _ _ _ st h=>wpAny_pyIter_revIter st.2 h
def tSq (K:PySem.W.Frag) (tl:TE):TI:=λ σ H R=>tl σ H λ x H1=>∃ a xs,x=.ref a/\SqL K H1 a xs/\R (Itv K a xs.length) H1
theorem pMq {tg e:Expr} {tl:TE} {p pos:Pos} (hg:Gl X "reversed") (hm:X.mg "reversed" = none) (hl:PE X e tl) (hs:aHq e=true):PI X tg (.Call (.Name "reversed" p) [e] [] pos) (tSq X.K tl):=by
  intro pins s σ H R I h
  refine thn (mKq (R:=λ a xs H1=>R (Itv X.K a xs.length) H1) hg hm hl hs I h) λ v s1 h1=>?_
  obtain ⟨a,it,xs,its,H1,rfl,I1,hit,ht,hne,rv,hz,_,fp,q⟩:=h1
  have hl':=rv.length
  refine wpAny_pyIter_revIter hit ⟨it,[it],_,_,H1,rfl,I1,jRq a it xs.length,?_,λ b hb=>?_,q⟩
  . rw [List.size_toArray,<- hl'] at hit
    exact ⟨Nat.zero_le _,by simpa using hit⟩
  . have e:b=it:=by simpa using hb
    subst e
    exact fp
end
end L2
namespace L3
open PySem PySem.Spec L2
section
variable {X:Cx} {a b c e f o i tg iter value:Expr} {x:Str} {ad C:Addr} {tab:Str->Option D} {ta tv te tf to ti:DTE} {pos pos' tpos p apos cpos:Pos}
abbrev rLq (C:Addr) (f:Str) (ta te:DTE) (g:Int->Int->Int):DTS:=λ DD ρ G=>ta ρ G λ x G1=>match x with
  | .ref a=>onI G1 a C λ fs=>uNq fs f λ d=>te ρ G1 λ y G2=>match d,y with
    | .int i,.int j=>onI G2 a C λ fs'=>fs'.length < 1000/\DD.nx ρ (up G2 a (.ins C (uDq f (.int (g i j)) fs')))
    | _,_=>False
  | _=>False
@[irreducible] def pFq (G:DV) (l:Addr) (k:DIt->Prop):Prop:=match G l with
  | some (.lst ds)=>k ⟨ds.reverse,λ G=>G l=some (.lst ds)⟩
  | _=>False
theorem lTq {G:DV} {l:Addr} {k:DIt->Prop} {ds:List D} (h:G l=some (.lst ds)) (q:k ⟨ds.reverse,λ G=>G l=some (.lst ds)⟩):pFq G l k:=by unfold pFq;rw [h];exact q
abbrev sIq (ta:DTE):DTI:=λ ρ G R=>ta ρ G λ x G1=>match x with
  | .ref l=>pFq G1 l λ J=>R J G1
  | _=>False
theorem qUq {tc:TE} (hg:Gl X "reversed") (hm:X.mg "reversed" = none) (hl:JE X a tc) (hs:aHq a=true):JI X tg (.Call (.Name "reversed" p) [a] [] pos) (tSq X.K tc):=⟨pMq hg hm hl.run hs⟩
theorem nWq (hg:Gl X "reversed") (hm:X.mg "reversed" = none) (ha:AE X a ta) (hs:aHq a=true:=by rfl):AI X tg (.Call (.Name "reversed" p) [a] [] pos) (sIq ta):=by
  obtain ⟨ca,ja,ra⟩:=ha.run
  refine ⟨_,qUq hg hm ja hs,λ ρ G DR σ H R B q F=>ra ρ G _ σ H _ B q λ x G1 v H1 g1 ax q1=>?_⟩
  cases x with
  | ref l=>
    cases ax
    replace q1:pFq G1 l λ J=>DR J G1:=q1
    unfold pFq at q1
    split at q1
    . next ds hd=>
      obtain ⟨vs,z,r⟩:=g1.vw _ _ hd
      refine ⟨l,vs,rfl,.of z,F ⟨ds.reverse,λ G=>G l=some (.lst ds)⟩ _ G1 H1 g1 (λ G2 H2 g2 h2=>?_) q1⟩
      obtain ⟨us,z2,r2⟩:=g2.vw _ _ h2
      have n1:=r.len
      have n2:=r2.len
      refine ⟨λ i d hd'=>?_,λ i hi=>?_⟩
      . have hi:i < ds.length:=by
          rcases Nat.lt_or_ge i ds.length with c | c
          . exact c
          . rw [List.getElem?_eq_none (by rw [List.length_reverse];exact c)] at hd';cases hd'
        rw [List.getElem?_reverse hi] at hd'
        obtain ⟨w,hw,aw⟩:=r2.get hd'
        refine ⟨⟨by omega,us,.of z2,by omega⟩,λ x H' y=>?_⟩
        obtain ⟨rfl,y⟩:=y
        have z:=y us (.of z2)
        rw [show vs.length=ds.length by omega,hw] at z
        cases z
        exact ⟨.refl g2.vw,aw⟩
      . show vs.length<=i
        rw [List.length_reverse] at hi
        omega
    . exact q1.elim
  | _=>exact (show False from q1).elim
end
end L3
namespace L2
open PySem PySem.Spec PyProof.Rows
theorem j7q {X:Cx}:OpR X (compareOp .IsNot) (λ x y H Q=>∃ a b,x=.bl a/\y=.bl b/\Q (.bl (a !=b)) H):=by
  intro pins s σ H x y v u Q I rx ry h
  obtain ⟨a,b,rfl,rfl,q⟩:=h
  cases rx;cases ry
  have e:compareOp .IsNot (.bool a) (.bool b)=pure (.bool (a !=b)):=by cases a<;>cases b<;>rfl
  rw [e]
  exact wpAny_pure ⟨.bl _,H,I,rfl,q⟩
end L2
namespace L3
open PySem PySem.Spec L2
abbrev oPq:DR2:=λ x y G Q=>match x,y with
  | .bl a,.bl b=>Q (.bl (a !=b)) G
  | _,_=>False
theorem hRq {X:Cx}:AOp X (compareOp .IsNot) oPq:=by
  refine ⟨_,⟨j7q⟩,λ x y vx vy G H DQ Q v ax ay r F=>?_⟩
  cases x with
  | bl a=>
    cases y with
    | bl b=>cases ax;cases ay;exact ⟨a,b,rfl,rfl,F (.bl (a !=b)) G _ H (.refl v) rfl r⟩
    | _=>exact (show False from r).elim
  | _=>exact (show False from r).elim
end L3
namespace L2
open PySem PySem.Spec PyProof.Rows
section
variable {X:Cx} {e st:Expr} {te:TE} {tk:TO} {pos p2:Pos}
def tRv (K:PySem.W.Frag) (te:TE) (tk:TO):TE:=λ σ H Q=>te σ H λ x H1=>tk σ H1 λ k H2=>k=some (-1)/\∃ (a:Addr) (xs:List V),x=.ref a/\SqL K H2 a xs/\∀ p,H2 p=none->Q (.ref p) (upd H2 p (.lst xs.reverse))
theorem cCq:∀ {xs:List V} {us:List Value},Vals xs us->Vals xs.reverse us.reverse
  | _,_,.nil=>.nil
  | _,_,.cons r t=>by
    rw [List.reverse_cons,List.reverse_cons]
    exact (cCq t).append (.cons r .nil)
theorem t2q (he:PE X e te) (hk:PO X (some st) tk):PE X (.Subscript e (.Slice none none (some st) p2) pos) (tRv X.K te tk):=by
  intro pins s σ H Q I h
  refine Subscript_ (thn (he pins s σ H _ I h) λ v s1 ⟨x,H1,I1,r1,q1⟩=>?_)
  refine wpAny_Slice ?_
  rw [evalPart_none]
  refine wpAny_pure (wpAny_pure ?_)
  refine thn (hk pins s1 σ H1 _ I1 q1) λ vk s3 ⟨k,H3,I3,pk,e1,a,xs,e2,hx,q3⟩=>?_
  subst e1 e2
  cases r1
  have I4:Inv X pins σ H3 { s3 with heap:=s3.heap.push { cls:=.type "slice", data:=.fields #[.none,.none,vk] } }:=I3.kept (t':=s3.toks) λ b ob q=>Heap.get?_push_of_some _ q
  obtain ⟨its,r,ht,hz⟩:=I4.list hx
  have hlen:=r.length
  show wpAny (model X.prog X.w) X.A (subscriptTail e (.Slice none none (some st) p2) (.ref a) (.ref s3.heap.objs.size)) (EP X pins σ Q) X.xe { s3 with heap:=s3.heap.push { cls:=.type "slice", data:=.fields #[.none,.none,vk] } }
  refine tail_any (ops:=[.ref a,.ref s3.heap.objs.size]) ht.isList.typeIs slot_list_getitem.lookup ?_ (by with_unfolding_all rfl)
  refine wpAny_getItem_list_slice ht.isList (Heap.IsSliceOf.new ..) .none .none pk (by simp) ?_ (by rw [List.size_toArray];omega)
  rw [PySem.W.krv_pick]
  refine ⟨.ref _,_,I4.laid (t':=s3.toks) (o:=.lst xs.reverse) (λ b ob q=>Heap.get?_push_of_some _ q) (Nat.le_refl _) ?_,rfl,q3 _ (I4.hok.fresh (Nat.le_refl _))⟩
  exact ⟨by rw [List.length_reverse];exact hz,_,0,cCq r,Heap.get?_push_size _ rfl⟩
end
end L2
namespace L3
open PySem PySem.Spec L2
section
variable {X:Cx} {e st:Expr} {te:DTE} {tk:DTO} {pos p2:Pos}
abbrev dRv (te:DTE) (tk:DTO):DTE:=λ ρ G Q=>te ρ G λ x G1=>tk ρ G1 λ k G2=>k=some (-1)/\match x with
  | .ref l=>onL G2 l λ ds=>∀ p,G2 p=none->Q (.ref p) (up G2 p (.lst ds.reverse))
  | _=>False
theorem rSq (he:AE X e te) (hk:AO X (some st) tk):AE X (.Subscript e (.Slice none none (some st) p2) pos) (dRv te tk):=by
  obtain ⟨ce,je,re⟩:=he.run
  obtain ⟨ck,jk,rk⟩:=hk.run
  refine ⟨_,⟨t2q je.run jk.run⟩,λ ρ G DQ σ H Q B q F=>re ρ G _ σ H _ B q λ x G1 v H1 g1 ax q1=>rk ρ G1 _ σ H1 _ (B.go g1) q1 λ k G2 H2 g2 ⟨e1,q2⟩=>?_⟩
  cases x with
  | ref l=>
    cases ax
    obtain ⟨ds,vs,k2,s,rl⟩:=aYq g2.vw q2
    exact ⟨e1,l,vs,rfl,s,λ p hp=>F (.ref p) _ _ _ ((g1.trans g2).trans (Go.newL g2.vw hp rl.reverse)) rfl (k2 p (g2.vw.none hp))⟩
  | _=>exact (show False from q2).elim
end
end L3
namespace L2
open PySem PySem.Spec PyProof.Rows
end L2
namespace L3
open PySem L2
def Tm.isAns:Tm->Bool
  | .pair a b=>a.isAns&&b.isAns
  | .whole _=>true
  | .way _=>true
  | _=>false
def Tm.mapN (φ:Nat->Nat->Tm):Nat->Tm->Tm
  | w,.name n=>φ n w
  | _,.whole k=>.whole k
  | w,.way t=>.way (t.mapN φ (w+1))
  | w,.give t u=>.give (t.mapN φ w) (u.mapN φ w)
  | w,.pair t u=>.pair (t.mapN φ w) (u.mapN φ w)
  | w,.first t=>.first (t.mapN φ w)
  | w,.second t=>.second (t.mapN φ w)
  | w,.plus t u=>.plus (t.mapN φ w) (u.mapN φ w)
  | w,.look t u v=>.look (t.mapN φ w) (u.mapN φ w) (v.mapN φ w)
def t6q (m l:Nat):Nat->Nat->Tm:=λ n w=>.name (if n ≥ w+l then n+m else n)
theorem Fx.kp {a b:Addr} {G G':DV} {u:DO} (h:Fx a G G') (n:b≠a) (e:G b=some u):G' b=some u:=by rw [h.other n];exact e
theorem k8q {x:D} {G:DV} {Q:DK} (hx:x.data=true) (hd:x.dp<=150) (q:Q (.bl false) G):eqR (!·) x x G Q:=oBq hx hx hd (by rw [eJq hx];exact q)
def v1q (u:Tm):Nat->Nat->Tm:=λ n w=>if n=w then u.mapN (t6q w 0) 0 else .name (if w < n then n - 1 else n)
def Tm.comes:Tm->Tm
  | .give (.way b) a=>b.mapN (v1q a) 0
  | .first (.pair a _)=>a
  | .second (.pair _ b)=>b
  | .plus (.whole i) (.whole j)=>.whole (i+j)
  | .look (.whole i) a b=>if i=0 then a else b
  | t=>t
section
variable (T:Addr) (pos:Pos) (T2:Addr) (pos2:Pos)
def c4q (P:Program) (w:World) (K:PySem.W.Frag) (mg:Str->Option Value) (base:Heap) (k:Nat):DSp:=λ ds G Q=>∃ (α:Type) (enc:α->D) (inn:α->List α) (all:α->List α) (f:Addr) (x:α),ds=[enc x,.ref f]/\(∀ y,all y=y::(inn y).flatMap all) ∧
  FnV P w K mg base k f (aKq K (ePq enc inn))/\(all x).length<=10000/\∀ l,G l=none->Q (.ref l) (up G l (.lst ((all x).map enc)))
def Tm.pinn:Tm->List Tm
  | .pair a b=>[a,b]
  | _=>[]
def Tm.pall:Tm->List Tm
  | .pair a b=>.pair a b::(a.pall++b.pall)
  | t=>[t]
theorem Tm.pall_eq (t:Tm):t.pall=t::t.pinn.flatMap Tm.pall:=by cases t<;>simp [Tm.pall,Tm.pinn]
theorem Tm.pall_len (t:Tm):t.pall.length<=t.sz:=by
  induction t<;>simp only [Tm.pall,Tm.sz,List.length_cons,List.length_append,List.length_nil]<;>omega
def Tm.an3 (u:Tm):Bool:=u.word=="whole"||u.word=="way"||u.word=="pair"
theorem Tm.pall_ans (t:Tm):t.pall.all Tm.an3=t.isAns:=by
  induction t with
  | pair a b h1 h2=>simp only [Tm.pall,List.all_cons,List.all_append,h1,h2,Tm.isAns];rfl
  | _=>rfl
def m8q:DSp:=λ ds G Q=>∃ t:Tm,ds=[t.enc]/\t.sz<=10000/\∀ l,G l=none->Q (.ref l) (up G l (.lst (t.pall.map Tm.enc)))
end
theorem gUq {α:Type} {inn all:α->List α} (hall:∀ y,all y=y::(inn y).flatMap all):∀ ps:List α,ps.length<=(ps.flatMap all).length
  | []=>Nat.le_refl _
  | y::ps=>by
    have:=gUq hall ps
    rw [List.flatMap_cons,hall y,List.length_append,List.length_cons,List.length_cons]
    omega
end L3
namespace L3
open PySem PySem.Spec L2 PySem.SeqAt
def g4q (e c:Nat->Bool) (fin:Bool):Nat->Nat->Bool
  | 0,_=>fin
  | k+1,i=>if e i then g4q e c fin k (i+1) else c i
def LtAt (A:Around) (s:Shared) (y x:Value) (b:Bool):Prop:=
  ∀ (prog:Program) (w:World) (E:Value->Shared->Prop) (Q:Value->Shared->Prop),Q (.bool b) s->wpAny (model prog w) A (richCompare .Lt y x) Q E s
open AutoSeq1 (wpAny_loadPart') in
theorem hQq (l b:Addr) (items items2:Array Value) (n n2:Nat) (dd dd2:Option Addr) (sl sl2:Array (Option Value)) (e c:Nat->Bool) :
    Meets (Builtin.«tuple.__lt__» ⟨[.ref l,.ref b],[]⟩)
      (λ A R s=>s.heap.get? l=some { cls:=.type "tuple", dict:=dd,data:=.seq items n,slots:=sl }/\s.heap.get? b=some { cls:=.type "tuple", dict:=dd2,data:=.seq items2 n2,slots:=sl2 } ∧
        (∀ j (h1:j < items.size) (h2:j < items2.size),EqAt A.in1 s items[j] items2[j] (e j)) ∧
        (∀ j (h1:j < items.size) (h2:j < items2.size),(∀ i,i < j->e i=true)->e j=false->LtAt A.in1 s items[j] items2[j] (c j)) ∧
        R (.ok (.ret (.bool (g4q e c (decide (items.size < items2.size)) (min items.size items2.size) 0)))) s):=
  .of_wp λ prog w A R s h=>by
    obtain ⟨hp,g,d,tk,os⟩:=s;obtain ⟨hl,hb,he,hc,h⟩:=h
    have f2:=AutoSeq1.sub_tuple_tuple
    have hZ:(items.toList.zip items2.toList).length=min items.size items2.size:=by simp
    wp_walk using wpAny_loadPart' hl,wpAny_loadPart' hb,wpAny_forIn_list _ (λ rest b s'=>b.1=none/\s'=⟨hp,g,d,tk,os⟩/\∃ i,rest=(items.toList.zip items2.toList).drop i/\(∀ k,k < i->e k=true) ∧
      R (.ok (.ret (.bool (g4q e c (decide (items.size < items2.size)) (min items.size items2.size - i) i)))) ⟨hp,g,d,tk,os⟩) _
    case turn=>
      rintro ⟨y,x⟩ rest b s' ⟨hb',rfl,i,hz,hk,hR⟩
      have hlt:i < (items.toList.zip items2.toList).length:=by
        rcases Nat.lt_or_ge i (items.toList.zip items2.toList).length with h' | h'
        . exact h'
        . rw [List.drop_of_length_le h'] at hz;cases hz
      have hm:i < min items.size items2.size:=hZ ▸ hlt
      have h1:i < items.size:=Nat.lt_of_lt_of_le hm (Nat.min_le_left _ _)
      have h2:i < items2.size:=Nat.lt_of_lt_of_le hm (Nat.min_le_right _ _)
      rw [List.drop_eq_getElem_cons hlt] at hz
      injection hz with hyx hrest
      have hy:y=items[i]:=by have:=congrArg Prod.fst hyx;simpa using this
      have hx:x=items2[i]:=by have:=congrArg Prod.snd hyx;simpa using this
      subst hy hx
      rw [show min items.size items2.size - i=(min items.size items2.size - (i+1))+1 by omega,g4q] at hR
      refine wpAny_bind (he i h1 h2 prog w _ _ ?_)
      cases hy:e i with
      | true=>
        rw [hy] at hR
        wp_walk
        exact ⟨rfl,rfl,i+1,hrest,λ k hk'=>by rcases Nat.lt_succ_iff_lt_or_eq.mp hk' with z | rfl;exact hk k z;exact hy,by simpa using hR⟩
      | false=>
        rw [hy,if_neg (by decide)] at hR
        simp only [Bool.not_false,if_true]
        refine wpAny_bind (wpAny_rule (wpAny_bind (hc i h1 h2 hk hy prog w _ _ ?_)))
        wp_walk
        exact ⟨_,rfl,hR⟩
    case fin=>
      rintro ⟨b1,b2⟩ s' ⟨hb',rfl,i,hz,hk,hR⟩
      simp only at hb'
      subst hb'
      have hge:min items.size items2.size<=i:=by
        rcases Nat.lt_or_ge i (items.toList.zip items2.toList).length with h' | h'
        . rw [List.drop_eq_getElem_cons h'] at hz;cases hz
        . exact hZ ▸ h'
      rw [show min items.size items2.size - i=0 by omega,g4q] at hR
      wp_walk
      exact ⟨_,rfl,by simpa [Builtin.Tuple.tupleCompareSizes] using hR⟩
    case h=>
      exact ⟨rfl,rfl,0,rfl,by simp,by simpa using h⟩
theorem LtAt.tuples {A:Around} {s:Shared} {l b:Addr} {items items2:Array Value} {e c:Nat->Bool} (hl:s.heap.IsTuple l items) (hb:s.heap.IsTuple b items2) (hu:A.units < cLine)
    (he:∀ j (h1:j < items.size) (h2:j < items2.size),EqAt A.in1 s items[j] items2[j] (e j))
    (hc:∀ j (h1:j < items.size) (h2:j < items2.size),(∀ i,i < j->e i=true)->e j=false->LtAt A.in1 s items[j] items2[j] (c j)) :
    LtAt A s (.ref l) (.ref b) (g4q e c (decide (items.size < items2.size)) (min items.size items2.size) 0):=λ prog w E Q h=>by
  obtain ⟨⟨cls,dd,data,sl⟩,ho,hc1,n,hd⟩:=id hl
  obtain ⟨⟨cls2,dd2,data2,sl2⟩,ho2,hc2,n2,hd2⟩:=id hb
  simp only at hc1 hd hc2 hd2
  subst hc1 hd hc2 hd2
  exact richCompare_meets_room (op:=.Lt) ⟨_,ho,rfl⟩ ⟨_,ho2,rfl⟩ F.slot_tuple_lt F.entry_tuple_lt (F.args_tuple_lt_2 _ _) (hQq l b items items2 n n2 dd dd2 sl sl2 e c)
    ⟨ho,ho2,he,hc,show Value.bool _≠Value.notImplemented/\Q _ s from ⟨(λ x=>nomatch x),h⟩⟩ hu
mutual
def ltD:D->D->Option Bool
  | .int i,.int j=>some (decide (i < j))
  | .str a,.str b=>some (decide (a.cps.toList < b.cps.toList))
  | .tup ds,.tup es=>d6q ds es
  | _,_=>none
def d6q:List D->List D->Option Bool
  | [],es=>some (decide (0 < es.length))
  | _::_,[]=>some false
  | d::ds,e::es=>if eqD d e then d6q ds es else ltD d e
end
theorem dKq (e c:Nat->Bool) (fin:Bool):∀ n i,g4q e c fin n (i+1)=g4q (λ k=>e (k+1)) (λ k=>c (k+1)) fin n i
  | 0,_=>rfl
  | n+1,i=>by rw [g4q,g4q,dKq e c fin n (i+1)]
theorem gQq (d e:D) (ds es:List D):(λ k=>eqJ (d::ds) (e::es) (k+1))=eqJ ds es:=by funext j;simp [eqJ]
theorem l2q {b:Bool}:∀ {ds es:List D},d6q ds es=some b->g4q (eqJ ds es) (λ _=>b) (decide (ds.length < es.length)) (min ds.length es.length) 0=b
  | [],es,h=>by
    rw [d6q] at h
    simp only [List.length_nil,Nat.zero_min,g4q]
    exact Option.some.inj h
  | _::_,[],h=>by
    rw [d6q] at h
    simp only [List.length_nil,Nat.min_zero,g4q]
    cases h;simp
  | d::ds,e::es,h=>by
    rw [d6q] at h
    rw [List.length_cons,List.length_cons,Nat.succ_min_succ,g4q,dKq,gQq,show eqJ (d::ds) (e::es) 0=eqD d e from rfl]
    by_cases c:eqD d e=true
    . rw [if_pos c] at h ⊢
      have z:=l2q h
      simpa using z
    . rw [if_neg c]
theorem lFq {b:Bool}:∀ {ds es:List D} {j:Nat},d6q ds es=some b->j < ds.length->j < es.length->(∀ i,i < j->eqJ ds es i=true)->eqJ ds es j=false->∃ d e,ds[j]?=some d/\es[j]?=some e/\ltD d e=some b
  | [],_,_,_,h,_,_,_=>by simp at h
  | _::_,[],_,_,_,h,_,_=>by simp at h
  | d::ds,e::es,0,h,_,_,_,hj=>by
    rw [d6q,if_neg (by rw [show eqD d e=false from hj];decide)] at h
    exact ⟨d,e,rfl,rfl,h⟩
  | d::ds,e::es,j+1,h,h1,h2,hi,hj=>by
    rw [d6q,if_pos (show eqD d e=true from hi 0 (by omega))] at h
    have e1:=gQq d e ds es
    obtain ⟨d',e',g1,g2,g3⟩:=lFq (ds:=ds) (es:=es) (j:=j) h (by simpa using h1) (by simpa using h2) (λ i hlt=>by rw [<- e1];exact hi (i+1) (by omega)) (by rw [<- e1];exact hj)
    exact ⟨d',e',g1,g2,g3⟩
section
variable {X:Cx} {pins:List (Addr × Obj)} {σ:L2.St} {H:Hp} {s:Shared}
mutual
theorem qLq (I:Inv X pins σ H s):∀ (d e:D) (b:Bool) (A:Around) (x y:V) (u v:Value),d.data=true->e.data=true->Abs X.K H d x->Abs X.K H e y->RelV x u->RelV y v->A.units+d.dp < cLine->ltD d e=some b->LtAt A s u v b
  | .tup ds,e,b,A,x,y,u,v,hd,he,ax,ay,ru,rv,hu,hb=>by
    obtain ⟨es,rfl⟩:∃ es,e=.tup es:=by cases e<;>first | exact ⟨_,rfl⟩ | (simp [ltD] at hb)
    obtain ⟨a,vs,rfl,s1,r1⟩:=ax
    cases ru
    obtain ⟨its,rr,t1,_⟩:=I.tuple s1
    obtain ⟨a2,us,rfl,s2,r2⟩:=ay
    cases rv
    obtain ⟨its2,rr2,t2,_⟩:=I.tuple s2
    have l1:=rr.length
    have l2:=rr2.length
    have l3:=r1.len
    have l4:=r2.len
    rw [ltD] at hb
    simp only [D.dp] at hu
    simp only [D.data] at hd he
    have z:=LtAt.tuples (A:=A) (e:=eqJ ds es) (c:=λ _=>b) t1 t2 (by omega) (λ j h1 h2=>by
      have q:=cVq I ds es A.in1 vs us its its2 hd he r1 r2 rr rr2 (by show A.units+1+bKq ds < cLine;omega) j (by simpa using h1) (by simpa using h2)
      simpa using q) (λ j h1 h2 hi hj=>by
      have j1:j < its.length:=by simpa using h1
      have j2:j < its2.length:=by simpa using h2
      obtain ⟨d,e,g1,g2,g3⟩:=lFq hb (by omega) (by omega) hi hj
      have q:=lDq I ds es A.in1 vs us its its2 hd he r1 r2 rr rr2 (by show A.units+1+bKq ds < cLine;omega) j j1 j2 d e b g1 g2 g3
      simpa using q)
    have ez:g4q (eqJ ds es) (λ _=>b) (decide (its.toArray.size < its2.toArray.size)) (min its.toArray.size its2.toArray.size) 0=b:=by
      rw [List.size_toArray,List.size_toArray,<- l1,<- l2,l3,l4];exact l2q hb
    rw [ez] at z
    exact z
  | .int i,e,b,A,x,y,u,v,_,_,ax,ay,ru,rv,_,hb=>by
    obtain ⟨j,rfl⟩:∃ j,e=.int j:=by cases e<;>first | exact ⟨_,rfl⟩ | (simp [ltD] at hb)
    cases ax;cases ay
    obtain ⟨t,rfl⟩:=ru
    obtain ⟨t',rfl⟩:=rv
    rw [ltD] at hb;cases hb
    exact λ prog w E Q h=>PyProof.Rows.lt_int h
  | .str i,e,b,A,x,y,u,v,_,_,ax,ay,ru,rv,_,hb=>by
    obtain ⟨j,rfl⟩:∃ j,e=.str j:=by cases e<;>first | exact ⟨_,rfl⟩ | (simp [ltD] at hb)
    cases ax;cases ay
    obtain ⟨t,rfl⟩:=ru
    obtain ⟨t',rfl⟩:=rv
    rw [ltD] at hb;cases hb
    exact λ prog w E Q h=>PyProof.Rows.lt_str h
  | .non,e,b,A,x,y,u,v,_,_,_,_,_,_,_,hb=>by simp [ltD] at hb
  | .bl _,e,b,A,x,y,u,v,_,_,_,_,_,_,_,hb=>by simp [ltD] at hb
  | .ref _,e,b,A,x,y,u,v,h,_,_,_,_,_,_,_=>by simp [D.data] at h
  | .ty _,e,b,A,x,y,u,v,h,_,_,_,_,_,_,_=>by simp [D.data] at h
  | .frl _,e,b,A,x,y,u,v,h,_,_,_,_,_,_,_=>by simp [D.data] at h
theorem lDq (I:Inv X pins σ H s):∀ (ds es:List D) (A:Around) (vs us:List V) (its its2:List Value),aVq ds=true->aVq es=true->AbsL X.K H ds vs->AbsL X.K H es us->Vals vs its->Vals us its2->A.units+bKq ds < cLine →
    ∀ j (h1:j < its.length) (h2:j < its2.length) d e b,ds[j]?=some d->es[j]?=some e->ltD d e=some b->LtAt A s its[j] its2[j] b
  | [],es,A,vs,us,its,its2,_,_,_,_,_,_,_,j,h1,h2,d,e,b,g1,_,_=>by cases g1
  | _::_,[],A,vs,us,its,its2,_,_,_,_,_,_,_,j,h1,h2,d,e,b,_,g2,_=>by cases g2
  | d0::ds,e0::es,A,vs,us,its,its2,hd,he,⟨v,r,e,q,t⟩,⟨v',r',e',q',t'⟩,rr,rr2,hu,j,h1,h2,d1,e1,b,g1,g2,g3=>by
    subst e e'
    cases rr with
    | cons r1 rt=>
      cases rr2 with
      | cons r2 rt2=>
        simp only [bKq] at hu
        simp only [aVq,Bool.and_eq_true] at hd he
        cases j with
        | zero=>
          cases g1;cases g2
          exact qLq I d0 e0 b A _ _ _ _ hd.1 he.1 q q' r1 r2 (by omega) g3
        | succ j=>
          have z:=lDq I ds es A _ _ _ _ hd.2 he.2 t t' rt rt2 (by omega) j (by simpa using h1) (by simpa using h2) d1 e1 b g1 g2 g3
          simpa using z
end
end
end L3
namespace L2
open PySem PySem.W PyProof.Rows
def kGood (n:Nat) {α:Type} (P:α->Prop):KasT α->Prop
  | .ret a=>P a
  | .ask i j k=>i < n/\j < n/\∀ b,kGood n P (k b)
theorem kGood.mono {n:Nat} {α:Type} {P R:α->Prop} (h:∀ a,P a->R a):∀ {t:KasT α},kGood n P t->kGood n R t
  | .ret a,g=>h a g
  | .ask _ _ k,g=>⟨g.1,g.2.1,λ b=>kGood.mono h (g.2.2 b)⟩
theorem kGood.bind {n:Nat} {α β:Type} {P:α->Prop} {R:β->Prop} {f:α->KasT β} (h:∀ a,P a->kGood n R (f a)):∀ {t:KasT α},kGood n P t->kGood n R (t.bind f)
  | .ret a,g=>h a g
  | .ask _ _ k,g=>⟨g.1,g.2.1,λ b=>kGood.bind h (g.2.2 b)⟩
theorem kGood.wp {n:Nat} {α:Type} {P:α->Prop} {cmp:Nat->Nat->(Bool->Shared->Prop)->Shared->Prop} {G:α->Shared->Prop} {s:Shared} {lt:Nat->Nat->Bool} (hc:∀ i j C,i < n->j < n->C (lt i j) s->cmp i j C s) (hG:∀ a,P a->G a s):∀ {t:KasT α},kGood n P t->t.kasWp cmp G s
  | .ret a,g=>hG a g
  | .ask i j k,g=>hc i j _ g.1 g.2.1 (kGood.wp hc hG (g.2.2 _))
abbrev Pm (n:Nat) (p:Array Nat):Prop:=p.toList.Perm (List.range n)
theorem dCq {n:Nat} {p:Array Nat} (h:Pm n p) (hn:0 < n) (k:Nat):p.getD k 0 < n:=by
  by_cases c:k < p.size
  . have e:p.getD k 0=p[k]:=by simp [Array.getD,c]
    rw [e]
    exact List.mem_range.mp (h.mem_iff.mp (Array.mem_toList_iff.mpr (Array.getElem_mem c)))
  . rw [show p.getD k 0=0 by simp [Array.getD,c]];exact hn
theorem f9q {n:Nat} {p:Array Nat} (h:Pm n p) (i j:Nat):Pm n (kas_rev p i j):=(Array.perm_iff_toList_perm.mp (mirror_perm p i j _)).trans h
theorem oJq {n:Nat} {p:Array Nat} (h:Pm n p) (i j:Nat):Pm n (bubble p i j):=(Array.perm_iff_toList_perm.mp (bubble_perm p i j)).trans h
section
variable {n:Nat} (hn:0 < n)
include hn
theorem eQq {p:Array Nat} (h:Pm n p):∀ f m,kGood n (λ _=>True) (kas_asc p f m)
  | 0,_=>trivial
  | f+1,m=>⟨dCq h hn _,dCq h hn _,λ b=>by cases b;exact eQq h f (m+1);exact trivial⟩
theorem bZq:∀ f p m q,Pm n p->kGood n (λ r:Array Nat × Nat × Nat=>Pm n r.1) (kas_desc f p m q)
  | 0,_,_,_,h=>h
  | f+1,p,m,q,h=>⟨dCq h hn _,dCq h hn _,λ b=>by
    cases b with
    | true=>
      by_cases c:q > 0
      . simp only [if_true,if_pos c];exact bZq f _ _ _ (f9q h _ _)
      . simp only [if_true,if_neg c];exact bZq f _ _ _ h
    | false=>exact ⟨dCq h hn _,dCq h hn _,λ d=>by cases d;exact bZq f _ _ _ h;exact h⟩⟩
theorem dVq {p:Array Nat} (h:Pm n p) (m nrem:Nat):kGood n (λ r:Nat × Array Nat=>Pm n r.2) (kas_tail3 m nrem p):=by
  unfold kas_tail3
  exact kGood.bind (R:=λ r:Nat × Array Nat=>Pm n r.2) (λ _ _=>by exact f9q h 0 m) (eQq hn (f9q h 0 m) _ _)
theorem c5q {p:Array Nat} (h:Pm n p) (m nrem:Nat):kGood n (λ r:Nat × Array Nat=>Pm n r.2) (kas_descPart m nrem p):=by
  refine kGood.bind (λ r hr=>?_) (bZq hn _ _ _ _ h)
  split
  . exact dVq hn (f9q hr _ _) _ _
  . exact dVq hn hr _ _
theorem hGq {p:Array Nat} (h:Pm n p) (nrem:Nat):kGood n (λ r:Nat × Array Nat=>Pm n r.2) (kas_count nrem p):=by
  refine kGood.bind (λ m _=>?_) (eQq hn h _ _)
  split
  . exact h
  . split
    . exact ⟨dCq h hn _,dCq h hn _,λ b=>by cases b;exact c5q hn (f9q h _ _) _ _;exact h⟩
    . exact c5q hn h _ _
theorem c9q {p:Array Nat} (h:Pm n p) (k:Nat):∀ f l r,kGood n (λ _=>True) (kas_place p k f l r)
  | 0,_,_=>trivial
  | f+1,l,r=>by
    rw [kas_place]
    split
    . exact trivial
    . exact ⟨dCq h hn _,dCq h hn _,λ b=>by cases b;exact c9q h k f _ _;exact c9q h k f _ _⟩
theorem gZq:∀ f p k,Pm n p->kGood n (Pm n) (kas_bin f p k)
  | 0,_,_,h=>h
  | f+1,_,k,h=>kGood.bind (λ _ _=>gZq f _ _ (oJq h _ _)) (c9q hn h k _ _ _)
theorem jMq:kGood n (Pm n) (kas_sort n):=by
  refine kGood.bind (λ r hr=>?_) (hGq hn (p:=List.toArray (List.range n)) (by exact .refl _) n)
  split
  . exact gZq hn _ _ _ hr
  . exact hr
end
theorem mOq {vs:List Value} {p:Array Nat} (h:Pm vs.length p):(p.toList.map λ i=>vs.getD i Value.none).Perm vs:=by
  have e:(List.range vs.length).map (λ i=>vs.getD i Value.none)=vs:=by
    apply List.ext_getElem
    . simp
    . intro i h1 h2
      simp [List.getD_eq_getElem?_getD,List.getElem?_eq_getElem h2]
  have:=h.map (λ i=>vs.getD i Value.none)
  rwa [e] at this
abbrev bCq (h:Heap) (a:Addr) (vs:List Value):Heap:=((h.update a (Obj.mapSeq λ _=>#[])).push (seqObj "tuple" vs.toArray 0)).push (seqObj "list" #[] 0)
section
variable {prog:Program} {w:World} {A:Around} {E:Value->Shared->Prop} {s:Shared}
theorem eAq {a:Addr} {vs:List Value} {n:Nat} {κ:SortKind} {lt:Nat->Nat->Bool} {P:PySem.Fin->Shared->Prop} (ho:s.heap.get? a=some (seqObj "list" vs.toArray n)) (h64:vs.length < 64)
    (hk:2<=vs.length->∀ Q:SortKind->Shared->Prop,Q κ { s with heap:=bCq s.heap a vs }->wpAny (model prog w) A (keyKind' vs.toArray) Q E { s with heap:=bCq s.heap a vs })
    (hc:∀ i j C,i < vs.length->j < vs.length->C (lt i j) { s with heap:=bCq s.heap a vs }->kas_ask prog w A κ vs i j C { s with heap:=bCq s.heap a vs })
    (h:∀ out:List Value,out.Perm vs->P (.done (.ret .none)) { s with heap:=sortedHeap s.heap a vs out.toArray }) :
    wpAny (model prog w) A (Builtin.«list.sort» ⟨[.ref a],[]⟩) P E s:=by
  rw [list_sort_plain]
  have ha:a < s.heap.objs.size:=Heap.lt_size ho
  refine wpAny_bind (listItems_at ho rfl ?_)
  refine wpAny_bind (listUpdate_at ho rfl ?_ (hsz:=by rw [List.size_toArray,sizeLine_eq];omega))
  obtain ⟨e1,ho1⟩:∃ e1,(s.heap.update a (Obj.mapSeq λ _=>#[])).get? a=some (seqObj "list" #[] e1):=⟨_,get?_update_seq ho (λ _=>#[])⟩
  refine wpAny_bind (seqEpoch_at ho1 rfl ?_)
  refine wpAny_bind (wpAny_newTuple ?_)
  refine wpAny_bind (wpAny_newList ?_)
  refine wpAny_holding ?_
  have ho6:(bCq s.heap a vs).get? a=some (seqObj "list" #[] e1):=by
    rw [Heap.get?_push_ne _ _ _ (by rw [size_push',Heap.size_update];exact Nat.ne_of_lt (Nat.lt_succ_of_lt ha)),Heap.get?_push_ne _ _ _ (by rw [Heap.size_update];exact Nat.ne_of_lt ha)]
    exact ho1
  show wpAny (model prog w) A _ P E { s with heap:=bCq s.heap a vs }
  dsimp only
  have hsz:vs.toArray.size=vs.length:=by simp
  by_cases h2:vs.toArray.size < 2
  . rw [if_pos h2,if_pos h2]
    refine wpAny_bind (wpAny_pure ?_)
    rw [StateT.run_pure]
    refine wpAny_bind (wpAny_pure ?_)
    dsimp only
    refine wpAny_bind (seqEpoch_at ho6 rfl ?_)
    have eo:(arrOf (SortSt.mk' general' (vs.toArray.zip vs.toArray) #[] 7 none)).map (·.2)=vs.toArray:=by
      show (vs.toArray.zip vs.toArray).map (·.2)=vs.toArray
      apply Array.toList_inj.mp
      rw [Array.toList_map,Array.toList_zip,List.map_snd_zip (Nat.le_refl _)]
    rw [eo]
    refine wpAny_bind (listUpdate_at ho6 rfl ?_ (hsz2:=by show vs.toArray.size<=_;rw [hsz,sizeLine_eq];omega))
    simp only [bne_self_eq_false,Bool.false_eq_true,if_false]
    exact wpAny_pure (h vs (.refl _))
  . rw [if_neg h2,if_neg h2]
    have hl2:2<=vs.length:=by omega
    refine wpAny_bind (hk hl2 _ ?_)
    refine wpAny_bind (wpAny_mono (kat_run (ks:=vs) (vs:=vs) (Q:=λ st' s'=>s'={ s with heap:=bCq s.heap a vs }/\failedOf st'=none/\∃ out:List Value,out.Perm vs/\(arrOf st').map (·.2)=out.toArray) (G:=λ p s'=>s'={ s with heap:=bCq s.heap a vs }/\Pm vs.length p) rfl hl2 h64 (λ p st' s' _ har hf g=>⟨g.1,hf,_,mOq g.2,kat_snds rfl har⟩)
      (kGood.wp hc (λ p hp=>⟨rfl,hp⟩) (jMq (by omega)))) ?_ λ _ _ e=>e)
    rintro ⟨⟨⟩,st'⟩ s' ⟨rfl,hf,out,hp,eo⟩
    dsimp only at eo ⊢
    rw [eo]
    refine wpAny_bind (seqEpoch_at ho6 rfl ?_)
    refine wpAny_bind (listUpdate_at ho6 rfl ?_ (hsz2:=by show out.toArray.size<=_;rw [List.size_toArray,hp.length_eq,sizeLine_eq];omega))
    rw [hf]
    simp only [bne_self_eq_false,Bool.false_eq_true,if_false]
    exact wpAny_pure (h out hp)
end
abbrev hFq (h:Heap) (vs:List Value):Heap:=bCq (((h.push (seqObj "list" #[] 0)).update h.objs.size (Obj.mapSeq (·++vs.toArray))).push (seqObj "list" vs.toArray 0)) (h.objs.size+1) vs
section
variable {prog:Program} {w:World} {A:Around} {E:Value->Shared->Prop} {s:Shared}
theorem hLq {l:Addr} {vs:List Value} {κ:SortKind} {lt:Nat->Nat->Bool} {Q:Value->Shared->Prop} (hl:s.heap.IsList l vs.toArray) (h64:vs.length < 64)
    (hk:2<=vs.length->∀ (A:Around) (E:Value->Shared->Prop) (R:SortKind->Shared->Prop),R κ { s with heap:=hFq s.heap vs }->wpAny (model prog w) A (keyKind' vs.toArray) R E { s with heap:=hFq s.heap vs })
    (hc:∀ (A':Around) i j C,A'.units<=A.units+5->i < vs.length->j < vs.length->C (lt i j) { s with heap:=hFq s.heap vs }->kas_ask prog w A' κ vs i j C { s with heap:=hFq s.heap vs })
    (h:∀ out:List Value,out.Perm vs->Q (.ref (s.heap.objs.size+1)) { s with heap:=sortedAll s.heap vs out.toArray }) :
    wpAny (model prog w) A (call (.builtin "sorted") [.ref l]) Q E s:=by
  refine Calls.call_function_entry kind_sorted plain_sorted entry_sorted (args_sorted1 _) ?_
  unfold Builtin.«sorted»
  refine wpAny_bind (m:=checkCount "sorted" 1 1 _) (wpAny_pure ?_)
  refine wpAny_bind (collect_list hl ?_ (hsz:=by rw [sizeLine_eq];omega))
  refine wpAny_bind (wpAny_newList ?_)
  have hsz:((s.heap.push (seqObj "list" #[] 0)).update s.heap.objs.size (Obj.mapSeq (·++vs.toArray))).objs.size=s.heap.objs.size+1:=by
    rw [Heap.size_update,size_push']
  have hoL:(((s.heap.push (seqObj "list" #[] 0)).update s.heap.objs.size (Obj.mapSeq (·++vs.toArray))).push (seqObj "list" vs.toArray 0)).get? (s.heap.objs.size+1)=some (seqObj "list" vs.toArray 0):=by
    rw [<- hsz];exact Heap.get?_push_size _ rfl
  show wpAny _ _ _ _ _ { s with heap:=((s.heap.push (seqObj "list" #[] 0)).update s.heap.objs.size (Obj.mapSeq (·++vs.toArray))).push (seqObj "list" vs.toArray 0) }
  rw [hsz]
  refine wpAny_bind (wpAny_holding (wpAny_call_entry slot_list_sort ⟨_,hoL,rfl⟩ entry_list_sort (eAq (κ:=κ) (lt:=lt) hoL h64 (λ h2 R hR=>hk h2 _ _ R hR) (λ i j C hi hj hC=>hc _ i j C ?_ hi hj hC) λ out hp=>⟨_,rfl,?_⟩) (args_list_sort _)))
  . show A.units+1+1<=A.units+5
    omega
  exact wpAny_pure ⟨_,rfl,h out hp⟩
end
end L2
namespace L3
open PySem PySem.Spec PySem.W PyProof.Rows L2
section
variable {X:Cx} {pins:List (Addr × Obj)} {σ:L2.St} {H:Hp} {s:Shared}
theorem gPq (I:Inv X pins σ H s) {prog:Program} {w:World} {A:Around} {b fin r:Bool} {Q:Bool->Shared->Prop} (q:Q r s):∀ (ds es:List D) (vs us:List V) (its its2:List Value) (i:Nat),0 < i->aVq ds=true->aVq es=true->AbsL X.K H ds vs->AbsL X.K H es us->Vals vs its->Vals us its2->A.units+bKq ds < cLine->d6q ds es=some r->fin=decide (ds.length < es.length)->KatLex prog w A b fin Q (its.zip its2) i s
  | [],es,vs,us,its,its2,i,_,_,_,e,_,rr,_,_,h,hf=>by
    rw [show vs=[] from e] at rr;cases rr
    rw [d6q] at h
    have e1:fin=r:=by rw [hf];exact Option.some.inj h
    exact kat_nil (by rw [e1];exact q)
  | _::_,[],vs,us,its,its2,i,_,_,_,_,e,_,rr2,_,h,hf=>by
    rw [show us=[] from e] at rr2;cases rr2
    rw [d6q] at h
    have e1:fin=r:=by rw [hf];cases h;simp
    rw [List.zip_nil_right]
    exact kat_nil (by rw [e1];exact q)
  | d::ds,e::es,vs,us,its,its2,i,hi,hd,he,⟨v,r1,e1,q1,t1⟩,⟨v',r1',e1',q1',t1'⟩,rr,rr2,hu,h,hf=>by
    subst e1 e1'
    cases rr with
    | cons a1 rt=>
      cases rr2 with
      | cons a2 rt2=>
        simp only [bKq] at hu
        simp only [aVq,Bool.and_eq_true] at hd he
        rw [d6q] at h
        refine kat_cons (mBq I d e A _ _ _ _ hd.1 he.1 q1 q1' a1 a2 (by omega) prog w _ _ ?_)
        cases c:eqD d e with
        | true=>
          rw [if_pos c] at h
          exact kat_yes (gPq I q ds es _ _ _ _ (i+1) (by omega) hd.2 he.2 t1 t1' rt rt2 (by omega) h (by rw [hf];simp))
        | false=>
          rw [if_neg (by rw [c];decide)] at h
          refine kat_no ?_
          rw [show (b&&i==0)=false by rw [show (i==0)=false from by simp;omega];simp]
          exact kat_one _ _ (qLq I d e r A _ _ _ _ hd.1 he.1 q1 q1' a1 a2 (by omega) h prog w _ _ q)
theorem qEq (I:Inv X pins σ H s) {prog:Program} {w:World} {A:Around} {E:Value->Shared->Prop} {r:Bool} {Q:Bool->Shared->Prop} (q:Q r s) {z z2:Str} {ds es:List D} {x y:V} {u v:Value} (hd:aVq ds=true) (he:aVq es=true) (ax:Abs X.K H (.tup (.str z::ds)) x) (ay:Abs X.K H (.tup (.str z2::es)) y) (ru:RelV x u) (rv:RelV y v)
    (hu:A.units+bKq ds < cLine) (h:ltD (.tup (.str z::ds)) (.tup (.str z2::es))=some r):wpAny (model prog w) A (keyLt' (tuples' true) u v) Q E s:=by
  obtain ⟨a,vs,rfl,s1,r1⟩:=ax
  cases ru
  obtain ⟨its,rr,t1,_⟩:=I.tuple s1
  obtain ⟨a2,us,rfl,s2,r2⟩:=ay
  cases rv
  obtain ⟨its2,rr2,t2,_⟩:=I.tuple s2
  obtain ⟨o,ho,hc,n,hdt⟩:=id t1
  obtain ⟨o2,ho2,hc2,n2,hdt2⟩:=id t2
  rw [ltD,d6q] at h
  obtain ⟨v,r',e1,q1,t1'⟩:=r1
  obtain ⟨v2,r2',e2,q2,t2'⟩:=r2
  subst e1 e2
  cases q1;cases q2
  cases rr with
  | cons a1 rt=>
    cases rr2 with
    | cons a3 rt2=>
      obtain ⟨t,rfl⟩:=a1
      obtain ⟨t',rfl⟩:=a3
      have l1:=rt.length
      have l2:=rt2.length
      have l3:=t1'.len
      have l4:=t2'.len
      refine kat_lt ho hdt ho2 hdt2 ?_
      refine kat_cons (mBq I (.str z) (.str z2) A _ _ _ _ rfl rfl rfl rfl ⟨t,rfl⟩ ⟨t',rfl⟩ (by simp only [D.dp];omega) prog w _ _ ?_)
      cases c:eqD (.str z) (.str z2) with
      | true=>
        rw [if_pos c] at h
        exact kat_yes (gPq I q ds es _ _ _ _ 1 (by omega) hd he t1' t2' rt rt2 hu h (by simp;omega))
      | false=>
        rw [if_neg (by rw [c];decide),ltD] at h
        cases h
        exact kat_no (oneLt_str q)
end
def qWq (d:D):Prop:=∃ z r,d=.tup (.str z::r)/\aVq r=true/\bKq r<=100
section
variable {X:Cx} {pins:List (Addr × Obj)} {σ:L2.St} {H:Hp} {s:Shared}
theorem j1q (I:Inv X pins σ H s):∀ (ds:List D) (vs:List V) (its:List Value),(∀ d∈ds,qWq d)->AbsL X.K H ds vs->Vals vs its->∃ fs,KatTups s.heap its fs/\fs.length=its.length/\∀ v∈fs,∃ z t,v=Value.str z t
  | [],vs,its,_,e,rr=>by
    rw [show vs=[] from e] at rr;cases rr
    exact ⟨[],.nil,rfl,by simp⟩
  | d::ds,vs,its,hs,⟨v,r1,e1,q1,t1⟩,rr=>by
    subst e1
    cases rr with
    | cons a1 rt=>
      obtain ⟨fs,k1,k2,k3⟩:=j1q I ds _ _ (λ d h=>hs d (List.mem_cons_of_mem _ h)) t1 rt
      obtain ⟨z,r,rfl,-,-⟩:=hs d (List.mem_cons_self ..)
      obtain ⟨a,vs',rfl,s1,r2⟩:=q1
      cases a1
      obtain ⟨its',rr',t1',_⟩:=I.tuple s1
      obtain ⟨v2,r3,e2,q2,-⟩:=r2
      subst e2
      cases q2
      obtain ⟨o,ho,hc,n,hdt⟩:=id t1'
      cases rr' with
      | cons a2 rt2=>
        obtain ⟨t,rfl⟩:=a2
        exact ⟨_::fs,.cons ho hc hdt rfl k1,by simp [k2],λ v hv=>by
          rcases List.mem_cons.mp hv with rfl | hv
          . exact ⟨z,t,rfl⟩
          . exact k3 v hv⟩
theorem kFq (I:Inv X pins σ H s) {M:Model} {A:Around} {E:Value->Shared->Prop} {ds:List D} {vs:List V} {its:List Value} {R:SortKind->Shared->Prop} (hs:∀ d∈ds,qWq d) (ha:AbsL X.K H ds vs) (rr:Vals vs its) (hn:0 < its.length) (h:R (tuples' true) s):wpAny M A (keyKind' its.toArray) R E s:=by
  obtain ⟨fs,k1,k2,k3⟩:=j1q I ds vs its hs ha rr
  refine kat_kind (T:=.type "str") k1 (by omega) (λ v hv=>?_) rfl h
  obtain ⟨z,t,rfl⟩:=k3 v hv
  exact Looks.of_pure rfl
end
theorem Vals.perm {vs:List V} {its:List Value} (h:Vals vs its) {out:List Value} (p:its.Perm out):∃ vs',vs.Perm vs'/\Vals vs' out:=by
  induction p generalizing vs with
  | nil=>exact ⟨vs,.refl _,h⟩
  | cons x p ih=>
    cases h with
    | cons r t=>
      obtain ⟨vs',p',h'⟩:=ih t
      exact ⟨_::vs',p'.cons _,.cons r h'⟩
  | swap x y l=>
    cases h with
    | cons r t=>
      cases t with
      | cons r2 t2=>exact ⟨_,List.Perm.swap _ _ _,.cons r2 (.cons r t2)⟩
  | trans _ _ ih1 ih2=>
    obtain ⟨v1,p1,h1⟩:=ih1 h
    obtain ⟨v2,p2,h2⟩:=ih2 h1
    exact ⟨v2,p1.trans p2,h2⟩
theorem AbsL.perm {K:PySem.W.Frag} {H:Hp} {vs vs':List V} (p:vs.Perm vs'):∀ {ds:List D},AbsL K H ds vs->∃ ds',ds.Perm ds'/\AbsL K H ds' vs':=by
  induction p with
  | nil=>intro ds h;exact ⟨ds,.refl _,h⟩
  | cons x p ih=>
    intro ds h
    cases ds with
    | nil=>cases (show _=[] from h)
    | cons d ds=>
      obtain ⟨v,r,e,q,t⟩:=h
      cases e
      obtain ⟨ds',p',h'⟩:=ih t
      exact ⟨d::ds',p'.cons _,_,_,rfl,q,h'⟩
  | swap x y l=>
    intro ds h
    cases ds with
    | nil=>cases (show _=[] from h)
    | cons d ds=>
      obtain ⟨v,r,e,q,t⟩:=h
      cases e
      cases ds with
      | nil=>cases (show _=[] from t)
      | cons d2 ds=>
        obtain ⟨v2,r2,e2,q2,t2⟩:=t
        cases e2
        exact ⟨d2::d::ds,.swap _ _ _,_,_,rfl,q2,_,_,rfl,q,t2⟩
  | trans _ _ ih1 ih2=>
    intro ds h
    obtain ⟨v1,p1,h1⟩:=ih1 h
    obtain ⟨v2,p2,h2⟩:=ih2 h1
    exact ⟨v2,p1.trans p2,h2⟩
theorem i0q {h:Heap} {vs:List Value} {b:Addr} {o:Obj} (hb:h.get? b=some o):(hFq h vs).get? b=some o:=by
  have lb:b < h.objs.size:=Heap.lt_size hb
  have h1:(h.push (seqObj "list" #[] 0)).get? b=some o:=Heap.get?_push_of_some _ hb
  have h2:((h.push (seqObj "list" #[] 0)).update h.objs.size (Obj.mapSeq (·++vs.toArray))).get? b=some o:=by
    rw [Heap.get?_update_ne _ _ _ _ (Nat.ne_of_lt lb)];exact h1
  have h3:=Heap.get?_push_of_some (seqObj "list" vs.toArray 0) h2
  refine Heap.get?_push_of_some _ (Heap.get?_push_of_some _ ?_)
  rw [Heap.get?_update_ne _ _ _ _ (show b≠h.objs.size+1 from Nat.ne_of_lt (Nat.lt_succ_of_lt lb))];exact h3
def sWq (K:PySem.W.Frag):List V->Hp->VK->Prop:=λ xs H Q=>∃ (l:Addr) (vs:List V) (ds:List D),xs=[.ref l]/\SqL K H l vs/\AbsL K H ds vs/\ds.length < 64/\(∀ d∈ds,qWq d)/\(∀ d∈ds,∀ e∈ds,(ltD d e).isSome=true) ∧
  ∀ (ds':List D) (vs':List V),ds.Perm ds'->AbsL K H ds' vs'->∀ p,H p=none->Q (.ref p) (upd H p (.lst vs'))
section
variable {X:Cx}
theorem i4q (hu:X.A.units+200 < cLine):CallR X (.builtin "sorted") (sWq X.K):=by
  intro pins s σ H xs us Q I r h
  obtain ⟨l,vs,ds,rfl,hq,ha,hl,hs,hc,q⟩:=h
  obtain ⟨u,rfl,rx⟩:=kKq r
  cases rx
  obtain ⟨its,rv,pl,hz⟩:=I.list hq
  have hlen:=rv.length
  have hlen2:=ha.len
  have I6:Inv X pins σ H { s with heap:=hFq s.heap its }:=I.kept (t':=s.toks) λ b o e=>i0q e
  refine hLq (κ:=tuples' true) (lt:=λ i j=>(ltD (ds.getD i .non) (ds.getD j .non)).getD false) pl.isList (by omega) (λ h2 A E R hR=>kFq I6 hs ha rv (by omega) hR) (λ A' i j C hA hi hj hC=>?_) λ out hp=>?_
  . have ge:∀ k,k < its.length->∃ d v u,ds.getD k .non=d/\d∈ds/\Abs X.K H d v/\RelV v u/\its.getD k Value.none=u:=λ k hk=>by
      have hk':k < ds.length:=by omega
      obtain ⟨v,g1,g2⟩:=ha.get (List.getElem?_eq_getElem hk')
      obtain ⟨u,g3,g4⟩:=rv.get g1
      exact ⟨ds[k],v,u,by rw [List.getD_eq_getElem?_getD,List.getElem?_eq_getElem hk'];rfl,List.getElem_mem hk',g2,g4,by rw [List.getD_eq_getElem?_getD,g3];rfl⟩
    obtain ⟨d,v,u,e1,m1,a1,b1,f1⟩:=ge i hi
    obtain ⟨e,v',u',e2,m2,a2,b2,f2⟩:=ge j hj
    unfold kas_ask
    rw [f1,f2]
    simp only [e1,e2] at hC
    obtain ⟨z,r,rfl,k1,k2⟩:=hs d m1
    obtain ⟨z2,r2,rfl,k3,k4⟩:=hs e m2
    obtain ⟨b,hb⟩:=Option.isSome_iff_exists.mp (hc _ m1 _ m2)
    rw [hb] at hC
    exact qEq I6 hC k1 k3 a1 a2 b1 b2 (by omega) hb
  . obtain ⟨vs',p1,r1⟩:=Vals.perm rv hp.symm
    obtain ⟨ds',p2,r2⟩:=AbsL.perm p1 ha
    obtain ⟨c,hcc⟩:=sortedAll_at s.heap its out.toArray
    have z:=hp.length_eq
    have z2:=p1.length_eq
    have sl:=sizeLine_eq
    exact ⟨.ref _,_,I.laid (t':=s.toks) (λ b o e=>sortedAll_old e) (Nat.le_succ _) (show ObjOk X.prog X.w _ _ _ (.lst vs') from ⟨by omega,out,c,r1,by simpa using hcc⟩),rfl,q ds' vs' p2 r2 _ (I.hok.fresh (Nat.le_succ _))⟩
def sGq:D->DV->DK->Prop:=λ x G Q=>match x with
  | .ref l=>onL G l λ ds=>ds.length < 64/\(∀ d∈ds,qWq d)/\(∀ d∈ds,∀ e∈ds,(ltD d e).isSome=true)/\∀ ds':List D,ds.Perm ds'->∀ p,G p=none->Q (.ref p) (up G p (.lst ds'))
  | _=>False
theorem e6q (hu:X.A.units+200 < cLine):ACall X (.builtin "sorted") (nUq sGq):=by
  refine ⟨_,⟨i4q hu⟩,λ xs vs G H DQ Q v a r F=>?_⟩
  obtain ⟨x,u,rfl,rfl,ax,r⟩:=cIq r a
  cases x with
  | ref l=>
    cases ax
    obtain ⟨ds,ws,⟨hl,hs,hc,k⟩,s,rl⟩:=aYq v r
    exact ⟨l,ws,ds,rfl,s,rl,hl,hs,hc,λ ds' vs' hp ha p hp'=>F (.ref p) _ _ _ (Go.newL v hp' ha) rfl (k ds' hp p (v.none hp'))⟩
  | _=>exact (show False from r).elim
end
inductive Kn where
  | is (n:Int)
  | some
  | both (a b:Kn)
namespace Kn
def enc:Kn->D
  | .is n=>.tup [.str "is", .int n]
  | .some=>.tup [.str "some"]
  | .both a b=>.tup [.str "both", a.enc,b.enc]
def inn:Kn->List Kn
  | .both a b=>[a,b]
  | _=>[]
def all:Kn->List Kn
  | .both a b=>.both a b::(a.all++b.all)
  | k=>[k]
theorem all_eq (t:Kn):t.all=t::t.inn.flatMap Kn.all:=by cases t<;>simp [all,inn]
end Kn
def Tm.kn:Tm->Kn
  | .whole n=>.is n
  | .pair a b=>.both a.kn b.kn
  | _=>.some
theorem l7q (t:Tm):t.kn.all.length=t.pall.length:=by
  induction t with
  | pair a b h1 h2=>simp only [Tm.kn,Kn.all,Tm.pall,List.length_cons,List.length_append,h1,h2]
  | _=>rfl
theorem Kn.plain (k:Kn):k.enc.plain=true:=by
  induction k with
  | both a b h1 h2=>simp only [Kn.enc,D.plain,dQq,h1,h2,Bool.and_true,List.length_cons,List.length_nil];exact decide_eq_true (by omega)
  | _=>simp only [Kn.enc,D.plain,dQq,Bool.and_true,List.length_cons,List.length_nil];exact decide_eq_true (by omega)
theorem t0q (t:Tm):t.kn.enc.dp<=t.dp+1:=by
  induction t with
  | pair a b h1 h2=>simp only [Tm.kn,Kn.enc,D.dp,bKq,Tm.dp];omega
  | _=>simp [Tm.kn,Kn.enc,D.dp,bKq]
def Tm.mkK:Tm->List Kn->Kn
  | .whole n,_=>.is n
  | .pair _ _,[x,y]=>.both x y
  | _,_=>.some
def stp (u:Tm) (st:List Kn):List Kn:=u.mkK (st.take u.pinn.length)::st.drop u.pinn.length
theorem eRq (t:Tm):∀ st,t.pall.foldr stp st=t.kn::st:=by
  induction t with
  | pair a b h1 h2=>
    intro st
    rw [Tm.pall,List.foldr_cons,List.foldr_append,h2,h1];rfl
  | _=>intro st;rfl
theorem iBq (t:Tm):∀ (st:List Kn) (pre post:List Tm) (u:Tm),t.pall=pre++u::post->u.pinn.length<=(post.foldr stp st).length:=by
  have leaf:∀ t:Tm,t.pall=[t]->t.pinn=[]->∀ (st:List Kn) (pre post:List Tm) (u:Tm),t.pall=pre++u::post->u.pinn.length<=(post.foldr stp st).length:=λ t e ei st pre post u h=>by
    rw [e] at h
    cases pre with
    | nil=>cases h;rw [ei];exact Nat.zero_le _
    | cons _ pre=>simp at h
  induction t with
  | pair a b h1 h2=>
    intro st pre post u h
    rw [Tm.pall] at h
    cases pre with
    | nil=>
      cases h
      rw [List.foldr_append,eRq,eRq];simp [Tm.pinn]
    | cons p pre=>
      rw [List.cons_append] at h
      injection h with e1 e2
      rcases List.append_eq_append_iff.mp e2 with ⟨m,e3,e4⟩ | ⟨m,e3,e4⟩
      . exact h2 st m post u e4
      . cases m with
        | nil=>exact h2 st [] post u e4.symm
        | cons x m=>
          rw [List.cons_append] at e4
          injection e4 with e5 e6
          subst e5
          rw [e6,List.foldr_append,eRq]
          exact h1 _ pre m u e3
  | _=>exact leaf _ rfl rfl
inductive IsK:D->Prop
  | is (n:Int):IsK (.tup [.str "is", .int n])
  | some:IsK (.tup [.str "some"])
  | both {a b:D}:IsK a->IsK b->IsK (.tup [.str "both", a,b])
  | left {a:D}:IsK a->IsK (.tup [.str "left", a])
  | right {a:D}:IsK a->IsK (.tup [.str "right", a])
  | way {ds:List D} {k:D}:(∀ d∈ds,IsK d)->IsK k->IsK (.tup [.str "way", .tup ds,k])
theorem hAq:∀ {ds:List D},(∀ d∈ds,d.data=true)->aVq ds=true
  | [],_=>rfl
  | d::ds,h=>by rw [aVq,h d (List.mem_cons_self ..),hAq λ e he=>h e (List.mem_cons_of_mem _ he)];rfl
theorem IsK.data {d:D} (h:IsK d):d.data=true:=by
  induction h with
  | is n=>rfl
  | some=>rfl
  | both _ _ h1 h2=>simp only [D.data,aVq,h1,h2];rfl
  | left _ h1=>simp only [D.data,aVq,h1];rfl
  | right _ h1=>simp only [D.data,aVq,h1];rfl
  | way _ _ h1 h2=>simp only [D.data,aVq,hAq h1,h2];rfl
theorem fMq:∀ {ds es:List D},(∀ d∈ds,∀ e∈es,(ltD d e).isSome=true)->(d6q ds es).isSome=true
  | [],_,_=>by rw [d6q];rfl
  | _::_,[],_=>by rw [d6q];rfl
  | d::ds,e::es,h=>by
    rw [d6q]
    split
    . exact fMq λ d hd e he=>h d (List.mem_cons_of_mem _ hd) e (List.mem_cons_of_mem _ he)
    . exact h d (List.mem_cons_self ..) e (List.mem_cons_self ..)
theorem bUq {z z2:Str} {ds es:List D} (h:z=z2->(d6q ds es).isSome=true):(ltD (.tup (.str z::ds)) (.tup (.str z2::es))).isSome=true:=by
  rw [ltD,d6q]
  split
  . next c=>exact h (by simpa [eqD] using c)
  . rw [ltD];rfl
theorem cUq {a b:D} {ds es:List D} (h:(ltD a b).isSome=true) (h2:(d6q ds es).isSome=true):(d6q (a::ds) (b::es)).isSome=true:=by
  rw [d6q];split
  . exact h2
  . exact h
theorem IsK.lt {d:D} (h:IsK d):∀ {e:D},IsK e->(ltD d e).isSome=true:=by
  induction h with
  | is n=>intro e he;cases he<;>refine bUq λ c=>?_<;>first | (exact absurd c (by decide)) | (exact cUq rfl rfl)
  | some=>intro e he;cases he<;>refine bUq λ c=>?_<;>first | (exact absurd c (by decide)) | rfl
  | both _ _ h1 h2=>intro e he;cases he<;>refine bUq λ c=>?_<;>first | (exact absurd c (by decide)) | exact cUq (h1 ‹_›) (cUq (h2 ‹_›) rfl)
  | left _ h1=>intro e he;cases he<;>refine bUq λ c=>?_<;>first | (exact absurd c (by decide)) | exact cUq (h1 ‹_›) rfl
  | right _ h1=>intro e he;cases he<;>refine bUq λ c=>?_<;>first | (exact absurd c (by decide)) | exact cUq (h1 ‹_›) rfl
  | way _ _ h1 h2=>
    intro e he
    cases he with
    | way g1 g2=>exact bUq λ _=>cUq (by rw [ltD];exact fMq λ d hd e he=>h1 d hd (g1 e he)) (cUq (h2 g2) rfl)
    | _=>exact bUq λ c=>absurd c (by decide)
theorem IsK.skey {d:D} (h:IsK d) (hd:d.dp<=100):qWq d:=by
  have hx:=h.data
  cases h<;>exact ⟨_,_,rfl,by simpa [D.data,aVq] using hx,by simp only [D.dp,bKq] at hd ⊢;omega⟩
theorem Kn.isK (k:Kn):IsK k.enc:=by
  induction k with
  | is n=>exact .is n
  | some=>exact .some
  | both a b h1 h2=>exact .both h1 h2
def eCq:DSp:=λ ds G Q=>∃ (t:Tm) (l:Addr) (ks:List Kn),ds=[t.enc,.ref l]/\G l=some (.lst (ks.map Kn.enc))/\t.an3=true/\ks.length=t.pinn.length/\Q (t.mkK ks).enc G
def f0q (P:Program) (w:World) (K:PySem.W.Frag) (mg:Str->Option Value) (base:Heap) (k:Nat):DSp:=λ ds G Q=>∃ (f m:Addr) (t:Tm),ds=[t.enc,.ref f,.ref m]/\FnV P w K mg base k f (aKq K (ePq Tm.enc Tm.pinn))/\FnV P w K mg base k m (aKq K eCq)/\t.isAns=true/\t.sz<=1000/\Q t.kn.enc G
def g6q:DSp:=λ ds G Q=>∃ t:Tm,ds=[t.enc]/\t.isAns=true/\t.sz<=1000/\Q t.kn.enc G
def jLq:DSp:=λ ds G Q=>∃ t:Tm,ds=[t.enc]/\t.sz<=1000/\Q (.int t.pall.length) G
def gJq:DSp:=λ ds G Q=>∃ k:Kn,ds=[k.enc]/\k.all.length<=1000/\Q (.int k.all.length) G
def ofA (d:D):Bool:=match d with
  | .tup (.str z::_)=>z=="is"||z=="some"||z=="both"
  | _=>false
def hEq:DSp:=λ ds G Q=>∃ d:D,ds=[d]/\IsK d/\Q (.bl (ofA d)) G
def eSq:DSp:=λ ds G Q=>∃ a,ds=[.ref a]/\Fd G a/\∀ n G',Fx a G G'->Q (.int n) G'
def c6q (n:Nat):DSp:=λ ds G Q=>∃ (a:Addr) (k:Int),ds=[.ref a,.int k]/\Fd G a/\0<=k/\k < n/\∀ d G',Fx a G G'->IsK d->d.dp<=k.toNat+1->Q d G'
def d8q (n:Nat):DSp:=λ ds G Q=>∃ (a:Addr) (k:Int),ds=[.ref a,.int k]/\Fd G a/\0<=k/\k < n/\k<=10/\∀ d G',(∃ G0,Fx a G G0/\Sub G0 G')->IsK d->d.dp<=2 * k.toNat+3->Q d G'
structure AnsB (t:Tm) (z d:Nat):Prop where
  an:t.isAns=true
  sz:t.sz < z
  dp:t.dp<=d
def d9q (n:Nat):DSp:=λ ds G Q=>∃ (a:Addr) (k:Int),ds=[.ref a,.int k]/\Fd G a/\0<=k/\k < n/\∀ t G',Fx a G G'->AnsB t (20 * 2 ^ k.toNat) (k.toNat+4)->Q t.enc G'
def iQq:DSp:=λ ds G Q=>∃ a,ds=[.ref a]/\Fd G a/\∀ t G',Fx a G G'->AnsB t 200 40->Q t.enc G'
def f2q (n:Nat):DSp:=λ ds G Q=>∃ t:Tm,ds=[t.enc]/\t.isAns=true/\t.dp < n/\Q (.tup [t.kn.enc,.int t.pall.length]) G
def eWq:DSp:=λ ds G Q=>∃ (t:Tm) (d:D),ds=[t.enc,d]/\AnsB t 200 40/\IsK d/\Q (.bl true) G
theorem IsK.head {d:D} (h:IsK d):∃ z r,d=.tup (.str z::r)/\r.length<=2:=by
  cases h<;>exact ⟨_,_,rfl,by simp⟩
theorem oIq {ds:List D} {i:Int} {G:DV} {Q:DK} (h0:0<=i) (h1:i < ds.length) (h:∀ d∈ds,Q d G):atS ds i G Q:=by
  obtain ⟨n,rfl⟩:∃ n:Nat,i=n:=⟨i.toNat,by omega⟩
  have hl:n < ds.length:=by omega
  exact h2q (iNq (d:=ds[n]) (eNq (List.getElem?_eq_getElem hl)) (h _ (List.getElem_mem hl)))
theorem hNq {α:Type} (a:Addr) (en:α->D) (P:α->Prop) {J:DIt} {G1:DV} {g:DTG} {te:DTE} {nt:Nat} {cap:List Nat} {ρ:DSt} {Q:DK} (hz:J.items.length<=1000) (held:∀ G,J.held G) (hF:Fd G1 a)
    (turn:∀ d G (R:DK),Fd G a->(∀ x G',(∃ G0,Fx a G G0/\Sub G0 G')->P x->R (en x) G')->g d (dBq nt cap ρ) G λ ρ3 G3=>te ρ3 G3 R)
    (q:∀ (xs:List α) G',xs.length=J.items.length->(∀ x∈xs,P x)->Fx a G1 G'->∀ p,G' p=none->Q (.ref p) (up G' p (.lst (xs.map en)))):g7q g te nt cap ρ Q J G1:=by
  refine h5q (λ i ds G'=>∃ xs:List α,ds=xs.map en/\xs.length=i/\(∀ x∈xs,P x)/\Fx a G1 G') (bWq (by omega)) ⟨[],rfl,rfl,by simp,.refl hF⟩ (λ _ _ _ _ _=>held _) ?_ ?_
  . rintro i d ds G' hd ⟨xs,rfl,hxl,hx,u⟩
    refine turn d G' _ u.fd λ x G2 ⟨G0,u2,s2⟩ hp=>⟨G0,s2,xs++[x],by simp,by simp [hxl],λ y hy=>?_,u.trans u2⟩
    rcases List.mem_append.mp hy with hy | hy
    . exact hx y hy
    . simp at hy;subst hy;exact hp
  . rintro ds G' ⟨xs,rfl,hxl,hx,u⟩ p hp
    exact q xs G' hxl hx u p hp
theorem eDq {n:Nat}:∀ {ds:List D},(∀ d∈ds,d.dp<=n)->bKq ds<=n
  | [],_=>Nat.zero_le _
  | d::ds,h=>by
    have h1:=h d (List.mem_cons_self ..)
    have h2:=eDq λ e he=>h e (List.mem_cons_of_mem _ he)
    rw [bKq];omega
theorem pYq (z:Str):inL (.str z) [.str "is", .str "some", .str "both"]=(z=="is"||z=="some"||z=="both"):=by
  have e:∀ a b:Str,(a==b)=(b==a):=λ a b=>by rw [Bool.eq_iff_iff,beq_iff_eq,beq_iff_eq];exact eq_comm
  simp only [inL,List.any_cons,List.any_nil,eqF,Bool.or_false]
  rw [e "is" z,e "some" z,e "both" z,Bool.or_assoc]
theorem o3q (k:Kn):ofA k.enc=true:=by cases k<;>rfl
theorem lXq {ds:List D} {x:D} {i:Nat} {P:D->Prop} (h:∀ d∈ds,P d) (hx:P x):∀ d∈ds.set i x,P d:=λ d hd=>by
  rcases List.mem_or_eq_of_mem_set hd with h1 | rfl
  . exact h d h1
  . exact hx
theorem mRq {a:Addr} {G G1 G0 G9:DV} (h:∀ b o,b≠a->G b=some o->G1 b=some o) (u:Fx a G1 G0) (s:Sub G0 G9):∃ G0,Fx a G G0/\Sub G0 G9:=by
  obtain ⟨x,y,rfl⟩:=u
  refine ⟨_,.mk (x:=x) (y:=y),λ b o e=>?_⟩
  by_cases c:b=a
  . subst c;rw [a9q] at e;exact s _ _ (by rw [a9q];exact e)
  . rw [aWq c] at e;exact s _ _ (by rw [aWq c];exact h b o c e)
end L3
namespace KB
open PySem L2
def top (i:Nat):Stmt:=PySem.Challenge.pw_kindbags_k29_kinds_of_answers.main.body.getD i (.Pass ⟨0,0,0,0⟩)
structure Blt (mg:Str->Option Value):Prop where
  len:mg "len" = none
  isinstance:mg "isinstance" = none
  range:mg "range" = none
  int:mg "int" = none
  bool:mg "bool" = none
  str:mg "str" = none
  tuple:mg "tuple" = none
  list:mg "list" = none
  zip:mg "zip" = none
  sorted:mg "sorted" = none
  all:mg "all" = none
  reversed:mg "reversed" = none
  min:mg "min" = none
  max:mg "max" = none
end KB
namespace KB
open PySem
abbrev cHq:List Str:=["thing", "inners_of"]
abbrev cDq:List Str:=["thing", "inners_of", "made_of"]
abbrev dWq:List Str:=["answer"]
abbrev fKq:List Str:=["program"]
abbrev fPq:List Str:=["program"]
abbrev fOq:List Str:=["thing"]
abbrev dUq:List Str:=["kind"]
abbrev fEq:List Str:=["kind"]
abbrev d5q:List Str:=["kind"]
abbrev d7q:List Str:=["answer"]
abbrev d2q:List Str:=["answer", "kinds"]
abbrev dTq:List Str:=["_law_script", "_law_k"]
abbrev dNq:List Str:=["_law_feed_here", "_law_many"]
abbrev d1q:List Str:=["_law_feed_here"]
abbrev dZq:List Str:=["_law_feed_here", "_law_many", "_law_room", "_law_deep"]
abbrev cBq:List Str:=["_law_feed_here"]
abbrev cGq:List Str:=["_law_feed_here", "_law_deep"]
abbrev dPq:List Str:=["_law_feed_here", "_law_deep"]
abbrev cWq:List Str:=["_law_found", "_law_due_here"]
abbrev dSq:List Str:=["_law_feed_here", "_law_deep"]
abbrev dOq:List Str:=["_law_feed_here"]
abbrev fIq:List Str:=["_law_answer_here"]
abbrev d3q:List Str:=["_law_answer_here", "_law_kind_here"]
end KB
namespace KB
open PySem L2 L3
section
variable {P:Program} {w:World} {K:PySem.W.Frag} {mg:Str->Option Value} {base:Heap} {f:Addr} {fd:FuncData}
set_option maxHeartbeats 4000000
abbrev gAq:Stmt:=top 16
theorem sc_take:FnScope ["_law_feed_here", "_law_many", "_law_digit", "_law_one"] ["_law_feed_here", "_law_many"] (a6q gAq):=⟨rfl,rfl,rfl,by decide +kernel,rfl,by decide +kernel,by decide +kernel⟩
theorem mGq (F:Fun K "_law_take" "_law_take" gAq f fd):FnOk P w K mg base CX0 1 f fd ["_law_feed_here", "_law_many"] (aKq K bHq):=by
  refine okD (k:=0) F sc_take (λ ds G DQ h=>?_) (λ cdv A outer s H E hr ds G DQ h=>?_)
  . unfold bHq at h;split at h
    . rfl
    . exact h.elim
  unfold bHq at h;split at h
  case h_2=>exact h.elim
  next a m=>
  obtain ⟨⟨x,y,hF⟩,h0,h1,q⟩:=h
  refine ⟨_,(a4q (aSq (aEq bNq (b3q aix (a1q 0) a2q (λ _ _=>rfl)) a2q (aCq _)) (a4q (aOq (k:=2) sc_take.nd rfl (Or.inl rfl) (aFq bPq (b3q aix (a1q 0) a2q (λ _ _=>rfl)) (a1q 1)))
      (a4q (e1q (aFq cJq (b3q aix (a1q 0) a2q (λ _ _=>rfl)) (a1q 1)) (iWq (a1q 0) a2q))
      (a7q (aAq (a1q 2))))) aMq)
      (a4q (aOq (k:=3) sc_take.nd rfl (Or.inl rfl) (aFq bPq (aFq bQq (b3q aix (a1q 0) a2q (λ _ _=>rfl)) a2q) a2q))
      (a4q (e1q (aFq aXq (aFq bPq (aFq aXq (aFq bQq (a1q 3) a2q) a2q) a2q) a2q) (iWq (a1q 0) a2q))
      (a7q (aAq (aFq bPq (aFq cJq (aFq aXq (aFq bQq (a1q 3) a2q) (b3q aix (a1q 0) a2q (λ _ _=>rfl))) a2q) (a1q 1))))))),?_⟩
  refine aPq hF ⟨λ c=>?_,λ c=>?_⟩
  . refine aPq hF ⟨h0,aPq hF ⟨⟨h0,by omega⟩,bBq hF ⟨0,rfl,Dr.of (q _ _ .mk (Int.emod_nonneg _ (by omega)) (Int.emod_lt_of_pos _ h0))⟩⟩⟩
  . refine aPq hF ⟨.inr ⟨by decide,by decide⟩,by simp,.inr ⟨by decide,by decide⟩,by simp,bBq hF ⟨1,rfl,.inr ⟨by decide,by decide⟩,aPq a9q ⟨⟨by decide,by decide⟩,h0,Dr.of (q _ _ .mk (Int.emod_nonneg _ (by omega)) (Int.emod_lt_of_pos _ h0))⟩⟩⟩
abbrev g1q:Stmt:=top 15
theorem sc_feed:FnScope ["_law_script", "_law_k", "_law_cell", "_law_own"] ["_law_script", "_law_k"] (a6q g1q):=⟨rfl,rfl,rfl,by decide +kernel,rfl,by decide +kernel,by decide +kernel⟩
theorem n3q (B:Blt mg) (F:Fun K "_law_feed" "_law_feed" g1q f fd):FnOk P w K mg base CX0 1 f fd ["_law_script", "_law_k"] (aKq K fNq):=by
  refine okD (k:=0) F sc_feed (λ ds G DQ h=>?_) (λ cdv A outer s H E hr ds G DQ h=>?_)
  . unfold fNq at h;split at h
    . rfl
    . exact h.elim
  unfold fNq at h;split at h
  case h_2=>exact h.elim
  next ss k=>
  obtain ⟨ns,rfl,hl,h0,h1,q⟩:=h
  have fin:∀ x y:Int,∀ p,G p=none->Dr DQ (.ref p) (up G p (fed x y)):=λ x y p hp=>Dr.of (q p x y hp)
  have at_ok:∀ j:Int,0<=j->j < ns.length->∃ v,atI (ns.map D.int) j=some (.int v):=λ j j0 j1=>by
    refine ⟨ns[j.toNat],?_⟩
    have e:=eNq (xs:=ns.map D.int) (j:=j.toNat) (v:=D.int ns[j.toNat]) (by simp [show j.toNat < ns.length by omega])
    rwa [show ((j.toNat:Nat):Int)=j by omega] at e
  refine ⟨_,(a4q (aOq (k:=2) sc_feed.nd rfl (Or.inl rfl) (aFq aXq (aFq bQq a2q (a1q 1)) a2q))
      (a4q (aSq (aEq bIq (a1q 1) (aDq aTq rfl B.len PySem.boot_len (a0q (a1q 0) a3q)) (aCq _)) (a7q (aOq (k:=2) sc_feed.nd rfl (Or.inl rfl) (b3q aix (a1q 0) (a1q 1) (λ _ _=>rfl)))) (a7q (aSq (aEq bNq (aDq aTq rfl B.len PySem.boot_len (a0q (a1q 0) a3q)) a2q (aCq _)) (a7q (aOq (k:=2) sc_feed.nd rfl (Or.inl rfl) (aFq aXq (aFq bQq (aFq bPq (b3q aix (a1q 0) (aFq bPq (a1q 1) (aDq aTq rfl B.len PySem.boot_len (a0q (a1q 0) a3q))) (λ _ _=>rfl)) a2q) a2q) (aFq bQq a2q (a1q 1))))) aMq)))
      (a4q (aOq (k:=3) sc_feed.nd rfl (Or.inl rfl) a2q)
      (a4q (aSq (aEq rBq (a1q 2) (aFq n4q a2q a2q) (aCq _)) (a7q (aOq (k:=3) sc_feed.nd rfl (Or.inl rfl) (a1q 2))) aMq)
      (a7q (aAq (f4q (a0q (a1q 3) (a0q (aFq aXq (aFq bPq (aFq aXq (aFq bQq (aFq bPq (a1q 2) a2q) a2q) (aFq bQq a2q (a1q 1))) a2q) a2q) a3q))))))))),?_⟩
  refine ⟨.inl ⟨by decide,by decide⟩,⟨λ c=>?_,λ c=>?_⟩⟩
  . have c':k < ns.length:=by simpa using c
    obtain ⟨v,hv⟩:=at_ok k h0 c'
    refine (lBq hv ⟨⟨by decide,by decide,by decide⟩,λ c=>?_,λ c=>?_⟩)
    . exact ⟨by simp,.inr ⟨by decide,by decide⟩,.inl ⟨by decide,by decide⟩,by simp,λ p hp=>fin _ _ p hp⟩
    . exact ⟨by simp,.inr ⟨by decide,by decide⟩,.inl ⟨by decide,by decide⟩,by simp,λ p hp=>fin _ _ p hp⟩
  . refine ⟨λ c=>?_,λ c=>?_⟩
    . have c':0 < ns.length:=by
        have:(0:Int) < (ns.map D.int).length:=by simpa using c
        simpa using this
      obtain ⟨v,hv⟩:=at_ok (k % (ns.map D.int).length) (Int.emod_nonneg _ (show ((ns.map D.int).length:Int)≠0 by rw [List.length_map];omega)) (by have:=Int.emod_lt_of_pos k (show (0:Int) < (ns.map D.int).length by simpa using c');simpa using this)
      refine ⟨by simpa using c',?_⟩
      refine (lBq hv ⟨by simp,.inr ⟨by decide,by decide⟩,.inl ⟨by decide,by decide⟩,⟨by decide,by decide,by decide⟩,λ c=>?_,λ c=>?_⟩)
      . exact ⟨by simp,.inr ⟨by decide,by decide⟩,.inl ⟨by decide,by decide⟩,by simp,λ p hp=>fin _ _ p hp⟩
      . exact ⟨by simp,.inr ⟨by decide,by decide⟩,.inl ⟨by decide,by decide⟩,by simp,λ p hp=>fin _ _ p hp⟩
    . refine ⟨⟨by decide,by decide,by decide⟩,λ c=>?_,λ c=>?_⟩
      . exact ⟨by simp,.inr ⟨by decide,by decide⟩,.inl ⟨by decide,by decide⟩,by simp,λ p hp=>fin _ _ p hp⟩
      . exact ⟨by simp,.inr ⟨by decide,by decide⟩,.inl ⟨by decide,by decide⟩,by simp,λ p hp=>fin _ _ p hp⟩
abbrev eZq:Stmt:=top 17
theorem sc_whole:FnScope ["_law_feed_here", "_law_form"] ["_law_feed_here"] (a6q eZq):=⟨rfl,rfl,rfl,by decide +kernel,rfl,by decide +kernel,by decide +kernel⟩
theorem k7q (g_take:Got P w K mg base 1 "_law_take" ["_law_feed_here", "_law_many"] (aKq K bHq)) (F:Fun K "_law_whole" "_law_whole" eZq f fd):FnOk P w K mg base CX0 2 f fd ["_law_feed_here"] (aKq K bMq):=by
  refine okD (k:=1) F sc_whole (λ ds G DQ h=>?_) (λ cdv A outer s H E hr ds G DQ h=>?_)
  . unfold bMq at h;split at h
    . rfl
    . exact h.elim
  unfold bMq at h;split at h
  case h_2=>exact h.elim
  next a=>
  obtain ⟨hF,q⟩:=h
  refine ⟨_,(a4q (aOq (k:=1) sc_whole.nd rfl (Or.inl rfl) (a5q g_take hr (by omega) rfl (a0q (a1q 0) (a0q a2q a3q))))
      (a4q (aSq (aEq bIq (a1q 1) a2q (aCq _)) (a7q (aAq (aLq (a0q aBq (a0q (b7q (a0q a2q (a0q a2q (a0q (jKq cPq a2q) (a0q a2q a3q)))) (a1q 1) (λ _ _=>rfl)) a3q))))) aMq)
      (a4q (aSq (aEq bIq (a1q 1) a2q (aCq _)) (a7q (aAq (aLq (a0q aBq (a0q (aFq aJq (a5q g_take hr (by omega) rfl (a0q (a1q 0) (a0q a2q a3q))) a2q) a3q))))) aMq)
      (a7q (aAq (aLq (a0q aBq (a0q (aFq aJq (a5q g_take hr (by omega) rfl (a0q (a1q 0) (a0q a2q a3q))) a2q) a3q)))))))),?_⟩
  refine ⟨hF,by decide,by decide,λ d G1 u1 d0 d1=>⟨λ c=>?_,λ c=>⟨λ c2=>?_,λ c2=>?_⟩⟩⟩
  . exact at4 d0 (by simpa using c) (λ _=>Dr.of (q 0 _ u1 (by decide) (by decide))) (λ _=>Dr.of (q 1 _ u1 (by decide) (by decide))) (λ _=>Dr.of (q (-1) _ u1 (by decide) (by decide))) (λ _=>Dr.of (q 2 _ u1 (by decide) (by decide)))
  . exact ⟨u1.fd,by decide,by decide,λ e G2 u2 e0 e1=>Dr.of (q (e - 5) _ (u1.trans u2) (by omega) (by omega))⟩
  . exact ⟨u1.fd,by decide,by decide,λ e G2 u2 e0 e1=>Dr.of (q (e - 999999999) _ (u1.trans u2) (by omega) (by omega))⟩
abbrev gEq:Stmt:=top 18
theorem sc_wild:FnScope ["_law_feed_here", "_law_many", "_law_room", "_law_deep", "_law_form", "_law_half", "_law_third", "_law_asked", "_law_one"] ["_law_feed_here", "_law_many", "_law_room", "_law_deep"] (a6q gEq):=⟨rfl,rfl,rfl,by decide +kernel,rfl,by decide +kernel,by decide +kernel⟩
theorem mWq:FnOk P w K mg base CX0 2 f fd ["_law_feed_here", "_law_many", "_law_room", "_law_deep"] (aKq K (c2q 0)):=nTq λ ds G DQ h=>by
  unfold c2q at h;split at h
  . obtain ⟨_,_,_,_,h1,h2,_⟩:=h;omega
  . exact h
theorem nOq {n:Nat} (g_take:Got P w K mg base 1 "_law_take" ["_law_feed_here", "_law_many"] (aKq K bHq)) (g_whole:Got P w K mg base 2 "_law_whole" ["_law_feed_here"] (aKq K bMq)) (g_wild:Got P w K mg base (n+2) "_law_wild" ["_law_feed_here", "_law_many", "_law_room", "_law_deep"] (aKq K (c2q n)))
    (F:Fun K "_law_wild" "_law_wild" gEq f fd):FnOk P w K mg base CX0 (n+3) f fd ["_law_feed_here", "_law_many", "_law_room", "_law_deep"] (aKq K (c2q (n+1))):=by
  refine okD (k:=n+2) F sc_wild (λ ds G DQ h=>?_) (λ cdv A outer s H E hr ds G DQ h=>?_)
  . unfold c2q at h;split at h
    . rfl
    . exact h.elim
  unfold c2q at h;split at h
  case h_2=>exact h.elim
  next a many room deep=>
  obtain ⟨hF,m0,m1,r1,dp0,dp1,q⟩:=h
  have fin:∀ (p:Tm) (G':DV),Fx a G G'->Fit p (3 * max room 0+1) deep->Dr DQ p.enc G':=λ p G' u z=>Dr.of (q p G' u z)
  refine ⟨_,(a4q (aOq (k:=4) sc_wild.nd rfl (Or.inl rfl) (a5q g_take hr (by omega) rfl (a0q (a1q 0) (a0q a2q a3q))))
      (a4q (aOq (k:=5) sc_wild.nd rfl (Or.inl rfl) (aFq cJq (aFq aJq (a1q 2) a2q) a2q))
      (a4q (aSq (AW.at (g0q (aEq bIq (a1q 2) a2q (aCq _)) (g0q (aEq bIq (a1q 3) a2q (aCq _)) (dIq (aEq bIq (a1q 4) a2q (aCq _)))))) (a4q (aSq (AW.at (gWq (aEq bNq (a1q 1) a2q (aCq _)) (e4q (aEq bNq (a5q g_take hr (by omega) rfl (a0q (a1q 0) (a0q a2q a3q))) a2q (aCq _))))) (a7q (aAq (aLq (a0q aBq (a0q (a5q g_take hr (by omega) rfl (a0q (a1q 0) (a0q (a1q 1) a3q))) a3q))))) aMq)
      (a7q (aAq (a5q g_whole hr (by omega) rfl (a0q (a1q 0) a3q))))) aMq)
      (a4q (aSq (aEq bIq (a1q 4) a2q (aCq _)) (a7q (aAq (aLq (a0q aBq (a0q (a5q g_wild hr (by omega) rfl (a0q (a1q 0) (a0q (aFq aXq (a1q 1) a2q) (a0q (aFq aJq (a1q 2) a2q) (a0q (aFq aJq (a1q 3) a2q) a3q))))) a3q))))) aMq)
      (a4q (aSq (aEq bIq (a1q 4) a2q (aCq _)) (a7q (aAq (aLq (a0q (b7q (a0q aBq (a0q aBq a3q)) (aFq aJq (a1q 4) a2q) (λ _ _=>rfl)) (a0q (a5q g_wild hr (by omega) rfl (a0q (a1q 0) (a0q (a1q 1) (a0q (aFq aJq (a1q 2) a2q) (a0q (aFq aJq (a1q 3) a2q) a3q))))) a3q))))) aMq)
      (a4q (aSq (aEq (b2q (bEq hr)) (a1q 4) a2q (aCq _)) (a4q (aOq (k:=6) sc_wild.nd rfl (Or.inl rfl) (aFq cJq (aFq aJq (a1q 2) a2q) a2q))
      (a4q (aOq (k:=7) sc_wild.nd rfl (Or.inl rfl) (a5q g_wild hr (by omega) rfl (a0q (a1q 0) (a0q (a1q 1) (a0q (a1q 6) (a0q (aFq aJq (a1q 3) a2q) a3q))))))
      (a4q (aOq (k:=8) sc_wild.nd rfl (Or.inl rfl) (a5q g_wild hr (by omega) rfl (a0q (a1q 0) (a0q (a1q 1) (a0q (a1q 6) (a0q (aFq aJq (a1q 3) a2q) a3q))))))
      (a7q (aAq (aLq (a0q aBq (a0q (a1q 7) (a0q (a1q 8) (a0q (a5q g_wild hr (by omega) rfl (a0q (a1q 0) (a0q (a1q 1) (a0q (a1q 6) (a0q (aFq aJq (a1q 3) a2q) a3q))))) a3q)))))))))) aMq)
      (a4q (aOq (k:=8) sc_wild.nd rfl (Or.inl rfl) (a5q g_wild hr (by omega) rfl (a0q (a1q 0) (a0q (a1q 1) (a0q (a1q 5) (a0q (aFq aJq (a1q 3) a2q) a3q))))))
      (a7q (aAq (aLq (a0q (b7q (a0q aBq (a0q aBq (a0q aBq (a0q aBq (a0q aBq a3q))))) (aFq aJq (a1q 4) a2q) (λ _ _=>rfl)) (a0q (a1q 8) (a0q (a5q g_wild hr (by omega) rfl (a0q (a1q 0) (a0q (a1q 1) (a0q (a1q 5) (a0q (aFq aJq (a1q 3) a2q) a3q))))) a3q))))))))))))),?_⟩
  refine ⟨hF,by decide,by decide,λ form G1 u1 f0 f1=>⟨⟨by decide,by decide⟩,λ c1=>⟨λ _=>?leaf1,nofun⟩,λ c1=>⟨λ c2=>⟨λ _=>?leaf2,nofun⟩,λ c2=>⟨λ c3=>?leaf3,λ c3=>?rest⟩⟩⟩⟩
  case leaf1 | leaf2 | leaf3=>
    have wh:∀ G2,Fx a G G2->bMq [.ref a] G2 (Dr DQ):=λ G2 u2=>⟨u2.fd,λ k G3 u3 _ _=>fin (.whole k) G3 (u2.trans u3) ⟨by simp [Tm.sz];omega,by simp [Tm.dp];omega⟩⟩
    refine ⟨λ m=>⟨u1.fd,by decide,by decide,λ e G2 u2 e0 e1=>⟨λ e2=>?_,λ e2=>wh G2 (u1.trans u2)⟩⟩,λ m=>⟨nofun,λ _=>wh G1 u1⟩⟩
    refine ⟨(u1.trans u2).fd,by simpa using m,by omega,λ k G3 u3 k0 k1=>?_⟩
    have z:=fin (.name k.toNat) G3 ((u1.trans u2).trans u3) ⟨by simp [Tm.sz];omega,by simp [Tm.dp];omega⟩
    rwa [Tm.enc,show ((k.toNat:Nat):Int)=k by omega] at z
  have d2:¬ deep < 1:=by simpa using c2
  have d1:¬ room < 2:=by simpa using c1
  have d3:¬ form < 2:=by simpa using c3
  refine ⟨λ c4=>?_,λ c4=>⟨λ c5=>?_,λ c5=>⟨λ c6=>?_,λ c6=>?_⟩⟩⟩
  . refine ⟨u1.fd,by omega,by omega,by omega,by omega,by omega,λ p G2 u2 z=>fin (.way p) G2 (u1.trans u2) ?_⟩
    obtain ⟨z1,z2⟩:=z
    exact ⟨by simp only [Tm.sz];omega,by simp only [Tm.dp];omega⟩
  . have e4:¬ form < 4:=by simpa using c4
    have e5:form < 6:=by simpa using c5
    refine at2 (i:=form - 4) (by omega) (by omega) (λ _=>?_) (λ _=>?_)
    . refine ⟨u1.fd,by omega,by omega,by omega,by omega,by omega,λ p G2 u2 z=>fin (.first p) G2 (u1.trans u2) ?_⟩
      obtain ⟨z1,z2⟩:=z
      exact ⟨by simp only [Tm.sz];omega,by simp only [Tm.dp];omega⟩
    . refine ⟨u1.fd,by omega,by omega,by omega,by omega,by omega,λ p G2 u2 z=>fin (.second p) G2 (u1.trans u2) ?_⟩
      obtain ⟨z1,z2⟩:=z
      exact ⟨by simp only [Tm.sz];omega,by simp only [Tm.dp];omega⟩
  . refine ⟨⟨by decide,by decide⟩,u1.fd,by omega,by omega,by omega,by omega,by omega,λ p G2 u2 z=>⟨(u1.trans u2).fd,by omega,by omega,by omega,by omega,by omega,λ p2 G3 u3 z2=>⟨((u1.trans u2).trans u3).fd,by omega,by omega,by omega,by omega,by omega,λ p3 G4 u4 z3=>fin (.look p p2 p3) G4 (((u1.trans u2).trans u3).trans u4) ?_⟩⟩⟩
    obtain ⟨z1,y1⟩:=z
    obtain ⟨z2,y2⟩:=z2
    obtain ⟨z3,y3⟩:=z3
    exact ⟨by simp only [Tm.sz];omega,by simp only [Tm.dp];omega⟩
  . have e5:¬ form < 6:=by simpa using c5
    have e6:form≠6:=by simpa using c6
    refine ⟨u1.fd,by omega,by omega,by omega,by omega,by omega,λ p G2 u2 z=>?_⟩
    have two:∀ (wd:Str) (t:Tm->Tm->Tm),(∀ x y,(t x y).enc=.tup [.str wd,x.enc,y.enc])->(∀ x y,(t x y).sz=1+x.sz+y.sz)->(∀ x y,(t x y).dp=1+max x.dp y.dp)->c2q n [.ref a,.int many,.int ((room - 1) / 2),.int (deep - 1)] G2 (λ d G'=>Dr DQ (.tup [.str wd,p.enc,d]) G'):=λ wd t he h1 h2=>by
      refine ⟨(u1.trans u2).fd,by omega,by omega,by omega,by omega,by omega,λ p2 G3 u3 z2=>?_⟩
      show Dr DQ (.tup [.str wd,p.enc,p2.enc]) G3
      rw [<- he]
      refine fin (t p p2) G3 ((u1.trans u2).trans u3) ?_
      obtain ⟨z1,y1⟩:=z
      obtain ⟨z2,y2⟩:=z2
      exact ⟨by rw [h1];omega,by rw [h2];omega⟩
    refine at5 (i:=form - 7) (by omega) (by omega) (λ _=>?_) (λ _=>?_) (λ _=>?_) (λ _=>?_) (λ _=>?_)
    . exact two _ .give (λ _ _=>rfl) (λ _ _=>rfl) (λ _ _=>rfl)
    . exact two _ .give (λ _ _=>rfl) (λ _ _=>rfl) (λ _ _=>rfl)
    . exact two _ .give (λ _ _=>rfl) (λ _ _=>rfl) (λ _ _=>rfl)
    . exact two _ .plus (λ _ _=>rfl) (λ _ _=>rfl) (λ _ _=>rfl)
    . exact two _ .pair (λ _ _=>rfl) (λ _ _=>rfl) (λ _ _=>rfl)
abbrev eBq:Stmt:=top 22
theorem kIq:FnScope ["_law_found", "_law_due_here"] ["_law_found", "_law_due_here"] (a6q eBq):=⟨rfl,rfl,rfl,by decide +kernel,rfl,by decide +kernel,by decide +kernel⟩
theorem kDq:FnOk P w K mg base CX0 1 f fd ["_law_found", "_law_due_here"] (aKq K (cLq 0)):=nTq λ ds G DQ h=>by
  obtain ⟨_,_,_,h,_⟩:=h;omega
theorem jQq {n:Nat} (B:Blt mg) (g_alike:Got P w K mg base (n+1) "_law_alike" ["_law_found", "_law_due_here"] (aKq K (cLq n))) (F:Fun K "_law_alike" "_law_alike" eBq f fd):FnOk P w K mg base CX0 (n+2) f fd ["_law_found", "_law_due_here"] (aKq K (cLq (n+1))):=by
  refine okD (k:=n+1) F kIq (λ ds G DQ h=>?_) (λ cdv A outer s H E hr ds G DQ h=>?_)
  . obtain ⟨_,rfl,_⟩:=h;rfl
  obtain ⟨d,rfl,hp,hd,q⟩:=h
  refine ⟨_,(a4q (aSq (bRq (aDq b0q rfl B.isinstance PyProof.Rows.boot_isinstance (a0q (a1q 1) (a0q (bLq rfl B.tuple PyProof.Rows.boot_tuple) a3q)))) (a4q (aSq (AW.at (g0q (jDq (bRq (aDq b0q rfl B.isinstance PyProof.Rows.boot_isinstance (a0q (a1q 0) (a0q (bLq rfl B.tuple PyProof.Rows.boot_tuple) a3q))))) (dIq (aEq (lIq (bEq hr)) (aDq aTq rfl B.len PySem.boot_len (a0q (a1q 0) a3q)) (aDq aTq rfl B.len PySem.boot_len (a0q (a1q 1) a3q)) (aCq _))))) (a7q (aAq kNq)) aMq)
      (a7q (aAq (eKq (aDq (fLq rfl) rfl B.all PyProof.Rows.boot_all (a0q (gFq rfl (CompOk.of (N':=["_law_one", "_law_other"]) (nt:=2) (cap:=[]) rfl (by kernel_rfl)) (fCq (bGq bTq (fXq bTq cKq) (b5q (k:=0) (by decide)) (bGq bTq cKq (b5q (k:=1) (by decide)) dRq))) (rFq rfl B.zip (a0q (a1q 0) (a0q (a1q 1) a3q))) (λ _ _ _ _=>(fUq (n:=2) rfl (aZq (aUq (k:=0) (show List.Nodup (["_law_one", "_law_other"]:List Str) by decide +kernel) rfl (Or.inl rfl)) (aZq (aUq (k:=1) (show List.Nodup (["_law_one", "_law_other"]:List Str) by decide +kernel) rfl (Or.inl rfl)) cSq)))) (λ _ _ _ _=>(a5q g_alike hr (by omega) rfl (a0q (a1q 0) (a0q (a1q 1) a3q))))) a3q)))))) aMq)
      (a4q (aSq (bRq (aDq b0q rfl B.isinstance PyProof.Rows.boot_isinstance (a0q (a1q 1) (a0q (bLq rfl B.str PyProof.Rows.boot_str) a3q)))) (a7q (aAq (dYq (aDq b0q rfl B.isinstance PyProof.Rows.boot_isinstance (a0q (a1q 0) (a0q (bLq rfl B.str PyProof.Rows.boot_str) a3q))) (gVq (fBq (b2q (bEq hr)) (a1q 0) (a1q 1) (aCq _)))))) aMq)
      (a7q (aAq (dYq (aDq b0q rfl B.isinstance PyProof.Rows.boot_isinstance (a0q (a1q 0) (a0q (bLq rfl B.int PyProof.Rows.boot_int) a3q))) (dYq (oLq (aDq b0q rfl B.isinstance PyProof.Rows.boot_isinstance (a0q (a1q 0) (a0q (bLq rfl B.bool PyProof.Rows.boot_bool) a3q)))) (gVq (fBq (b2q (bEq hr)) (a1q 0) (a1q 1) (aCq _))))))))),?_⟩
  cases d with
  | int i=>exact ⟨false,rfl,nofun,λ _=>⟨false,rfl,nofun,λ _=>⟨true,rfl,λ _=>⟨false,rfl,λ _=>Dr.of (by simpa using q),nofun⟩,nofun⟩⟩⟩
  | str x=>exact ⟨false,rfl,nofun,λ _=>⟨true,rfl,λ _=>⟨true,rfl,λ _=>Dr.of (by simpa using q),nofun⟩,nofun⟩⟩
  | tup ds=>
    simp only [D.plain,Bool.and_eq_true,decide_eq_true_eq] at hp
    simp only [D.dp] at hd
    refine ⟨true,rfl,λ _=>⟨true,rfl,nofun,λ _=>⟨λ c=>absurd c (by simp),λ _=>⟨Nat.le_refl _,?_⟩⟩⟩,nofun⟩
    refine h4q ds (λ x=>.tup [x,x]) (λ _=>.bl true) ?_ ?_ ?_ ?_ ?_
    . exact h0q _ ds
    . exact bWq (by omega)
    . trivial
    . intro x hx R hR
      have h1:=h8q hx
      exact ⟨x,rfl,dMq hp.2 hx,by omega,hR⟩
    . intro p hp'
      refine aPq a9q ⟨ds.map λ _=>true,?_,G,Sub.new (Sub.refl _) hp',Dr.of ?_⟩
      . rw [show (ds.map λ _=>D.bl true)=(ds.map λ _=>true).map D.bl by simp];exact bXq _
      . rw [show (ds.map λ _=>true).all id=true by simp];exact q
  | _=>simp [D.plain] at hp
abbrev cZq:Stmt:=top 1
theorem sc_walked:FnScope ["thing", "inners_of", "found", "pending", "one"] ["thing", "inners_of"] (a6q cZq):=⟨rfl,rfl,rfl,by decide +kernel,rfl,by decide +kernel,by decide +kernel⟩
theorem iKq {k0:Nat} (B:Blt mg) (F:Fun K "walked" "walked" cZq f fd):FnOk P w K mg base CX0 (k0+1) f fd ["thing", "inners_of"] (aKq K (c4q P w K mg base k0)):=by
  refine okD (k:=k0) F sc_walked (λ ds G DQ h=>?_) (λ cdv A outer s H E hr ds G DQ h=>?_)
  . obtain ⟨_,_,_,_,_,_,rfl,_⟩:=h;rfl
  obtain ⟨α,enc,inn,all,fi,x,rfl,hall,G_inners_of,hsz,fin⟩:=h
  refine ⟨_,(a4q (aOq (k:=2) sc_walked.nd rfl (Or.inl rfl) (f4q a3q))
      (a4q (aOq (k:=3) sc_walked.nd rfl (Or.inl rfl) (f4q (a0q (a1q 0) a3q)))
      (a4q (kZq PassesOwn.never (bRq (a1q 3)) (a4q (aOq (k:=4) sc_walked.nd rfl (Or.inl rfl) (j0q PySem.F.plainAttrs_list PySem.F.slot_list_pop PySem.F.type_list_pop gGq (a1q 3)))
      (a4q (eYq (kJq PySem.F.plainAttrs_list PySem.F.slot_list_append PySem.F.type_list_append cAq (a1q 2) (a0q (a1q 4) a3q)))
      (a7q (eYq (kJq PySem.F.plainAttrs_list PySem.F.slot_list_extend PySem.F.type_list_extend hCq (a1q 3) (a0q (dGq rfl B.list rfl B.reversed (mCq 1 G_inners_of hr (by omega) (a0q (a1q 4) a3q))) a3q)))))))
      (a7q (aAq (a1q 2)))))),?_⟩
  intro a ha b hb
  obtain ⟨-,hb0,hne⟩:=f5q (o:=.lst []) hb
  refine ⟨λ μ ρ G'=>∃ (ps fs:List α) (o4:Option D),ρ=[some (enc x),some (.ref fi),some (.ref a),some (.ref b),o4]/\up (up G a (.lst (fs.map enc))) b (.lst (ps.reverse.map enc))=G'/\fs++ps.flatMap all=all x/\(ps.flatMap all).length=μ,⟨_,[x],[],_,rfl,rfl,by simp,rfl⟩,?_⟩
  rintro μ ρ G' ⟨ps,fs,o4,rfl,rfl,hfs,rfl⟩
  have hlen:fs.length+(ps.flatMap all).length=(all x).length:=by rw [<- hfs,List.length_append]
  refine aPq a9q ⟨λ c=>?_,λ c=>?_⟩
  . obtain ⟨y,qs,rfl⟩:∃ y qs,ps=y::qs:=by
      cases ps with
      | nil=>simp at c
      | cons z qs=>exact ⟨z,qs,rfl⟩
    rw [List.flatMap_cons,hall y,List.cons_append] at hfs
    have hl2:=gUq hall ((inn y)++qs)
    rw [List.flatMap_cons,hall y,List.cons_append,List.length_cons,<- List.flatMap_append] at hlen
    rw [List.length_append] at hl2
    rw [<- List.flatMap_append] at hfs
    refine ⟨aPq a9q trivial,bBq a9q ⟨qs.reverse.map enc,enc y,by simp,?_⟩⟩
    rw [lWq]
    have ha1:∀ o,up (up G a (.lst (fs.map enc))) b o a=some (.lst (fs.map enc)):=λ o=>by rw [aWq (Ne.symm hne)];exact a9q
    refine ⟨aPq (ha1 _) trivial,bBq (ha1 _) ⟨bWq (by rw [List.length_map];omega),?_⟩⟩
    rw [up3 hne]
    refine ⟨aPq a9q trivial,rfl,y,rfl,λ p hp=>?_⟩
    have np:b≠p:=by rintro rfl;rw [a9q] at hp;cases hp
    refine bBq (by rw [aWq np];exact a9q) (bBq a9q ⟨nJq (by simp only [List.length_map,List.length_reverse];omega),?_⟩)
    refine ⟨_,up (up G a (.lst (fs.map enc++[enc y]))) b (.lst (qs.reverse.map enc++((inn y).map enc).reverse)),.refl _,Sub.put (Sub.trans (Sub.new (Sub.refl _) (by rw [aWq hne];exact hb0)) (Sub.new (Sub.refl _) hp)),((inn y++qs).flatMap all).length,?_,inn y++qs,fs++[y],_,rfl,?_,?_,rfl⟩
    . rw [List.flatMap_cons,hall y,List.cons_append,List.length_cons,List.flatMap_append];omega
    . simp
    . rw [<- hfs,List.flatMap_append];simp
  . have e:ps=[]:=by
      cases ps with
      | nil=>rfl
      | cons _ _=>simp at c
    subst e
    have e2:fs=all x:=by simpa using hfs
    subst e2
    exact ⟨up G a (.lst ((all x).map enc)),Sub.new (Sub.refl _) (by rw [aWq hne];exact hb0),fin a ha⟩
abbrev iFq:Stmt:=top 5
theorem r9q:FnScope ["program"] ["program"] (a6q iFq):=⟨rfl,rfl,rfl,by decide +kernel,rfl,by decide +kernel,by decide +kernel⟩
theorem rGq (g_iop:Got P w K mg base 1 "inner_of_pair" ["program"] (aKq K (ePq Tm.enc Tm.pinn))) (g_walked:Got P w K mg base 2 "walked" ["thing", "inners_of"] (aKq K (c4q P w K mg base 1))) (F:Fun K "pairs_and_leaves" "pairs_and_leaves" iFq f fd):FnOk P w K mg base CX0 3 f fd ["program"] (aKq K m8q):=by
  refine okD (k:=2) F r9q (λ ds G DQ h=>?_) (λ cdv A outer s H E hr ds G DQ h=>?_)
  . obtain ⟨_,rfl,_⟩:=h;rfl
  obtain ⟨t,rfl,hz,q⟩:=h
  obtain ⟨fi,m_iop,Gi⟩:=g_iop.fnV
  have hl:=t.pall_len
  exact ⟨_,(a7q (aAq (a5q g_walked hr (by omega) rfl (a0q (a1q 0) (a0q (eOq (d:=.ref _) (v:=.ref _) rfl m_iop rfl (λ _=>rfl)) a3q))))),Tm,Tm.enc,Tm.pinn,Tm.pall,fi,t,rfl,Tm.pall_eq,Gi,by omega,λ l hl=>Dr.of (q l hl)⟩
abbrev i8q:Stmt:=top 6
theorem pSq:FnScope ["program"] ["program"] (a6q i8q):=⟨rfl,rfl,rfl,by decide +kernel,rfl,by decide +kernel,by decide +kernel⟩
theorem qRq (F:Fun K "inner_of_pair" "inner_of_pair" i8q f fd):FnOk P w K mg base CX0 1 f fd ["program"] (aKq K (ePq Tm.enc Tm.pinn)):=by
  refine okD (k:=0) F pSq (λ ds G DQ h=>?_) (λ cdv A outer s H E hr ds G DQ h=>?_)
  . obtain ⟨t,rfl,_⟩:=h;rfl
  obtain ⟨t,rfl,q⟩:=h
  refine ⟨_,(a7q (aAq (kOq (aEq (b2q (bEq hr)) (b3q aix (a1q 0) a2q (λ _ _=>rfl)) aBq (aCq _)) (h9q asl (a1q 0) (gCq a2q) jNq) (aLq a3q)))),?_⟩
  cases t with
  | pair a b=>exact ⟨λ _=>Dr.of q,λ c=>absurd c (by decide)⟩
  | _=>exact ⟨λ c=>absurd c (by decide),λ _=>Dr.of q⟩
abbrev e8q:Stmt:=top 13
theorem kWq:FnScope ["answer", "kinds"] ["answer", "kinds"] (a6q e8q):=⟨rfl,rfl,rfl,by decide +kernel,rfl,by decide +kernel,by decide +kernel⟩
theorem kQq (B:Blt mg) (F:Fun K "kind_made" "kind_made" e8q f fd):FnOk P w K mg base CX0 1 f fd ["answer", "kinds"] (aKq K eCq):=by
  refine okD (k:=0) F kWq (λ ds G DQ h=>?_) (λ cdv A outer s H E hr ds G DQ h=>?_)
  . obtain ⟨_,_,_,rfl,_⟩:=h;rfl
  obtain ⟨t,l,ks,rfl,hl,h3,hk,q⟩:=h
  refine ⟨_,(a4q (aSq (aEq (b2q (bEq hr)) (b3q aix (a1q 0) a2q (λ _ _=>rfl)) aBq (aCq _)) (a7q (aAq (aLq (a0q aBq (a0q (b3q aix (a1q 0) a2q (λ _ _=>rfl)) a3q))))) aMq)
      (a4q (aSq (aEq (b2q (bEq hr)) (b3q aix (a1q 0) a2q (λ _ _=>rfl)) aBq (aCq _)) (a7q (aAq (aLq (a0q aBq a3q)))) aMq)
      (a7q (aAq (aFq aXq (aLq (a0q aBq a3q)) (fWq cXq rfl B.tuple PyProof.Rows.boot_tuple (a0q (a1q 1) a3q))))))),?_⟩
  cases t with
  | whole n=>exact ⟨λ _=>Dr.of q,λ c=>absurd c (by decide)⟩
  | way b=>exact ⟨λ c=>absurd c (by decide),λ _=>⟨λ _=>Dr.of q,λ c=>absurd c (by decide)⟩⟩
  | pair a b=>
    obtain ⟨x,y,rfl⟩:∃ x y,ks=[x,y]:=by
      rcases ks with _ | ⟨x,_ | ⟨y,_ | ⟨_,_⟩⟩⟩<;>first | exact ⟨x,y,rfl⟩ | (simp [Tm.pinn] at hk)
    exact ⟨λ c=>absurd c (by decide),λ _=>⟨λ c=>absurd c (by decide),λ _=>aPq hl ⟨nJq (by simp),Dr.of q⟩⟩⟩
  | _=>cases h3
abbrev cTq:Stmt:=top 2
theorem sc_folded:FnScope ["thing", "inners_of", "made_of", "made", "one"] ["thing", "inners_of", "made_of"] (a6q cTq):=⟨rfl,rfl,rfl,by decide +kernel,rfl,by decide +kernel,by decide +kernel⟩
theorem i7q {k0:Nat} (B:Blt mg) (g_walked:Got P w K mg base (k0+1) "walked" ["thing", "inners_of"] (aKq K (c4q P w K mg base k0))) (F:Fun K "folded" "folded" cTq f fd):FnOk P w K mg base CX0 (k0+2) f fd ["thing", "inners_of", "made_of"] (aKq K (f0q P w K mg base k0)):=by
  refine okD (k:=k0+1) F sc_folded (λ ds G DQ h=>?_) (λ cdv A outer s H E hr ds G DQ h=>?_)
  . obtain ⟨_,_,_,rfl,_⟩:=h;rfl
  obtain ⟨fi,fm,t,rfl,G_inners_of,G_made_of,ha2,hz,q⟩:=h
  refine ⟨_,(a4q (aOq (k:=3) sc_folded.nd rfl (Or.inr rfl) (f4q a3q))
      (a4q (j9q PassesOwn.never rfl (nWq rfl B.reversed (a5q g_walked hr (by omega) rfl (a0q (a1q 0) (a0q (a1q 1) a3q)))) (aUq (k:=4) sc_folded.nd rfl (Or.inl rfl)) (a7q (eYq (kJq PySem.F.plainAttrs_list PySem.F.slot_list_append PySem.F.type_list_append cAq (a1q 3) (a0q (mCq 2 G_made_of hr (by omega) (a0q (a1q 4) (a0q (gFq rfl (CompOk.of (N':=["part", "made"]) (nt:=1) (cap:=[3]) rfl (by kernel_rfl)) (b5q (k:=0) (by decide)) (l6q (mCq 1 G_inners_of hr (by omega) (a0q (a1q 4) a3q))) (λ _ _ _ _=>(aUq (k:=0) (show List.Nodup (["part", "made"]:List Str) by decide +kernel) rfl (Or.inl rfl))) (λ _ _ _ _=>(j0q PySem.F.plainAttrs_list PySem.F.slot_list_pop PySem.F.type_list_pop gGq (a1q 1)))) a3q))) a3q)))))
      (a7q (aAq (j0q PySem.F.plainAttrs_list PySem.F.slot_list_pop PySem.F.type_list_pop gGq (a1q 3)))))),?_⟩
  intro a ha
  have hlen:=t.pall_len
  refine ⟨Tm,Tm.enc,Tm.pinn,Tm.pall,fi,t,rfl,Tm.pall_eq,G_inners_of,by omega,λ l hl=>?_⟩
  have hn:a≠l:=by rintro rfl;rw [a9q] at hl;cases hl
  refine lTq a9q ?_
  refine ⟨λ i ρ G'=>∃ (o4:Option D),ρ=[some t.enc,some (.ref fi),some (.ref fm),some (.ref a),o4]/\up (up G a (.lst (((t.pall.drop (t.pall.length - i)).foldr stp []).reverse.map Kn.enc))) l (.lst (t.pall.map Tm.enc))=G',⟨_,rfl,by simp⟩,λ i ρ G' _ h=>by obtain ⟨_,_,rfl⟩:=h;exact a9q,?_,?_⟩
  . rintro i d ρ G' hd ⟨o4,rfl,rfl⟩
    have hi:i < t.pall.length:=by
      have z:=(List.getElem?_eq_some_iff.mp hd).1
      have z':i < ((t.pall.map Tm.enc).reverse).length:=z
      simpa using z'
    have hu:t.pall[t.pall.length - 1 - i]?=some (t.pall[t.pall.length - 1 - i]'(by omega)):=List.getElem?_eq_getElem (by omega)
    generalize hue:t.pall[t.pall.length - 1 - i]'(by omega)=u at hu
    have hd':d=u.enc:=by
      have z:((t.pall.map Tm.enc).reverse)[i]?=some d:=hd
      rw [List.getElem?_reverse (by simpa using hi),List.getElem?_map,List.length_map,hu] at z
      exact (Option.some.inj z).symm
    subst hd'
    have hdr:t.pall.drop (t.pall.length - (i+1))=u::t.pall.drop (t.pall.length - i):=by
      rw [show t.pall.length - (i+1)=t.pall.length - 1 - i by omega,List.drop_eq_getElem_cons (by omega),hue,show t.pall.length - 1 - i+1=t.pall.length - i by omega]
    have hpr:t.pall=t.pall.take (t.pall.length - (i+1))++u::t.pall.drop (t.pall.length - i):=by rw [<- hdr,List.take_append_drop]
    have hroom:=iBq t [] _ _ u hpr
    have han:u.an3=true:=by
      have z:=t.pall_ans
      rw [ha2] at z
      exact List.all_eq_true.mp z u (by rw [hpr];simp)
    have hsl:((t.pall.drop (t.pall.length - i)).foldr stp []).length<=1000:=by
      have:∀ xs:List Tm,(xs.foldr stp []).length<=xs.length:=λ xs=>by
        induction xs with
        | nil=>simp
        | cons x xs ih=>simp only [List.foldr_cons,stp,List.length_cons,List.length_drop];omega
      have z:=this (t.pall.drop (t.pall.length - i))
      rw [List.length_drop] at z;omega
    generalize hm:(t.pall.drop (t.pall.length - i)).foldr stp []=m at hroom hsl
    have e1:∀ o,up (up G a (.lst (m.reverse.map Kn.enc))) l o a=some (.lst (m.reverse.map Kn.enc)):=λ o=>by rw [aWq hn];exact a9q
    generalize hkk:u.pinn.length=kk at hroom
    refine ⟨aPq (e1 _) trivial,rfl,rfl,u,rfl,?_⟩
    refine h5q (λ i ds G'=>ds=(m.take i).map Kn.enc/\i<=kk/\G'=up (up G a (.lst ((m.drop i).reverse.map Kn.enc))) l (.lst (t.pall.map Tm.enc))) ?_ ⟨rfl,Nat.zero_le _,by rw [List.drop_zero]⟩ (λ _ _ _ _ _=>trivial) ?_ ?_
    . show (u.pinn.map Tm.enc).length < sizeLine
      rw [List.length_map,hkk];exact bWq (by omega)
    . rintro j d ds G' hd ⟨rfl,hj,rfl⟩
      have hj':j < kk:=by
        have z:=(List.getElem?_eq_some_iff.mp hd).1
        have z':j < (u.pinn.map Tm.enc).length:=z
        rw [List.length_map,hkk] at z';exact z'
      have hx:m.drop j=m[j]::m.drop (j+1):=List.drop_eq_getElem_cons (by omega)
      have e2:∀ o,up (up G a (.lst ((m.drop j).reverse.map Kn.enc))) l o a=some (.lst ((m.drop j).reverse.map Kn.enc)):=λ o=>by rw [aWq hn];exact a9q
      refine ⟨aPq (e2 _) trivial,bBq (e2 _) ⟨(m.drop (j+1)).reverse.map Kn.enc,(m[j]'(by omega)).enc,by rw [hx,List.reverse_cons,List.map_append];rfl,?_⟩⟩
      rw [up3 (Ne.symm hn)]
      refine WkV.of ⟨?_,by omega,rfl⟩
      rw [List.take_add_one,List.getElem?_eq_getElem (by omega),Option.toList_some,List.map_append];rfl
    . rintro ds G' ⟨rfl,_,rfl⟩ p hp
      have eL:(⟨u.pinn.map Tm.enc,λ _=>True⟩:DIt).items.length=kk:=by show (u.pinn.map Tm.enc).length=kk;rw [List.length_map];exact hkk
      rw [eL] at hp ⊢
      obtain ⟨-,hp1,npl⟩:=f5q (o:=.lst []) hp
      obtain ⟨-,hp0,npa⟩:=f5q (o:=.lst []) hp1
      have e3:up (up (up G a (.lst ((m.drop kk).reverse.map Kn.enc))) l (.lst (t.pall.map Tm.enc))) p (.lst ((m.take kk).map Kn.enc)) a=some (.lst ((m.drop kk).reverse.map Kn.enc)):=by
        rw [aWq (Ne.symm npa),aWq hn];exact a9q
      refine ⟨u,p,m.take kk,rfl,a9q,han,by rw [List.length_take,hkk];omega,bBq e3 ⟨bWq (by simp only [List.length_map,List.length_reverse,List.length_drop];omega),?_⟩⟩
      refine ⟨_,up (up G a (.lst ((m.drop kk).reverse.map Kn.enc++[(u.mkK (m.take kk)).enc]))) l (.lst (t.pall.map Tm.enc)),.refl _,?_,_,rfl,?_⟩
      . rw [gBq npa,up3 (Ne.symm hn)]
        exact Sub.new (Sub.refl _) (by rw [aWq npl,aWq npa];exact hp0)
      . rw [hdr,List.foldr_cons,hm]
        simp only [stp,hkk,List.reverse_cons,List.map_append];rfl
  . rintro ρ G' ⟨o4,rfl,rfl⟩
    rw [show (⟨(t.pall.map Tm.enc).reverse,λ G=>G l=some (.lst (t.pall.map Tm.enc))⟩:DIt).items.length=t.pall.length by simp,Nat.sub_self,List.drop_zero,eRq]
    refine ⟨aPq (by rw [aWq hn];exact a9q) trivial,bBq (by rw [aWq hn];exact a9q) ⟨[],t.kn.enc,rfl,⟨G,?_,q⟩⟩⟩
    exact Sub.new (Sub.new (Sub.new (Sub.refl _) ha) (f5q (o:=.lst []) hl).2.1) ha
abbrev e7q:Stmt:=top 12
theorem k0q:FnScope ["answer"] ["answer"] (a6q e7q):=⟨rfl,rfl,rfl,by decide +kernel,rfl,by decide +kernel,by decide +kernel⟩
theorem kPq (B:Blt mg) (g_iop:Got P w K mg base 1 "inner_of_pair" ["program"] (aKq K (ePq Tm.enc Tm.pinn))) (g_kmade:Got P w K mg base 1 "kind_made" ["answer", "kinds"] (aKq K eCq)) (g_folded:Got P w K mg base 3 "folded" ["thing", "inners_of", "made_of"] (aKq K (f0q P w K mg base 1))) (F:Fun K "answer_kind" "answer_kind" e7q f fd):FnOk P w K mg base CX0 4 f fd ["answer"] (aKq K g6q):=by
  refine okD (k:=3) F k0q (λ ds G DQ h=>?_) (λ cdv A outer s H E hr ds G DQ h=>?_)
  . obtain ⟨_,rfl,_⟩:=h;rfl
  obtain ⟨t,rfl,ha,hz,q⟩:=h
  obtain ⟨fi,m_iop,Gi⟩:=g_iop.fnV
  obtain ⟨fm,m_kmade,Gm⟩:=g_kmade.fnV
  exact ⟨_,(a7q (aAq (a5q g_folded hr (by omega) rfl (a0q (a1q 0) (a0q (eOq (d:=.ref _) (v:=.ref _) rfl m_iop rfl (λ _=>rfl)) (a0q (eOq (d:=.ref _) (v:=.ref _) rfl m_kmade rfl (λ _=>rfl)) a3q)))))),fi,fm,t,rfl,Gi,Gm,ha,hz,Dr.of q⟩
abbrev g8q:Stmt:=top 4
theorem mQq:FnScope ["answer"] ["answer"] (a6q g8q):=⟨rfl,rfl,rfl,by decide +kernel,rfl,by decide +kernel,by decide +kernel⟩
theorem mJq (B:Blt mg) (g_pal:Got P w K mg base 3 "pairs_and_leaves" ["program"] (aKq K m8q)) (F:Fun K "size" "size" g8q f fd):FnOk P w K mg base CX0 4 f fd ["answer"] (aKq K jLq):=by
  refine okD (k:=3) F mQq (λ ds G DQ h=>?_) (λ cdv A outer s H E hr ds G DQ h=>?_)
  . obtain ⟨_,rfl,_⟩:=h;rfl
  obtain ⟨t,rfl,hz,q⟩:=h
  refine ⟨_,(a7q (aAq (aDq aTq rfl B.len PySem.boot_len (a0q (a5q g_pal hr (by omega) rfl (a0q (a1q 0) a3q)) a3q)))),?_⟩
  refine ⟨t,rfl,by omega,λ l hl=>aPq a9q ?_⟩
  dsimp only
  rw [List.length_map]
  exact ⟨G,Sub.new (Sub.refl _) hl,q⟩
abbrev i1q:Stmt:=top 8
theorem qBq:FnScope ["thing"] ["thing"] (a6q i1q):=⟨rfl,rfl,rfl,by decide +kernel,rfl,by decide +kernel,by decide +kernel⟩
theorem pKq (B:Blt mg) (F:Fun K "has_answer_word" "has_answer_word" i1q f fd):FnOk P w K mg base CX0 1 f fd ["thing"] (aKq K hEq):=by
  refine okD (k:=0) F qBq (λ ds G DQ h=>?_) (λ cdv A outer s H E hr ds G DQ h=>?_)
  . obtain ⟨_,rfl,_⟩:=h;rfl
  obtain ⟨d,rfl,hd,q⟩:=h
  refine ⟨_,(a7q (aAq (dYq (aDq b0q rfl B.isinstance PyProof.Rows.boot_isinstance (a0q (a1q 0) (a0q (bLq rfl B.tuple PyProof.Rows.boot_tuple) a3q))) (dYq (fBq bNq (aDq aTq rfl B.len PySem.boot_len (a0q (a1q 0) a3q)) a2q (aCq _)) (gVq (fBq l3q (b3q aix (a1q 0) a2q (λ _ _=>rfl)) (aLq (a0q aBq (a0q aBq (a0q aBq a3q)))) (by with_unfolding_all rfl))))))),?_⟩
  obtain ⟨z,r,rfl,hr2⟩:=hd.head
  refine ⟨true,by decide,?_⟩
  refine ⟨λ _=>⟨λ _=>⟨rfl,rfl,Dr.of ?_⟩,λ c=>?_⟩,nofun⟩
  . have e:(false ^^ inL (.str z) [.str "is", .str "some", .str "both"])=ofA (.tup (.str z::r)):=by rw [Bool.false_xor,pYq];rfl
    rw [e];exact q
  . have c':=of_decide_eq_false c
    simp only [List.length_cons] at c';omega
abbrev iAq:Stmt:=top 10
theorem o5q:FnScope ["kind"] ["kind"] (a6q iAq):=⟨rfl,rfl,rfl,by decide +kernel,rfl,by decide +kernel,by decide +kernel⟩
theorem qHq (B:Blt mg) (g_haw:Got P w K mg base 1 "has_answer_word" ["thing"] (aKq K hEq)) (F:Fun K "of_answer" "of_answer" iAq f fd):FnOk P w K mg base CX0 2 f fd ["kind"] (aKq K hEq):=by
  refine okD (k:=1) F o5q (λ ds G DQ h=>?_) (λ cdv A outer s H E hr ds G DQ h=>?_)
  . obtain ⟨_,rfl,_⟩:=h;rfl
  obtain ⟨d,rfl,hd,q⟩:=h
  exact ⟨_,(a7q (aAq (a5q g_haw hr (by omega) rfl (a0q (a1q 0) a3q)))),d,rfl,hd,Dr.of q⟩
abbrev g5q:Stmt:=top 9
theorem nAq:FnScope ["kind"] ["kind"] (a6q g5q):=⟨rfl,rfl,rfl,by decide +kernel,rfl,by decide +kernel,by decide +kernel⟩
theorem nIq (B:Blt mg) (F:Fun K "inner_kinds" "inner_kinds" g5q f fd):FnOk P w K mg base CX0 1 f fd ["kind"] (aKq K (ePq Kn.enc Kn.inn)):=by
  refine okD (k:=0) F nAq (λ ds G DQ h=>?_) (λ cdv A outer s H E hr ds G DQ h=>?_)
  . obtain ⟨t,rfl,_⟩:=h;rfl
  obtain ⟨t,rfl,q⟩:=h
  refine ⟨_,(a4q (aSq (AW.at (g0q (aEq (b2q (bEq hr)) (b3q aix (a1q 0) a2q (λ _ _=>rfl)) aBq (aCq _)) (dIq (aEq (b2q (bEq hr)) (b3q aix (a1q 0) a2q (λ _ _=>rfl)) aBq (aCq _))))) (a7q (aAq (aLq a3q))) aMq)
      (a4q (aSq (aEq (b2q (bEq hr)) (b3q aix (a1q 0) a2q (λ _ _=>rfl)) aBq (aCq _)) (a7q (aAq (aFq aXq (b3q aix (a1q 0) a2q (λ _ _=>rfl)) (aLq (a0q (b3q aix (a1q 0) a2q (λ _ _=>rfl)) a3q))))) aMq)
      (a7q (aAq (h9q asl (a1q 0) (gCq a2q) jNq))))),?_⟩
  cases t with
  | is n=>exact ⟨λ _=>⟨λ _=>Dr.of q,nofun⟩,λ c=>absurd c (by decide)⟩
  | some=>exact ⟨λ c=>absurd c (by decide),λ _=>⟨λ _=>Dr.of q,λ c=>absurd c (by decide)⟩⟩
  | both a b=>exact ⟨λ c=>absurd c (by decide),λ _=>⟨λ c=>absurd c (by decide),λ _=>⟨λ c=>absurd c (by decide),λ _=>Dr.of q⟩⟩⟩
abbrev eHq:Stmt:=top 11
theorem kXq:FnScope ["kind"] ["kind"] (a6q eHq):=⟨rfl,rfl,rfl,by decide +kernel,rfl,by decide +kernel,by decide +kernel⟩
theorem k5q (B:Blt mg) (g_innk:Got P w K mg base 1 "inner_kinds" ["kind"] (aKq K (ePq Kn.enc Kn.inn))) (g_walked:Got P w K mg base 2 "walked" ["thing", "inners_of"] (aKq K (c4q P w K mg base 1))) (F:Fun K "kind_size" "kind_size" eHq f fd):FnOk P w K mg base CX0 3 f fd ["kind"] (aKq K gJq):=by
  refine okD (k:=2) F kXq (λ ds G DQ h=>?_) (λ cdv A outer s H E hr ds G DQ h=>?_)
  . obtain ⟨_,rfl,_⟩:=h;rfl
  obtain ⟨t,rfl,hz,q⟩:=h
  obtain ⟨fi,m_innk,Gi⟩:=g_innk.fnV
  refine ⟨_,(a7q (aAq (aDq aTq rfl B.len PySem.boot_len (a0q (a5q g_walked hr (by omega) rfl (a0q (a1q 0) (a0q (eOq (d:=.ref _) (v:=.ref _) rfl m_innk rfl (λ _=>rfl)) a3q))) a3q)))),?_⟩
  refine ⟨Kn,Kn.enc,Kn.inn,Kn.all,fi,t,rfl,Kn.all_eq,Gi,by omega,λ l hl=>aPq a9q ?_⟩
  dsimp only
  rw [List.length_map]
  exact ⟨G,Sub.new (Sub.refl _) hl,q⟩
abbrev cMq:Stmt:=top 19
theorem sc_number:FnScope ["_law_feed_here", "_law_form"] ["_law_feed_here"] (a6q cMq):=⟨rfl,rfl,rfl,by decide +kernel,rfl,by decide +kernel,by decide +kernel⟩
theorem iDq (B:Blt mg) (g_take:Got P w K mg base 1 "_law_take" ["_law_feed_here", "_law_many"] (aKq K bHq)) (F:Fun K "_law_number" "_law_number" cMq f fd):FnOk P w K mg base CX0 2 f fd ["_law_feed_here"] (aKq K eSq):=by
  refine okD (k:=1) F sc_number (λ ds G DQ h=>?_) (λ cdv A outer s H E hr ds G DQ h=>?_)
  . obtain ⟨_,rfl,_⟩:=h;rfl
  obtain ⟨a,rfl,hF,q⟩:=h
  refine ⟨_,(a4q (aOq (k:=1) sc_number.nd rfl (Or.inl rfl) (a5q g_take hr (by omega) rfl (a0q (a1q 0) (a0q a2q a3q))))
      (a4q (aSq (aEq bIq (a1q 1) a2q (aCq _)) (a7q (aAq (b7q (a0q a2q (a0q a2q (a0q (jKq cPq a2q) (a0q a2q a3q)))) (a1q 1) (λ _ _=>rfl)))) aMq)
      (a4q (aSq (aEq bIq (a1q 1) a2q (aCq _)) (a7q (aAq (aFq aJq (a5q g_take hr (by omega) rfl (a0q (a1q 0) (a0q a2q a3q))) a2q))) aMq)
      (a4q (aSq (aEq (b2q (bEq hr)) (a1q 1) a2q (aCq _)) (a7q (aAq (b7q (a0q a2q (a0q (jKq cPq a2q) (a0q a2q (a0q (jKq cPq a2q) (a0q a2q a3q))))) (a5q g_take hr (by omega) rfl (a0q (a1q 0) (a0q a2q a3q))) (λ _ _=>rfl)))) aMq)
      (a7q (aAq (aFq aJq (a5q g_take hr (by omega) rfl (a0q (a1q 0) (a0q a2q a3q))) a2q))))))),?_⟩
  refine ⟨hF,by decide,by decide,λ fm G1 u1 f0 f1=>⟨λ c=>?_,λ c=>⟨λ c=>?_,λ c=>?_⟩⟩⟩
  . have c':=of_decide_eq_true c
    exact at4 (by omega) (by omega) (λ _=>Dr.of (q _ _ u1)) (λ _=>Dr.of (q _ _ u1)) (λ _=>Dr.of (q _ _ u1)) (λ _=>Dr.of (q _ _ u1))
  . exact ⟨u1.fd,by decide,by decide,λ k G2 u2 _ _=>Dr.of (q _ _ (u1.trans u2))⟩
  . refine ⟨λ _=>⟨u1.fd,by decide,by decide,λ k G2 u2 k0 k1=>?_⟩,λ _=>⟨u1.fd,by decide,by decide,λ k G2 u2 _ _=>Dr.of (q _ _ (u1.trans u2))⟩⟩
    exact oIq k0 k1 λ d hd=>by
      simp only [List.mem_cons,List.not_mem_nil,or_false] at hd
      rcases hd with rfl | rfl | rfl | rfl | rfl<;>exact Dr.of (q _ _ (u1.trans u2))
abbrev cRq:Stmt:=top 20
theorem sc_lakind:FnScope ["_law_feed_here", "_law_deep", "_law_form", "_law_one"] ["_law_feed_here", "_law_deep"] (a6q cRq):=⟨rfl,rfl,rfl,by decide +kernel,rfl,by decide +kernel,by decide +kernel⟩
theorem iPq:FnOk P w K mg base CX0 2 f fd ["_law_feed_here", "_law_deep"] (aKq K (c6q 0)):=nTq λ ds G DQ h=>by obtain ⟨_,_,_,_,_,_,_⟩:=h;omega
theorem jEq {n:Nat} (B:Blt mg) (g_take:Got P w K mg base 1 "_law_take" ["_law_feed_here", "_law_many"] (aKq K bHq)) (g_number:Got P w K mg base 2 "_law_number" ["_law_feed_here"] (aKq K eSq)) (g_lakind:Got P w K mg base (n+2) "_law_answer_kind" ["_law_feed_here", "_law_deep"] (aKq K (c6q n))) (F:Fun K "_law_answer_kind" "_law_answer_kind" cRq f fd):FnOk P w K mg base CX0 (n+3) f fd ["_law_feed_here", "_law_deep"] (aKq K (c6q (n+1))):=by
  refine okD (k:=n+2) F sc_lakind (λ ds G DQ h=>?_) (λ cdv A outer s H E hr ds G DQ h=>?_)
  . obtain ⟨_,_,rfl,_⟩:=h;rfl
  obtain ⟨a,k,rfl,hF,k0,k1,q⟩:=h
  refine ⟨_,(a4q (aOq (k:=2) sc_lakind.nd rfl (Or.inl rfl) (a5q g_take hr (by omega) rfl (a0q (a1q 0) (a0q a2q a3q))))
      (a4q (aSq (AW.at (gWq (aEq bNq (a1q 1) a2q (aCq _)) (e4q (aEq bNq (a1q 2) a2q (aCq _))))) (a4q (aOq (k:=3) sc_lakind.nd rfl (Or.inl rfl) (a5q g_lakind hr (by omega) rfl (a0q (a1q 0) (a0q (aFq aJq (a1q 1) a2q) a3q))))
      (a7q (aAq (aLq (a0q aBq (a0q (a1q 3) (a0q (a5q g_lakind hr (by omega) rfl (a0q (a1q 0) (a0q (aFq aJq (a1q 1) a2q) a3q))) a3q))))))) aMq)
      (a4q (aSq (aEq (b2q (bEq hr)) (a1q 2) a2q (aCq _)) (a7q (aAq (aLq (a0q aBq a3q)))) aMq)
      (a7q (aAq (aLq (a0q aBq (a0q (a5q g_number hr (by omega) rfl (a0q (a1q 0) a3q)) a3q)))))))),?_⟩
  refine ⟨hF,by decide,by decide,λ fm G1 u1 f0 f1=>⟨λ c=>⟨λ c2=>?_,λ c2=>?_⟩,λ c=>⟨λ c=>absurd c (by decide),λ _=>?_⟩⟩⟩
  . have c':=of_decide_eq_true c
    refine ⟨a,k - 1,rfl,u1.fd,by omega,by omega,λ d1 G2 u2 i1 e1=>⟨a,k - 1,rfl,u2.fd,by omega,by omega,λ d2 G3 u3 i2 e2=>Dr.of (q _ _ (u1.trans (u2.trans u3)) (.both i1 i2) (by simp only [D.dp,bKq];omega))⟩⟩
  . exact ⟨λ _=>Dr.of (q _ _ u1 .some (by simp [D.dp,bKq])),λ _=>⟨a,rfl,u1.fd,λ n G2 u2=>Dr.of (q _ _ (u1.trans u2) (.is n) (by simp [D.dp,bKq]))⟩⟩
  . exact ⟨λ _=>Dr.of (q _ _ u1 .some (by simp [D.dp,bKq])),λ _=>⟨a,rfl,u1.fd,λ n G2 u2=>Dr.of (q _ _ (u1.trans u2) (.is n) (by simp [D.dp,bKq]))⟩⟩
abbrev g9q:Stmt:=top 21
theorem sc_kind:FnScope ["_law_feed_here", "_law_deep", "_law_form", "_law_bag"] ["_law_feed_here", "_law_deep"] (a6q g9q):=⟨rfl,rfl,rfl,by decide +kernel,rfl,by decide +kernel,by decide +kernel⟩
theorem m4q:FnOk P w K mg base CX0 7 f fd ["_law_feed_here", "_law_deep"] (aKq K (d8q 0)):=nTq λ ds G DQ h=>by obtain ⟨_,_,_,_,_,_,_,_⟩:=h;omega
theorem m1q {n:Nat} (B:Blt mg) (g_take:Got P w K mg base 1 "_law_take" ["_law_feed_here", "_law_many"] (aKq K bHq)) (g_lakind:Got P w K mg base 5 "_law_answer_kind" ["_law_feed_here", "_law_deep"] (aKq K (c6q 3))) (g_kind:Got P w K mg base (n+7) "_law_kind" ["_law_feed_here", "_law_deep"] (aKq K (d8q n))) (F:Fun K "_law_kind" "_law_kind" g9q f fd):FnOk P w K mg base CX0 (n+8) f fd ["_law_feed_here", "_law_deep"] (aKq K (d8q (n+1))):=by
  refine okD (k:=n+7) F sc_kind (λ ds G DQ h=>?_) (λ cdv A outer s H E hr ds G DQ h=>?_)
  . obtain ⟨_,_,rfl,_⟩:=h;rfl
  obtain ⟨a,k,rfl,hF,k0,k1,k10,q⟩:=h
  refine ⟨_,(a4q (aOq (k:=2) sc_kind.nd rfl (Or.inl rfl) (a5q g_take hr (by omega) rfl (a0q (a1q 0) (a0q a2q a3q))))
      (a4q (aSq (AW.at (g0q (aEq (b2q (bEq hr)) (a1q 1) a2q (aCq _)) (dIq (aEq bIq (a1q 2) a2q (aCq _))))) (a7q (aAq (a5q g_lakind hr (by omega) rfl (a0q (a1q 0) (a0q (aDq (fTq rfl) rfl B.min PyProof.Rows.boot_min (a0q (a1q 1) (a0q a2q a3q))) a3q))))) aMq)
      (a4q (aSq (aEq bIq (a1q 2) a2q (aCq _)) (a7q (aAq (aLq (a0q (b7q (a0q aBq (a0q aBq a3q)) (aFq aJq (a1q 2) a2q) (λ _ _=>rfl)) (a0q (a5q g_kind hr (by omega) rfl (a0q (a1q 0) (a0q (aFq aJq (a1q 1) a2q) a3q))) a3q))))) aMq)
      (a4q (hKq (k:=3) rfl sc_kind.nd rfl (Or.inl rfl) (CompOk.of (N':=["_law_k", "_law_feed_here", "_law_deep"]) (nt:=1) (cap:=[0,1]) rfl (by kernel_rfl)) (b5q (k:=0) (by decide)) (fAq rfl B.range (a0q (a5q g_take hr (by omega) rfl (a0q (a1q 0) (a0q a2q a3q))) a3q)) (λ _ _ _ _=>(aUq (k:=0) (show List.Nodup (["_law_k", "_law_feed_here", "_law_deep"]:List Str) by decide +kernel) rfl (Or.inl rfl)))  (λ _ _ _ _=>(a5q g_kind hr (by omega) rfl (a0q (a1q 1) (a0q (aFq aJq (a1q 2) a2q) a3q)))))
      (a4q (aSq (AW.at (gWq (aEq bNq (aDq aTq rfl B.len PySem.boot_len (a0q (a1q 3) a3q)) a2q (aCq _)) (e4q (aEq (b2q (bEq hr)) (a5q g_take hr (by omega) rfl (a0q (a1q 0) (a0q a2q a3q))) a2q (aCq _))))) (a7q (e1q (b3q aix (a1q 3) a2q (λ _ _=>rfl)) (iWq (a1q 3) a2q))) aMq)
      (a7q (aAq (aLq (a0q aBq (a0q (eKq (fWq cXq rfl B.tuple PyProof.Rows.boot_tuple (a0q (aDq (e6q (bEq hr)) rfl B.sorted PyProof.Rows.boot_sorted (a0q (a1q 3) a3q)) a3q))) (a0q (a5q g_kind hr (by omega) rfl (a0q (a1q 0) (a0q (aFq aJq (a1q 1) a2q) a3q))) a3q))))))))))),?_⟩
  refine ⟨hF,by decide,by decide,λ fm G1 u1 f0 f1=>⟨λ c=>⟨λ _=>?_,λ c=>absurd c (by decide)⟩,λ c=>⟨λ c2=>?_,λ c2=>⟨λ c3=>?_,λ c3=>?_⟩⟩⟩⟩
  . refine ⟨a,if 2 < k then 2 else k,rfl,u1.fd,by split<;>omega,by split<;>omega,λ d G2 u2 i e=>Dr.of (q d G2 ⟨G2,u1.trans u2,.refl _⟩ i (by split at e<;>omega))⟩
  . refine ⟨a,if 2 < k then 2 else k,rfl,u1.fd,by split<;>omega,by split<;>omega,λ d G2 u2 i e=>Dr.of (q d G2 ⟨G2,u1.trans u2,.refl _⟩ i (by split at e<;>omega))⟩
  . have c3':=of_decide_eq_true c3
    have c2':=of_decide_eq_false c2
    have k0':k≠0:=by rintro rfl;cases c
    refine at2 (i:=fm - 3) (by omega) (by omega) (λ _=>⟨a,k - 1,rfl,u1.fd,by omega,by omega,by omega,λ d G2 ⟨G0,x1,x2⟩ i e=>Dr.of (q _ G2 ⟨G0,u1.trans x1,x2⟩ (.left i) (by simp only [D.dp,bKq];omega))⟩) λ _=>⟨a,k - 1,rfl,u1.fd,by omega,by omega,by omega,λ d G2 ⟨G0,x1,x2⟩ i e=>Dr.of (q _ G2 ⟨G0,u1.trans x1,x2⟩ (.right i) (by simp only [D.dp,bKq];omega))⟩
  . have k0':k≠0:=by rintro rfl;cases c
    refine ⟨u1.fd,by decide,by decide,λ m G2 u2 m0 m1=>j4q (by omega) ?_⟩
    refine hNq a id (λ d=>IsK d/\d.dp<=2 * (k - 1).toNat+3) ?_ (λ _=>trivial) u2.fd (λ d G R hf h=>⟨a,k - 1,rfl,hf,by omega,by omega,by omega,λ d G' x i e=>h d G' x ⟨i,e⟩⟩) λ ds G3 hdl hds u3 p hp=>?_
    . show (bJq 0 (m:Int).toNat).length<=1000
      rw [b9q];omega
    have hl3:ds.length<=3:=by
      have e:ds.length=(bJq 0 (m:Int).toNat).length:=hdl
      rw [b9q] at e;omega
    rw [List.map_id]
    have kp3:∀ b o,b≠a->G b=some o->up G3 p (.lst ds) b=some o:=λ b o nb e=>by
      have h1:G3 b=some o:=(u1.trans (u2.trans u3)).kp nb e
      rw [aWq (by rintro rfl;rw [hp] at h1;cases h1)];exact h1
    refine aPq a9q ⟨λ c4=>⟨u3.fd.new hp,by decide,by decide,λ j G4 u4 j0 j1=>⟨λ c5=>?_,λ c5=>?_⟩⟩,λ c4=>⟨λ c=>absurd c (by decide),λ _=>?_⟩⟩
    . have hp4:=u4.kp (u3.fd.ne hp) a9q
      obtain ⟨x,y,zs,rfl⟩:∃ x y zs,ds=x::y::zs:=by
        have c4':=of_decide_eq_true c4
        rcases ds with _ | ⟨x,_ | ⟨y,zs⟩⟩
        . simp at c4'
        . simp at c4'
        . exact ⟨x,y,zs,rfl⟩
      refine p2q hp4 (d:=x) (eNq (j:=0) rfl) (bBq hp4 ⟨1,by unfold ixN;rw [if_pos (by decide),if_pos (by simp only [List.length_cons];omega)];rfl,?_⟩)
      have h4:∀ d∈(x::y::zs).set 1 x,IsK d/\d.dp<=2 * (k - 1).toNat+3:=lXq hds (hds x (List.mem_cons_self ..))
      have l4:((x::y::zs).set 1 x).length<=3:=by rw [List.length_set];exact hl3
      have X:∀ G9 G0,Fx a (up G4 p (.lst ((x::y::zs).set 1 x))) G0->Sub G0 G9->∃ G0,Fx a G G0/\Sub G0 G9:=λ G9 G0 x1 x2=>mRq (λ b o nb e=>by
        have h1:=kp3 b o nb e
        have h2:=u4.kp nb h1
        have nbp:b≠p:=by rintro rfl;rw [(u1.trans (u2.trans u3)).none hp] at e;cases e
        rw [aWq nbp];exact h2) x1 x2
      refine aPq (a9q) ⟨by have:=l4;omega,λ d hd=>(h4 d hd).1.skey (by have:=(h4 d hd).2;omega),λ d hd e he=>(h4 d hd).1.lt (h4 e he).1,λ ds' hperm p' hp'=>aPq a9q ⟨_,Sub.new (Sub.refl _) hp',⟨a,k - 1,rfl,(by obtain ⟨x',y',e'⟩:=u4.fd;exact ⟨x',y',by rw [aWq (Ne.symm (u3.fd.ne hp))];exact e'⟩),by omega,by omega,by omega,λ d G9 ⟨G0,x1,x2⟩ i9 e9=>Dr.of (q _ G9 (X G9 G0 x1 x2) (.way (λ d hd=>(h4 d (hperm.mem_iff.mpr hd)).1) i9) ?_)⟩⟩⟩
      have hdp:=eDq (n:=2 * (k - 1).toNat+3) λ d hd=>(h4 d (hperm.mem_iff.mpr hd)).2
      simp only [D.dp,bKq];omega
    . have hp4:=u4.kp (u3.fd.ne hp) a9q
      have X:∀ G9 G0,Fx a G4 G0->Sub G0 G9->∃ G0,Fx a G G0/\Sub G0 G9:=λ G9 G0 x1 x2=>mRq (λ b o nb e=>u4.kp nb (kp3 b o nb e)) x1 x2
      refine aPq (hp4) ⟨by have:=hl3;omega,λ d hd=>(hds d hd).1.skey (by have:=(hds d hd).2;omega),λ d hd e he=>(hds d hd).1.lt (hds e he).1,λ ds' hperm p' hp'=>aPq a9q ⟨_,Sub.new (Sub.refl _) hp',⟨a,k - 1,rfl,u4.fd,by omega,by omega,by omega,λ d G9 ⟨G0,x1,x2⟩ i9 e9=>Dr.of (q _ G9 (X G9 G0 x1 x2) (.way (λ d hd=>(hds d (hperm.mem_iff.mpr hd)).1) i9) ?_)⟩⟩⟩
      have hdp:=eDq (n:=2 * (k - 1).toNat+3) λ d hd=>(hds d (hperm.mem_iff.mpr hd)).2
      simp only [D.dp,bKq];omega
    . have X:∀ G9 G0,Fx a (up G3 p (.lst ds)) G0->Sub G0 G9->∃ G0,Fx a G G0/\Sub G0 G9:=λ G9 G0 x1 x2=>mRq kp3 x1 x2
      refine aPq (a9q) ⟨by have:=hl3;omega,λ d hd=>(hds d hd).1.skey (by have:=(hds d hd).2;omega),λ d hd e he=>(hds d hd).1.lt (hds e he).1,λ ds' hperm p' hp'=>aPq a9q ⟨_,Sub.new (Sub.refl _) hp',⟨a,k - 1,rfl,(u3.fd.new hp),by omega,by omega,by omega,λ d G9 ⟨G0,x1,x2⟩ i9 e9=>Dr.of (q _ G9 (X G9 G0 x1 x2) (.way (λ d hd=>(hds d (hperm.mem_iff.mpr hd)).1) i9) ?_)⟩⟩⟩
      have hdp:=eDq (n:=2 * (k - 1).toNat+3) λ d hd=>(hds d (hperm.mem_iff.mpr hd)).2
      simp only [D.dp,bKq];omega
abbrev fZq:Stmt:=top 23
theorem sc_answ:FnScope ["_law_feed_here", "_law_deep", "_law_form", "_law_one"] ["_law_feed_here", "_law_deep"] (a6q fZq):=⟨rfl,rfl,rfl,by decide +kernel,rfl,by decide +kernel,by decide +kernel⟩
theorem m7q:FnOk P w K mg base CX0 7 f fd ["_law_feed_here", "_law_deep"] (aKq K (d9q 0)):=nTq λ ds G DQ h=>by obtain ⟨_,_,_,_,_,_,_⟩:=h;omega
theorem mNq {n:Nat} (B:Blt mg) (g_take:Got P w K mg base 1 "_law_take" ["_law_feed_here", "_law_many"] (aKq K bHq)) (g_whole:Got P w K mg base 2 "_law_whole" ["_law_feed_here"] (aKq K bMq)) (g_wild:Got P w K mg base 6 "_law_wild" ["_law_feed_here", "_law_many", "_law_room", "_law_deep"] (aKq K (c2q 4))) (g_answ:Got P w K mg base (n+7) "_law_answer" ["_law_feed_here", "_law_deep"] (aKq K (d9q n))) (F:Fun K "_law_answer" "_law_answer" fZq f fd):FnOk P w K mg base CX0 (n+8) f fd ["_law_feed_here", "_law_deep"] (aKq K (d9q (n+1))):=by
  refine okD (k:=n+7) F sc_answ (λ ds G DQ h=>?_) (λ cdv A outer s H E hr ds G DQ h=>?_)
  . obtain ⟨_,_,rfl,_⟩:=h;rfl
  obtain ⟨a,k,rfl,hF,k0,k1,q⟩:=h
  refine ⟨_,(a4q (aOq (k:=2) sc_answ.nd rfl (Or.inl rfl) (a5q g_take hr (by omega) rfl (a0q (a1q 0) (a0q a2q a3q))))
      (a4q (aSq (AW.at (gWq (aEq bNq (a1q 1) a2q (aCq _)) (e4q (aEq bNq (a1q 2) a2q (aCq _))))) (a4q (aOq (k:=3) sc_answ.nd rfl (Or.inl rfl) (a5q g_answ hr (by omega) rfl (a0q (a1q 0) (a0q (aFq aJq (a1q 1) a2q) a3q))))
      (a7q (aAq (aLq (a0q aBq (a0q (a1q 3) (a0q (a5q g_answ hr (by omega) rfl (a0q (a1q 0) (a0q (aFq aJq (a1q 1) a2q) a3q))) a3q))))))) aMq)
      (a4q (aSq (aEq (b2q (bEq hr)) (a1q 2) a2q (aCq _)) (a7q (aAq (aLq (a0q aBq (a0q (a5q g_wild hr (by omega) rfl (a0q (a1q 0) (a0q a2q (a0q (aFq aXq a2q (a5q g_take hr (by omega) rfl (a0q (a1q 0) (a0q a2q a3q)))) (a0q a2q a3q))))) a3q))))) aMq)
      (a7q (aAq (a5q g_whole hr (by omega) rfl (a0q (a1q 0) a3q))))))),?_⟩
  have hp:20<=20 * 2 ^ k.toNat:=Nat.le_mul_of_pos_right _ (Nat.two_pow_pos _)
  refine ⟨hF,by decide,by decide,λ fm G1 u1 f0 f1=>⟨λ c=>⟨λ c2=>?_,λ c2=>?_⟩,λ c=>⟨λ c=>absurd c (by decide),λ _=>?_⟩⟩⟩
  . have c':=of_decide_eq_true c
    have e:k.toNat=(k - 1).toNat+1:=by omega
    refine ⟨a,k - 1,rfl,u1.fd,by omega,by omega,λ d1 G2 u2 b1=>⟨a,k - 1,rfl,u2.fd,by omega,by omega,λ d2 G3 u3 b2=>Dr.of (q (.pair d1 d2) _ (u1.trans (u2.trans u3)) ⟨by simp only [Tm.isAns,b1.an,b2.an];rfl,?_,?_⟩)⟩⟩
    . have:=b1.sz;have:=b2.sz
      rw [e,Nat.pow_succ];simp only [Tm.sz];omega
    . have:=b1.dp;have:=b2.dp
      simp only [Tm.dp];omega
  . exact ⟨λ _=>⟨u1.fd,by decide,by decide,λ r G2 u2 r0 r1=>⟨u2.fd,by decide,by decide,by omega,by decide,by decide,λ p G3 u3 hf=>Dr.of (q (.way p) _ (u1.trans (u2.trans u3)) ⟨rfl,by have:=hf.sz;simp only [Tm.sz];omega,by have:=hf.dp;simp only [Tm.dp];omega⟩)⟩⟩,λ _=>⟨u1.fd,λ n G2 u2 _ _=>Dr.of (q (.whole n) _ (u1.trans u2) ⟨rfl,by simp only [Tm.sz];omega,by simp only [Tm.dp];omega⟩)⟩⟩
  . exact ⟨λ _=>⟨u1.fd,by decide,by decide,λ r G2 u2 r0 r1=>⟨u2.fd,by decide,by decide,by omega,by decide,by decide,λ p G3 u3 hf=>Dr.of (q (.way p) _ (u1.trans (u2.trans u3)) ⟨rfl,by have:=hf.sz;simp only [Tm.sz];omega,by have:=hf.dp;simp only [Tm.dp];omega⟩)⟩⟩,λ _=>⟨u1.fd,λ n G2 u2 _ _=>Dr.of (q (.whole n) _ (u1.trans u2) ⟨rfl,by simp only [Tm.sz];omega,by simp only [Tm.dp];omega⟩)⟩⟩
abbrev g2q:Stmt:=top 24
theorem sc_anya:FnScope ["_law_feed_here", "_law_answer_here", "_law_k", "_law_other"] ["_law_feed_here"] (a6q g2q):=⟨rfl,rfl,rfl,by decide +kernel,rfl,by decide +kernel,by decide +kernel⟩
theorem lUq (B:Blt mg) (g_take:Got P w K mg base 1 "_law_take" ["_law_feed_here", "_law_many"] (aKq K bHq)) (g_whole:Got P w K mg base 2 "_law_whole" ["_law_feed_here"] (aKq K bMq)) (g_answ:Got P w K mg base 11 "_law_answer" ["_law_feed_here", "_law_deep"] (aKq K (d9q 4))) (F:Fun K "_law_any_answer" "_law_any_answer" g2q f fd):FnOk P w K mg base CX0 12 f fd ["_law_feed_here"] (aKq K iQq):=by
  refine okD (k:=11) F sc_anya (λ ds G DQ h=>?_) (λ cdv A outer s H E hr ds G DQ h=>?_)
  . obtain ⟨_,rfl,_⟩:=h;rfl
  obtain ⟨a,rfl,hF,q⟩:=h
  refine ⟨_,(a4q (aSq (aEq bNq (a5q g_take hr (by omega) rfl (a0q (a1q 0) (a0q a2q a3q))) a2q (aCq _)) (a7q (aAq (a5q g_answ hr (by omega) rfl (a0q (a1q 0) (a0q (a5q g_take hr (by omega) rfl (a0q (a1q 0) (a0q a2q a3q))) a3q))))) aMq)
      (a4q (aOq (k:=1) sc_anya.nd rfl (Or.inl rfl) (a5q g_answ hr (by omega) rfl (a0q (a1q 0) (a0q a2q a3q))))
      (a4q (j9q PassesOwn.never rfl (fAq rfl B.range (a0q (a5q g_take hr (by omega) rfl (a0q (a1q 0) (a0q a2q a3q))) a3q)) (aUq (k:=2) sc_anya.nd rfl (Or.inl rfl)) (a4q (aOq (k:=3) sc_anya.nd rfl (Or.inl rfl) (a5q g_whole hr (by omega) rfl (a0q (a1q 0) a3q)))
      (a7q (aOq (k:=1) sc_anya.nd rfl (Or.inl rfl) (b7q (a0q (aLq (a0q aBq (a0q (a1q 1) (a0q (a1q 3) a3q)))) (a0q (aLq (a0q aBq (a0q (a1q 3) (a0q (a1q 1) a3q)))) a3q)) (a5q g_take hr (by omega) rfl (a0q (a1q 0) (a0q a2q a3q))) (λ _ _=>rfl))))))
      (a7q (aAq (a1q 1)))))),?_⟩
  refine ⟨hF,by decide,by decide,λ fm G1 u1 f0 f1=>⟨λ c=>?_,λ c=>?_⟩⟩
  . refine ⟨u1.fd,by decide,by decide,λ k G2 u2 k0 k1=>⟨a,k,rfl,u2.fd,k0,k1,λ t G3 u3 b=>Dr.of (q t _ (u1.trans (u2.trans u3)) ⟨b.an,?_,?_⟩)⟩⟩
    . have h1:=b.sz
      have:2 ^ k.toNat<=2 ^ 3:=Nat.pow_le_pow_right (by decide) (by omega)
      omega
    . have:=b.dp;omega
  refine ⟨a,1,rfl,u1.fd,by decide,by decide,λ t G2 u2 b=>⟨u2.fd,by decide,by decide,λ m G3 u3 m0 m1=>j4q (by omega) ?_⟩⟩
  have U3:=u1.trans (u2.trans u3)
  refine ⟨λ i ρ G'=>∃ (t:Tm) (o2 o3:Option D),ρ=[some (.ref a),some t.enc,o2,o3]/\Fx a G G'/\AnsB t (41+2 * i) (5+i),⟨t,_,_,rfl,U3,⟨b.an,by have:=b.sz;simp at this;omega,by have:=b.dp;simp at this;omega⟩⟩,λ _ _ _ _ _=>trivial,?_,?_⟩
  . rintro i d ρ G' hd ⟨t,o2,o3,rfl,u,b⟩
    refine ⟨u.fd,λ n G4 u4 _ _=>⟨u4.fd,by decide,by decide,λ j G5 u5 j0 j1=>at2 j0 j1 (λ _=>Wk.of ⟨.pair t (.whole n),_,_,rfl,u.trans (u4.trans u5),?_⟩) λ _=>Wk.of ⟨.pair (.whole n) t,_,_,rfl,u.trans (u4.trans u5),?_⟩⟩⟩
    . exact ⟨by simp only [Tm.isAns,b.an];rfl,by have:=b.sz;simp only [Tm.sz];omega,by have:=b.dp;simp only [Tm.dp];omega⟩
    . exact ⟨by simp only [Tm.isAns,b.an];rfl,by have:=b.sz;simp only [Tm.sz];omega,by have:=b.dp;simp only [Tm.dp];omega⟩
  . rintro ρ G' ⟨t,o2,o3,rfl,u,b⟩
    have el:(⟨bJq 0 m.toNat,λ _=>True⟩:DIt).items.length=m.toNat:=b9q
    rw [el] at b
    exact Dr.of (q t _ u ⟨b.an,by have:=b.sz;omega,by have:=b.dp;omega⟩)
abbrev jBq:Stmt:=top 25
theorem sc_due:FnScope ["_law_answer_here", "_law_one", "_law_many", "_law_other", "_law_more"] ["_law_answer_here"] (a6q jBq):=⟨rfl,rfl,rfl,by decide +kernel,rfl,by decide +kernel,by decide +kernel⟩
theorem oGq:FnOk P w K mg base CX0 1 f fd ["_law_answer_here"] (aKq K (f2q 0)):=nTq λ ds G DQ h=>by obtain ⟨_,_,_,_,_⟩:=h;omega
theorem oNq {n:Nat} (B:Blt mg) (g_due:Got P w K mg base (n+1) "_law_due" ["_law_answer_here"] (aKq K (f2q n))) (F:Fun K "_law_due" "_law_due" jBq f fd):FnOk P w K mg base CX0 (n+2) f fd ["_law_answer_here"] (aKq K (f2q (n+1))):=by
  refine okD (k:=n+1) F sc_due (λ ds G DQ h=>?_) (λ cdv A outer s H E hr ds G DQ h=>?_)
  . obtain ⟨_,rfl,_⟩:=h;rfl
  obtain ⟨t,rfl,ha,hd,q⟩:=h
  refine ⟨_,(a4q (aSq (aEq (b2q (bEq hr)) (b3q aix (a1q 0) a2q (λ _ _=>rfl)) aBq (aCq _)) (a7q (aAq (aLq (a0q (aLq (a0q aBq (a0q (b3q aix (a1q 0) a2q (λ _ _=>rfl)) a3q))) (a0q a2q a3q))))) aMq)
      (a4q (aSq (aEq (b2q (bEq hr)) (b3q aix (a1q 0) a2q (λ _ _=>rfl)) aBq (aCq _)) (a7q (aAq (aLq (a0q (aLq (a0q aBq a3q)) (a0q a2q a3q))))) aMq)
      (a4q (e1q (a5q g_due hr (by omega) rfl (a0q (b3q aix (a1q 0) a2q (λ _ _=>rfl)) a3q)) (fUq (n:=2) rfl (aZq (aUq (k:=1) sc_due.nd rfl (Or.inl rfl)) (aZq (aUq (k:=2) sc_due.nd rfl (Or.inl rfl)) cSq))))
      (a4q (e1q (a5q g_due hr (by omega) rfl (a0q (b3q aix (a1q 0) a2q (λ _ _=>rfl)) a3q)) (fUq (n:=2) rfl (aZq (aUq (k:=3) sc_due.nd rfl (Or.inl rfl)) (aZq (aUq (k:=4) sc_due.nd rfl (Or.inl rfl)) cSq))))
      (a7q (aAq (aLq (a0q (aLq (a0q aBq (a0q (a1q 1) (a0q (a1q 3) a3q)))) (a0q (aFq aXq (aFq aXq a2q (a1q 2)) (a1q 4)) a3q))))))))),?_⟩
  cases t with
  | whole m=>exact ⟨λ _=>Dr.of q,λ c=>absurd c (by decide)⟩
  | way b=>exact ⟨λ c=>absurd c (by decide),λ _=>⟨λ _=>Dr.of q,λ c=>absurd c (by decide)⟩⟩
  | pair a b=>
    simp only [Tm.isAns,Bool.and_eq_true] at ha
    simp only [Tm.dp] at hd
    refine ⟨λ c=>absurd c (by decide),λ _=>⟨λ c=>absurd c (by decide),λ _=>⟨a,rfl,ha.1,by omega,b,rfl,ha.2,by omega,Dr.of ?_⟩⟩⟩
    have e:((Tm.pair a b).pall.length:Int)=1+(a.pall.length:Int)+(b.pall.length:Int):=by simp only [Tm.pall,List.length_cons,List.length_append];omega
    rw [e] at q;exact q
  | _=>exact absurd ha (by simp [Tm.isAns])
abbrev e9q:Stmt:=top 26
theorem sc_lrght:FnScope ["_law_answer_here", "_law_kind_here", "_law_due_here", "_law_many", "_law_told"] ["_law_answer_here", "_law_kind_here"] (a6q e9q):=⟨rfl,rfl,rfl,by decide +kernel,rfl,by decide +kernel,by decide +kernel⟩
theorem kCq (B:Blt mg) (g_due:Got P w K mg base 43 "_law_due" ["_law_answer_here"] (aKq K (f2q 42))) (g_alike:Got P w K mg base 46 "_law_alike" ["_law_found", "_law_due_here"] (aKq K (cLq 45))) (g_akind:Got P w K mg base 4 "answer_kind" ["answer"] (aKq K g6q)) (g_ofa:Got P w K mg base 2 "of_answer" ["kind"] (aKq K hEq)) (g_ksize:Got P w K mg base 3 "kind_size" ["kind"] (aKq K gJq)) (g_size:Got P w K mg base 4 "size" ["answer"] (aKq K jLq)) (F:Fun K "_law_right" "_law_right" e9q f fd):FnOk P w K mg base CX0 47 f fd ["_law_answer_here", "_law_kind_here"] (aKq K eWq):=by
  refine okD (k:=46) F sc_lrght (λ ds G DQ h=>?_) (λ cdv A outer s H E hr ds G DQ h=>?_)
  . obtain ⟨_,_,rfl,_⟩:=h;rfl
  obtain ⟨t,d,rfl,ht,hd,q⟩:=h
  refine ⟨_,(a4q (e1q (a5q g_due hr (by omega) rfl (a0q (a1q 0) a3q)) (fUq (n:=2) rfl (aZq (aUq (k:=2) sc_lrght.nd rfl (Or.inl rfl)) (aZq (aUq (k:=3) sc_lrght.nd rfl (Or.inl rfl)) cSq))))
      (a4q (aSq (AW.at (g0q (jDq (bRq (a5q g_alike hr (by omega) rfl (a0q (a5q g_akind hr (by omega) rfl (a0q (a1q 0) a3q)) (a0q (a1q 2) a3q))))) (dIq (aEq hRq (a5q g_ofa hr (by omega) rfl (a0q (a1q 2) a3q)) kNq (aCq _))))) (a7q (aAq kNq)) aMq)
      (a4q (aOq (k:=4) sc_lrght.nd rfl (Or.inl rfl) (a5q g_ofa hr (by omega) rfl (a0q (a1q 1) a3q)))
      (a4q (aSq (AW.at (g0q (jDq (bRq (aDq b0q rfl B.isinstance PyProof.Rows.boot_isinstance (a0q (a1q 4) (a0q (bLq rfl B.bool PyProof.Rows.boot_bool) a3q))))) (dIq (aEq (lIq (bEq hr)) (a1q 4) (fBq l3q (b3q aix (a1q 1) a2q (λ _ _=>rfl)) (aLq (a0q aBq (a0q aBq (a0q aBq a3q)))) (by with_unfolding_all rfl)) (aCq _))))) (a7q (aAq kNq)) aMq)
      (a7q (aAq (dYq (a5q g_alike hr (by omega) rfl (a0q (a5q g_ksize hr (by omega) rfl (a0q (a1q 2) a3q)) (a0q (a1q 3) a3q))) (gVq (a5q g_alike hr (by omega) rfl (a0q (a5q g_size hr (by omega) rfl (a0q (a1q 0) a3q)) (a0q (a1q 3) a3q))))))))))),?_⟩
  have h1:=ht.sz
  have h2:=ht.dp
  have h3:=t0q t
  have h4:=t.pall_len
  refine ⟨t,rfl,ht.an,by omega,t,rfl,ht.an,by omega,_,rfl,Kn.plain _,by omega,?_⟩
  refine ⟨nofun,λ _=>⟨t.kn.enc,rfl,Kn.isK _,?_⟩⟩
  rw [o3q]
  refine ⟨λ c=>absurd c (by decide),λ _=>⟨d,rfl,hd,?_⟩⟩
  obtain ⟨z,r,rfl,hr2⟩:=hd.head
  have e:(false ^^ inL (.str z) [.str "is", .str "some", .str "both"])=ofA (.tup (.str z::r)):=by rw [Bool.false_xor,pYq];rfl
  refine ⟨true,by decide,⟨nofun,λ _=>⟨rfl,rfl,?_⟩⟩⟩
  dsimp only
  rw [e]
  refine k8q rfl (by simp [D.dp]) ⟨nofun,λ _=>⟨t.kn,rfl,by rw [l7q];omega,?_⟩⟩
  rw [l7q]
  exact ⟨_,rfl,rfl,by simp [D.dp],⟨λ _=>⟨t,rfl,by omega,⟨_,rfl,rfl,by simp [D.dp],Dr.of q⟩⟩,nofun⟩⟩
abbrev dHq:Stmt:=top 27
theorem sc_law:FnScope ["_law_script", "_law_some", "_law_k", "_law_feed_here"] ["_law_script"] (a6q dHq):=⟨rfl,rfl,rfl,by decide +kernel,rfl,by decide +kernel,by decide +kernel⟩
theorem r3q (B:Blt mg) (g_feed:Got P w K mg base 1 "_law_feed" ["_law_script", "_law_k"] (aKq K fNq)) (g_take:Got P w K mg base 1 "_law_take" ["_law_feed_here", "_law_many"] (aKq K bHq)) (g_anya:Got P w K mg base 12 "_law_any_answer" ["_law_feed_here"] (aKq K iQq)) (g_kind:Got P w K mg base 11 "_law_kind" ["_law_feed_here", "_law_deep"] (aKq K (d8q 4))) (g_lrght:Got P w K mg base 47 "_law_right" ["_law_answer_here", "_law_kind_here"] (aKq K eWq)) (F:Fun K "law" "law" dHq f fd):FnOk P w K mg base CX0 48 f fd ["_law_script"] (aKq K l4q):=by
  refine okD (k:=47) F sc_law (λ ds G DQ h=>?_) (λ cdv A outer s H E hr ds G DQ h=>?_)
  . obtain ⟨_,rfl,_⟩:=h;rfl
  obtain ⟨ns,rfl,hl,q⟩:=h
  refine ⟨_,(a4q (aOq (k:=1) sc_law.nd rfl (Or.inl rfl) (f4q a3q))
      (a4q (j9q PassesOwn.never rfl (iZq rfl B.range (a0q a2q (a0q (aDq (jIq rfl) rfl B.max PyProof.Rows.boot_max (a0q a2q (a0q (aDq (fTq rfl) rfl B.min PyProof.Rows.boot_min (a0q a2q (a0q (aDq aTq rfl B.len PySem.boot_len (a0q (a1q 0) a3q)) a3q))) a3q))) a3q))) (aUq (k:=2) sc_law.nd rfl (Or.inl rfl)) (a4q (aOq (k:=3) sc_law.nd rfl (Or.inl rfl) (a5q g_feed hr (by omega) rfl (a0q (a1q 0) (a0q (a1q 2) a3q))))
      (a7q (eYq (kJq PySem.F.plainAttrs_list PySem.F.slot_list_append PySem.F.type_list_append cAq (a1q 1) (a0q (aLq (a0q (a5q g_anya hr (by omega) rfl (a0q (a1q 3) a3q)) (a0q (a5q g_kind hr (by omega) rfl (a0q (a1q 3) (a0q (a5q g_take hr (by omega) rfl (a0q (a1q 3) (a0q a2q a3q))) a3q))) a3q))) a3q))))))
      (a7q (aAq (eKq (aDq (fLq rfl) rfl B.all PyProof.Rows.boot_all (a0q (gFq rfl (CompOk.of (N':=["_law_answer_here", "_law_kind_here"]) (nt:=2) (cap:=[]) rfl (by kernel_rfl)) (fCq (bGq bTq (fXq bTq cKq) (b5q (k:=0) (by decide)) (bGq bTq cKq (b5q (k:=1) (by decide)) dRq))) (l6q (aFq aXq (a1q 1) (rSq (a1q 1) (gCq (jKq cPq a2q))))) (λ _ _ _ _=>(fUq (n:=2) rfl (aZq (aUq (k:=0) (show List.Nodup (["_law_answer_here", "_law_kind_here"]:List Str) by decide +kernel) rfl (Or.inl rfl)) (aZq (aUq (k:=1) (show List.Nodup (["_law_answer_here", "_law_kind_here"]:List Str) by decide +kernel) rfl (Or.inl rfl)) cSq)))) (λ _ _ _ _=>(a5q g_lrght hr (by omega) rfl (a0q (a1q 0) (a0q (a1q 1) a3q))))) a3q))))))),?_⟩
  intro p0 hp0
  refine n5q (by decide) (by dsimp only;split<;>split<;>omega) ?_
  refine ⟨λ i ρ G'=>∃ (xs:List (Tm × D)) (o2 o3:Option D),ρ=[some (.frl (ns.map D.int)),some (.ref p0),o2,o3]/\G' p0=some (.lst (xs.map λ z=>D.tup [z.1.enc,z.2]))/\xs.length=i/\∀ z∈xs,AnsB z.1 200 40/\IsK z.2,⟨[],_,_,rfl,a9q,rfl,by simp⟩,λ _ _ _ _ _=>trivial,?_,?_⟩
  . rintro i d ρ G' hgi ⟨xs,o2,o3,rfl,hp,hxl,hx⟩
    obtain ⟨hi,rfl⟩:=dLq hgi
    have hi9:i < 100:=by
      refine Nat.lt_of_lt_of_le hi ?_
      dsimp only;split<;>split<;>omega
    refine ⟨ns,rfl,hl,by omega,by omega,λ a xa ya ha=>?_⟩
    have np:p0≠a:=by rintro rfl;rw [ha] at hp;cases hp
    have hp1:up G' a (fed xa ya) p0=some (.lst (xs.map λ z=>D.tup [z.1.enc,z.2])):=by rw [aWq np];exact hp
    refine ⟨aPq hp1 trivial,a,rfl,.up,λ t G1 u1 b=>⟨u1.fd,by decide,by decide,λ k G2 u2 k0 k1=>⟨a,k,rfl,u2.fd,k0,k1,by omega,λ d G3 ⟨G0,x1,x2⟩ i3 e3=>?_⟩⟩⟩
    have hp3:=x2 _ _ ((u1.trans (u2.trans x1)).kp np hp1)
    refine bBq hp3 ⟨bWq (by rw [List.length_map];omega),Wk.of ⟨xs++[(t,d)],_,_,rfl,?_,by simp [hxl],λ z hz=>?_⟩⟩
    . rw [a9q,List.map_append];rfl
    . rcases List.mem_append.mp hz with hz | hz
      . exact hx z hz
      . simp at hz;subst hz;exact ⟨b,i3⟩
  . rintro ρ G' ⟨xs,o2,o3,rfl,hp,hxl,hx⟩
    have hx9:xs.length<=100:=by
      rw [hxl]
      refine Nat.le_trans (Nat.le_of_eq b9q) ?_
      dsimp only;split<;>split<;>omega
    refine ⟨rfl,aPq hp λ p1 hp1=>?_⟩
    have n1:p0≠p1:=by rintro rfl;rw [hp] at hp1;cases hp1
    refine bBq (by rw [aWq n1];exact hp) (bBq a9q ⟨nJq (by simp only [List.length_map,List.length_reverse];omega),λ p2 hp2=>mLq a9q ?_⟩)
    refine h4q (xs++xs.reverse) (λ z=>D.tup [z.1.enc,z.2]) (λ _=>.bl true) ?_ ?_ ?_ ?_ ?_
    . simp
    . exact bWq (by simp only [List.length_append,List.length_reverse];omega)
    . exact a9q
    . intro z hz R hR
      obtain ⟨b1,b2⟩:=hx z (by rcases List.mem_append.mp hz with h | h;exact h;exact List.mem_reverse.mp h)
      exact ⟨z.1,z.2,rfl,b1,b2,hR⟩
    . intro p hp'
      refine aPq a9q ⟨(xs++xs.reverse).map λ _=>true,?_,G',?_,?_⟩
      . rw [show ((xs++xs.reverse).map λ _=>D.bl true)=((xs++xs.reverse).map λ _=>true).map D.bl from (List.map_map ..).symm];exact bXq _
      . exact λ b o e=>Sub.new (Sub.refl _) hp' b o (Sub.new (Sub.refl _) hp2 b o (Sub.new (Sub.refl _) hp1 b o e))
      . rw [show ((xs++xs.reverse).map λ _=>true).all id=true by simp];exact Dr.of (q _)
end
end KB
namespace KB
open PySem L2 L3
set_option maxHeartbeats 4000000
theorem q7q {l:PySem.W.OpenLaw} {w:World} {K:PySem.W.Frag} {h:Heap} {mg:Str->Option Value} {fa  : Addr} (X:K.In h) (G:h.Ns mainGlobals mg) (hfa:mg "law" = some (.ref fa))
    (d0:DT K "walked" cZq) (d1:DT K "folded" cTq) (d2:DT K "size" g8q) (d3:DT K "pairs_and_leaves" iFq) (d4:DT K "inner_of_pair" i8q) (d5:DT K "has_answer_word" i1q) (d6:DT K "inner_kinds" g5q) (d7:DT K "of_answer" iAq) (d8:DT K "kind_size" eHq) (d9:DT K "answer_kind" e7q) (d10:DT K "kind_made" e8q) (d11:DT K "_law_feed" g1q) (d12:DT K "_law_take" gAq) (d13:DT K "_law_whole" eZq) (d14:DT K "_law_wild" gEq) (d15:DT K "_law_number" cMq) (d16:DT K "_law_answer_kind" cRq) (d17:DT K "_law_kind" g9q) (d18:DT K "_law_alike" eBq) (d19:DT K "_law_answer" fZq) (d20:DT K "_law_any_answer" g2q) (d21:DT K "_law_due" jBq) (d22:DT K "_law_right" e9q) (d23:DT K "law" dHq) (z0:PySem.W.nsIn K mainGlobals "len" = some none) (z1:PySem.W.nsIn K mainGlobals "isinstance" = some none) (z2:PySem.W.nsIn K mainGlobals "range" = some none) (z3:PySem.W.nsIn K mainGlobals "int" = some none) (z4:PySem.W.nsIn K mainGlobals "bool" = some none) (z5:PySem.W.nsIn K mainGlobals "str" = some none) (z6:PySem.W.nsIn K mainGlobals "tuple" = some none) (z7:PySem.W.nsIn K mainGlobals "list" = some none) (z8:PySem.W.nsIn K mainGlobals "zip" = some none) (z9:PySem.W.nsIn K mainGlobals "sorted" = some none) (z10:PySem.W.nsIn K mainGlobals "all" = some none) (z11:PySem.W.nsIn K mainGlobals "reversed" = some none) (z12:PySem.W.nsIn K mainGlobals "min" = some none) (z13:PySem.W.nsIn K mainGlobals "max" = some none)
    : ∃ fd:FuncData,(∀ (s:Shared) (v:Value),BindsTo s fd ⟨[v],[]⟩ [("_law_script", v)])/\∀ base:Heap,K.In base->base.Ns mainGlobals mg->FnOk l.prog w K mg base CX0 48 fa fd ["_law_script"] (h6q K):=by
  obtain ⟨f0,_,a_walked,F_walked⟩:=d0.ok
  have b_walked:=F_walked.binds (ps:=cHq) λ _ _ _ _ _ _ us hl=>match us,hl with | [_,_],_=>rfl
  have m_walked:=PySem.W.mg_of X G a_walked
  have kp_walked:=F_walked.kp
  obtain ⟨f1,_,a_folded,F_folded⟩:=d1.ok
  have b_folded:=F_folded.binds (ps:=cDq) λ _ _ _ _ _ _ us hl=>match us,hl with | [_,_,_],_=>rfl
  have m_folded:=PySem.W.mg_of X G a_folded
  have kp_folded:=F_folded.kp
  obtain ⟨f2,_,a_size,F_size⟩:=d2.ok
  have b_size:=F_size.binds (ps:=dWq) λ _ _ _ _ _ _ us hl=>match us,hl with | [_],_=>rfl
  have m_size:=PySem.W.mg_of X G a_size
  have kp_size:=F_size.kp
  obtain ⟨f3,_,a_pal,F_pal⟩:=d3.ok
  have b_pal:=F_pal.binds (ps:=fKq) λ _ _ _ _ _ _ us hl=>match us,hl with | [_],_=>rfl
  have m_pal:=PySem.W.mg_of X G a_pal
  have kp_pal:=F_pal.kp
  obtain ⟨f4,_,a_iop,F_iop⟩:=d4.ok
  have b_iop:=F_iop.binds (ps:=fPq) λ _ _ _ _ _ _ us hl=>match us,hl with | [_],_=>rfl
  have m_iop:=PySem.W.mg_of X G a_iop
  have kp_iop:=F_iop.kp
  obtain ⟨f5,_,a_haw,F_haw⟩:=d5.ok
  have b_haw:=F_haw.binds (ps:=fOq) λ _ _ _ _ _ _ us hl=>match us,hl with | [_],_=>rfl
  have m_haw:=PySem.W.mg_of X G a_haw
  have kp_haw:=F_haw.kp
  obtain ⟨f6,_,a_innk,F_innk⟩:=d6.ok
  have b_innk:=F_innk.binds (ps:=dUq) λ _ _ _ _ _ _ us hl=>match us,hl with | [_],_=>rfl
  have m_innk:=PySem.W.mg_of X G a_innk
  have kp_innk:=F_innk.kp
  obtain ⟨f7,_,a_ofa,F_ofa⟩:=d7.ok
  have b_ofa:=F_ofa.binds (ps:=fEq) λ _ _ _ _ _ _ us hl=>match us,hl with | [_],_=>rfl
  have m_ofa:=PySem.W.mg_of X G a_ofa
  have kp_ofa:=F_ofa.kp
  obtain ⟨f8,_,a_ksize,F_ksize⟩:=d8.ok
  have b_ksize:=F_ksize.binds (ps:=d5q) λ _ _ _ _ _ _ us hl=>match us,hl with | [_],_=>rfl
  have m_ksize:=PySem.W.mg_of X G a_ksize
  have kp_ksize:=F_ksize.kp
  obtain ⟨f9,_,a_akind,F_akind⟩:=d9.ok
  have b_akind:=F_akind.binds (ps:=d7q) λ _ _ _ _ _ _ us hl=>match us,hl with | [_],_=>rfl
  have m_akind:=PySem.W.mg_of X G a_akind
  have kp_akind:=F_akind.kp
  obtain ⟨f10,_,a_kmade,F_kmade⟩:=d10.ok
  have b_kmade:=F_kmade.binds (ps:=d2q) λ _ _ _ _ _ _ us hl=>match us,hl with | [_,_],_=>rfl
  have m_kmade:=PySem.W.mg_of X G a_kmade
  have kp_kmade:=F_kmade.kp
  obtain ⟨f11,_,a_feed,F_feed⟩:=d11.ok
  have b_feed:=F_feed.binds (ps:=dTq) λ _ _ _ _ _ _ us hl=>match us,hl with | [_,_],_=>rfl
  have m_feed:=PySem.W.mg_of X G a_feed
  have kp_feed:=F_feed.kp
  obtain ⟨f12,_,a_take,F_take⟩:=d12.ok
  have b_take:=F_take.binds (ps:=dNq) λ _ _ _ _ _ _ us hl=>match us,hl with | [_,_],_=>rfl
  have m_take:=PySem.W.mg_of X G a_take
  have kp_take:=F_take.kp
  obtain ⟨f13,_,a_whole,F_whole⟩:=d13.ok
  have b_whole:=F_whole.binds (ps:=d1q) λ _ _ _ _ _ _ us hl=>match us,hl with | [_],_=>rfl
  have m_whole:=PySem.W.mg_of X G a_whole
  have kp_whole:=F_whole.kp
  obtain ⟨f14,_,a_wild,F_wild⟩:=d14.ok
  have b_wild:=F_wild.binds (ps:=dZq) λ _ _ _ _ _ _ us hl=>match us,hl with | [_,_,_,_],_=>rfl
  have m_wild:=PySem.W.mg_of X G a_wild
  have kp_wild:=F_wild.kp
  obtain ⟨f15,_,a_number,F_number⟩:=d15.ok
  have b_number:=F_number.binds (ps:=cBq) λ _ _ _ _ _ _ us hl=>match us,hl with | [_],_=>rfl
  have m_number:=PySem.W.mg_of X G a_number
  have kp_number:=F_number.kp
  obtain ⟨f16,_,a_lakind,F_lakind⟩:=d16.ok
  have b_lakind:=F_lakind.binds (ps:=cGq) λ _ _ _ _ _ _ us hl=>match us,hl with | [_,_],_=>rfl
  have m_lakind:=PySem.W.mg_of X G a_lakind
  have kp_lakind:=F_lakind.kp
  obtain ⟨f17,_,a_kind,F_kind⟩:=d17.ok
  have b_kind:=F_kind.binds (ps:=dPq) λ _ _ _ _ _ _ us hl=>match us,hl with | [_,_],_=>rfl
  have m_kind:=PySem.W.mg_of X G a_kind
  have kp_kind:=F_kind.kp
  obtain ⟨f18,_,a_alike,F_alike⟩:=d18.ok
  have b_alike:=F_alike.binds (ps:=cWq) λ _ _ _ _ _ _ us hl=>match us,hl with | [_,_],_=>rfl
  have m_alike:=PySem.W.mg_of X G a_alike
  have kp_alike:=F_alike.kp
  obtain ⟨f19,_,a_answ,F_answ⟩:=d19.ok
  have b_answ:=F_answ.binds (ps:=dSq) λ _ _ _ _ _ _ us hl=>match us,hl with | [_,_],_=>rfl
  have m_answ:=PySem.W.mg_of X G a_answ
  have kp_answ:=F_answ.kp
  obtain ⟨f20,_,a_anya,F_anya⟩:=d20.ok
  have b_anya:=F_anya.binds (ps:=dOq) λ _ _ _ _ _ _ us hl=>match us,hl with | [_],_=>rfl
  have m_anya:=PySem.W.mg_of X G a_anya
  have kp_anya:=F_anya.kp
  obtain ⟨f21,_,a_due,F_due⟩:=d21.ok
  have b_due:=F_due.binds (ps:=fIq) λ _ _ _ _ _ _ us hl=>match us,hl with | [_],_=>rfl
  have m_due:=PySem.W.mg_of X G a_due
  have kp_due:=F_due.kp
  obtain ⟨f22,_,a_lrght,F_lrght⟩:=d22.ok
  have b_lrght:=F_lrght.binds (ps:=d3q) λ _ _ _ _ _ _ us hl=>match us,hl with | [_,_],_=>rfl
  have m_lrght:=PySem.W.mg_of X G a_lrght
  have kp_lrght:=F_lrght.kp
  have B:Blt mg:=⟨PySem.W.mg_none_of X G z0,PySem.W.mg_none_of X G z1,PySem.W.mg_none_of X G z2,PySem.W.mg_none_of X G z3,PySem.W.mg_none_of X G z4,PySem.W.mg_none_of X G z5,PySem.W.mg_none_of X G z6,PySem.W.mg_none_of X G z7,PySem.W.mg_none_of X G z8,PySem.W.mg_none_of X G z9,PySem.W.mg_none_of X G z10,PySem.W.mg_none_of X G z11,PySem.W.mg_none_of X G z12,PySem.W.mg_none_of X G z13⟩
  obtain ⟨f23,_,a_law,F_law⟩:=d23.ok
  cases hfa.symm.trans (PySem.W.mg_of X G a_law)
  obtain ⟨_,_,kV,dc,pm,an,cd,ct,_,rfl,l9,c9⟩:=F_law.ex
  refine ⟨PySem.W.fnOf "law" "law" (bDq dHq) (b1q dHq) (a6q dHq) .none kV dc pm an cd ct,λ s v=>.of_eq rfl,λ base _ _ =>?_⟩
  have g_walked:Got l.prog w K mg base 2 "walked" cHq (aKq K (c4q l.prog w K mg base 1)):=⟨_,_,iKq B F_walked,m_walked,kp_walked,b_walked⟩
  have g_iop:Got l.prog w K mg base 1 "inner_of_pair" fPq (aKq K (ePq Tm.enc Tm.pinn)):=⟨_,_,qRq F_iop,m_iop,kp_iop,b_iop⟩
  have g_pal:Got l.prog w K mg base 3 "pairs_and_leaves" fKq (aKq K m8q):=⟨_,_,rGq g_iop g_walked F_pal,m_pal,kp_pal,b_pal⟩
  have g_size:Got l.prog w K mg base 4 "size" dWq (aKq K jLq):=⟨_,_,mJq B g_pal F_size,m_size,kp_size,b_size⟩
  have g_kmade:Got l.prog w K mg base 1 "kind_made" d2q (aKq K eCq):=⟨_,_,kQq B F_kmade,m_kmade,kp_kmade,b_kmade⟩
  have g_folded:Got l.prog w K mg base 3 "folded" cDq (aKq K (f0q l.prog w K mg base 1)):=⟨_,_,i7q B g_walked F_folded,m_folded,kp_folded,b_folded⟩
  have g_akind:Got l.prog w K mg base 4 "answer_kind" d7q (aKq K g6q):=⟨_,_,kPq B g_iop g_kmade g_folded F_akind,m_akind,kp_akind,b_akind⟩
  have g_haw:Got l.prog w K mg base 1 "has_answer_word" fOq (aKq K hEq):=⟨_,_,pKq B F_haw,m_haw,kp_haw,b_haw⟩
  have g_ofa:Got l.prog w K mg base 2 "of_answer" fEq (aKq K hEq):=⟨_,_,qHq B g_haw F_ofa,m_ofa,kp_ofa,b_ofa⟩
  have g_innk:Got l.prog w K mg base 1 "inner_kinds" dUq (aKq K (ePq Kn.enc Kn.inn)):=⟨_,_,nIq B F_innk,m_innk,kp_innk,b_innk⟩
  have g_ksize:Got l.prog w K mg base 3 "kind_size" d5q (aKq K gJq):=⟨_,_,k5q B g_innk g_walked F_ksize,m_ksize,kp_ksize,b_ksize⟩
  have g_feed:Got l.prog w K mg base 1 "_law_feed" dTq (aKq K fNq):=⟨_,_,n3q B F_feed,m_feed,kp_feed,b_feed⟩
  have g_take:Got l.prog w K mg base 1 "_law_take" dNq (aKq K bHq):=⟨_,_,mGq F_take,m_take,kp_take,b_take⟩
  have g_whole:Got l.prog w K mg base 2 "_law_whole" d1q (aKq K bMq):=⟨_,_,k7q g_take F_whole,m_whole,kp_whole,b_whole⟩
  have g_wild:∀ n:Nat,Got l.prog w K mg base (n+2) "_law_wild" dZq (aKq K (c2q n)):=λ n=>by
    induction n with
    | zero=>exact ⟨f14,_,mWq,m_wild,kp_wild,b_wild⟩
    | succ n ih=>exact ⟨f14,_,nOq g_take g_whole ih F_wild,m_wild,kp_wild,b_wild⟩
  have g_number:Got l.prog w K mg base 2 "_law_number" cBq (aKq K eSq):=⟨_,_,iDq B g_take F_number,m_number,kp_number,b_number⟩
  have g_lakind:∀ n:Nat,Got l.prog w K mg base (n+2) "_law_answer_kind" cGq (aKq K (c6q n)):=λ n=>by
    induction n with
    | zero=>exact ⟨f16,_,iPq,m_lakind,kp_lakind,b_lakind⟩
    | succ n ih=>exact ⟨f16,_,jEq B g_take g_number ih F_lakind,m_lakind,kp_lakind,b_lakind⟩
  have g_kind:∀ n:Nat,Got l.prog w K mg base (n+7) "_law_kind" dPq (aKq K (d8q n)):=λ n=>by
    induction n with
    | zero=>exact ⟨f17,_,m4q,m_kind,kp_kind,b_kind⟩
    | succ n ih=>exact ⟨f17,_,m1q B g_take (g_lakind 3) ih F_kind,m_kind,kp_kind,b_kind⟩
  have g_alike:∀ n:Nat,Got l.prog w K mg base (n+1) "_law_alike" cWq (aKq K (cLq n)):=λ n=>by
    induction n with
    | zero=>exact ⟨f18,_,kDq,m_alike,kp_alike,b_alike⟩
    | succ n ih=>exact ⟨f18,_,jQq B ih F_alike,m_alike,kp_alike,b_alike⟩
  have g_answ:∀ n:Nat,Got l.prog w K mg base (n+7) "_law_answer" dSq (aKq K (d9q n)):=λ n=>by
    induction n with
    | zero=>exact ⟨f19,_,m7q,m_answ,kp_answ,b_answ⟩
    | succ n ih=>exact ⟨f19,_,mNq B g_take g_whole (g_wild 4) ih F_answ,m_answ,kp_answ,b_answ⟩
  have g_anya:Got l.prog w K mg base 12 "_law_any_answer" dOq (aKq K iQq):=⟨_,_,lUq B g_take g_whole (g_answ 4) F_anya,m_anya,kp_anya,b_anya⟩
  have g_due:∀ n:Nat,Got l.prog w K mg base (n+1) "_law_due" fIq (aKq K (f2q n)):=λ n=>by
    induction n with
    | zero=>exact ⟨f21,_,oGq,m_due,kp_due,b_due⟩
    | succ n ih=>exact ⟨f21,_,oNq B ih F_due,m_due,kp_due,b_due⟩
  have g_lrght:Got l.prog w K mg base 47 "_law_right" d3q (aKq K eWq):=⟨_,_,kCq B (g_due 42) (g_alike 45) g_akind g_ofa g_ksize g_size F_lrght,m_lrght,kp_lrght,b_lrght⟩
  exact r3q B g_feed g_take g_anya (g_kind 4) g_lrght F_law
theorem walk {l:PySem.W.OpenLaw} {q:Program} {loose:List Str} {XP:(Str->Option Value)->Heap->Prop} {YP:World->Heap->Prop} {d:DefRec} {K:Params->PySem.W.Frag} (hn:l.most=some 63) (hdf:d.params.defaults=[])
    (hY:∀ (w:World) (h:Heap),YP w h->(K w.params).In h)
    (F:∀ (w:World) (mg:Str->Option Value) (fa:Addr) (h:Heap),(K w.params).In h->h.Ns mainGlobals mg->mg d.name=some (.ref fa) →
      ∃ fd:FuncData,(∀ (s:Shared) (u:Value),BindsTo s fd ⟨[u],[]⟩ [("_law_script", u)])/\∀ base:Heap,(K w.params).In base->base.Ns mainGlobals mg->FnOk l.prog w (K w.params) mg base CX0 48 fa fd ["_law_script"] (h6q (K w.params))) :
    PySem.W.WalkO q loose XP YP l.row.toRowW d [] (λ f vs=>PySem.call f vs):=
  L2.lYq (n:=63) (k:=48) (x:="_law_script") (CX:=λ _=>CX0) (sp:=λ w=>h6q (K w.params)) hn (by decide) hdf ⟨rfl,by decide,by decide⟩ hY F (λ _ _ a ns hl o hS=>o4q hl o hS) λ _ _ _ _ _ z=>z
end KB
def PySem.W.Fast.tw9945945968960920289:=0
def PySem.W.Fast.tw5789727435618399021:=0
def PySem.W.Fast.tw18255122232947802626:=0
def PySem.W.Fast.tw1038401747803935644:=0
def PySem.W.Fast.tw17841432768988975394:=0
def PySem.W.Fast.tw362588918698448791:=0
def PySem.W.Fast.tw218166324823847416:=0
def PySem.W.Fast.tw7317717565514285001:=0
def PySem.W.Fast.tw16235487118218835255:=0
def PySem.W.Fast.tw11613062525186233700:=0
def PySem.W.Fast.tw8078859715606166543:=0
def PySem.W.Fast.tw14823461580191777254:=0
def PySem.W.Fast.tw12997391054923792911:=0
def PySem.W.Fast.tw12253853781779786624:=0
def PySem.W.Fast.tw18381632674463684740:=0
def PySem.W.Fast.tw13231625581269823447:=0
def PySem.W.Fast.tw2826155519842808984:=0
def PySem.W.Fast.tw16682657545690648753:=0
def PySem.W.Fast.tw12672720697204299927:=0
def PySem.W.Fast.tw9511269751013217469:=0
def PySem.W.Fast.tw10763093802205821251:=0
def PySem.W.Fast.tw13291672372716693707:=0
def PySem.W.Fast.tw6521252295809488058:=0
def PySem.W.Fast.tw6451816241804218456:=0
def PySem.W.Fast.tw11956079320863337570:=0
def PySem.W.Fast.tw12043319093334345470:=0
def PySem.W.Fast.tw18263819778000639864:=0
def PySem.W.Fast.tw17545492952315716599:=0
def PySem.W.Fast.tw16777037182471177258:=0
def PySem.W.Fast.tw5959257029635157649:=0
def PySem.W.Fast.tw1214993379952266170:=0
def PySem.W.Fast.tw14844607600046527252:=0
def PySem.W.Fast.tw917492186964078508:=0
def PySem.W.Fast.tw18092236260639745657:=0
def PySem.W.Fast.tw3130602843154711590:=0
def PySem.W.Fast.tw9608637621130549397:=0
def PySem.W.Fast.tw17294509196784853442:=0
def PySem.W.Fast.tw4513338121546226953:=0
def PySem.W.Fast.tw15641551837756510309:=0
def PySem.W.Fast.tw8413654801820350787:=0
open PySem PySem.W PyProof.Rows
set_option maxRecDepth 100000 in
set_option maxHeartbeats 0 in
theorem PySem.Challenge.cw_kindbags_k29_kinds_of_answers_holds : PySem.Challenge.rw_kindbags_k29_kinds_of_answers.Holds := by
  w_on; o_law; k_head; (case hw => w_witness2)
  k_fill
  refine KB.walk (l := PySem.Challenge.rw_kindbags_k29_kinds_of_answers) rfl rfl (fun w h Y => PySem.W.kIn_of Y) ?F
  case F =>
    intro w mg fa h KX G hmg
    refine' KB.q7q KX G hmg ?_ ?_ ?_ ?_ ?_ ?_ ?_ ?_ ?_ ?_ ?_ ?_ ?_ ?_ ?_ ?_ ?_ ?_ ?_ ?_ ?_ ?_ ?_ ?_ ?_ ?_ ?_ ?_ ?_ ?_ ?_ ?_ ?_ ?_ ?_ ?_ ?_ ?_
    all_goals first | k_is | (refine' L3.DT.mk ?_ ?_ ?_ ?_ <;> try k_is) | (refine' L3.DM.mk ?_ ?_ ?_ ?_ ?_ <;> try k_is) | (refine' L3.DTc.mk ?_ ?_ ?_ ?_ <;> try k_is) | (refine' L3.DMc.mk ?_ ?_ ?_ ?_ ?_ <;> try k_is) | skip
